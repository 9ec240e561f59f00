/- What this claim leans on. -/
import Derived.Test.YtipmllfnpldbdaaGreatDoorYPMake
set_option linter.unusedVariables false
set_option linter.unusedSimpArgs false
namespace Go.Proofs.YtipmllfnpldbdaaGreatDoor
open Go Go.RowKit Go.Proofs.Tryz
set_option maxHeartbeats 16000000
variable {z:Int}{M:List (List Rat)}{gc m:Nat}{w:World}{Q:zf}
def uW (w:World):Prop:=zv w/\uD w
theorem uW.on {w':World}(h:uW w)(hb:Below w.heap.size w w'):uW w':=⟨h.1.on hb,h.2.below hb⟩
set_option maxRecDepth 100000
theorem nr {r c:Int}{b:Bool}(h:uK r c=b)(w:World):Calls prog 81 #[.int .i64 r,.int .i64 c] w (λe w'=>e=.returned (.bool b)/\w=w'):=h▸qF r c w
theorem nk (fn:Fn)(first a:Array Value)(w:World):(Instr.makeFunc fn first a).run prog w=.ok (.func fn first a) w:=rfl
section
variable {A:zf}{n c m K:Nat}{MM:List (List Rat)}{w:World}
end
def vX (M:List (List Rat))(z:Int):Bool:=M.any λL=> !decide (((L.length:Nat):Int)=z)
theorem td {α:Type}(p:α->Bool)(xs:List α)(d:α)(k:Nat)(h:k<xs.length):(xs.take (k+1)).any p=((xs.take k).any p||p (xs.getD k d)):=by
 rw [QJ h,List.any_append,qQ,qZ h];simp
theorem oT {α:Type}(p:α->Bool)(xs:List α)(d:α)(k:Nat)(h:k<xs.length)(hp:p (xs.getD k d)=true):xs.any p=true:=by
 refine List.any_eq_true.2 ⟨xs.getD k d,?_,hp⟩;rw [qQ,qZ h];exact xM h
theorem tv {n:Nat}(h:wW M n m):vX M (m:Int)=false:=by
 unfold vX;refine List.any_eq_false.2 λL hL=>?_;have:=h.cols L hL;simp;omega
theorem ZZ {q n:Nat}(h:wf (yf zu) w Q n M)(hk:zi w gc 3 #[.int .i64 z])(hn:n<=1048576):
  Calls prog 104 #[.slice Q n q,.func (.func 80) #[] #[.pointer (some ⟨gc,0,none⟩)]] w (λe w'=>∃k:Int,e=.returned (.int .i64 k)/\decide (k>=0)=vX M z/\Below w.heap.size w w'):=by
 have hl:=h.len;have HL:=zd hl;have HR:=zd h;have HK:=zn w (λw' hb=>zj hb hk);have hEn:=o0;have hB:=qY w.heap.size w;have HS:zg (∀k,k<n->(M.take (k+1)).any (λL:List Rat=> !decide (((L.length:Nat):Int)=z))=((M.take k).any (λL:List Rat=> !decide (((L.length:Nat):Int)=z))||(λL:List Rat=> !decide (((L.length:Nat):Int)=z)) (M.getD k []))):=λk hk=>td (λL:List Rat=> !decide (((L.length:Nat):Int)=z)) M [] k za;have HA:zg (∀k,k<n->(λL:List Rat=> !decide (((L.length:Nat):Int)=z)) (M.getD k [])=true->M.any (λL:List Rat=> !decide (((L.length:Nat):Int)=z))=true):=λk hk=>oT (λL:List Rat=> !decide (((L.length:Nat):Int)=z)) M [] k za;have i0:(0:Int)<=(n:Int):=za;clear h hk hl;unfold vX;go_enter func104,ntmps104;go_wp2_with fail
 go_loopg [8] (n+1) (λg ix wr=>∃(k:Nat),k<=n/\n<g+k/\ix=.int .i64 k/\zg ((M.take k).any (λL:List Rat=> !decide (((L.length:Nat):Int)=z))=false)/\Below w.heap.size w wr)
 case atStart=>exact⟨0,xQ _,za,rfl,rfl,hB⟩
 case round=>
  clear hB;obtain⟨k,hkn,hg,rfl,t,hB⟩:=hrel;by_cases hlt:k<n
  ·have u:decide ((k:Int)<(n:Int))=true:=decide_eq_true za;have i1:(0:Int)<=(k:Int):=za;have i2:(k:Int)<(n:Int):=za;have m:=zd (HS.o k hlt);have j:=zd (HA.o k hlt);obtain⟨ad,B,d,rfl,-,hc,-⟩:=HR.o.get (vK y6) hB hlt rfl;obtain⟨L,hL⟩:∃L,M.getD k []=L:=⟨_,rfl⟩;rw [hL] at hc;rw [hL] at m j;obtain⟨b,i⟩:∃b,(!decide (((L.length:Nat):Int)=z))=b:=⟨_,rfl⟩;rw [i] at m j;have HC:∀W,Below w.heap.size w W->zg (Calls prog 80 #[.slice B L.length d,.pointer (some ⟨gc,0,none⟩)] W (λe w'=>e=.returned (.bool b)/\Below W.heap.size W w')):=λW hW=>by
    have q:=Vo (V:=B) (cv:=d) (k:=L.length) (HK.o W hW);rw [i] at q;exact q
   have HB:=zd hB;clear hB hL;cases b
   ·go_wp2_with fail;refine(HC _ HB.o).o.mono ?_;rintro e w3 ⟨rfl,hb⟩;have HZ:zg ((M.take (k+1)).any (λL:List Rat=> !decide (((L.length:Nat):Int)=z))=false):=by show _=_;rw [m.o,t.o];rfl
    have a:=zd (ze HB.o hb);clear hb i hc HC;go_wp2;go_roundg (n - k)
    case measure=>omega
    case rel=>exact⟨k+1,za,za,by go_num,HZ,a.o⟩
   ·go_wp2_with fail;refine(HC _ HB.o).o.mono ?_;rintro e w3 ⟨rfl,hb⟩;have HZ:=zd (j.o (by first|rfl|trivial));have a:=zd (ze HB.o hb);clear hb i hc HC;go_wp2;go_ret;exact⟨(k:Int),rfl,by rw [HZ.o];exact decide_eq_true za,a.o⟩
  ·have u:decide ((k:Int)<(n:Int))=false:=decide_eq_false za;have HF:zg (M.any (λL:List Rat=> !decide (((L.length:Nat):Int)=z))=false):=by
    have h1:=t.o;rw [qV (by have:=HL.o;omega)] at h1;exact h1
   have a:=zd hB;clear hB;go_wp2;go_ret;exact⟨-1,rfl,by rw [HF.o];rfl,a.o⟩
theorem ZD {q n:Nat}(h:wf (yf zu) w Q n M)(hk:zi w gc 3 #[.int .i64 z])(hn:n<=1048576):
  Calls prog 82 #[.slice Q n q,.func (.func 80) #[] #[.pointer (some ⟨gc,0,none⟩)]] w (λe w'=>e=.returned (.bool (vX M z))/\Below w.heap.size w w'):=by
 have H:=zd (ZZ (q:=q) h hk hn);obtain⟨b,hb⟩:∃b,vX M z=b:=⟨_,rfl⟩;rw [hb] at H⊢;clear h hk hb;go_enter func82,ntmps82;go_wp2_with fail;refine H.o.mono ?_;rintro e w1 ⟨k,rfl,hk,hb⟩;have hk2:decide (0<=k)=b:=hk;have HB:=zd hb;clear hb;go_wp2;go_ret;exact⟨rfl,HB.o⟩
section
variable {Q:zf}{n q:Nat}{M:List (List Rat)}{z:Int}{w:World}
theorem nm {K:Nat}(hT:zv w)(h:wf (yf zu) w Q n M)(hd:wW M n m)(hn:n<=64)(hm:m<=64)(z:wO K M)(hK:K+2<=67108864:=by omega):Calls prog 48 #[.int .i64 (m:Int),.slice Q n q] w (eZ w n m M):=by
 have hmf:=nk;obtain⟨t,a,u,y,bz⟩:=yc w 3 28 30 #[.int .i64 (m:Int)] #[.slice Q n q] #[.slice none 0 0,.int .i64 0];have H:=λW=>zd (nr (sa hn hm) W);have hc:=ZD (q:=q) (h.below (vK y6) t) a za;rw [tv hd] at hc;have HC:=zd hc;have HM:zg (∀W,Below w.heap.size w W->zi W (w.heap.size+1) 28 #[.slice Q n q]->Calls prog 83 #[.int .i64 (n:Int),.int .i64 (m:Int),.func (.func 84) #[] #[.pointer (some ⟨w.heap.size+1,0,none⟩)]] W (lT W n m M)):=λW hW hk=>by
  have hh:=h.below (vK y6) hW;have q9:=tY (K:=K) (vF M) 84 #[.pointer (some ⟨w.heap.size+1,0,none⟩)] n m W (hT.on hW) ⟨o5,λr c hr hc w' hb=>li (hh.below (vK y6) hb) hd (zj hb hk) hr hc⟩ (λr c hr hc=>z.at_ hd hr hc) hn hm hK;rw [hd.eq] at q9;exact q9
 have HK:=zd y;have HS:=zd u;have HB:=zd t;have y0:=a.c1;have y1:=u.c1;have hl0:=a.lt;have x:=zd a;clear t a u y bz hT h z hd hc;go_enter func48,ntmps48;go_wp2_with fail;refine(H _).o.mono ?_;rintro e w1 ⟨rfl,rfl⟩;go_wp2_with fail;refine HC.o.mono ?_;rintro e w1 ⟨rfl,hb⟩;have g:=zd (ze HB.o hb);have i:=zd (zj hb HK.o);have j:=zd (zj hb HS.o);have y0:=(zj hb x.o).c1;have y1:=j.o.c1;clear hb HB HK HS x HC H;go_wp2_with fail;refine(HM.o _ g.o j.o).mono ?_;clear y0 y1;rintro e w3 ⟨A3,c3,rfl,B,A,hb⟩;have d:=zj hb i.o;obtain⟨sc0,sf0,sc1,sf1⟩:=oz d (.slice A3 n c3);obtain⟨r0,r1⟩:=(ow d (.slice A3 n c3) (.int .i64 (m:Int))).c2;have HG:=zd (jR B (λad e=>qJ i.o.lt (A ad e)) d (ze g.o hb) za);clear hb d B A i g HM j;go_wp2;refine bodyPost_ret (v:=.tuple #[.agg #[.slice A3 n c3,.int .i64 (m:Int)],.bool true]) (by simp [results,results48,go_sem,r0,r1]) rfl ?_;exact HG.o
end
section
variable {K:Nat}{xs:List Rat}{A:zf}{n c:Nat}{w:World}
theorem Wi {t:Bool}(hz:rL xs=t)(hT:zv w)(ha:zF w A n c xs)(hx:zI K xs)(hn:n<=1073741824:=by omega)(hK:K<=67108864:=by omega):
  Calls prog 22 #[.slice A n c] w (λe w'=>e=.returned (.bool t)/\Below w.heap.size w w'):=by
 have y:=ha.len;have j:=zd y;have HZ:=zd hz;have m:zg (∀i,i<n->zt K (xs.getD i 0)):=λi hi=>hx.at_ za;have HA:=zd ha;have HT:=zn w (λw' hb=>hT.on hb);clear hT ha hx y hz;have hB:=qY w.heap.size w;have i0:(0:Int)<=(n:Int):=za;go_enter func22,ntmps22;go_wp2_with fail
 go_loopg [7] (n+1) (λg ix wr=>∃(k:Nat),k<=n/\n<g+k/\ix=.int .i64 k/\zg (rL (xs.take k)=false)/\Below w.heap.size w wr)
 case atStart=>exact⟨0,xQ _,za,rfl,rfl,hB⟩
 case round=>
  clear hB;obtain⟨k,hkn,hg,rfl,z,hB⟩:=hrel;by_cases hlt:k<n
  ·obtain⟨ad,b1,B1,m1,d1,E1,u1,v1,rfl,-,u,v,x,hx⟩:=HA.o.get hB hlt;have C:decide ((k:Int)<(n:Int))=true:=decide_eq_true za;have i1:(0:Int)<=(k:Int):=za;have i2:(k:Int)<(n:Int):=za;obtain⟨st,d3,d4⟩:=zG wr 60 #[.bool b1,.slice B1 m1 d1,.slice E1 u1 v1];obtain⟨p0,p1,p2⟩:=d3.c3;have HX:=zd (hx.below st);have a:=zd (ze hB st);clear hx hB st d3 d4;obtain⟨s,hs⟩:∃s,uq (xs.getD k 0)=s:=⟨_,rfl⟩;have HS:=zd hs;have h:k<xs.length:=by have:=j.o;omega
   by_cases h0:(xs.getD k 0).num<0
   ·have D:decide (s<0)=true:=by
     rw [<-hs];unfold uq vR;rw [if_pos h0];rfl
    have HF:zg (true=t):=by
     show _=_;rw [<-HZ.o];unfold rL;refine(List.any_eq_true.2 ⟨xs.getD k 0,?_,decide_eq_true h0⟩).symm;rw [qQ,qZ h];exact xM h
    clear h0 hs h;go_wp2_with fail;(with_reducible refine(fe HS.o (HT.o _ a.o) HX.o (m.o k hlt) hK).mono ?_);rintro e w3 ⟨rfl,hb⟩;have d:=zd (ze a.o hb);clear hb u v x p0 p1 p2 HX a;go_wp2;go_ret;exact⟨by rw [<-HF.o];rfl,d.o⟩
   ·have D:decide (s<0)=false:=by
     rw [<-hs];unfold uq vR;rw [if_neg h0];split<;>rfl
    have B:zg (rL (xs.take (k+1))=false):=by
     show _=_;rw [Xh xs k h,z.o,decide_eq_false h0];rfl
    clear h0 hs h;go_wp2_with fail;(with_reducible refine(fe HS.o (HT.o _ a.o) HX.o (m.o k hlt) hK).mono ?_);rintro e w3 ⟨rfl,hb⟩;have d:=zd (ze a.o hb);clear hb u v x p0 p1 p2 HX a;go_wp2;go_roundg (n - k)
    case measure=>omega
    case rel=>exact⟨k+1,za,za,by go_num,B,d.o⟩
  ·have C:decide ((k:Int)<(n:Int))=false:=decide_eq_false za;have HF:zg (false=t):=by
    have:=j.o;show _=_;rw [<-HZ.o,<-z.o,qV za]
   have d:=zd hB;clear hB;go_wp2;go_ret;exact⟨by rw [<-HF.o];rfl,d.o⟩
end
def Er.rowed (er:Er):Prop:=match er with|.spot _ s _=>s=vQ|_=>True
theorem mv (er:Er)(v:Value)(w:World)(hE:uj w er v)(hg:uD w)(hn:er.rowed):
  Calls prog 20 #[v,.int .i64 er.n,.string er.s,.int .i64 er.k] w λe w'=>e=.returned (.bool true)/\Below w.heap.size w w':=by
 have HP:=zd (Vj er v w hE hg);have HN:=zn w (λw' hb=>Xn er v w' (hE.below hb) (hg.below hb));have HX:=zd hn;clear hE hg hn;cases er with
 |no=>
   clear HX;go_enter func20,ntmps20;go_wp2_with fail;refine HP.o.mono ?_;rintro e w1 ⟨rfl,a⟩;have d:=zd (HN.o w1 a);have HB:=zd a;clear HP HN a;go_wp2_with fail;refine d.o.mono ?_;rintro e w2 ⟨rfl,g⟩;have hB:=ze HB.o g;clear d HB g;simp only [Er.n,Er.s,Er.k,Er.is];go_wp2;go_ret;exact⟨rfl,hB⟩
 |bare n=>
   clear HX;go_enter func20,ntmps20;go_wp2_with fail;refine HP.o.mono ?_;rintro e w1 ⟨rfl,a⟩;have d:=zd (HN.o w1 a);have HB:=zd a;clear HP HN a;go_wp2_with fail;refine d.o.mono ?_;rintro e w2 ⟨rfl,g⟩;have hB:=ze HB.o g;clear d HB g;simp only [Er.n,Er.s,Er.k,Er.is];go_wp2;go_ret;exact⟨rfl,hB⟩
 |spot n s k=>
   have hs:=HX.o;obtain rfl:s=vQ:=hs
   all_goals
    clear HX
    go_enter func20,ntmps20
    go_wp2_with fail
    refine HP.o.mono ?_
    rintro e w1 ⟨rfl,a⟩
    have d:=zd (HN.o w1 a)
    have HB:=zd a
    clear HP HN a
    go_wp2_with fail
    refine d.o.mono ?_
    rintro e w2 ⟨rfl,g⟩
    have hB:=ze HB.o g
    clear d HB g
    simp only [Er.n,Er.s,Er.k,Er.is,vQ]
    go_wp2
    go_ret
    exact⟨rfl,hB⟩
theorem sD {W:World}{A:zf}{n c:Nat}{R:Nat->vd}(h:rF W A n c R):p6 1 (rj R n):=λp hp=>by
 obtain⟨r,hr,rfl⟩:=List.mem_map.1 hp;have h1:=(h.row r (List.mem_range.1 hr)).1;exact⟨aC h1.co,su h1.p.1 h1.p.2 h1.q.1 h1.q.2⟩
