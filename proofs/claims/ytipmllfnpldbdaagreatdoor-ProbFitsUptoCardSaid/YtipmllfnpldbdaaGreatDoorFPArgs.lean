/- What this claim leans on. -/
import Derived.Test.YtipmllfnpldbdaaGreatDoorFUArgs2
import Derived.Deep.Strs
set_option linter.unusedVariables false
set_option linter.unusedSimpArgs false
namespace Go.Proofs.YtipmllfnpldbdaaGreatDoor
open Go Go.RowKit Go.Proofs.Tryz
open Go.ChangeShapes Go.WideShapes Go.ChangeAt Go.Deep
set_option maxHeartbeats 16000000
variable {z:Int}{M:List (List Rat)}{c d gc m n:Nat}{t t5 t9:TypeId}{v:Value}{W w:World}{A Q:zf}
structure vv where
 A:zf
 n:Nat
 c:Nat
 L:List (Int×Int)
 k:Int
 p:Int
 q:Int
structure iO (W:World)(x:vv):Prop where
 co:wW W x.A x.n x.c x.L
 k:wh x.k
 p:wh x.p
 q:wh x.q
structure sN (W:World)(A:zf)(n c:Nat)(R:Nat->vv):Prop where
 fits:n<=c
 small:c<=1048576
 row:∀r,r<n->iO W (R r)/\∃ad,A=some ad/\ad.block<W.heap.size/\W.cell? (ad.add (r*4))=some (.slice (R r).A (R r).n (R r).c)/\W.cell? (ad.add (r*4+1))=some (.int .i64 (R r).k)/\W.cell? (ad.add (r*4+2))=some (.int .i64 (R r).p)/\W.cell? (ad.add (r*4+3))=some (.int .i64 (R r).q)
theorem sN.below {W':World}{R:Nat->vv}(h:sN W A n c R)(hb:Below W.heap.size W W'):sN W' A n c R:=
 ⟨h.fits,h.small,λr hr=>by
  obtain⟨⟨h1,h2,h3,h4⟩,ad,e,hl,c0,c1,c2,c3⟩:=h.row r hr;have k:∀j v,W.cell? (ad.add j)=some v->W'.cell? (ad.add j)=some v:=λj v hv=>(hb.cell (by rw [y9];exact hl)).trans hv;exact⟨⟨h1.below hb,h2,h3,h4⟩,ad,e,qJ hl hb.size,k _ _ c0,k _ _ c1,k _ _ c2,k _ _ c3⟩⟩
theorem Y7 {H:Type}{g:TypeId×Value->H}{P:Program}{t0 t6:TypeId}{e0 e1 e2 f0 f1:Field}{c0 c1 c2 c3:Value}{x:DataW H×List MemPlace}
  (i:P.underlying t5=some (.struct #[e0,e1,e2])) (a:(e0.offset,P.cellsOf e0.type,e1.offset,P.cellsOf e1.type,e2.offset,P.cellsOf e2.type)=(0,1,1,1,2,2)) (j:P.underlying e0.type=some (.slice t)) (k1:P.underlying e1.type=some (.int .i64)) (k2:P.underlying e2.type=some (.struct #[f0,f1]))
  (hs:P.underlying t=some (.struct #[f0,f1])) (hf:(f0.offset,P.cellsOf f0.type,f1.offset,P.cellsOf f1.type)=(0,1,1,1)) (hC:P.cellsOf t=2) (h0:P.underlying f0.type=some (.int .i64)) (h1:P.underlying f1.type=some (.int .i64))
  (h:DataW.trod g P W 0 (λ_=>true) true d t5 [c0,c1,c2,c3]=some x) (hb:Rows.uptoBulk x.1<=1048576):∃y:vv,c0=.slice y.A y.n y.c/\c1=.int .i64 y.k/\c2=.int .i64 y.p/\c3=.int .i64 y.q/\iO W y:=by
 simp only [Prod.mk.injEq] at a;obtain⟨y0,y1,y2,n,rfl,_,j0,j1,j2⟩:=trod_struct3 i h;rw [a.1,a.2.1] at j0;rw [a.2.2.1,a.2.2.2.1] at j1;rw [a.2.2.2.2.1,a.2.2.2.2.2] at j2;simp only [List.drop_zero,List.take_succ_cons,List.take_zero,List.drop_succ_cons] at j0 j1 j2;obtain⟨A,m,c,L,rfl,hL⟩:=fd j hs hf hC h0 h1 j0 (by simp only [Rows.uptoBulk,Rows.uptoBulkAll] at hb;omega);obtain⟨z,hz,_,wz⟩:=DataW.trod_int k1 j1;simp only [List.cons.injEq,and_true] at hz;subst hz;have bz:=bounds_i64 wz;have bk:wh z:=⟨za,za⟩;obtain⟨p,q,rfl,rfl,hp,hq⟩:=fU k2 hf h0 h1 j2;exact⟨⟨A,m,c,L,z,p,q⟩,rfl,rfl,rfl,rfl,⟨hL,bk,hp,hq⟩⟩
theorem Xl {H:Type}{z:TypeId×Value->H}{P:Program}{i:Nat}{e0 e1 e2 f0 f1:Field}{x:DataW H×List MemPlace}
  (L:P.underlying t9=some (.slice t5)) (B:P.cellsOf t5=4) (I:P.underlying t5=some (.struct #[e0,e1,e2])) (F:(e0.offset,P.cellsOf e0.type,e1.offset,P.cellsOf e1.type,e2.offset,P.cellsOf e2.type)=(0,1,1,1,2,2)) (K:P.underlying e0.type=some (.slice t)) (k1:P.underlying e1.type=some (.int .i64)) (k2:P.underlying e2.type=some (.struct #[f0,f1]))
  (hs:P.underlying t=some (.struct #[f0,f1])) (hf:(f0.offset,P.cellsOf f0.type,f1.offset,P.cellsOf f1.type)=(0,1,1,1)) (hC:P.cellsOf t=2) (h0:P.underlying f0.type=some (.int .i64)) (h1:P.underlying f1.type=some (.int .i64))
  (h:DataW.trod z P W 0 (λ_=>true) true i t9 (Value.slice A n c).cells.toList=some x) (hb:Rows.uptoBulk x.1<=1048576):∃R,sN W A n c R:=by
 rcases open_slice L h with⟨hcs,_⟩|⟨a,len,cap,m,k,D,Pl,hcs,_,hl,hm,hmm,hx,hi⟩
 ·simp [Value.cells] at hcs;obtain⟨rfl,rfl,rfl⟩:=hcs;exact⟨λ_=>⟨none,0,0,[],0,0,0⟩,qX _,za,λr hr=>by omega⟩
 ·simp [Value.cells] at hcs;obtain⟨rfl,rfl,rfl⟩:=hcs;rw [if_pos rfl] at hmm;rw [hmm] at hx hi;subst hx;have J:=UA.slice_le (H:=H) ((List.range n).map D) ((List.range (c - n)).map λj=>D (n+j));have C:Rows.uptoBulk (DataW.slice (H:=H) ((List.range n).map D) ((List.range (c - n)).map λj=>D (n+j)))<=1048576:=hb;have E:c<=1048576:=by
   simp only [YZ,List.length_range] at J;omega
  have g:∀r,r<n->∃y:vv,iO W y/\W.cell? (a.add (r*4))=some (.slice y.A y.n y.c)/\W.cell? (a.add (r*4+1))=some (.int .i64 y.k)/\W.cell? (a.add (r*4+2))=some (.int .i64 y.p)/\W.cell? (a.add (r*4+3))=some (.int .i64 y.q):=λr hr=>by
   obtain⟨cs,u,M⟩:=hi r za;rw [B] at u;obtain⟨_,v,d⟩:=World.cells?_some u;obtain⟨c0,c1,c2,c3,rfl⟩:∃c0 c1 c2 c3,cs=[c0,c1,c2,c3]:=by
    match cs,v with
    |[c0,c1,c2,c3],_=>exact⟨c0,c1,c2,c3,rfl⟩
   have hD:Rows.uptoBulk (D r)<=1048576:=by
    have G:D r ∈(List.range n).map D:=List.mem_map.2 ⟨r,List.mem_range.2 hr,rfl⟩;have hm2:=UA.mem_le G;simp only [Rows.uptoBulk] at C;omega
   obtain⟨y,rfl,rfl,rfl,rfl,hy⟩:=Y7 (t6:=t) (t0:=t) (x:=(D r,Pl r)) I F K k1 k2 hs hf hC h0 h1 M hD;have g0:=d 0 zh;have g1:=d 1 zh;have g2:=d 2 zh;have g3:=d 3 zh;rw [Go.Deep.add_add] at g0 g1 g2 g3;exact⟨y,hy,g0,g1,g2,g3⟩
  refine⟨λr=>if hr:r<n then(g r hr).choose else⟨none,0,0,[],0,0,0⟩,hl,E,λr hr=>?_⟩;simp only [dif_pos hr];obtain⟨hy,g0,g1,g2,g3⟩:=(g r hr).choose_spec;refine⟨hy,a,rfl,?_,g0,g1,g2,g3⟩;have:=QT W _ g0;rw [y9] at this;exact this
theorem aO {H:Type}{i:TypeId×Value->H}{P:Program}{e0 e1 e2 f0 f1:Field}{x:DataW H×List MemPlace}
  (g:P.underlying t9=some (.slice t5)) (j:P.cellsOf t5=4) (y:P.underlying t5=some (.struct #[e0,e1,e2])) (u:(e0.offset,P.cellsOf e0.type,e1.offset,P.cellsOf e1.type,e2.offset,P.cellsOf e2.type)=(0,1,1,1,2,2)) (z:P.underlying e0.type=some (.slice t)) (k1:P.underlying e1.type=some (.int .i64)) (k2:P.underlying e2.type=some (.struct #[f0,f1]))
  (hs:P.underlying t=some (.struct #[f0,f1])) (hf:(f0.offset,P.cellsOf f0.type,f1.offset,P.cellsOf f1.type)=(0,1,1,1)) (hC:P.cellsOf t=2) (h0:P.underlying f0.type=some (.int .i64)) (h1:P.underlying f1.type=some (.int .i64))
  (h:DataW.trod i P W 0 (λ_=>true) true d t9 [v]=some x) (hb:Rows.uptoBulk x.1<=1048576):∃A n c R,v=.slice A n c/\sN W A n c R:=by
 have go:∀A n c,[v]=[Value.slice A n c]->∃A n c R,v=.slice A n c/\sN W A n c R:=λA n c e=>by
  simp only [List.cons.injEq,and_true] at e;subst e;obtain⟨R,hR⟩:=Xl g j y u z k1 k2 hs hf hC h0 h1 (A:=A) (n:=n) (c:=c) (by simpa [Value.cells] using h) hb;exact⟨A,n,c,R,rfl,hR⟩
 rcases open_slice g h with⟨hcs,_⟩|⟨a,len,cap,m,k,D,Pl,hcs,_⟩
 ·exact go _ _ _ hcs
 ·exact go _ _ _ hcs
theorem km {H:Type}{g:TypeId×Value->H}{P:Program}{r:Reach}{b0:Nat}{t8 t9:TypeId}{g0 g1 e0 e1 e2 f0 f1:Field}{d:DataW H}{p:List MemPlace}
  (C:P.underlying t8=some (.struct #[g0,g1])) (a:oneCellFields P #[g0,g1]=true) (i:P.cellsOf t8=2) (hq:P.underlying g0.type=some (.slice t)) (E:P.underlying g1.type=some (.slice t5)) (j:P.cellsOf t5=4) (z:P.underlying t5=some (.struct #[e0,e1,e2]))
  (y:(e0.offset,P.cellsOf e0.type,e1.offset,P.cellsOf e1.type,e2.offset,P.cellsOf e2.type)=(0,1,1,1,2,2)) (D:P.underlying e0.type=some (.slice t)) (k1:P.underlying e1.type=some (.int .i64)) (k2:P.underlying e2.type=some (.struct #[f0,f1]))
  (hs:P.underlying t=some (.struct #[f0,f1])) (hf:(f0.offset,P.cellsOf f0.type,f1.offset,P.cellsOf f1.type)=(0,1,1,1)) (hC:P.cellsOf t=2) (h0:P.underlying f0.type=some (.int .i64)) (h1:P.underlying f1.type=some (.int .i64))
  (hv:Value.okWide P W r b0 t8 v) (h:DataW.Trod g P W 0 (λ_=>true) true t8 v d p) (hb:Rows.uptoBulk d<=1048576):∃(A:zf) (n c:Nat) (L:List (Int×Int)) (B:zf) (m e:Nat) (R:Nat->vv),v=.agg #[.slice A n c,.slice B m e]/\wW W A n c L/\sN W B m e R:=by
 obtain⟨v0,v1,y0,y1,n,rfl,rfl,rfl,i0,i1⟩:=Go.Joins.open_agg2 C a i hv h;have u:Rows.uptoBulk y0.1<=1048576:=by simp only [Rows.uptoBulk,Rows.uptoBulkAll] at hb;omega
 have x:Rows.uptoBulk y1.1<=1048576:=by simp only [Rows.uptoBulk,Rows.uptoBulkAll] at hb;omega
 obtain⟨A,m,c,L,rfl,hL⟩:=fd hq hs hf hC h0 h1 i0 u;obtain⟨B,k,e,R,rfl,hR⟩:=aO E j z y D k1 k2 hs hf hC h0 h1 i1 x;exact⟨A,m,c,L,B,k,e,R,rfl,hL,hR⟩
open Go Go.RowKit Go.Proofs.Tryz
set_option maxHeartbeats 16000000
set_option maxRecDepth 100000
def v7 (M:List (List Rat))(z:Int):Bool:=M.any λL=> !decide (((L.length:Nat):Int)=z)
theorem uX {α:Type}(p:α->Bool)(xs:List α)(d:α)(k:Nat)(h:k<xs.length):(xs.take (k+1)).any p=((xs.take k).any p||p (xs.getD k d)):=by
 rw [QY h,List.any_append,qQ,qZ h];simp
theorem oL {α:Type}(p:α->Bool)(xs:List α)(d:α)(k:Nat)(h:k<xs.length)(hp:p (xs.getD k d)=true):xs.any p=true:=by
 refine List.any_eq_true.2 ⟨xs.getD k d,?_,hp⟩;rw [qQ,qZ h];exact xE h
theorem tg (h:wZ M n m):v7 M (m:Int)=false:=by
 unfold v7;refine List.any_eq_false.2 λL hL=>?_;have:=h.cols L hL;simp;omega
theorem Zg {q:Nat}(h:wf (yh zt) w Q n M)(hk:zi w gc 3 #[.int .i64 z])(hn:n<=1048576):
  Calls prog 104 #[.slice Q n q,.func (.func 80) #[] #[.pointer (some ⟨gc,0,none⟩)]] w (λe w'=>∃k:Int,e=.returned (.int .i64 k)/\decide (k>=0)=v7 M z/\Below w.heap.size w w'):=by
 have hl:=h.len;have HL:=zd hl;have HR:=zd h;have HK:=zm w (λw' hb=>zj hb hk);have hEn:=oS;have hB:=qY w.heap.size w;have HS:zg (∀k,k<n->(M.take (k+1)).any (λL:List Rat=> !decide (((L.length:Nat):Int)=z))=((M.take k).any (λL:List Rat=> !decide (((L.length:Nat):Int)=z))||(λL:List Rat=> !decide (((L.length:Nat):Int)=z)) (M.getD k []))):=λk hk=>uX (λL:List Rat=> !decide (((L.length:Nat):Int)=z)) M [] k za;have HA:zg (∀k,k<n->(λL:List Rat=> !decide (((L.length:Nat):Int)=z)) (M.getD k [])=true->M.any (λL:List Rat=> !decide (((L.length:Nat):Int)=z))=true):=λk hk=>oL (λL:List Rat=> !decide (((L.length:Nat):Int)=z)) M [] k za;have i0:(0:Int)<=(n:Int):=za;clear h hk hl;unfold v7;go_enter func104,ntmps104;go_wp2_with fail
 go_loopg [8] (n+1) (λg ix wr=>∃(k:Nat),k<=n/\n<g+k/\ix=.int .i64 k/\zg ((M.take k).any (λL:List Rat=> !decide (((L.length:Nat):Int)=z))=false)/\Below w.heap.size w wr)
 case atStart=>exact⟨0,QE _,za,rfl,rfl,hB⟩
 case round=>
  clear hB;obtain⟨k,hkn,hg,rfl,t,hB⟩:=hrel;by_cases hlt:k<n
  ·have u:decide ((k:Int)<(n:Int))=true:=decide_eq_true za;have i1:(0:Int)<=(k:Int):=za;have i2:(k:Int)<(n:Int):=za;have m:=zd (HS.o k hlt);have j:=zd (HA.o k hlt);obtain⟨ad,B,d,rfl,-,hc,-⟩:=HR.o.get (vO yx) hB hlt rfl;obtain⟨L,hL⟩:∃L,M.getD k []=L:=⟨_,rfl⟩;rw [hL] at hc;rw [hL] at m j;obtain⟨b,i⟩:∃b,(!decide (((L.length:Nat):Int)=z))=b:=⟨_,rfl⟩;rw [i] at m j;have HC:∀W,Below w.heap.size w W->zg (Calls prog 80 #[.slice B L.length d,.pointer (some ⟨gc,0,none⟩)] W (λe w'=>e=.returned (.bool b)/\Below W.heap.size W w')):=λW hW=>by
    have q:=Wu (V:=B) (cv:=d) (k:=L.length) (HK.o W hW);rw [i] at q;exact q
   have HB:=zd hB;clear hB hL;cases b
   ·go_wp2_with fail;refine(HC _ HB.o).o.mono ?_;rintro e w3 ⟨rfl,hb⟩;have HZ:zg ((M.take (k+1)).any (λL:List Rat=> !decide (((L.length:Nat):Int)=z))=false):=by show _=_;rw [m.o,t.o];rfl
    have a:=zd (ze HB.o hb);clear hb i hc HC;go_wp2;go_roundg (n - k)
    case measure=>omega
    case rel=>exact⟨k+1,za,za,by go_num,HZ,a.o⟩
   ·go_wp2_with fail;refine(HC _ HB.o).o.mono ?_;rintro e w3 ⟨rfl,hb⟩;have HZ:=zd (j.o (by first|rfl|trivial));have a:=zd (ze HB.o hb);clear hb i hc HC;go_wp2;go_ret;exact⟨(k:Int),rfl,by rw [HZ.o];exact decide_eq_true za,a.o⟩
  ·have u:decide ((k:Int)<(n:Int))=false:=decide_eq_false za;have HF:zg (M.any (λL:List Rat=> !decide (((L.length:Nat):Int)=z))=false):=by
    have h1:=t.o;rw [qU (by have:=HL.o;omega)] at h1;exact h1
   have a:=zd hB;clear hB;go_wp2;go_ret;exact⟨-1,rfl,by rw [HF.o];rfl,a.o⟩
theorem aT {q:Nat}(h:wf (yh zt) w Q n M)(hk:zi w gc 3 #[.int .i64 z])(hn:n<=1048576):
  Calls prog 82 #[.slice Q n q,.func (.func 80) #[] #[.pointer (some ⟨gc,0,none⟩)]] w (λe w'=>e=.returned (.bool (v7 M z))/\Below w.heap.size w w'):=by
 have H:=zd (Zg (q:=q) h hk hn);obtain⟨b,hb⟩:∃b,v7 M z=b:=⟨_,rfl⟩;rw [hb] at H⊢;clear h hk hb;go_enter func82,ntmps82;go_wp2_with fail;refine H.o.mono ?_;rintro e w1 ⟨k,rfl,hk,hb⟩;have hk2:decide (0<=k)=b:=hk;have HB:=zd hb;clear hb;go_wp2;go_ret;exact⟨rfl,HB.o⟩
section
variable {Q:zf}{n q:Nat}{M:List (List Rat)}{z:Int}{w:World}
theorem o2 {K:Nat}(hT:zu w)(h:wf (yh zt) w Q n M)(hd:wZ M n m)(hn:n<=64)(hm:m<=64)(z:wQ K M)(hK:K+2<=67108864:=by omega):Calls prog 48 #[.int .i64 (m:Int),.slice Q n q] w (eA w n m M):=by
 have hmf:=o1;obtain⟨t,a,u,y,bz⟩:=yd w 3 28 30 #[.int .i64 (m:Int)] #[.slice Q n q] #[.slice none 0 0,.int .i64 0];have H:=λW=>zd (o5 (tQ hn hm) W);have hc:=aT (q:=q) (h.below (vO yx) t) a za;rw [tg hd] at hc;have HC:=zd hc;have HM:zg (∀W,Below w.heap.size w W->zi W (w.heap.size+1) 28 #[.slice Q n q]->Calls prog 83 #[.int .i64 (n:Int),.int .i64 (m:Int),.func (.func 84) #[] #[.pointer (some ⟨w.heap.size+1,0,none⟩)]] W (lI W n m M)):=λW hW hk=>by
  have hh:=h.below (vO yx) hW;have q9:=tO (K:=K) (vI M) 84 #[.pointer (some ⟨w.heap.size+1,0,none⟩)] n m W (hT.on hW) ⟨oT,λr c hr hc w' hb=>mR (hh.below (vO yx) hb) hd (zj hb hk) hr hc⟩ (λr c hr hc=>z.at_ hd hr hc) hn hm hK;rw [hd.eq] at q9;exact q9
 have HK:=zd y;have HS:=zd u;have HB:=zd t;have y0:=a.c1;have y1:=u.c1;have hl0:=a.lt;have x:=zd a;clear t a u y bz hT h z hd hc;go_enter func48,ntmps48;go_wp2_with fail;refine(H _).o.mono ?_;rintro e w1 ⟨rfl,rfl⟩;go_wp2_with fail;refine HC.o.mono ?_;rintro e w1 ⟨rfl,hb⟩;have g:=zd (ze HB.o hb);have i:=zd (zj hb HK.o);have j:=zd (zj hb HS.o);have y0:=(zj hb x.o).c1;have y1:=j.o.c1;clear hb HB HK HS x HC H;go_wp2_with fail;refine(HM.o _ g.o j.o).mono ?_;clear y0 y1;rintro e w3 ⟨A3,c3,rfl,B,A,hb⟩;have d:=zj hb i.o;obtain⟨sc0,sf0,sc1,sf1⟩:=ol d (.slice A3 n c3);obtain⟨r0,r1⟩:=(oj d (.slice A3 n c3) (.int .i64 (m:Int))).c2;have HG:=zd (ju B (λad e=>qJ i.o.lt (A ad e)) d (ze g.o hb) za);clear hb d B A i g HM j;go_wp2;refine bodyPost_ret (v:=.tuple #[.agg #[.slice A3 n c3,.int .i64 (m:Int)],.bool true]) (by simp [results,results48,go_sem,r0,r1]) rfl ?_;exact HG.o
end
