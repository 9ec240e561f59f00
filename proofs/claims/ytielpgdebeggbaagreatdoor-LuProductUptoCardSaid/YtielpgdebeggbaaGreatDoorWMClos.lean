/- What this claim leans on. -/
import Derived.Test.YtielpgdebeggbaaGreatDoorWVMade
set_option linter.unusedVariables false
set_option linter.unusedSimpArgs false
namespace Go.Proofs.YtielpgdebeggbaaGreatDoor
open Go Go.RowKit Go.Proofs.Tryz
set_option maxHeartbeats 16000000
set_option maxRecDepth 100000
variable {cs:Array Value}{b:Bool}{z:Int}{M:List (List Rat)}{zs:List Int}{ld:List Nat}{xs:List Rat}{vs:List Value}{a c f g gc k n:Nat}{x:Rat}{t:TypeId}{v x0 x1 x2:Value}{w w':World}{A E Q:ze}
theorem Z7 {r:Rat}(h:zo w' r b A n c E k f)(hb:Below w.heap.size w w'):yi w r (.returned (.agg #[.bool b,.slice A n c,.slice E k f])) w':=⟨_,_,_,_,_,_,_,rfl,h,hb⟩
section
variable {A:ze}{n c m:Nat}{M:List (List Rat)}{w:World}
theorem nC:∀(args:Array Value) (w':World),Sem.run prog (callFunc 84 args) w'=.ok (.enter 84 args) w':=Go.Proofs.enters_of func84 ye rfl
theorem lV (hT:zt w)(i j:Nat):Calls prog 84 #[.int .i64 (i:Int),.int .i64 (j:Int)] w (yi w (if i=j then 1 else 0)):=by
 obtain⟨a,c,bz⟩:=zu w 52 #[.bool false,.slice none 0 0,.slice none 0 0];by_cases hij:i=j
 ·have e0:((i:Int)==(j:Int))=true:=by rw [beq_iff_eq];omega
  rw [if_pos hij];have HT:=za (hT.on a);have HB:=za a;have HK:=za c;clear hij a c bz hT;go_enter func84,ntmps84;go_wp2_with fail;(with_reducible refine(jo 1 _ HT.o zf zf).mono ?_);rintro e w3 ⟨b3,A3,n3,c3,E3,k3,f3,rfl,g,hb⟩;have d:=zg hb HK.o;obtain⟨sc0,sf0,sc1,sf1,sc2,sf2⟩:=zY d (.bool b3) (.slice A3 n3 c3);obtain⟨r0,r1,r2⟩:=(z6 d (.bool b3) (.slice A3 n3 c3) (.slice E3 k3 f3)).c3;have HG:zd (yi w 1 _ _):=wR (r:=1) g d (zc HB.o hb) (qX _);clear hb d g HB HK HT;go_wp2;refine bodyPost_ret (v:=.agg #[.bool b3,.slice A3 n3 c3,.slice E3 k3 f3]) (by simp [results,results84,go_sem,r0,r1,r2]) rfl ?_;exact HG.o
 ·have e0:((i:Int)==(j:Int))=false:=by rw [beq_eq_false_iff_ne];omega
  rw [if_neg hij];obtain⟨r0,r1,r2⟩:=c.c3;have HG:=za (Z7 (eF _) a);clear a c bz hij;go_enter func84,ntmps84;go_wp2;refine bodyPost_ret (v:=.agg #[.bool false,.slice none 0 0,.slice none 0 0]) (by simp [results,results84,go_sem,r0,r1,r2]) rfl ?_;exact HG.o
theorem ki:∀(args:Array Value) (w':World),Sem.run prog (callFunc 83 args) w'=.ok (.enter 83 args) w':=Go.Proofs.enters_of func83 ye rfl
theorem iE {gs i j:Nat}{q:Nat}(h:yx (z8 zo) w Q n M)(hd:zO M n m)(hk:zh w gs 26 #[.slice Q n q])(hi:i<n)(hj:j<m):Calls prog 83 #[.int .i64 (i:Int),.int .i64 (j:Int),.pointer (some ⟨gs,0,none⟩)] w (yi w (zl M i j)):=by
 obtain⟨a,k,bz⟩:=zu w 52 #[.bool false,.slice none 0 0,.slice none 0 0];obtain⟨ad,B,d,rfl,-,hc,hv⟩:=h.get (y7 zZ) (qZ _ w) hi (hd.row hi);obtain⟨ae,b1,B1,m1,d1,E1,u1,v1,rfl,-,h0,h1,h2,hq⟩:=zR.get hv (qZ _ w) hj;obtain⟨hc,h0,h1,h2⟩:=tT a hc h0 h1 h2;have g0:=(zg a hk).c1;have i1:(0:Int)<=(i:Int):=zb;have i2:(i:Int)<(n:Int):=zb;have i3:(0:Int)<=(j:Int):=zb;have i4:(j:Int)<(m:Int):=zb;obtain⟨c,g,-⟩:=zu w 52 #[.bool b1,.slice B1 m1 d1,.slice E1 u1 v1];obtain⟨r0,r1,r2⟩:=g.c3;have HG:=za (Z7 (hq.below c) c);clear hq a k bz c g h hk hv hd;go_enter func83,ntmps83;go_wp2;refine bodyPost_ret (v:=.agg #[.bool b1,.slice B1 m1 d1,.slice E1 u1 v1]) (by simp [results,results83,go_sem,r0,r1,r2]) rfl ?_;exact HG.o
theorem kh:∀(args:Array Value) (w':World),Sem.run prog (callFunc 79 args) w'=.ok (.enter 79 args) w':=Go.Proofs.enters_of func79 ye rfl
theorem RH {k:Nat}{V:ze}{cv:Nat}(hk:zh w gc 3 #[.int .i64 z]):Calls prog 79 #[.slice V k cv,.pointer (some ⟨gc,0,none⟩)] w (λe w'=>e=.returned (.bool (!decide ((k:Int)=z)))/\Below w.heap.size w w'):=by
 have g0:=hk.c1;obtain⟨b,hb⟩:∃b,(!decide ((k:Int)=z))=b:=⟨_,rfl⟩;have hb2:((k:Int) !=z)=b:=by rw [<-hb];by_cases q:(k:Int)=z<;>simp [q]
 rw [hb];clear hk hb;go_enter func79,ntmps79;go_wp2;go_ret;exact⟨rfl,qZ _ _⟩
end
theorem qm {r c:Int}(h:sN r c=b)(w:World):Calls prog 80 #[.int .i64 r,.int .i64 c] w (λe w'=>e=.returned (.bool b)/\w=w'):=h▸nW r c w
theorem Z1 (fn:Fn)(first cap:Array Value)(w:World):(Instr.makeFunc fn first cap).run prog w=.ok (.func fn first cap) w:=rfl
theorem kN:zn 1 (1:Rat):=⟨zf,zf⟩
theorem qF (r c:Nat):zn 1 (if r=c then(1:Rat) else 0):=by split<;>first|exact kN|exact zn.zero
theorem ma {n:Nat}(hT:zt w)(hn:n<=64):Calls prog 37 #[.int .i64 (n:Int)] w (eS w n n (uT n)):=by
 have H:=λW=>za (qm (V9 hn hn) W);obtain⟨a,g,bz⟩:=zu w 28 #[.slice none 0 0,.int .i64 0];have HM:zd (Calls _ _ _ _ (sE _ n n (uT n))):=V8 (K:=1) (λr c=>if r=c then 1 else 0) 84 #[] n n _ (hT.on a) ⟨nC,λr c _ _ w' hb=>lV ((hT.on a).on hb) r c⟩ (λr c _ _=>qF r c) hn hn;have HK:=za g;have HB:=za a;clear a g bz hT;go_enter func37,ntmps37;go_wp2_with fail;refine(H _).o.mono ?_;rintro e w1 ⟨rfl,rfl⟩;go_wp2_with fail;refine HM.o.mono ?_;rintro e w3 ⟨A3,c3,rfl,i,h,hb⟩;have d:=zg hb HK.o;obtain⟨sc0,sf0,sc1,sf1⟩:=ue d (.slice A3 n c3);obtain⟨r0,r1⟩:=(ud d (.slice A3 n c3) (.int .i64 (n:Int))).c2;have HG:=za (kk i (λad e=>qJ HK.o.lt (h ad e)) d (zc HB.o hb) zb);clear hb d i h HK HB;go_wp2;refine bodyPost_ret (v:=.tuple #[.agg #[.slice A3 n c3,.int .i64 (n:Int)],.bool true]) (by simp [results,results37,go_sem,r0,r1]) rfl ?_;exact HG.o
section
variable {A:ze}{n c m K:Nat}{MM:List (List Rat)}{w:World}
end
def tM (M:List (List Rat))(z:Int):Bool:=M.any λL=> !decide (((L.length:Nat):Int)=z)
theorem rm {α:Type}(p:α->Bool)(xs:List α)(d:α)(k:Nat)(h:k<xs.length):(xs.take (k+1)).any p=((xs.take k).any p||p (xs.getD k d)):=by
 rw [QZ h,List.any_append,qQ,qY h];simp
theorem lT {α:Type}(p:α->Bool)(xs:List α)(d:α)(k:Nat)(h:k<xs.length)(hp:p (xs.getD k d)=true):xs.any p=true:=by
 refine List.any_eq_true.2 ⟨xs.getD k d,?_,hp⟩;rw [qQ,qY h];exact xH h
theorem rK {m:Nat}(h:zO M n m):tM M (m:Int)=false:=by
 unfold tM;refine List.any_eq_false.2 λL hL=>?_;have:=h.cols L hL;simp;omega
theorem Tw {q:Nat}(h:yx (z8 zo) w Q n M)(hk:zh w gc 3 #[.int .i64 z])(hn:n<=1048576):
  Calls prog 88 #[.slice Q n q,.func (.func 79) #[] #[.pointer (some ⟨gc,0,none⟩)]] w (λe w'=>∃k:Int,e=.returned (.int .i64 k)/\decide (k>=0)=tM M z/\Below w.heap.size w w'):=by
 have hl:=h.len;have HL:=za hl;have HR:=za h;have HK:=zj w (λw' hb=>zg hb hk);have hEn:=kh;have hB:=qZ w.heap.size w;have HS:zd (∀k,k<n->(M.take (k+1)).any (λL:List Rat=> !decide (((L.length:Nat):Int)=z))=((M.take k).any (λL:List Rat=> !decide (((L.length:Nat):Int)=z))||(λL:List Rat=> !decide (((L.length:Nat):Int)=z)) (M.getD k []))):=λk hk=>rm (λL:List Rat=> !decide (((L.length:Nat):Int)=z)) M [] k zb;have HA:zd (∀k,k<n->(λL:List Rat=> !decide (((L.length:Nat):Int)=z)) (M.getD k [])=true->M.any (λL:List Rat=> !decide (((L.length:Nat):Int)=z))=true):=λk hk=>lT (λL:List Rat=> !decide (((L.length:Nat):Int)=z)) M [] k zb;have i0:(0:Int)<=(n:Int):=zb;clear h hk hl;unfold tM;go_enter func88,ntmps88;go_wp2_with fail
 go_loopg [8] (n+1) (λg ix wr=>∃(k:Nat),k<=n/\n<g+k/\ix=.int .i64 k/\zd ((M.take k).any (λL:List Rat=> !decide (((L.length:Nat):Int)=z))=false)/\Below w.heap.size w wr)
 case atStart=>exact⟨0,qW _,zb,rfl,rfl,hB⟩
 case round=>
  clear hB;obtain⟨k,hkn,hg,rfl,m,hB⟩:=hrel;by_cases hlt:k<n
  ·have o:decide ((k:Int)<(n:Int))=true:=decide_eq_true zb;have i1:(0:Int)<=(k:Int):=zb;have i2:(k:Int)<(n:Int):=zb;have j:=za (HS.o k hlt);have i:=za (HA.o k hlt);obtain⟨ad,B,d,rfl,-,hc,-⟩:=HR.o.get (y7 zZ) hB hlt rfl;obtain⟨L,hL⟩:∃L,M.getD k []=L:=⟨_,rfl⟩;rw [hL] at hc;rw [hL] at j i;obtain⟨b,c⟩:∃b,(!decide (((L.length:Nat):Int)=z))=b:=⟨_,rfl⟩;rw [c] at j i;have HC:∀W,Below w.heap.size w W->zd (Calls prog 79 #[.slice B L.length d,.pointer (some ⟨gc,0,none⟩)] W (λe w'=>e=.returned (.bool b)/\Below W.heap.size W w')):=λW hW=>by
    have q:=RH (V:=B) (cv:=d) (k:=L.length) (HK.o W hW);rw [c] at q;exact q
   have HB:=za hB;clear hB hL;cases b
   ·go_wp2_with fail;refine(HC _ HB.o).o.mono ?_;rintro e w3 ⟨rfl,hb⟩;have HZ:zd ((M.take (k+1)).any (λL:List Rat=> !decide (((L.length:Nat):Int)=z))=false):=by show _=_;rw [j.o,m.o];rfl
    have a:=za (zc HB.o hb);clear hb c hc HC;go_wp2;go_roundg (n - k)
    case measure=>omega
    case rel=>exact⟨k+1,zb,zb,by go_num,HZ,a.o⟩
   ·go_wp2_with fail;refine(HC _ HB.o).o.mono ?_;rintro e w3 ⟨rfl,hb⟩;have HZ:=za (i.o (by first|rfl|trivial));have a:=za (zc HB.o hb);clear hb c hc HC;go_wp2;go_ret;exact⟨(k:Int),rfl,by rw [HZ.o];exact decide_eq_true zb,a.o⟩
  ·have o:decide ((k:Int)<(n:Int))=false:=decide_eq_false zb;have HF:zd (M.any (λL:List Rat=> !decide (((L.length:Nat):Int)=z))=false):=by
    have h1:=m.o;rw [qV (by have:=HL.o;omega)] at h1;exact h1
   have a:=za hB;clear hB;go_wp2;go_ret;exact⟨-1,rfl,by rw [HF.o];rfl,a.o⟩
theorem Td {q:Nat}(h:yx (z8 zo) w Q n M)(hk:zh w gc 3 #[.int .i64 z])(hn:n<=1048576):
  Calls prog 81 #[.slice Q n q,.func (.func 79) #[] #[.pointer (some ⟨gc,0,none⟩)]] w (λe w'=>e=.returned (.bool (tM M z))/\Below w.heap.size w w'):=by
 have H:=za (Tw (q:=q) h hk hn);obtain⟨b,hb⟩:∃b,tM M z=b:=⟨_,rfl⟩;rw [hb] at H⊢;clear h hk hb;go_enter func81,ntmps81;go_wp2_with fail;refine H.o.mono ?_;rintro e w1 ⟨k,rfl,hk,hb⟩;have hk2:decide (0<=k)=b:=hk;have HB:=za hb;clear hb;go_wp2;go_ret;exact⟨rfl,HB.o⟩
section
variable {Q:ze}{n q:Nat}{M:List (List Rat)}{z:Int}{w:World}
theorem Z2 {m K:Nat}(hT:zt w)(h:yx (z8 zo) w Q n M)(hd:zO M n m)(hn:n<=64)(hm:m<=64)(z:z7 K M)(hK:K+2<=67108864:=by omega):Calls prog 35 #[.int .i64 (m:Int),.slice Q n q] w (eS w n m M):=by
 have hmf:=Z1;obtain⟨k,a,o,t,bz⟩:=y9 w 3 26 28 #[.int .i64 (m:Int)] #[.slice Q n q] #[.slice none 0 0,.int .i64 0];have H:=λW=>za (qm (V9 hn hm) W);have hc:=Td (q:=q) (h.below (y7 zZ) k) a zb;rw [rK hd] at hc;have HC:=za hc;have HM:zd (∀W,Below w.heap.size w W->zh W (w.heap.size+1) 26 #[.slice Q n q]->Calls prog 82 #[.int .i64 (n:Int),.int .i64 (m:Int),.func (.func 83) #[] #[.pointer (some ⟨w.heap.size+1,0,none⟩)]] W (sE W n m M)):=λW hW hk=>by
  have hh:=h.below (y7 zZ) hW;have q9:=V8 (K:=K) (zl M) 83 #[.pointer (some ⟨w.heap.size+1,0,none⟩)] n m W (hT.on hW) ⟨ki,λr c hr hc w' hb=>iE (hh.below (y7 zZ) hb) hd (zg hb hk) hr hc⟩ (λr c hr hc=>z.at_ hd hr hc) hn hm hK;rw [hd.eq] at q9;exact q9
 have HK:=za t;have HS:=za o;have HB:=za k;have y0:=a.c1;have y1:=o.c1;have hl0:=a.lt;have s:=za a;clear k a o t bz hT h z hd hc;go_enter func35,ntmps35;go_wp2_with fail;refine(H _).o.mono ?_;rintro e w1 ⟨rfl,rfl⟩;go_wp2_with fail;refine HC.o.mono ?_;rintro e w1 ⟨rfl,hb⟩;have g:=za (zc HB.o hb);have i:=za (zg hb HK.o);have j:=za (zg hb HS.o);have y0:=(zg hb s.o).c1;have y1:=j.o.c1;clear hb HB HK HS s HC H;go_wp2_with fail;refine(HM.o _ g.o j.o).mono ?_;clear y0 y1;rintro e w3 ⟨A3,c3,rfl,y,u,hb⟩;have d:=zg hb i.o;obtain⟨sc0,sf0,sc1,sf1⟩:=ue d (.slice A3 n c3);obtain⟨r0,r1⟩:=(ud d (.slice A3 n c3) (.int .i64 (m:Int))).c2;have HG:=za (kk y (λad e=>qJ i.o.lt (u ad e)) d (zc g.o hb) zb);clear hb d y u i g HM j;go_wp2;refine bodyPost_ret (v:=.tuple #[.agg #[.slice A3 n c3,.int .i64 (m:Int)],.bool true]) (by simp [results,results35,go_sem,r0,r1]) rfl ?_;exact HG.o
end
def oo (Pc:Value->Prop)(w:World)(v:Value):Prop:=∀g,v.ownBlock=some g->∃(cur:Array Value) (e:TypeId),w.heap[g]?=some (.cells cur e (0,0))/\∀u ∈ cur.toList,Pc u
theorem oo.nil {Pc:Value->Prop}(w:World)(c:Nat):oo Pc w (.slice none 0 c):=λg h=>by simp [Value.ownBlock] at h
section
variable {P:Program}{Pc:Value->Prop}(w:World)
theorem Tm (o:Nat)(t ty e:TypeId)(i:TypeInfo)(z:Value)(size bytes:Nat)(ht:P.underlying t=some (.slice e))(hi:P.info? e=some i)(hz:i.zero=some z)
  (I:i.size=size) (Q:i.bytes=bytes) (T:z.cells.size=size) (hsz:0<size)
  (v:Value) (n:Nat) (xs:List Value) (h:w.ownsRow o e size v n xs)
  (a:Addr) (m c:Nat) (d:List Value) (hl:d.length=m*size) (A:∀j u,d[j]?=some u->w.cell? (a.add j)=some u) (h1:∀u ∈ d,u.oneCell'=true)
  (K:n+m<=maxLen) (B:(n+m)*bytes<=140737488355328) (E:o<=w.heap.size)
  (hv:oo Pc w v) (S:∀u ∈ z.cells.toList,Pc u) (O:∀u ∈ d,Pc u):
  ∃ v' w',(Builtin.append_ #[t,t] ty #[v,.slice (some a) m c]).run P w = .ok v' w' ∧ w'.ownsRow o e size v' (n + m) (xs ++ d) ∧ w.grownBy w' v.ownBlock ∧
   (v'.ownBlock=v.ownBlock\/v'.ownBlock=some w.heap.size)/\oo Pc w' v':=by
 subst I;subst Q;have hsmall:n+m<=9223372036854775807:=by simp only [maxLen] at K;omega
 have C:(xs++d).length=(n+m)*i.size:=by rw [qB,h.1,hl,QE]
 have grown : ∀ (old : Nat),old < n + m → (∀ u ∈ xs,Pc u) → ∀ (row : Option Nat),
   (w.drew.alloc (.cells (xs.toArray ++ d.toArray ++ Builtin.zeroCells z.cells (grownCap w (n + m) old e - (n + m))) e)).ownsRow o e i.size
     (.slice (some ⟨w.heap.size,0,none⟩) (n+m) (grownCap w (n+m) old e)) (n+m) (xs++d)/\
   w.grownBy (w.drew.alloc (.cells (xs.toArray++d.toArray++Builtin.zeroCells z.cells (grownCap w (n+m) old e - (n+m))) e)) row/\
   oo Pc (w.drew.alloc (.cells (xs.toArray++d.toArray++Builtin.zeroCells z.cells (grownCap w (n+m) old e - (n+m))) e)) (.slice (some ⟨w.heap.size,0,none⟩) (n+m) (grownCap w (n+m) old e)):=by
  intro old ho J row;have R:=grownCap_ge w (n+m) old e;have F:grownCap w (n+m) old e<=maxLen:=grownCap_le_maxLen w (n+m) old e K;refine⟨⟨C,.inr ⟨w.heap.size,_,_,rfl,E,heap_alloc_new w.drew _,R,F,?_,?_⟩⟩,⟨rfl,rfl,rfl,zA,λk hk _=>heap_alloc_old w.drew _ hk⟩,?_⟩
  ·simp only [Array.size_append,XU,size_zeroCells,T,h.1,hl,<-QE];congr 1;omega
  ·simp only [YK,xX];rw [<-xX,<-C];exact jJ
  ·intro g hg;simp [Value.ownBlock] at hg;subst hg;refine⟨_,_,heap_alloc_new w.drew _,λu hu=>?_⟩;simp only [YK,XW] at hu;rcases hu with(hu|hu)|hu
   ·exact J u hu
   ·exact O u hu
   ·exact S u (Ys zb hu)
 rcases h.2 with⟨rfl,rfl⟩|⟨g,cap,cur,rfl,hbg,hg,hnc,F,hcs,htake⟩
 ·have hx:xs=[]:=QU (by simpa using h.1);subst hx;by_cases hm:m=0
  ·subst hm;have hn:d=[]:=QU (by simpa using hl);subst hn;refine⟨.slice none 0 0,w,?_,XO w o e i.size,⟨rfl,rfl,rfl,qX _,λ_ _ _=>rfl⟩,Or.inl rfl,oo.nil _ _⟩;simp [Builtin.append_,run_underlying ht,sizeOf,typeInfo,hi,Builtin.lenOf,Builtin.firstCells,loadCells,loadCellsFrom]
  ·have hr:=run_append_nil (P:=P) w t ty e i z ht hi hz a m c d hl A zb zb (by have hb:=B;simp only [xB] at hb;omega);have y:=grown 0 zb (λu hu=>by cases hu) (Value.ownBlock (.slice none 0 0));simp only [xB,XC,Array.empty_append] at y⊢;exact⟨_,_,hr,y.1,y.2.1,Or.inr rfl,y.2.2⟩
 ·obtain⟨s,e2,D,G⟩:=hv g rfl;have L:s=cur:=by
   rw [hg] at D;injection D with D;injection D with D;exact D.symm
  subst L;by_cases hroom:n+m<=cap
  ·have M:n*i.size+d.length<=s.size:=by rw [hl,hcs,<-QE];exact qS _ hroom
   have hr:=run_append_room (P:=P) w t ty e i ht hi g n cap s hg a m c d hl A h1 hroom M;refine⟨_,_,hr,⟨C,.inr ⟨g,cap,_,rfl,hbg,setRow_heap w g s _ e _ hg,hroom,F,?_,?_⟩⟩,⟨rfl,rfl,rfl,zA,λk _ hk=>setRow_other w g k _ (λe=>hk (by simp [Value.ownBlock,e]))⟩,Or.inl rfl,?_⟩
   ·simp only [XU,qB,qA,xZ,XP];omega
   ·rw [htake,<-C];exact jJ
   ·intro g' N;simp [Value.ownBlock] at N;subst N;refine⟨_,_,setRow_heap w g s _ e _ hg,λu hu=>?_⟩;rw [XW,XW] at hu;rcases hu with(hu|hu)|hu
    ·exact G u (xT hu)
    ·exact O u hu
    ·exact G u (XV hu)
  ·have H:∀j u,xs[j]?=some u->w.cell? ((⟨g,0,none⟩:Addr).add j)=some u:=h.cells (g:=g) rfl;have hr:=run_append_grow (P:=P) w t ty e i z ht hi hz ⟨g,0,none⟩ n cap xs h.1 H a m c d hl A zb zb (growslice_fits zb B);have J:∀u ∈ xs,Pc u:=λu hu=>G u (xT (by rw [htake];exact hu));have y:=grown cap zb J (Value.ownBlock (.slice (some ⟨g,0,none⟩) n cap));exact⟨_,_,hr,y.1,y.2.1,Or.inr rfl,y.2.2⟩
end
def VZ (z:Nat):RP Rat:=λw A n c xs=>zR w A n c xs/\∀ad,A=some ad->z<ad.block
theorem tC (z:Nat):uZ (VZ z) where
 len h:=h.1.len
 below h hb:=⟨h.1.keep hb,h.2⟩
 offS h hk hs ho:=⟨Zq zZ h.1 hk hs ho,h.2⟩
 nil w:=⟨z8.nil w,λad e=>by cases e⟩
theorem pU (h:zR w A n c xs)(k:∀ad,A=some ad->ad.block≠g)(hk:zh w g t cs)(a:ua .u64 cs)(ho:zP g w w'):zR w' A n c xs:=by
 refine⟨h.len,h.fits,h.most,λi x hi=>?_⟩;obtain⟨ad,b,B,m,d,F,u,v,e,h1,h2,h3,h4,h5⟩:=h.num i x hi;have hc:∀j,w'.cell? (ad.add j)=w.cell? (ad.add j):=λj=>ho.2 _ (by rw [yk];exact h1) (by rw [yk];exact k ad e);exact⟨ad,b,B,m,d,F,u,v,e,qJ h1 ho.1,(hc _).trans h2,(hc _).trans h3,(hc _).trans h4,yy hk a ho h5⟩
theorem UB {z:Nat}(h:VZ z w A n c xs)(hk:zh w z t cs)(a:ua .u64 cs)(ho:zP z w w'):VZ z w' A n c xs:=
 ⟨pU h.1 (λad e=>by have:=h.2 ad e;omega) hk a ho,h.2⟩
theorem wl.off {α:Type}{R:RP α}{Ls:List (List α)}(h:wl R w c t v Ls vs)(hb:∀g s cs,v.ownBlock=some g->zh w g s cs->zh w' g s cs)
  (hE:∀{B:ze} {m d:Nat} {L:List α},R w B m d L->R w' B m d L):wl R w' c t v Ls vs:=by
 refine⟨⟨h.own.1,?_⟩,λg e=>?_,λi L hi=>?_⟩
 ·rcases h.own.2 with h1|⟨g,cap,a,e1,e2,e3,e4⟩
  ·exact .inl h1
  ·exact .inr ⟨g,cap,a,e1,e2,hb g t a (by rw [e1];rfl) e3,e4⟩
 ·obtain⟨a,s,h1,h2⟩:=h.sl g e;exact⟨a,s,hb g s a e h1,h2⟩
 ·obtain⟨B,d,hv,hw⟩:=h.num i L hi;exact⟨B,d,hv,hE hw⟩
theorem wl.at_ {α:Type}{R:RP α}{d n:Nat}{k:Nat}{Ls:List (List α)}(h:wl R w d t (.slice A k c) Ls vs)(hn:0<Ls.length):∃g a,A=some ⟨g,0,none⟩/\d<=g/\k=Ls.length/\k<=c/\c<=maxLen/\zh w g t a/\a.size=c/\a.toList.take k=vs/\∀u ∈ a.toList,xp u:=by
 rcases h.own.2 with⟨_,h0⟩|⟨g,cap,a,e1,e2,e3,e4,e5,e6,e7⟩
 ·omega
 ·injection e1 with a1 a2 a3;subst a1 a2 a3;obtain⟨cur2,s,h1,h2⟩:=h.sl g rfl;rw [e3] at h1;injection h1 with h1;injection h1 with h1 _;subst h1;exact⟨g,a,rfl,e2,rfl,e4,e5,e3,zb,by rw [<-e7,xV],h2⟩
theorem wl.set_ {α:Type}{R:RP α}(hR:uZ R){w:World}{a:Nat}{t:TypeId}{g k c:Nat}{Ls:List (List α)}{vs:List Value}(h:wl R w a t (.slice (some ⟨g,0,none⟩) k c) Ls vs){i:Nat}(hi:i<Ls.length){L:List α}{B:ze}{m d:Nat}(hx:R w B m d L)(hm:L.length=m):
  wl R (w.setCell ⟨g,i,none⟩ (.slice B m d)) a t (.slice (some ⟨g,0,none⟩) k c) (Ls.set i L) (vs.set i (.slice B m d)):=by
 subst hm;obtain⟨g',cur,e1,e2,e3,e4,e5,hk,e6,e7,hs⟩:=h.at_ (n:=0) zb;injection e1 with e1;injection e1 with e1;subst e1;have hl:=h.len;have ho:zP g w (w.setCell ⟨g,i,none⟩ (.slice B L.length d)):=zP.of_far ((yb.refl g w).set_ i _);have o:=hk.set_ i (.slice B L.length d);refine⟨⟨by rw [QX,QX,hl,xV],.inr ⟨g,c,_,by rw [QX,<-e3],e2,o,by rw [QX,<-e3];exact e4,e5,by simp;exact e6,?_⟩⟩,λq hq=>?_,λj M hj=>?_⟩
 ·rw [QX,<-e3,xV,QD,YV,e7]
 ·simp [Value.ownBlock] at hq;subst hq;refine⟨_,_,o,λu hu=>?_⟩;rw [QD] at hu;rcases QW hu with hu|rfl
  ·exact hs u hu
  ·exact⟨_,_,_,rfl⟩
 ·by_cases hij:i=j
  ·subst hij;rw [XY hi] at hj;injection hj with hj;subst hj;exact⟨B,d,by rw [XY zb],hR.offS hx hk hs ho⟩
  ·rw [XZ hij] at hj;obtain⟨B',d',c1,c2⟩:=h.num j M hj;exact⟨B',d',by rw [XZ hij];exact c1,hR.offS c2 hk hs ho⟩
def lN (u:Value):Prop:=∃z,u=.int .i64 z
def vj (ld:List Nat):List Value:=ld.map λl:Nat=>.int .i64 (l:Int)
structure ws (w:World)(base:Nat)(v:Value)(ld:List Nat):Prop where
 own:w.ownsRow base 3 1 v ld.length (vj ld)
 pr:oo lN w v
theorem ws.nil (w:World)(a:Nat):ws w a (.slice none 0 0) []:=⟨XO _ _ _ _,oo.nil _ _⟩
theorem ws.off (h:ws w c v ld)(hb:∀g s cs,v.ownBlock=some g->zh w g s cs->zh w' g s cs):ws w' c v ld:=by
 refine⟨⟨h.own.1,?_⟩,λg e=>?_⟩
 ·rcases h.own.2 with h1|⟨g,cap,a,e1,e2,e3,e4⟩
  ·exact .inl h1
  ·exact .inr ⟨g,cap,a,e1,e2,hb g _ a (by rw [e1];rfl) e3,e4⟩
 ·obtain⟨a,s,h1,h2⟩:=h.pr g e;exact⟨a,s,hb g s a e h1,h2⟩
theorem ws.shape (h:ws w a v ld):∃A c,v=.slice A ld.length c/\ld.length<=c/\c<=9223372036854775807/\(∀ad,A=some ad->a<=ad.block)/\∀i,i<ld.length->∃ad,A=some ad/\w.cell? (ad.add i)=some (.int .i64 (ld.getD i 0:Nat)):=by
 rcases h.own.2 with⟨rfl,h0⟩|⟨g,cap,cur,rfl,hbg,hg,hnc,hcm,hcs,htake⟩
 ·exact⟨none,0,by rw [h0],zb,zf,(λad e=>by cases e),λi hi=>by omega⟩
 ·have d:=h.own.cells (g:=g) rfl;refine⟨some ⟨g,0,none⟩,cap,rfl,hnc,by unfold maxLen at hcm;omega,(λad e=>by injection e with e;subst e;exact hbg),λi hi=>⟨_,rfl,d _ _ ?_⟩⟩;unfold vj;rw [qN,qQ,qY hi];rfl
theorem dU (hs:∀u ∈ cs.toList,lN u):ua .u64 cs:=λu hu z e=>by
 obtain⟨z',e2⟩:=hs u hu;rw [e2] at e;cases e
theorem oP (hs:∀u ∈ cs.toList,xp u):ua .u64 cs:=λu hu z e=>by
 obtain⟨A,n,c,e2⟩:=hs u hu;rw [e2] at e;cases e
def RV (w:World)(x:Rat)(x0 x1 x2:Value):Prop:=∃(b:Bool) (A:ze) (n c:Nat) (E:ze) (k f:Nat),x0=.bool b/\x1=.slice A n c/\x2=.slice E k f/\zo w x b A n c E k f
theorem RV.of (h:zo w x b A n c E k f):RV w x (.bool b) (.slice A n c) (.slice E k f):=⟨_,_,_,_,_,_,_,rfl,rfl,rfl,h⟩
theorem RV.below (h:RV w x x0 x1 x2)(hb:Below w.heap.size w w'):RV w' x x0 x1 x2:=by
 obtain⟨b,A,n,c,E,k,f,e0,e1,e2,hr⟩:=h;exact⟨b,A,n,c,E,k,f,e0,e1,e2,hr.below hb⟩
theorem RV.off (h:RV w x x0 x1 x2)(hk:zh w g t cs)(a:ua .u64 cs)(ho:zP g w w'):RV w' x x0 x1 x2:=by
 obtain⟨b,A,n,c,E,k,f,e0,e1,e2,hr⟩:=h;exact⟨b,A,n,c,E,k,f,e0,e1,e2,yy hk a ho hr⟩
structure xl (w:World)(g:Nat)(e:v8)(rd:Rat)(A:ze)(n cA:Nat)(B:ze)(k cB:Nat)(x0 x1 x2 y0 y1 y2:Value):Prop where
 blk:zh w g 106 #[.slice A n cA,.slice B k cB,x0,x1,x2,y0,y1,y2]
 hn:e.S.length=n
 hk:e.ld.length=k
 rows:∃vs,wl (VZ g) w g 41 (.slice A n cA) e.S vs
 lds:ws w g (.slice B k cB) e.ld
 lead:RV w e.p x0 x1 x2
 rsd:RV w rd y0 y1 y2
section
variable {w w':World}{g:Nat}{e:v8}{rd:Rat}{A:ze}{n cA:Nat}{B:ze}{k cB:Nat}{x0 x1 x2 y0 y1 y2:Value}
theorem xl.below (h:xl w g e rd A n cA B k cB x0 x1 x2 y0 y1 y2)(hb:Below w.heap.size w w'):xl w' g e rd A n cA B k cB x0 x1 x2 y0 y1 y2:=by
 obtain⟨vs,hr⟩:=h.rows;exact{blk:=zg hb h.blk,hn:=h.hn,hk:=h.hk,rows:=⟨vs,hr.below (tC g) hb⟩,lds:=h.lds.off λq s cs _ hq=>zg hb hq,lead:=h.lead.below hb,rsd:=h.rsd.below hb}
theorem xl.nok (h:xl w g e rd A n cA B k cB x0 x1 x2 y0 y1 y2):ua .u64 #[.slice A n cA,.slice B k cB,x0,x1,x2,y0,y1,y2]:=by
 obtain⟨_,_,_,_,_,_,_,rfl,rfl,rfl,_⟩:=h.lead;obtain⟨_,_,_,_,_,_,_,rfl,rfl,rfl,_⟩:=h.rsd;intro v hv z e;simp at hv;rcases hv with rfl|rfl|rfl|rfl|rfl|rfl|rfl|rfl<;>cases e
theorem ir {q:Nat}{s:TypeId}{ds:Array Value}(h:zh w q t cs)(h':zh w q s ds):t=s:=by
 unfold zh at h h';rw [h] at h';injection h' with h';injection h' with _ h'
theorem xl.neA (h:xl w g e rd A n cA B k cB x0 x1 x2 y0 y1 y2){q:Nat}(hq:(Value.slice A n cA).ownBlock=some q):q≠g/\∃cs,zh w q 41 cs/\∀u ∈ cs.toList,xp u:=by
 obtain⟨vs,hr⟩:=h.rows;rcases hr.own.2 with⟨h1,_⟩|⟨g',cap,cur,e1,e2,e3,_⟩
 ·rw [h1] at hq;cases hq
 ·rw [e1] at hq;simp [Value.ownBlock] at hq;subst hq;obtain⟨a,s,h1,h2⟩:=hr.sl g' (by rw [e1];rfl);have:a=cur:=by rw [e3] at h1;injection h1 with h1;injection h1 with h1 _;exact h1.symm
  subst this;exact⟨λe=>absurd (ir e3 (e▸h.blk)) zf,a,e3,h2⟩
theorem xl.neB (h:xl w g e rd A n cA B k cB x0 x1 x2 y0 y1 y2){q:Nat}(hq:(Value.slice B k cB).ownBlock=some q):q≠g/\∃cs,zh w q 3 cs/\∀u ∈ cs.toList,lN u:=by
 rcases h.lds.own.2 with⟨h1,_⟩|⟨g',cap,cur,e1,e2,e3,_⟩
 ·rw [h1] at hq;cases hq
 ·rw [e1] at hq;simp [Value.ownBlock] at hq;subst hq;obtain⟨a,s,h1,h2⟩:=h.lds.pr g' (by rw [e1];rfl);have:a=cur:=by rw [e3] at h1;injection h1 with h1;injection h1 with h1 _;exact h1.symm
  subst this;exact⟨λe=>absurd (ir e3 (e▸h.blk)) zf,a,e3,h2⟩
theorem xl.setRow {q:Nat}(h:xl w g e rd (some ⟨q,0,none⟩) n cA B k cB x0 x1 x2 y0 y1 y2){i:Nat}(hi:i<n){L:List Rat}{C:ze}{m d:Nat}(hx:VZ g w C m d L)(hm:L.length=m):xl (w.setCell ⟨q,i,none⟩ (.slice C m d)) g {e with S:=e.S.set i L} rd (some ⟨q,0,none⟩) n cA B k cB x0 x1 x2 y0 y1 y2:=by
 obtain⟨a,cs,hq,hs⟩:=h.neA (q:=q) rfl;obtain⟨vs,hr⟩:=h.rows;have ho:zP q w (w.setCell ⟨q,i,none⟩ (.slice C m d)):=zP.of_far ((yb.refl q w).set_ i _);exact {
  blk:=zh.far (p:=⟨q,i,none⟩) h.blk (Ne.symm a) _
  hn:=by rw [<-h.hn];exact QX
  hk:=h.hk
  rows:=⟨_,hr.set_ (tC g) (by rw [h.hn];exact hi) hx hm⟩
  lds:=h.lds.off λp s ds hp hk=>zh.far (p:=⟨q,i,none⟩) hk (λe=>by
   obtain⟨_,ds',h1,_⟩:=h.neB hp;subst e;exact absurd (ir hq h1) zf) _
  lead:=h.lead.off hq (oP hs) ho
  rsd:=h.rsd.off hq (oP hs) ho}
theorem xl.store (h:xl w g e rd A n cA B k cB x0 x1 x2 y0 y1 y2)(hf:yb g w w'){z0 z1 z2 u0 u1 u2:Value}{p c:Rat}(hb:zh w' g 106 #[.slice A n cA,.slice B k cB,z0,z1,z2,u0,u1,u2])(hp:RV w p z0 z1 z2)(d:RV w c u0 u1 u2)(a:∀q s cs,q≠g->zh w q s cs->zh w' q s cs):xl w' g {e with p:=p} c A n cA B k cB z0 z1 z2 u0 u1 u2:=by
 obtain⟨vs,hr⟩:=h.rows;have ho:=zP.of_far hf;exact {
  blk:=hb
  hn:=h.hn
  hk:=h.hk
  rows:=⟨vs,hr.off (λq s cs hq hk=>a q s cs (h.neA hq).1 hk) (λhx=>UB hx h.blk h.nok ho)⟩
  lds:=h.lds.off λq s cs hq hk=>a q s cs (h.neB hq).1 hk
  lead:=hp.off h.blk h.nok ho
  rsd:=d.off h.blk h.nok ho}
end
def nL (ld:List Nat):List Int:=ld.map λl:Nat=>(l:Int)
theorem ws.ints {B:ze}(h:ws w a (.slice B k c) ld)(hb:∀l ∈ ld,l<128):sF w B k (nL ld):=by
 obtain⟨B',c',e,-,-,-,h1⟩:=h.shape;injection e with e1 e2 e3;subst e1 e2;refine⟨by unfold nL;rw [QH],λi hi=>?_,λi hi=>?_⟩
 ·unfold nL;rw [qQ,qN,qY hi];have:=hb _ (xH hi);show -9223372036854775808<=((ld[i]:Nat):Int)/\((ld[i]:Nat):Int)<=9223372036854775807;omega
 ·obtain⟨ad,e,hc⟩:=h1 i hi;refine⟨ad,e,?_⟩;rw [hc];unfold nL;rw [qQ,qQ,qN,qY hi];rfl
theorem sF.keep {w':World}(h:sF w A n zs)(hb:Below w.heap.size w w'):sF w' A n zs:=
 ⟨h.len,h.ints,λi hi=>by obtain⟨ad,e,hc⟩:=h.num i hi;exact⟨ad,e,zv hb hc⟩⟩
theorem sF.off (h:sF w A n zs)(hk:zh w g t cs)(a:ua .i64 cs)(ho:zP g w w'):sF w' A n zs:=
 ⟨h.len,h.ints,λi hi=>by
  obtain⟨ad,e,hc⟩:=h.num i hi;refine⟨ad,e,(ho.2 _ (QB w _ hc) λhg=>?_).trans hc⟩;generalize ad.add i=q at hc hg;obtain⟨bk,off,pr⟩:=q;simp only at hg;subst hg;unfold zh at hk;cases pr with
  |none=>
    rw [show w.cell? ⟨bk,off,none⟩=cs[off]? from cell_of_row w bk off _ t (0,0) hk,<-QS] at hc;exact a _ (QJ hc) _ rfl
  |some q=>simp [World.cell?,hk] at hc⟩
section
variable {w:World}{A:ze}{n c m K K0:Nat}{MM:List (List Rat)}
end
