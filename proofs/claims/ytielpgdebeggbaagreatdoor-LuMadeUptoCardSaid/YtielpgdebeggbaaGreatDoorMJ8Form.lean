/- What this claim leans on. -/
import Derived.Test.YtielpgdebeggbaaGreatDoorMVPair
set_option linter.unusedVariables false
set_option linter.unusedSimpArgs false
namespace Go.Proofs.YtielpgdebeggbaaGreatDoor
open Go Go.RowKit Go.Proofs.Tryz
set_option maxHeartbeats 16000000
set_option maxRecDepth 100000
variable {vs:List Value}{g:Nat}{t:TypeId}{v:Value}{w w':World}
theorem SA (r:Rat)(s:Bool)(x:Nat)(y:Nat)(i:ze)(g k:Nat)(j:ze)(d m:Nat)(w:World)(hT:zu w)(z:zq w x i g k)(o:zq w y j d m)(U:g<=268435456)(V:d<=268435456)(hn:r.num=z4 s x)(hd:r.den=y)(hy:y=1):
  Calls prog 65 #[.bool s,.agg #[.slice i g k],.agg #[.slice j d m]] w (yj w r):=by
 have M:=zb (vy (T:=zu));have HT:=zk w (λw' hb=>hT.on hb);have HTB:=HT;obtain⟨K,S⟩:∃K,268435456=K:=⟨_,rfl⟩;have hKK:K<=268435456:=za;have hK0:0<K:=za;have Q:=zb hn;have P:zd (r.den=1):=hd.trans hy;have N:zd (d<=1):=mw o hy;have R:zd (((wd y 0:Nat):Int)=1):=by show _=_;rw [hy];rfl
 have t:=zk w (λw' b=>z.below b);have u:zd (Sz K x):=Sz.of_words z za;clear z U;have C:=zk w (λw' b=>o.below b);have HZab:zd (Sz K y):=Sz.of_words o za;clear o V;clear hT S hn hd hy;go_enter func65,ntmps65;have hB:=qZ w.heap.size w;have I:=(xd w 48 48 52 #[.slice i g k] #[.slice j d m] #[.bool false,.slice none 0 0,.slice none 0 0]).2.2.1;obtain⟨D,E,F,G,bz⟩:=xd w 48 48 52 #[.slice i g k] #[.slice j d m] #[.bool false,.slice none 0 0,.slice none 0 0];have hB:=zc hB D;have g1:=E.c1;have g2:=F.c1;have k3:=G;clear D E F G bz;go_wp2_with fail;generalize ((w.alloc (.cells #[.slice i g k] 48)).alloc (.cells #[.slice j d m] 48)).alloc (.cells #[.bool false,.slice none 0 0,.slice none 0 0] 52)=W1 at*;have k2:=I;clear I;(with_reducible refine(TQ (R.o) (fS (y) j d m _ (C.o _ hB) N.o)).mono ?_);rintro e B ⟨rfl,hb⟩;have hB:=zc hB hb;obtain⟨g1,g2⟩:=xk hb g1 g2;obtain⟨k3,k2⟩:=yu hb k3 k2;clear hb ;have n:=zb (cN B);obtain⟨J,L⟩:=iC k2;have A:=ju k2 (.slice none 0 0);have g1:=yk (q:=⟨w.heap.size+1,0,none⟩) (.slice none 0 0) (by show w.heap.size≠w.heap.size+1;omega) (g1);have k3:=zh.far (p:=⟨w.heap.size+1,0,none⟩) (k3) (by show w.heap.size+1+1≠w.heap.size+1;omega) (.slice none 0 0);have n:=zb (uO n.o k2 (y9.s1 _ _ _) (rn _ _ (.slice none 0 0)));have hB:=gT (.slice none 0 0) (by show w.heap.size<=w.heap.size+1;omega) hB;have g2:(B.setCell ⟨w.heap.size+1,0,none⟩ (.slice none 0 0)).cell? ⟨w.heap.size+1,0,none⟩=some (.slice none 0 0):=A.cell 0;have k2:=A;go_wp2_with fail;clear J L A;generalize B.setCell ⟨w.heap.size+1,0,none⟩ (.slice none 0 0)=W3 at*;go_wp2_with fail;have HZ5:zd (Sz (K) (z4 s x).natAbs):=(by rw [jT];exact u.o);have C0:=zk W3 (λw' h=>M.o.new s (x) i g k w' (HT.o _ (zc hB h)) (t.o _ (zc hB h)) (y7 u (t.o _ hB)));have a:=(qZ W3.heap.size W3).drew;refine rg (zj g1 (zj g2 zO)) (λhHeld=>?_);refine tk 0 ?_;refine tk 1 ?_;refine tk 3 ?_;refine rc 2 (λK hK=>?_);go_simp;go_at_call 113;(with_reducible refine(C0.o _ a).mono ?_);rintro e wa4 ⟨b5,B5,m5,d5,rfl,H,hb⟩;have a:=zc a hb;refine hK.out _ _ (Cs.below hHeld hb) (λhHeld=>?_);clear hK K hb
 try simp only [z8]
 refine tk 4 ?_;obtain⟨J,L,sc1,sf1,sc2,sf2⟩:=y6 (zg a k3) (.bool b5) (.slice B5 m5 d5);refine rc 5 (λK hK=>?_);go_simp;refine hK.out _ _ (v7 (.bool b5) (.slice B5 m5 d5) (.slice none 0 0) hHeld) (λhHeld=>?_);clear hK K
 try simp only [z8]
 refine zV ?_;have hB:=zc hB a;have g1:=zw a g1;obtain⟨k3,k2⟩:=yu a k3 k2;have n:=zb (n.o.below a);have g2:=zw a g2;have O:=zb H;clear a hHeld H C0;obtain⟨r0,r1,r2⟩:=(xf k3 (.bool b5) (.slice B5 m5 d5) (.slice none 0 0)).c3;have HG:=zb (va (PP Q.o P.o O.o n.o) k3 hB za);go_wp2;refine bodyPost_ret (v:=.agg #[.bool b5,.slice B5 m5 d5,.slice none 0 0]) (by simp [results,results65,go_sem,r0,r1,r2]) rfl ?_;exact HG.o
theorem SB (r:Rat)(s:Bool)(x:Nat)(y:Nat)(k:ze)(j m:Nat)(d:ze)(a g:Nat)(w:World)(hT:zu w)(z:zq w x k j m)(n:zq w y d a g)(P:j<=268435456)(Q:a<=268435456)(hn:r.num=z4 s x)(hd:r.den=y)(hy:y≠1)(hm:a<=1):
  Calls prog 65 #[.bool s,.agg #[.slice k j m],.agg #[.slice d a g]] w (yj w r):=by
 have H:=zb (vy (T:=zu));have HT:=zk w (λw' hb=>hT.on hb);have HTB:=HT;obtain⟨K,O⟩:∃K,268435456=K:=⟨_,rfl⟩;have hKK:K<=268435456:=za;have hK0:0<K:=za;have M:=zb hn;have L:=zb hd;have HY:=zb hy;have I:=zb hm;have N:zd (((wd y 0:Nat):Int)=(y:Int)):=by show _=_;rw [Xm (Oh n hm)]
 have kb1:((y:Int)==1)=false:=by rw [beq_eq_false_iff_ne];omega
 have o:=zk w (λw' b=>z.below b);have u:zd (Sz K x):=Sz.of_words z za;clear z P;have t:=zk w (λw' b=>n.below b);have HZab:zd (Sz K y):=Sz.of_words n za;clear n Q;clear hT O hn hd hy hm;go_enter func65,ntmps65;have hB:=qZ w.heap.size w;have G:=(xd w 48 48 52 #[.slice k j m] #[.slice d a g] #[.bool false,.slice none 0 0,.slice none 0 0]).2.2.1;obtain⟨B,C,D,E,bz⟩:=xd w 48 48 52 #[.slice k j m] #[.slice d a g] #[.bool false,.slice none 0 0,.slice none 0 0];have hB:=zc hB B;have g1:=C.c1;have g2:=D.c1;have k3:=E;clear B C D E bz;go_wp2_with fail;generalize ((w.alloc (.cells #[.slice k j m] 48)).alloc (.cells #[.slice d a g] 48)).alloc (.cells #[.bool false,.slice none 0 0,.slice none 0 0] 52)=W1 at*;have k2:=G;clear G;(with_reducible refine(TQ (N.o) (fS (y) d a g _ (t.o _ hB) I.o)).mono ?_);rintro e A ⟨rfl,hb⟩;have hB:=zc hB hb;obtain⟨g1,g2⟩:=xk hb g1 g2;obtain⟨k3,k2⟩:=yu hb k3 k2;clear hb ;go_wp2_with fail;have HZ4:zd (Sz (K) (z4 s x).natAbs):=(by rw [jT];exact u.o);have C0:=zk A (λw' h=>H.o.new s (x) k j m w' (HT.o _ (zc hB h)) (o.o _ (zc hB h)) (y7 u (o.o _ hB)));have i:=(qZ A.heap.size A).drew;refine rg (zj g1 (zj g2 zO)) (λhHeld=>?_);refine tk 0 ?_;refine tk 1 ?_;refine tk 3 ?_;refine rc 2 (λK hK=>?_);go_simp;go_at_call 113;(with_reducible refine(C0.o _ i).mono ?_);rintro e wa3 ⟨b4,B4,m4,d4,rfl,F,hb⟩;have i:=zc i hb;refine hK.out _ _ (Cs.below hHeld hb) (λhHeld=>?_);clear hK K hb
 try simp only [z8]
 refine tk 4 ?_;obtain⟨sc0,sf0,sc1,sf1,sc2,sf2⟩:=y6 (zg i k3) (.bool b4) (.slice B4 m4 d4);refine rc 5 (λK hK=>?_);go_simp;refine hK.out _ _ (v7 (.bool b4) (.slice B4 m4 d4) (.slice d a g) hHeld) (λhHeld=>?_);clear hK K
 try simp only [z8]
 refine zV ?_;have hB:=zc hB i;obtain⟨g1,g2⟩:=xk i g1 g2;obtain⟨k3,k2⟩:=yu i k3 k2;have J:=zb F;clear i hHeld F C0;obtain⟨r0,r1,r2⟩:=(xf k3 (.bool b4) (.slice B4 m4 d4) (.slice d a g)).c3;have HG:=zb (va (WS M.o L.o HY.o J.o (t.o _ hB)) k3 hB za);go_wp2;refine bodyPost_ret (v:=.agg #[.bool b4,.slice B4 m4 d4,.slice d a g]) (by simp [results,results65,go_sem,r0,r1,r2]) rfl ?_;exact HG.o
theorem SC (r:Rat)(s:Bool)(x:Nat)(y:Nat)(k:ze)(j m:Nat)(d:ze)(a g:Nat)(w:World)(hT:zu w)(t:zq w x k j m)(u:zq w y d a g)(O:j<=268435456)(P:a<=268435456)(hn:r.num=z4 s x)(hd:r.den=y)(hy:y≠1)(hm:1<a):
  Calls prog 65 #[.bool s,.agg #[.slice k j m],.agg #[.slice d a g]] w (yj w r):=by
 have H:=zb (vy (T:=zu));have HT:=zk w (λw' hb=>hT.on hb);have HTB:=HT;obtain⟨K,N⟩:∃K,268435456=K:=⟨_,rfl⟩;have hKK:K<=268435456:=za;have hK0:0<K:=za;have M:=zb hn;have L:=zb hd;have HY:=zb hy;have I:=zb hm;have n:=zk w (λw' b=>t.below b);have o:zd (Sz K x):=Sz.of_words t za;clear t O;have A:=zk w (λw' b=>u.below b);have HZab:zd (Sz K y):=Sz.of_words u za;clear u P;clear hT N hn hd hy hm;go_enter func65,ntmps65;have hB:=qZ w.heap.size w;have G:=(xd w 48 48 52 #[.slice k j m] #[.slice d a g] #[.bool false,.slice none 0 0,.slice none 0 0]).2.2.1;obtain⟨B,C,D,E,bz⟩:=xd w 48 48 52 #[.slice k j m] #[.slice d a g] #[.bool false,.slice none 0 0,.slice none 0 0];have hB:=zc hB B;have g1:=C.c1;have g2:=D.c1;have k3:=E;clear B C D E bz;go_wp2_with fail;generalize ((w.alloc (.cells #[.slice k j m] 48)).alloc (.cells #[.slice d a g] 48)).alloc (.cells #[.bool false,.slice none 0 0,.slice none 0 0] 52)=W1 at*;have k2:=G;clear G;(with_reducible refine(fP d a g _ I.o).mono ?_);rintro e z ⟨rfl,hb⟩;have hB:=zc hB hb;obtain⟨g1,g2⟩:=xk hb g1 g2;obtain⟨k3,k2⟩:=yu hb k3 k2;clear hb ;go_wp2_with fail;have HZ4:zd (Sz (K) (z4 s x).natAbs):=(by rw [jT];exact o.o);have C0:=zk z (λw' h=>H.o.new s (x) k j m w' (HT.o _ (zc hB h)) (n.o _ (zc hB h)) (y7 o (n.o _ hB)));have i:=(qZ z.heap.size z).drew;refine rg (zj g1 (zj g2 zO)) (λhHeld=>?_);refine tk 0 ?_;refine tk 1 ?_;refine tk 3 ?_;refine rc 2 (λK hK=>?_);go_simp;go_at_call 113;(with_reducible refine(C0.o _ i).mono ?_);rintro e wa3 ⟨b4,B4,m4,d4,rfl,F,hb⟩;have i:=zc i hb;refine hK.out _ _ (Cs.below hHeld hb) (λhHeld=>?_);clear hK K hb
 try simp only [z8]
 refine tk 4 ?_;obtain⟨sc0,sf0,sc1,sf1,sc2,sf2⟩:=y6 (zg i k3) (.bool b4) (.slice B4 m4 d4);refine rc 5 (λK hK=>?_);go_simp;refine hK.out _ _ (v7 (.bool b4) (.slice B4 m4 d4) (.slice d a g) hHeld) (λhHeld=>?_);clear hK K
 try simp only [z8]
 refine zV ?_;have hB:=zc hB i;obtain⟨g1,g2⟩:=xk i g1 g2;obtain⟨k3,k2⟩:=yu i k3 k2;have J:=zb F;clear i hHeld F C0;obtain⟨r0,r1,r2⟩:=(xf k3 (.bool b4) (.slice B4 m4 d4) (.slice d a g)).c3;have HG:=zb (va (WS M.o L.o HY.o J.o (A.o _ hB)) k3 hB za);go_wp2;refine bodyPost_ret (v:=.agg #[.bool b4,.slice B4 m4 d4,.slice d a g]) (by simp [results,results65,go_sem,r0,r1,r2]) rfl ?_;exact HG.o
theorem fX (r:Rat)(s:Bool)(x:Nat)(y:Nat)(g:ze)(d i:Nat)(h:ze)(a j:Nat)(w:World)(hT:zu w)(k:zq w x g d i)(m:zq w y h a j)(n:d<=268435456)(o:a<=268435456)(hn:r.num=z4 s x)(hd:r.den=y):
  Calls prog 65 #[.bool s,.agg #[.slice g d i],.agg #[.slice h a j]] w (yj w r):=by
 by_cases hy:y=1
 ·exact SA r s x y g d i h a j w hT k m n o hn hd hy
 ·by_cases hm:a<=1
  ·exact SB r s x y g d i h a j w hT k m n o hn hd hy hm
  ·exact SC r s x y g d i h a j w hT k m n o hn hd hy za
def vW (u:Value):Prop:=∀k z,u≠.int k z
def wS (w:World)(v:Value):Prop:=∀g,v.ownBlock=some g->∃(cur:Array Value) (e:TypeId),w.heap[g]?=some (.cells cur e (0,0))/\∀u ∈ cur.toList,vW u
theorem wS.nil (w:World)(c:Nat):wS w (.slice none 0 c):=λg h=>by simp [Value.ownBlock] at h
theorem wS.block (h:wS w v)(hg:∀g,v.ownBlock=some g->w'.heap[g]?=w.heap[g]?):wS w' v:=λg e=>by
 obtain⟨a,t,h1,h2⟩:=h g e;exact⟨a,t,(hg g e).trans h1,h2⟩
theorem wS.below (h:wS w v)(hb:Below w.heap.size w w'):wS w' v:=λg e=>by
 obtain⟨a,t,h1,h2⟩:=h g e;exact⟨a,t,(hb.block g (Array.getElem?_eq_some_iff.1 h1).1).trans h1,h2⟩
theorem Se {z:Array Value}{k:Nat}{u:Value}(hz:0<z.size)(hu:u ∈(Builtin.zeroCells z k).toList):u ∈ z.toList:=by
 unfold Builtin.zeroCells at hu;rw [YX,Array.mem_map] at hu;obtain⟨i,_,rfl⟩:=hu;have a:i%z.size<z.size:=xD _ hz;rw [getElem!_pos z (i%z.size) a,YX];exact Array.getElem_mem a
section
variable {P:Program}(w:World)
theorem Xy (o:Nat)(t ty e:TypeId)(i:TypeInfo)(z:Value)(size bytes:Nat)(ht:P.underlying t=some (.slice e))(hi:P.info? e=some i)(hz:i.zero=some z)
  (I:i.size=size) (Q:i.bytes=bytes) (T:z.cells.size=size) (hsz:0<size)
  (v:Value) (n:Nat) (xs:List Value) (h:w.ownsRow o e size v n xs)
  (a:Addr) (m c:Nat) (d:List Value) (hl:d.length=m*size) (A:∀j u,d[j]?=some u->w.cell? (a.add j)=some u) (h1:∀u ∈ d,u.oneCell'=true)
  (K:n+m<=maxLen) (B:(n+m)*bytes<=140737488355328) (E:o<=w.heap.size)
  (hv:wS w v) (S:∀u ∈ z.cells.toList,vW u) (O:∀u ∈ d,vW u):
  ∃ v' w',(Builtin.append_ #[t,t] ty #[v,.slice (some a) m c]).run P w = .ok v' w' ∧ w'.ownsRow o e size v' (n + m) (xs ++ d) ∧ w.grownBy w' v.ownBlock ∧
   (v'.ownBlock=v.ownBlock\/v'.ownBlock=some w.heap.size)/\wS w' v':=by
 subst I;subst Q;have hsmall:n+m<=9223372036854775807:=by simp only [maxLen] at K;omega
 have C:(xs++d).length=(n+m)*i.size:=by rw [qB,h.1,hl,QB]
 have grown : ∀ (old : Nat),old < n + m → (∀ u ∈ xs,vW u) → ∀ (row : Option Nat),
   (w.drew.alloc (.cells (xs.toArray ++ d.toArray ++ Builtin.zeroCells z.cells (grownCap w (n + m) old e - (n + m))) e)).ownsRow o e i.size
     (.slice (some ⟨w.heap.size,0,none⟩) (n+m) (grownCap w (n+m) old e)) (n+m) (xs++d)/\
   w.grownBy (w.drew.alloc (.cells (xs.toArray++d.toArray++Builtin.zeroCells z.cells (grownCap w (n+m) old e - (n+m))) e)) row/\
   wS (w.drew.alloc (.cells (xs.toArray++d.toArray++Builtin.zeroCells z.cells (grownCap w (n+m) old e - (n+m))) e)) (.slice (some ⟨w.heap.size,0,none⟩) (n+m) (grownCap w (n+m) old e)):=by
  intro old ho J row;have R:=grownCap_ge w (n+m) old e;have F:grownCap w (n+m) old e<=maxLen:=grownCap_le_maxLen w (n+m) old e K;refine⟨⟨C,.inr ⟨w.heap.size,_,_,rfl,E,heap_alloc_new w.drew _,R,F,?_,?_⟩⟩,⟨rfl,rfl,rfl,zF,λk hk _=>heap_alloc_old w.drew _ hk⟩,?_⟩
  ·simp only [Array.size_append,XG,size_zeroCells,T,h.1,hl,<-QB];congr 1;omega
  ·simp only [YG,xQ];rw [<-xQ,<-C];exact jJ
  ·intro g hg;simp [Value.ownBlock] at hg;subst hg;refine⟨_,_,heap_alloc_new w.drew _,λu hu=>?_⟩;simp only [YG,yX] at hu;rcases hu with(hu|hu)|hu
   ·exact J u hu
   ·exact O u hu
   ·exact S u (Se za hu)
 rcases h.2 with⟨rfl,rfl⟩|⟨g,cap,cur,rfl,hbg,hg,hnc,F,hcs,htake⟩
 ·have hx:xs=[]:=QV (by simpa using h.1);subst hx;by_cases hm:m=0
  ·subst hm;have hn:d=[]:=QV (by simpa using hl);subst hn;refine⟨.slice none 0 0,w,?_,XR w o e i.size,⟨rfl,rfl,rfl,qX _,λ_ _ _=>rfl⟩,Or.inl rfl,wS.nil _ _⟩;simp [Builtin.append_,run_underlying ht,sizeOf,typeInfo,hi,Builtin.lenOf,Builtin.firstCells,loadCells,loadCellsFrom]
  ·have hr:=run_append_nil (P:=P) w t ty e i z ht hi hz a m c d hl A za za (by have hb:=B;simp only [xH] at hb;omega);have y:=grown 0 za (λu hu=>by cases hu) (Value.ownBlock (.slice none 0 0));simp only [xH,XM,Array.empty_append] at y⊢;exact⟨_,_,hr,y.1,y.2.1,Or.inr rfl,y.2.2⟩
 ·obtain⟨s,e2,D,G⟩:=hv g rfl;have L:s=cur:=by
   rw [hg] at D;injection D with D;injection D with D;exact D.symm
  subst L;by_cases hroom:n+m<=cap
  ·have M:n*i.size+d.length<=s.size:=by rw [hl,hcs,<-QB];exact qS _ hroom
   have hr:=run_append_room (P:=P) w t ty e i ht hi g n cap s hg a m c d hl A h1 hroom M;refine⟨_,_,hr,⟨C,.inr ⟨g,cap,_,rfl,hbg,setRow_heap w g s _ e _ hg,hroom,F,?_,?_⟩⟩,⟨rfl,rfl,rfl,zF,λk _ hk=>setRow_other w g k _ (λe=>hk (by simp [Value.ownBlock,e]))⟩,Or.inl rfl,?_⟩
   ·simp only [XG,qB,qE,QE,XO];omega
   ·rw [htake,<-C];exact jJ
   ·intro g' N;simp [Value.ownBlock] at N;subst N;refine⟨_,_,setRow_heap w g s _ e _ hg,λu hu=>?_⟩;rw [yX,yX] at hu;rcases hu with(hu|hu)|hu
    ·exact G u (XX hu)
    ·exact O u hu
    ·exact G u (xP hu)
  ·have H:∀j u,xs[j]?=some u->w.cell? ((⟨g,0,none⟩:Addr).add j)=some u:=h.cells (g:=g) rfl;have hr:=run_append_grow (P:=P) w t ty e i z ht hi hz ⟨g,0,none⟩ n cap xs h.1 H a m c d hl A za za (growslice_fits za B);have J:∀u ∈ xs,vW u:=λu hu=>G u (XX (by rw [htake];exact hu));have y:=grown cap za J (Value.ownBlock (.slice (some ⟨g,0,none⟩) n cap));exact⟨_,_,hr,y.1,y.2.1,Or.inr rfl,y.2.2⟩
theorem Zi {D:Array Oper}{rest:List Oper}{o:Oper}{a:Act}{Q:Exit->Act->World->Prop}(G:o.guard=none)(s x:Operand)(t:TypeId)
  (ho:o.op=.call {callee:=.builtin .append,args:=#[s,x],argTypes:=#[t,t]})
  (g:Nat) (e:TypeId) (i:TypeInfo) (z:Value) (size bytes:Nat) (ht:P.underlying t=some (.slice e)) (hi:P.info? e=some i) (hz:i.zero=some z)
  (B:i.size=size) (F:i.bytes=bytes) (J:z.cells.size=size) (hsz:0<size)
  (v:Value) (n:Nat) (xs:List Value) (hs:a.eval s=v) (C:w.ownsRow g e size v n xs)
  (ad:Addr) (m c:Nat) (d:List Value) (hx:a.eval x=.slice (some ad) m c) (hl:d.length=m*size) (A:∀j u,d[j]?=some u->w.cell? (ad.add j)=some u) (h1:∀u ∈ d,u.oneCell'=true)
  (E:n+m<=maxLen) (k:(n+m)*bytes<=140737488355328) (y:g<=w.heap.size)
  (hv:wS w v) (I:∀u ∈ z.cells.toList,vW u) (H:∀u ∈ d,vW u)
  (h:∀v' w',w'.ownsRow g e size v' (n+m) (xs++d)->w.grownBy w' v.ownBlock->(v'.ownBlock=v.ownBlock\/v'.ownBlock=some w.heap.size)->wS w' v'->wpList P D Q rest (a.put o.dst v') w'):
  wpList P D Q (o::rest) a w:=by
 refine wpList_plain G λK hK=>?_;obtain⟨v',w',hr,h2,h3,h4,h5⟩:=Xy (P:=P) w g t o.type e i z size bytes ht hi hz B F J hsz v n xs C ad m c d hl A h1 E k y hv I H;unfold Oper.wp execOp;simp only [ho,resolve,invoke,builtin,Sem.run_bind,Sem.run_pure,Result.andThen_ok,yM,yQ,List.map_nil,hs,hx,hr];exact hK _ _ (h v' w' h2 h3 h4 h5)
end
theorem wS.blk (h:wS w v)(hg:v.ownBlock=some g):∃(t:TypeId) (cs:Array Value),zh w g t cs/\y9 cs:=by
 obtain⟨a,e,h1,h2⟩:=h g hg;exact⟨e,a,h1,λu hu k z=>h2 u hu k z⟩
theorem tY.grown {α:Type}{E:El α}(hE:tY E){w w':World}{v:Value}{x:α}{b:Bool}{A:ze}{n c:Nat}{F:ze}{k f:Nat}(h:E w x b A n c F k f)(hg:w.grownBy w' v.ownBlock)(hn:wS w v):E w' x b A n c F k f:=by
 cases hv:v.ownBlock with
 |none=>rw [hv] at hg;exact hE.below h (uI hg)
 |some g=>
   rw [hv] at hg;obtain⟨t,cs,hk,hc⟩:=hn.blk hv;exact hE.offg h hk hc (zZ.of_grown hg)
theorem uN {cs:Array Value}{row:Option Nat}(h:zh w g t cs)(hg:w.grownBy w' row)(a:row≠some g):zh w' g t cs:=(hg.block g (zh.lt h) (λe=>a e.symm)).trans h
structure y8 {α:Type}(E:El α)(w:World)(base:Nat)(t:TypeId)(v:Value)(xs:List α)(vs:List Value):Prop where
 own:w.ownsRow base t 3 v xs.length vs
 nou:wS w v
 num:∀i x,xs[i]?=some x->∃(b:Bool) (B:ze) (m d:Nat) (F:ze) (u f:Nat),vs[i*3]?=some (.bool b)/\vs[i*3+1]?=some (.slice B m d)/\vs[i*3+2]?=some (.slice F u f)/\E w x b B m d F u f
section
variable {α:Type}{E:El α}
theorem y8.nil (w:World)(a:Nat)(t:TypeId):y8 E w a t (.slice none 0 0) [] []:=⟨XR _ _ _ _,wS.nil _ _,λi x hi=>by simp at hi⟩
theorem y8.len {a:Nat}{xs:List α}(h:y8 E w a t v xs vs):vs.length=xs.length*3:=h.own.1
theorem y8.shape {j:Nat}{xs:List α}(h:y8 E w j t v xs vs):∃A c,v=.slice A xs.length c/\yg E w A xs.length c xs/\∀ad,A=some ad->j<=ad.block:=by
 rcases h.own.2 with⟨rfl,h0⟩|⟨g,cap,cur,rfl,hbg,hg,hnc,hcm,hcs,htake⟩
 ·have hx:xs=[]:=QV h0;subst hx;exact⟨none,0,rfl,yg.nil w,λad e=>by cases e⟩
 ·have a:=h.own.cells (g:=g) rfl;refine⟨some ⟨g,0,none⟩,cap,rfl,⟨rfl,hnc,by unfold maxLen at hcm;omega,λi x hi=>?_⟩,λad e=>by injection e with e;subst e;exact hbg⟩;obtain⟨b,B,m,d,F,u,f,h1,h2,h3,h4⟩:=h.num i x hi;exact⟨_,b,B,m,d,F,u,f,rfl,(Array.getElem?_eq_some_iff.1 hg).1,a _ _ h1,a _ _ h2,a _ _ h3,h4⟩
theorem y8.below (hE:tY E){w w':World}{a:Nat}{t:TypeId}{v:Value}{xs:List α}{vs:List Value}(h:y8 E w a t v xs vs)(hb:Below w.heap.size w w'):y8 E w' a t v xs vs:=by
 refine⟨⟨h.own.1,?_⟩,h.nou.below hb,λi x hi=>?_⟩
 ·rcases h.own.2 with h1|⟨g,cap,cur,e1,e2,e3,e4⟩
  ·exact .inl h1
  ·exact .inr ⟨g,cap,cur,e1,e2,(hb.block g (zh.lt (t:=t) (cs:=cur) e3)).trans e3,e4⟩
 ·obtain⟨b,B,m,d,F,u,f,h1,h2,h3,h4⟩:=h.num i x hi;exact⟨b,B,m,d,F,u,f,h1,h2,h3,hE.below h4 hb⟩
theorem y8.grow (hE:tY E){w w':World}{a n:Nat}{t:TypeId}{v v':Value}{xs:List α}{vs:List Value}{x:α}{b:Bool}{B F:ze}{m d u f:Nat}(h:y8 E w a t v xs vs)(hx:E w x b B m d F u f)
  (ho:w'.ownsRow a t 3 v' n (vs++[.bool b,.slice B m d,.slice F u f])) (hn:n=xs.length+1) (hg:w.grownBy w' v.ownBlock) (j:wS w' v'):y8 E w' a t v' (xs++[x]) (vs++[.bool b,.slice B m d,.slice F u f]):=by
 have hl:=h.len;refine⟨by rw [qB,YB,<-hn];exact ho,j,λi y hi=>?_⟩;by_cases hlt:i<xs.length
 ·rw [QP hlt] at hi;obtain⟨b1,B1,m1,d1,F1,u1,f1,h1,h2,h3,h4⟩:=h.num i y hi;exact⟨b1,B1,m1,d1,F1,u1,f1,by rw [QP za];exact h1,by rw [QP za];exact h2,by rw [QP za];exact h3,hE.grown h4 hg h.nou⟩
 ·rw [QJ za] at hi;have g:i=xs.length:=by
   have:=(List.getElem?_eq_some_iff.1 hi).1;simp at this;omega
  subst g;obtain rfl:x=y:=by
   rw [XK] at hi;injection hi
  exact⟨b,B,m,d,F,u,f,by rw [QJ za,hl,XK];rfl,by rw [QJ za,hl,yK];rfl,by rw [QJ za,hl,yK];rfl,hE.grown hx hg h.nou⟩
end
theorem Wk {P:Program}(w:World){o:Oper}{a:Act}{K:Act->World->Prop}{Q:Exit->Act->World->Prop}(s x:Operand)(t:TypeId)
  (ho:o.op=.call {callee:=.builtin .append,args:=#[s,x],argTypes:=#[t,t]})
  (g:Nat) (e:TypeId) (i:TypeInfo) (z:Value) (size bytes:Nat) (ht:P.underlying t=some (.slice e)) (hi:P.info? e=some i) (hz:i.zero=some z)
  (B:i.size=size) (E:i.bytes=bytes) (H:z.cells.size=size) (hsz:0<size)
  (v:Value) (n:Nat) (xs:List Value) (hs:a.eval s=v) (C:w.ownsRow g e size v n xs)
  (ad:Addr) (m c:Nat) (d:List Value) (hx:a.eval x=.slice (some ad) m c) (hl:d.length=m*size) (A:∀j u,d[j]?=some u->w.cell? (ad.add j)=some u) (h1:∀u ∈ d,u.oneCell'=true)
  (D:n+m<=maxLen) (k:(n+m)*bytes<=140737488355328) (y:g<=w.heap.size)
  (hv:wS w v) (G:∀u ∈ z.cells.toList,vW u) (F:∀u ∈ d,vW u)
  (h:∀v' w',w'.ownsRow g e size v' (n+m) (xs++d)->w.grownBy w' v.ownBlock->(v'.ownBlock=v.ownBlock\/v'.ownBlock=some w.heap.size)->wS w' v'->K (a.put o.dst v') w'):Oper.wp P o a w K Q:=by
 obtain⟨v',w',hr,h2,h3,h4,h5⟩:=Xy (P:=P) w g t o.type e i z size bytes ht hi hz B E H hsz v n xs C ad m c d hl A h1 D k y hv G F;unfold Oper.wp execOp;simp only [ho,resolve,invoke,builtin,Sem.run_bind,Sem.run_pure,Result.andThen_ok,yM,yQ,List.map_nil,hs,hx,hr];exact h v' w' h2 h3 h4 h5
theorem Vm {b:Bool}{B F:ze}{m d u f:Nat}(h:zh w g t #[.bool b,.slice B m d,.slice F u f]):∀j v,[Value.bool b,.slice B m d,.slice F u f][j]?=some v->w.cell? ((⟨g,0,none⟩:Addr).add j)=some v:=λj v hv=>by
 rw [xv]
 match j,hv with
 |0,hv=>simp at hv;subst hv;exact h.cell 0
 |1,hv=>simp at hv;subst hv;exact h.cell 1
 |2,hv=>simp at hv;subst hv;exact h.cell 2
theorem Us (b:Bool)(B F:ze)(m d u f:Nat):∀v ∈ [Value.bool b,.slice B m d,.slice F u f],v.oneCell'=true:=by intro v hv;simp at hv;rcases hv with rfl|rfl|rfl<;>rfl
theorem Ur (b:Bool)(B F:ze)(m d u f:Nat):∀v ∈ [Value.bool b,.slice B m d,.slice F u f],vW v:=by intro v hv y z;simp at hv;rcases hv with rfl|rfl|rfl<;>(intro h9;cases h9)
theorem Uh:∀u ∈(Value.agg #[.bool false,.slice none 0 0,.slice none 0 0]).cells.toList,vW u:=by intro u hu y z;simp [Value.cells] at hu;rcases hu with rfl|rfl<;>(intro h9;cases h9)
