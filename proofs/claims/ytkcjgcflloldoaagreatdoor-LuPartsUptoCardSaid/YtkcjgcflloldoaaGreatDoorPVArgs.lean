/- What this claim leans on. -/
import Derived.Test.YtkcjgcflloldoaaGreatDoorPBunY
set_option linter.unusedVariables false
set_option linter.unusedSimpArgs false
namespace Go.Proofs.YtkcjgcflloldoaaGreatDoor
open Go Go.RowKit Go.Proofs.Tryz
open Go.ChangeShapes Go.WideShapes Go.ChangeAt Go.Deep
set_option maxHeartbeats 16000000
variable {b:Bool}{f:FuncId}{L:List (Int×Int)}{D L1 L2:List Nat}{B a c d g k n q1 x y:Nat}{t t0:TypeId}{v v':Value}{W w w':World}{A:ze}
def wv (z:Int):Prop:=-9223372036854775808<=z/\z<=9223372036854775807
theorem Pj {H:Type}{c:TypeId×Value->H}{P:Program}{f0 f1:Field}{c0 c1:Value}{x:DataW H×List MemPlace}
  (hs:P.underlying t=some (.struct #[f0,f1])) (hf:(f0.offset,P.cellsOf f0.type,f1.offset,P.cellsOf f1.type)=(0,1,1,1)) (h0:P.underlying f0.type=some (.int .i64)) (h1:P.underlying f1.type=some (.int .i64))
  (h:DataW.trod c P W 0 (λ_=>true) true a t [c0,c1]=some x):∃p q:Int,c0=.int .i64 p/\c1=.int .i64 q/\wv p/\wv q:=by
 simp only [Prod.mk.injEq] at hf;obtain⟨y0,y1,n,rfl,_,k0,k1⟩:=trod_struct2 hs h;rw [hf.1,hf.2.1] at k0;rw [hf.2.2.1,hf.2.2.2] at k1;simp only [List.drop_zero,List.take_succ_cons,List.take_zero,List.drop_succ_cons] at k0 k1;obtain⟨p,hp,_,wp⟩:=DataW.trod_int h0 k0;obtain⟨q,hq,_,wq⟩:=DataW.trod_int h1 k1;simp only [List.cons.injEq,and_true] at hp hq;have bp:=bounds_i64 wp;have bq:=bounds_i64 wq;exact⟨p,q,hp,hq,⟨za,za⟩,⟨za,za⟩⟩
structure vT (W:World)(A:ze)(n c:Nat)(L:List (Int×Int)):Prop where
 len:L.length=n
 fits:n<=c
 small:c<=1048576
 ints:∀q ∈ L,wv q.1/\wv q.2
 row:∀r q,L[r]?=some q->∃ad,A=some ad/\ad.block<W.heap.size/\W.cell? (ad.add (r*2))=some (.int .i64 q.1)/\W.cell? (ad.add (r*2+1))=some (.int .i64 q.2)
theorem vT.below {W':World}(h:vT W A n c L)(hb:Below W.heap.size W W'):vT W' A n c L:=
 ⟨h.len,h.fits,h.small,h.ints,λr q hr=>by
  obtain⟨ad,e,h1,h2,h3⟩:=h.row r q hr;exact⟨ad,e,qJ h1 hb.size,(hb.cell (by rw [yw];exact h1)).trans h2,(hb.cell (by rw [yw];exact h1)).trans h3⟩⟩
theorem OD {H:Type}{y:TypeId×Value->H}{P:Program}{f0 f1:Field}{x:DataW H×List MemPlace}
  (ht:P.underlying t0=some (.slice t)) (hs:P.underlying t=some (.struct #[f0,f1])) (hf:(f0.offset,P.cellsOf f0.type,f1.offset,P.cellsOf f1.type)=(0,1,1,1)) (hC:P.cellsOf t=2) (h0:P.underlying f0.type=some (.int .i64)) (h1:P.underlying f1.type=some (.int .i64))
  (h:DataW.trod y P W 0 (λ_=>true) true g t0 (Value.slice A n c).cells.toList=some x) (hb:Rows.uptoBulk x.1<=1048576):∃L,vT W A n c L:=by
 rcases open_slice ht h with⟨hcs,_⟩|⟨a,len,cap,m,k,D,Pl,hcs,_,hl,hm,hmm,hx,hi⟩
 ·simp [Value.cells] at hcs;obtain⟨rfl,rfl,rfl⟩:=hcs;exact⟨[],rfl,qX _,za,λq hq=>(by cases hq),λr q hr=>by simp at hr⟩
 ·simp [Value.cells] at hcs;obtain⟨rfl,rfl,rfl⟩:=hcs;rw [if_pos rfl] at hmm;rw [hmm] at hx hi;subst hx;have B:=UA.slice_le (H:=H) ((List.range n).map D) ((List.range (c - n)).map λj=>D (n+j));have hb':Rows.uptoBulk (DataW.slice (H:=H) ((List.range n).map D) ((List.range (c - n)).map λj=>D (n+j)))<=1048576:=hb;have z:c<=1048576:=by
   simp only [QP,XS] at B;omega
  have d:∀r,r<n->∃q:Int×Int,W.cell? (a.add (r*2))=some (.int .i64 q.1)/\W.cell? (a.add (r*2+1))=some (.int .i64 q.2)/\wv q.1/\wv q.2:=λr hr=>by
   obtain⟨cs,o,C⟩:=hi r za;rw [hC] at o;obtain⟨_,u,i⟩:=World.cells?_some o;obtain⟨c0,c1,rfl⟩:∃c0 c1,cs=[c0,c1]:=by
    match cs,u with
    |[c0,c1],_=>exact⟨c0,c1,rfl⟩
   obtain⟨p,q,rfl,rfl,hp,hq⟩:=Pj (x:=(D r,Pl r)) hs hf h0 h1 C;have h0:=i 0 zf;have h1:=i 1 zf;rw [Go.Deep.add_add] at h0 h1;exact⟨(p,q),h0,h1,hp,hq⟩
  obtain ⟨f,s⟩ : ∃ f : Nat → Int × Int,∀ r,r < n → W.cell? (a.add (r * 2)) = some (.int .i64 (f r).1) ∧ W.cell? (a.add (r * 2 + 1)) = some (.int .i64 (f r).2) ∧ wv (f r).1 ∧ wv (f r).2 :=
   ⟨λr=>if hr:r<n then(d r hr).choose else(0,0),λr hr=>by simp only [dif_pos hr];exact(d r hr).choose_spec⟩
  refine⟨(List.range n).map f,zG,hl,z,λq hq=>?_,λr q hr=>?_⟩
  ·obtain⟨r,hr,rfl⟩:=List.mem_map.1 hq;exact(s r (List.mem_range.1 hr)).2.2
  ·have v:r<n:=by
    have:=(List.getElem?_eq_some_iff.1 hr).1;simpa using this
   obtain rfl:f r=q:=by
    rw [qW,xD v] at hr;simpa using hr
   obtain⟨c0,c1,_⟩:=s r v;refine⟨a,rfl,?_,c0,c1⟩;have:=xY W _ c0;rw [yw] at this;exact this
theorem Rk {H:Type}{g:TypeId×Value->H}{P:Program}{f0 f1:Field}{x:DataW H×List MemPlace}
  (ht:P.underlying t0=some (.slice t)) (hs:P.underlying t=some (.struct #[f0,f1])) (hf:(f0.offset,P.cellsOf f0.type,f1.offset,P.cellsOf f1.type)=(0,1,1,1)) (hC:P.cellsOf t=2) (h0:P.underlying f0.type=some (.int .i64)) (h1:P.underlying f1.type=some (.int .i64))
  (h:DataW.trod g P W 0 (λ_=>true) true d t0 [v]=some x) (hb:Rows.uptoBulk x.1<=1048576):∃A n c L,v=.slice A n c/\vT W A n c L:=by
 have go:∀A n c,[v]=[Value.slice A n c]->∃A n c L,v=.slice A n c/\vT W A n c L:=λA n c e=>by
  simp only [List.cons.injEq,and_true] at e;subst e;obtain⟨L,hL⟩:=OD ht hs hf hC h0 h1 (A:=A) (n:=n) (c:=c) (by simpa [Value.cells] using h) hb;exact⟨A,n,c,L,rfl,hL⟩
 rcases open_slice ht h with⟨hcs,_⟩|⟨a,len,cap,m,k,D,Pl,hcs,_⟩
 ·exact go _ _ _ hcs
 ·exact go _ _ _ hcs
structure uH (W:World)(A:ze)(n c:Nat)(R:Nat->ze×Nat×Nat×List (Int×Int)):Prop where
 fits:n<=c
 small:c<=1048576
 row:∀r,r<n->∃ad,A=some ad/\ad.block<W.heap.size/\W.cell? (ad.add r)=some (.slice (R r).1 (R r).2.1 (R r).2.2.1)/\vT W (R r).1 (R r).2.1 (R r).2.2.1 (R r).2.2.2
theorem Rn {H:Type}{s:TypeId×Value->H}{P:Program}{t9:TypeId}{f0 f1:Field}{x:DataW H×List MemPlace}
  (E:P.underlying t9=some (.slice t0)) (u:P.cellsOf t0=1) (ht:P.underlying t0=some (.slice t)) (hs:P.underlying t=some (.struct #[f0,f1])) (hf:(f0.offset,P.cellsOf f0.type,f1.offset,P.cellsOf f1.type)=(0,1,1,1)) (hC:P.cellsOf t=2) (h0:P.underlying f0.type=some (.int .i64)) (h1:P.underlying f1.type=some (.int .i64))
  (h:DataW.trod s P W 0 (λ_=>true) true g t9 (Value.slice A n c).cells.toList=some x) (hb:Rows.uptoBulk x.1<=1048576):∃R,uH W A n c R:=by
 rcases open_slice E h with⟨hcs,_⟩|⟨a,len,cap,m,k,D,Pl,hcs,_,hl,hm,hmm,hx,hi⟩
 ·simp [Value.cells] at hcs;obtain⟨rfl,rfl,rfl⟩:=hcs;exact⟨λ_=>(none,0,0,[]),qX _,za,λr hr=>by omega⟩
 ·simp [Value.cells] at hcs;obtain⟨rfl,rfl,rfl⟩:=hcs;rw [if_pos rfl] at hmm;rw [hmm] at hx hi;subst hx;have C:=UA.slice_le (H:=H) ((List.range n).map D) ((List.range (c - n)).map λj=>D (n+j));have y:Rows.uptoBulk (DataW.slice (H:=H) ((List.range n).map D) ((List.range (c - n)).map λj=>D (n+j)))<=1048576:=hb;have z:c<=1048576:=by
   simp only [QP,XS] at C;omega
  have d:∀r,r<n->∃q:ze×Nat×Nat×List (Int×Int),W.cell? (a.add r)=some (.slice q.1 q.2.1 q.2.2.1)/\vT W q.1 q.2.1 q.2.2.1 q.2.2.2:=λr hr=>by
   obtain⟨cs,i,F⟩:=hi r za;rw [u] at i;obtain⟨_,o,v⟩:=World.cells?_some i;obtain⟨c0,rfl⟩:∃c0,cs=[c0]:=by
    match cs,o with
    |[c0],_=>exact⟨c0,rfl⟩
   have hD:Rows.uptoBulk (D r)<=1048576:=by
    have B:D r ∈(List.range n).map D:=List.mem_map.2 ⟨r,List.mem_range.2 hr,rfl⟩;have hm2:=UA.mem_le B;simp only [Rows.uptoBulk] at y;omega
   obtain⟨A',n',c',L,rfl,hL⟩:=Rk (x:=(D r,Pl r)) ht hs hf hC h0 h1 F hD;have h0:=v 0 zf;rw [Go.Deep.add_add,xS,XX] at h0;exact⟨(A',n',c',L),h0,hL⟩
  refine⟨λr=>if hr:r<n then(d r hr).choose else(none,0,0,[]),hl,z,λr hr=>⟨a,rfl,?_,?_⟩⟩
  ·have:=xY W _ (d r hr).choose_spec.1;rw [yw] at this;exact this
  ·simp only [dif_pos hr];exact(d r hr).choose_spec
theorem vT.take {N:Nat}(h:vT W A n c L)(hN:N<=n):vT W A N c (L.take N):=by
 have hl:=h.len;have hf:=h.fits;refine⟨by rw [qL];omega,za,h.small,λq hq=>h.ints q (XZ hq),λr q hr=>?_⟩;rw [xI] at hr
 split at hr
 ·exact h.row r q hr
 ·cases hr
open Go Go.RowKit Go.Proofs.Tryz
set_option maxHeartbeats 16000000
set_option maxRecDepth 100000
theorem V3 (f:Rat->Rat->Rat)(F:FuncId)(H:Array Value)(xs ys:List Rat)(A B:ze)(n c d:Nat)(w:World)(ha:z7 w A n c xs)(hb:z7 w B n d ys)(hn:n<=1073741824)
  (hEn:∀(args:Array Value) (w':World),Sem.run prog (callFunc F args) w'=.ok (.enter F args) w')
  (hF : ∀ i,i < n → ∀ w',Below w.heap.size w w' → ∀ (b b' : Bool) (A A' : ze) (n n' c c' : Nat) (E E' : ze) (k k' f9 I : Nat),zp w' (xs.getD i 0) b A n c E k f9 → zp w' (ys.getD i 0) b' A' n' c' E' k' I →
    Calls prog F (#[.agg #[.bool b,.slice A n c,.slice E k f9],.agg #[.bool b',.slice A' n' c',.slice E' k' I]]++H) w' (yp w' (f (xs.getD i 0) (ys.getD i 0)))):
  Calls prog 57 #[.slice A n c,.slice B n d,.func (.func F) #[] H] w (oV w n (List.zipWith f xs ys)):=by
 have O:=ha.len;have P:=hb.len;have v:(List.zipWith f xs ys).length=n:=Sx O P;unfold oV;have t:∀i,i<n->(List.zipWith f xs ys)[i]?=some (f (xs.getD i 0) (ys.getD i 0)):=λi hi=>by
  rw [List.getElem?_zipWith,qQ,qQ,qY za,qY za];rfl
 obtain⟨zs,S⟩:∃zs,List.zipWith f xs ys=zs:=⟨_,rfl⟩;rw [S] at t v⊢;have HG:=zb t;have G:=zb v;have HF:=zb hF;have HA:=zb ha;have U:=zb hb;obtain⟨Z,hZ⟩:=jo n za;have ac:=λW=>(hZ W).1;have o:=zb (λW=>(hZ W).2);clear hF ha hb O P v S t hZ;have hd0:((n:Int) !=(n:Int))=false:=zG;have i0:(0:Int)<=(n:Int):=za;go_enter func57,ntmps57;go_wp2_with fail;clear ac;have a:=o.o w;have hB:Below w.heap.size w (w.alloc (.cells Z 54)):=(qZ _ w).alloc (qX _) _;obtain⟨gp,u⟩:∃g,w.heap.size=g:=⟨_,rfl⟩;have R:w.heap.size<=gp:=za;have hz:gp+1<=(w.alloc (.cells Z 54)).heap.size:=by simp [u]
 rw [u] at a⊢;rw [<-lZ 0 zs n] at a;generalize w.alloc (.cells Z 54)=W1 at*;clear u o
 go_loopg [21] (n+1) (λg ix wr=>∃(k:Nat),k<=n/\n<g+k/\ix=.int .i64 k/\yn wr gp n (uJ 0 zs n k)/\Below w.heap.size w wr)
 case atStart=>exact⟨0,QQ _,za,rfl,a,hB⟩
 case round=>
  clear a hB hz;obtain⟨k,hkn,hg,rfl,a,hB⟩:=hrel;by_cases hlt:k<n
  ·obtain⟨ad,b1,B1,m1,d1,E1,u1,v1,rfl,-,X,Y,aa,hx⟩:=HA.o.get hB hlt;obtain⟨ae,b2,B2,m2,d2,E2,u2,v2,rfl,hae,L,M,N,hy⟩:=U.o.get hB hlt;have ab:decide ((k:Int)<(n:Int))=true:=by simp;omega
   have i1:(0:Int)<=(k:Int):=za;have i2:(k:Int)<(n:Int):=za;have hgr:=a.lt;obtain⟨st,d3,d4⟩:=zw wr 54 #[.bool b1,.slice B1 m1 d1,.slice E1 u1 v1];have D:=zb d3;have HX:=zb (hx.below st);have HY:=zb (hy.below st);have s:=zb (a.keep st);have m:=zb (zc hB st);have HE:=zb (And.intro (zq st L) (And.intro (zq st M) (zq st N)));clear hx hy a hB st d3 d4 L M N;go_wp2_with fail;clear X Y aa;generalize wr.alloc (.cells #[.bool b1,.slice B1 m1 d1,.slice E1 u1 v1] 54)=W2 at*;generalize wr.heap.size=gb at*;obtain⟨p0,p1,p2⟩:=D.o.c3;obtain⟨e0,e1,e2⟩:=HE.o;have j:=(qZ W2.heap.size W2).drew;have y:=lk (k:=k*3) (show ae.block≠gp by omega);refine rg (zk p0 (zk p1 (zk p2 (zk e0 (zk e1 (zk e2 zO)))))) (λhHeld=>?_);refine tk 0 ?_;refine tk 1 ?_;refine tk 2 ?_;refine tk 3 ?_;refine tk 4 ?_;refine tk 5 ?_;refine tk 6 ?_;refine tk 7 ?_;refine rc 8 (λK hK=>?_);go_simp;refine(HF.o k hlt _ (zc m.o j) _ _ _ _ _ _ _ _ _ _ _ _ _ _ (HX.o.below j) (HY.o.below j)).mono ?_;rintro e w3 ⟨b3,A3,n3,c3,E3,k3,f3,rfl,Q,hb⟩;have j:=zc j hb;refine hK.out _ _ (Cs.below hHeld hb) (λhHeld=>?_);clear hK K hb;refine tk 9 ?_;have z:=s.o.keep j;obtain⟨q0,q1,q2,af,ai,ag,aj,ah,ak⟩:=z.ready hlt (.bool b3) (.slice A3 n3 c3);refine rc 10 (λK hK=>?_);go_simp;have C:=wH.set_ yt z hlt Q;rw [kf 0 zs n k G.o hlt _ (HG.o k hlt)] at C;have J:=dI (k*3) (k*3+1) (k*3+2) (.bool b3) (.slice A3 n3 c3) (.slice E3 k3 f3) R (zc m.o j);refine hK.out _ _ (Cs.far hHeld (fJ _ _ _ _ _ _ _ _) (by refine⟨?_,?_,?_,y,y,y,trivial⟩<;>(show gb≠gp;omega))) (λhHeld=>?_);clear hK K;refine z4 ?_;have V:=zb C;have T:=zb J;clear C J z hHeld j Q af ai ag aj ah ak p0 p1 p2 e0 e1 e2 D HX HY s m HE;go_wp2;go_roundg (n - k)
   case measure=>omega
   case rel=>exact⟨k+1,za,za,by go_num,V.o,T.o⟩
  ·have hk:k=n:=za;subst hk;have ab:decide ((k:Int)<(k:Int))=false:=zG;have HR:=zb (ke 0 zs k G.o▸a);have m:=zb hB;clear a hB;go_wp2
   go_ret2
   exact⟨gp,rfl,R,HR.o,m.o⟩
open Go Go.RowKit Go.Proofs.Tryz
set_option maxHeartbeats 16000000
theorem uM {P:Program}{args:Array Value}{z v:Int}(e:z=v)(h:Calls P f args w (wR w z)):Calls P f args w λe w'=>e=.returned (.int .i64 v)/\Below w.heap.size w w':=by
 subst e;exact h
theorem wg {P:Program}{args:Array Value}{t:Bool}(e:b=t)(h:Calls P f args w λe w'=>e=.returned (.bool b)/\Below w.heap.size w w'):Calls P f args w λe w'=>e=.returned (.bool t)/\Below w.heap.size w w':=by
 subst e;exact h
theorem pe {T:World->Prop}(IC:vf T)(x:Nat)(A:ze)(n c:Nat)(w:World)(hT:T w)(h:zo w x A n c)(hn:n<=268435456):Calls prog 118 #[.bool false,.agg #[.slice A n c]] w (ww w (x:Int)):=
 IC.new false x A n c w hT h hn
open Go Go.RowKit Go.Proofs.Tryz
set_option maxHeartbeats 16000000
theorem lT:prog.underlying 39=some (.slice 3):=zU
open Go Go.RowKit Go.Proofs.Tryz
set_option maxHeartbeats 16000000
set_option maxRecDepth 100000
def rq (v:Value)(B:ze)(m:Nat):Prop:=0<m->∀ad,B=some ad->v.ownBlock≠some ad.block
theorem rq.words {m:Nat}{B:ze}(h:rq v B m)(hx:zo w x B m d)(hg:sJ w v w' v'):zo w' x B m d/\rq v' B m:=by
 refine⟨Vz hx hg.grown (λhm ad e=>(h hm ad e).symm),λhm ad e=>?_⟩;rcases hg.at_ with h1|h1
 ·rw [h1];exact h hm ad e
 ·intro h2;have:=h1 _ h2;obtain⟨ad',e',hb,_⟩:=hx.1.2 hm;rw [e] at e';injection e' with e';subst e';omega
theorem sJ.blk {e:TypeId}{cs:Array Value}{vs:List Value}(h:sJ w v w' v')(hv:w.ownsRow a e 1 v n vs)(hk:zh w g t cs)(hg:g<a):zh w' g t cs:=
 hk.grown h.grown (λe=>by have:=(hv.lt g e.symm).1;omega)
def kH (x y:Nat)(D:List Nat):Prop:=zH 10 D/\dv 10 D+10^D.length*y=x
theorem kH.start (x:Nat):kH x x []:=⟨λd hd=>by simp at hd,by simp [dv]⟩
theorem kH.step (h:kH x y D):kH x (y / 10000000000000000000) (D++ug 19 (y%10000000000000000000)):=by
 refine⟨h.1.append (pp _ _),?_⟩;rw [tF,qT,Tm,SB,xU,show(10:Nat)^19=10000000000000000000 from rfl,Nat.mod_mod,qH,xH,<-qM,XC];exact h.2
theorem kH.done (h:kH x 0 D):dv 10 D=x:=by have:=h.2;simpa using this
theorem kH.len (h:kH x y D)(hy:y≠0):10^D.length<=x:=by
 have:=h.2;have h1:10^D.length*1<=10^D.length*y:=QW _ za;omega
open Go Go.RowKit Go.Proofs.Tryz
set_option maxHeartbeats 16000000
set_option maxRecDepth 100000
open Go Go.RowKit Go.Proofs.Tryz
set_option maxHeartbeats 16000000
set_option maxRecDepth 100000
attribute [local go_sem] Oper.semAt_some
def rE (I:Nat->World->Prop)(X:World->Prop)(k:Nat)(W:World):Exit->Act->World->Prop:=λe _ W'=>KeepsOthers W W'/\(e=.normal/\I k W'\/e=.ret/\X W')
def V7 (P:Program)(gf:Nat)(lb:Array Value)(enc:Nat->Array Value)(N:Nat)(I:Nat->World->Prop):Prop:=
 ∀ (l : Nat) (J : Nat → World → Prop) (Jx : World → Prop) (W : World),(∀ k W,J k W → I k W) →
  (∀k W,k<N->J (k+1) W->YieldAt Fence.wide 1 P l (enc k) W λe W'=>e=.returned (.bool true)/\J k W'\/e=.returned (.bool false)/\Jx W')->
  J N W->CallsIn Fence.wide 2 P gf (#[.func (.yield l) #[] #[]]++lb) W λe W'=>(∃v,e=.returned v)/\(J 0 W'\/Jx W')
theorem UJ {X:World->Prop}{b:Nat}{o:Obj}(hX:OwnFrom w.heap.size (fun(_:Unit) W=>X W))(h:X W)(hb:w.heap.size<=b)(ho:W.heap[b]?=some o)(hc:o.isCells=false)(o':Obj):X (W.putObj b o'):=
 hX.putObj (s:=()) o' h hb ho hc
theorem O8 {P:Program}{g:Operand}{ps:Array Tmp}{assign body:Code}{Q:Exit->Act->World->Prop}{a:Act}{gf:Nat}{lb:Array Value}(hg:a.eval g=.func (.func gf) #[] lb)
  (eg:∀args w,(callFunc gf args).run P w=.ok (.enter gf args) w) (N:Nat) (d:Nat->Array Value) (A:∀k,(d k).size=ps.size) (I:Nat->World->Prop) (X:World->Prop) (hI:∀k,OwnFrom w.heap.size (fun(_:Unit) W=>I k W)) (hX:OwnFrom w.heap.size (fun(_:Unit) W=>X W)) (h0:I N w)
  (m:V7 P gf lb d N I) (a1:Nat->Act)
  (c:∀(l k:Nat) (W:World) (K:Act->World->Prop),K (a1 k) W->assign.wpIn (Fence.wide.inRound l) 1 P (Exit.then K (λ_ _ _=>False)) {tmps:=(ps.zip (d k)).foldl (λt (p,v)=>t.setIfInBounds p v) a.tmps,defers:=[]} W)
  (i:∀(l k:Nat) (W:World),k<N->I (k+1) W->body.wpIn (Fence.wide.inRound l) 1 P (rE I X k W) (a1 k) W)
  (j:∀(D:Nat) (W:World),w.heap.size<=D->I 0 W->W.heap[D]?=some (.deferred (some []))->Q .normal {a with defers:={target:=.collected D,args:=#[]}::a.defers} W)
  (s:∀(D:Nat) (W:World),w.heap.size<=D->X W->W.heap[D]?=some (.deferred (some []))->Code.ret.wpIn Fence.wide 3 P Q {a with defers:={target:=.collected D,args:=#[]}::a.defers} W):
  (Code.rangeFunc g ps assign body).wpIn Fence.wide 3 P Q a w:=by
 refine wpIn_rangeFunc λfn z=>?_;obtain⟨r,hr⟩:∃r:Loop,r={state:=.ready,pending:=none,fn,tmps:=a.tmps,params:=ps,assign,body,defers:=w.heap.size}:=⟨_,rfl⟩;obtain⟨V,hV⟩:∃V,(w.alloc (.deferred (some []))).alloc (.loop r)=V:=⟨_,rfl⟩;have gV:w.grownBy V none:=by rw [<-hV];exact(jQ w _ none).trans (jQ _ _ none)
 have rV:V.heap[w.heap.size+1]?=some (.loop r):=by
  have h:=World.alloc_heap_new (w.alloc (.deferred (some []))) (.loop r);rw [YA,hV] at h;exact h
 have dV:V.heap[w.heap.size]?=some (.deferred (some [])):=by
  have h:=World.alloc_heap_new w (.deferred (some []));rw [<-hV,Below.heap_alloc _ _ _ zG];exact h
 have iV:I N V:=hI N () w V none h0 gV (λ_ e=>by cases e);refine⟨w.heap.size+1,[{target:=.collected w.heap.size,args:=#[]}],V,{target:=.fn (.func gf) lb,args:=#[.func (.yield (w.heap.size+1)) #[] #[]]},V,gf,#[.func (.yield (w.heap.size+1)) #[] #[]]++lb,V,?_,?_,λ_ _=>trivial,?_,λ_=>by omega,?_⟩
 ·rw [<-hV,hr];exact run_enterLoop_outer _ _ _ _ _
 ·simp only [resolve,hg];simp [go_sem]
 ·simp [invoke,go_sem,eg]
 obtain⟨rx,o⟩:∃rx:Loop,rx={r with state:=.done,pending:=some .ret}:=⟨_,rfl⟩;refine (m (w.heap.size + 1) (fun k W => I k W ∧ W.heap[w.heap.size + 1]? = some (.loop r) ∧ W.heap[w.heap.size]? = some (.deferred (some [])))
  (λW=>X W/\W.heap[w.heap.size+1]?=some (.loop rx)/\W.heap[w.heap.size]?=some (.deferred (some []))) V (λ_ _ h=>h.1) ?_ ⟨iV,rV,dV⟩).mono ?_
 ·rintro k W hk ⟨iW,rW,dW⟩;have hy:=run_yield (P:=P) (args:=d k) rW (by rw [hr];exact A k);have lt:=(Array.getElem?_eq_some_iff.1 rW).1;obtain⟨rb,n⟩:∃rb:Loop,rb={r with state:=.busy}:=⟨_,rfl⟩;have rY:(W.putObj (w.heap.size+1) (.loop rb)).heap[w.heap.size+1]?=some (.loop rb):=World.putObj_heap_same lt;have dX:(W.putObj (w.heap.size+1) (.loop rb)).heap[w.heap.size]?=some (.deferred (some [])):=(World.putObj_heap_other za).trans dW;have iX:I (k+1) (W.putObj (w.heap.size+1) (.loop rb)):=fh hI iW za rW rfl _;rw [hr] at hy;refine⟨fn,_,assign,body,hy,roundIn_of_wpIn z (c _ k W _ ⟨_,by have h:=run_beginRound (P:=P) rW (by rw [hr]);rw [<-n] at h;exact h,?_⟩)⟩;refine wpIn_mono (i _ k _ hk iX) ?_;rintro e a3 W3 ⟨u,h3⟩;have r3:=u.same _ _ rY rfl;have d3:=u.same _ _ dX rfl;have y:=(Array.getElem?_eq_some_iff.1 r3).1;rcases h3 with⟨rfl,i3⟩|⟨rfl,x3⟩
  ·have he:=run_endRound (P:=P) none r3;refine⟨_,_,he,.inl ⟨rfl,fh hI i3 za r3 rfl _,?_,(World.putObj_heap_other za).trans d3⟩⟩;rw [World.putObj_heap_same y,n,hr];rfl
  ·have he:=run_endRound (P:=P) (some .ret) r3;refine⟨_,_,he,.inr ⟨rfl,UJ hX x3 za r3 rfl _,?_,(World.putObj_heap_other za).trans d3⟩⟩;rw [World.putObj_heap_same y,o,n,hr];rfl
 ·rintro e W2 ⟨⟨v,rfl⟩,⟨i2,r2,d2⟩|⟨x2,r2,d2⟩⟩
  ·have he:=run_endLoop (P:=P) r2 (by rw [hr];simp);rw [show r.pending=none from by rw [hr]] at he;exact⟨none,_,he,j _ _ (qX _) (fh hI i2 za r2 rfl _) ((World.putObj_heap_other za).trans d2)⟩
  ·have he:=run_endLoop (P:=P) r2 (by rw [o];simp);rw [show rx.pending=some .ret from by rw [o]] at he;exact⟨some .ret,_,he,s _ _ (qX _) (UJ hX x2 za r2 rfl _) ((World.putObj_heap_other za).trans d2)⟩
theorem RX (Bs len g:Nat)(A:ze)(v:Nat->Nat)(I:Nat->World->Prop)(hlen:len<=1099511627776)
  (c:∀k W,I k W->W.cell? ⟨Bs,0,none⟩=some (.slice A len g)) (d:∀k W,k<len->I (k+1) W->∃ad,A=some ad/\W.cell? (ad.add k)=some (.int .u64 (v k:Int))):
  V7 prog 187 #[.pointer (some ⟨Bs,0,none⟩)] (λk=>#[.int .i64 (k:Int),.int .u64 (v k:Int)]) len I:=by
 intro l J Jx W hJ hY h0;have j:=c _ _ (hJ _ _ h0);have HB:=zb (λk W (h:J k W)=>c k W (hJ k W h));have HC:=zb (λk W (hk:k<len) (h:J (k+1) W)=>d k W hk (hJ _ _ h));have HY:=zb hY;have H0:=zb h0;have m:IntKind.i64.wrap ((len:Int) - 1)=(len:Int) - 1:=by rw [IntKind.wrap_i64];omega
 clear hJ hY h0 c d;refine callsIn_of_wp func187 rfl trivial ?_ rfl;simp only [ntmps187,XR,xO,YN,Nat.reduceAdd,Nat.reduceSub,YI,YT,List.push_toArray,jY,yQ,YS]
 gi_wp2
 clear j m
 gi_loopw [3] (λi wr=>∃k:Nat,k<=len/\i=.int .i64 ((k:Int) - 1)/\J k wr) (λi _=>(intOf i+1).toNat)
 case atStart=>exact⟨len,qX _,rfl,H0.o⟩
 case round=>
  obtain⟨k,hk,rfl,a⟩:=hrel;have hb:=HB.out _ _ a;rcases k with _|k
  ·rw [show((0:Nat):Int) - 1= -1 from by decide];clear hb
   gi_wp2
   go_end0
   exact⟨⟨_,rfl⟩,.inl a⟩
  ·obtain⟨ad,rfl,hc⟩:=HC.o k wr hk a;obtain⟨fn,tmps,assign,body,hy,hR⟩:=HY.o k wr hk a;rw [show((k+1:Nat):Int) - 1=(k:Int) from by omega];have i1:(0:Int)<=(k:Int):=za;have i2:(k:Int)<(len:Int):=za;have i3:IntKind.i64.wrap ((k:Int) - 1)=(k:Int) - 1:=by rw [IntKind.wrap_i64];omega
   obtain⟨z,hz⟩:∃z,v k=z:=⟨_,rfl⟩
   try dsimp only at hy
   rw [hz] at hc hy;clear hz a
   gi_wp2
   refine hR.mono ?_;rintro e W3 (⟨rfl,hJ3⟩|⟨rfl,hJ3⟩)
   ·gi_wp2
    go_roundw
    case rel=>exact⟨k,za,rfl,hJ3⟩
    case measure=>simp [intOf]
   ·gi_wp2
    refine bodyPost_ret (results_none rfl _ _ _) rfl ?_;exact⟨⟨_,rfl⟩,.inr hJ3⟩
open Go Go.RowKit Go.Proofs.Tryz
set_option maxHeartbeats 16000000
set_option maxRecDepth 100000
attribute [local go_sem] Oper.semAt_some
def tc (L1 L2:List Nat)(n k:Nat):Prop:=∀i,k<=i->i<n->L1.getD i 0=L2.getD i 0
theorem tc.start (L1 L2:List Nat)(n:Nat):tc L1 L2 n n:=λi h h'=>absurd h' za
theorem tc.step (h:tc L1 L2 n (k+1))(e:L1.getD k 0=L2.getD k 0):tc L1 L2 n k:=λi hi hn=>by
 rcases xW k i with h1|h1
 ·exact h i za hn
 ·have:i=k:=za;rw [this];exact e
theorem tc.high (h:tc L1 L2 n k)(h1:L1.length=n)(h2:L2.length=n):L1.drop k=L2.drop k:=by
 refine YX (by simp;omega) (λi a b=>?_);simp at a b;have:=h (k+i) za za;rw [qQ,qQ,qY za,qY za] at this;simpa using this
theorem tc.all (h:tc L1 L2 n 0)(h1:L1.length=n)(h2:L2.length=n):L1=L2:=by
 have:=h.high h1 h2;simpa using this
theorem tc.less (h:tc L1 L2 n (k+1))(h1:L1.length=n)(h2:L2.length=n)(d1:zH 18446744073709551616 L1)(d2:zH 18446744073709551616 L2)(a:L1.getD k 0<L2.getD k 0):dv 18446744073709551616 L1<dv 18446744073709551616 L2:=by
 have e:=h.high h1 h2;have e1:=congrArg (dv 18446744073709551616) e;rw [ft zf d1,ft zf d2] at e1;rw [jt zf d1,jt zf d2] at a;exact bF e1 a
theorem tc.symm (h:tc L1 L2 n k):tc L2 L1 n k:=λi a b=>(h i a b).symm
structure ru (ty ty2:TypeId)(g1 g2 c1 c2 n q0 q1 q2:Nat)(L1 L2:List Nat)(w:World)(k:Nat)(W:World):Prop where
 same:tc L1 L2 n k
 ybox:zh W q0 48 #[.slice (some ⟨g2,0,none⟩) n c2]
 res:zh W q1 4 #[.bool false]
 seq:zh W q2 48 #[.slice (some ⟨g1,0,none⟩) n c1]
 r1:zJ W ty g1 c1 n L1
 r2:zJ W ty2 g2 c2 n L2
 below:Below w.heap.size w W
theorem ru.own {ty a:TypeId}{g1 g2 c1 c2 q0 q2:Nat}(hB:w.heap.size<=B)(k:Nat):OwnFrom B (fun(_:Unit) W=>ru ty a g1 g2 c1 c2 n q0 q1 q2 L1 L2 w k W):=by
 intro _ W W' row h hg hr;exact⟨h.same,uZ h.ybox hg hr,uZ h.res hg hr,uZ h.seq hg hr,gP h.r1 hg hr,gP h.r2 hg hr,bV h.below (qX _) hB hg hr⟩
structure nI (q1:Nat)(b:Bool)(w:World)(W:World):Prop where
 res:zh W q1 4 #[.bool b]
 below:Below w.heap.size w W
theorem nI.own (hB:w.heap.size<=B):OwnFrom B (fun(_:Unit) W=>nI q1 b w W):=by
 intro _ W W' row h hg hr;exact⟨uZ h.res hg hr,bV h.below (qX _) hB hg hr⟩
theorem Nu (ty t:TypeId)(g1 g2 c1 c2 n:Nat)(L1 L2:List Nat)(w:World)(h1:zJ w ty g1 c1 n L1)(h2:zJ w t g2 c2 n L2)(B:zH 18446744073709551616 L1)(C:zH 18446744073709551616 L2)(hn:n<=1099511627776):
  Calls prog 177 #[.slice (some ⟨g1,0,none⟩) n c1,.slice (some ⟨g2,0,none⟩) n c2] w λe w'=>e=.returned (.bool (decide (dv 18446744073709551616 L1<dv 18446744073709551616 L2)))/\Below w.heap.size w w':=by
 have j:=zb h1.len;have m:=zb h2.len;have u:=zb B;have y:=zb C;have H:=zb h1;have I:=zb h2;obtain⟨v,hv⟩:∃v,decide (dv 18446744073709551616 L1<dv 18446744073709551616 L2)=v:=⟨_,rfl⟩;rw [hv];have HV:=zb hv;clear h1 h2 B C hv;refine(callsIn_wide (n:=3)).1 ?_;refine callsIn_of_wp_marks func177 rfl trivial ?_ rfl;simp only [ntmps177,XR,xO,YN,Nat.reduceAdd,Nat.reduceSub,YI,YT,List.push_toArray,jY,yQ,YS];refine wpIn_wide.2 ?_;go_wp2_with fail;obtain⟨d1,d2,d3,d4,d5⟩:=yF w 48 4 48 #[.slice (some ⟨g2,0,none⟩) n c2] #[.bool false] #[.slice (some ⟨g1,0,none⟩) n c1];refine(Z3 (some ⟨g1,0,none⟩) n c1 _).mono ?_;rintro e w2 ⟨rfl,F⟩;rw [F] at d1 d2 d3 d4 d5;obtain⟨z,hz⟩:∃z,w.heap.size=z:=⟨_,rfl⟩;have H0:=zb (show ru ty t g1 g2 c1 c2 n z (z+1) (z+1+1) L1 L2 w n w2 from⟨tc.start _ _ _,by rw [<-hz];exact d2,by rw [<-hz];exact d3,by rw [<-hz];exact d4,H.o.keep d1,I.o.keep d1,d1⟩);have A:=d1.size;clear d1 d2 d3 d4 d5 F;go_wp2_with fail;refine(wpIn_wide (n:=3)).1 ?_;refine O8 (gf:=187) (lb:=#[.pointer (some ⟨z + 1 + 1,0,none⟩)]) rfl (enters_of func187 zU rfl) n (fun k => #[.int .i64 (k : Int),.int .u64 (L1.getD k 0 : Int)]) (fun _ => rfl)
  (λk W=>ru ty t g1 g2 c1 c2 n z (z+1) (z+1+1) L1 L2 w k W) (λW=>nI (z+1) v w W) (λk=>ru.own A k) (nI.own A) H0.o
  (RX (z+1+1) n c1 (some ⟨g1,0,none⟩) (λk=>L1.getD k 0) _ hn (λk W h=>h.seq.cell 0) ?cells)
  (λk=>{tmps:=#[.slice (some ⟨g1,0,none⟩) n c1,.slice (some ⟨g2,0,none⟩) n c2,undef,.pointer (some ⟨z,0,none⟩),.pointer (some ⟨z+1,0,none⟩),.int .i64 (k:Int),.int .u64 (L1.getD k 0:Int),.slice (some ⟨g1,0,none⟩) n c1,.func (.func 187) #[] #[.pointer (some ⟨z+1+1,0,none⟩)],.int .i64 (k:Int),.int .u64 (L1.getD k 0:Int),undef,undef,undef,undef,undef,undef,undef,undef,undef,undef,undef,undef],defers:=[]}) ?assign ?body ?done ?stop
 case cells=>
  intro k W hk h;exact⟨_,rfl,by rw [Wx,h.r1.cell k hk]⟩
 case assign=>
  intro l k W K hK
  gi_wp2
  exact hK
 case body=>
  intro l k W hk h;have g:=h.same;have hy:=h.ybox;have c:=h.res;have L:=h.seq;have J:=h.r1;have E:=h.r2;have d:=h.below;clear h;have cy:=hy.cell 0;have cr:=c.cell 0;have fr:=c.frozen 0;have cg:=E.cell k hk;have i1:(0:Int)<=(k:Int):=za;have i2:(k:Int)<(n:Int):=za;by_cases hxy:L1.getD k 0=L2.getD k 0
  ·have HS:=zb (g.step hxy);rw [hxy];obtain⟨a,ha⟩:∃a,L2.getD k 0=a:=⟨_,rfl⟩;rw [ha] at cg⊢;clear g hxy ha
   gi_wp2
   exact⟨KeepsOthers.refl _,.inl ⟨rfl,HS.o,hy,c,L,J,E,d⟩⟩
  ·have HB:zd (decide (L1.getD k 0<L2.getD k 0)=v):=by
    show _=_;rw [<-HV.o,decide_eq_decide];rcases xW (L1.getD k 0) (L2.getD k 0) with hlt|hge
    ·exact⟨λ_=>g.less j.o m.o u.o y.o hlt,λ_=>hlt⟩
    ·have h:=g.symm.less m.o j.o y.o u.o za;exact⟨λh'=>absurd h' za,λh'=>absurd h' za⟩
   obtain⟨a,ha⟩:∃a,L1.getD k 0=a:=⟨_,rfl⟩;obtain⟨b,hb⟩:∃a,L2.getD k 0=a:=⟨_,rfl⟩;rw [ha] at HB hxy⊢;rw [hb] at HB hxy cg;have G:=HB;have hq1:((a:Int)==(b:Int))=false:=by rw [beq_eq_false_iff_ne];omega
   have hq2:((a:Int) !=(b:Int))=true:=by rw [bne_iff_ne];omega
   clear g ha hb HB hxy
   gi_wp2
   exact⟨KeepsOthers.setCell _ _ _,.inr ⟨rfl,(by first|exact cQ c _|(rw [<-G.o];exact cQ c _)),d.setCell (p:=⟨z+1,0,none⟩) (by show w.heap.size<=z+1;omega) _⟩⟩
 case done=>
  intro D W hD h hK;have d:=h.below;have c:=h.res;have M:zd (v=false):=by
   show _=_;rw [<-HV.o,h.same.all j.o m.o];simp
  have cr:=c.cell 0;have fr:=c.frozen 0;have i:=c.set_ 0 (.bool false);have o:=(KeepsOthers.setCell W ⟨z+1,0,none⟩ (.bool false)).same D _ hK rfl;have s:=cell_kept (i.cell 0) (grownBy_putObj' _ D (.deferred none)) (λr e=>by cases e;exact⟨_,o,rfl⟩);have HG : zd (Below w.heap.size w ((W.setCell ⟨z + 1,0,none⟩ (.bool false)).putObj D (.deferred none))) :=
   (d.setCell (p:=⟨z+1,0,none⟩) (by show w.heap.size<=z+1;omega) _).trans (belowK_b (w:=w) (qX _) _ D _ _ za o rfl rfl)
  clear h c d i hK;go_wp2;refine⟨zG,.inl ⟨_,_,rfl,run_takeDeferred o,?_⟩⟩;exact⟨.bool false,by simp [results,f177,go_sem,s],by rw [M.o],HG.o⟩
 case stop=>
  intro D W hD h hK;have d:=h.below;have cr:=h.res.cell 0;have s:=cell_kept cr (grownBy_putObj' _ D (.deferred none)) (λr e=>by cases e;exact⟨_,hK,rfl⟩);have HG : zd (Below w.heap.size w (W.putObj D (.deferred none))) :=
   d.trans (belowK_b (w:=w) (qX _) _ D _ _ za hK rfl rfl)
  clear h d
  gi_wp2
  refine⟨zG,.inl ⟨_,_,rfl,run_takeDeferred hK,?_⟩⟩;exact⟨.bool v,by simp [results,f177,go_sem,s],rfl,HG.o⟩
open Go Go.RowKit Go.Proofs.Tryz
set_option maxHeartbeats 16000000
set_option maxRecDepth 100000
theorem dM (h:zh w g 3 #[.int .i64 1]):zE w 1 (some ⟨g,0,none⟩) 1 1:=by
 have e:dg 65536 1=[1]:=by
  rw [js zf zf];rfl
 refine⟨?_,qX _,za⟩;rw [e];refine⟨rfl,λ_=>⟨_,rfl,h.lt,λj u hu=>?_⟩⟩
 match j,hu with
 |0,hu=>simp [zt] at hu;subst hu;exact h.cell 0
open Go Go.RowKit Go.Proofs.Tryz
set_option maxHeartbeats 16000000
theorem mw:wv 1:=⟨zf,zf⟩
theorem mv:wv 0:=⟨zf,zf⟩
