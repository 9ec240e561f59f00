/- What this claim leans on. -/
import Derived.Test.YtdfdjfiognhbgaaGreatDoorDBun7
import Derived.Deep.Slices
import Derived.Laws.AppendOwn
import Derived.Laws.Concat
import Derived.Laws.IdiomCopy
set_option linter.unusedVariables false
set_option linter.unusedSimpArgs false
namespace Go.Proofs.YtdfdjfiognhbgaaGreatDoor
open Go Go.RowKit Go.Proofs.Tryz
open Go.ChangeShapes Go.WideShapes Go.ChangeAt Go.Deep
set_option maxHeartbeats 16000000
variable {p:Int}{L:List (Int×Int)}{M:List (List Rat)}{xs ys:List Rat}{K K' c d g k m n t x:Nat}{f:Nat->Rat}{a b y:Rat}{t0:TypeId}{W:World}{A:ze}
def xz (z:Int):Prop:=-9223372036854775808<=z/\z<=9223372036854775807
theorem S5 {H:Type}{c:TypeId×Value->H}{P:Program}{a:Nat}{t:TypeId}{f0 f1:Field}{c0 c1:Value}{x:DataW H×List MemPlace}
  (hs:P.underlying t=some (.struct #[f0,f1])) (hf:(f0.offset,P.cellsOf f0.type,f1.offset,P.cellsOf f1.type)=(0,1,1,1)) (h0:P.underlying f0.type=some (.int .i64)) (h1:P.underlying f1.type=some (.int .i64))
  (h:DataW.trod c P W 0 (λ_=>true) true a t [c0,c1]=some x):∃p q:Int,c0=.int .i64 p/\c1=.int .i64 q/\xz p/\xz q:=by
 simp only [Prod.mk.injEq] at hf;obtain⟨y0,y1,n,rfl,_,k0,k1⟩:=trod_struct2 hs h;rw [hf.1,hf.2.1] at k0;rw [hf.2.2.1,hf.2.2.2] at k1;simp only [List.drop_zero,List.take_succ_cons,List.take_zero,List.drop_succ_cons] at k0 k1;obtain⟨p,hp,_,wp⟩:=DataW.trod_int h0 k0;obtain⟨q,hq,_,wq⟩:=DataW.trod_int h1 k1;simp only [List.cons.injEq,and_true] at hp hq;have bp:=bounds_i64 wp;have bq:=bounds_i64 wq;exact⟨p,q,hp,hq,⟨zb,zb⟩,⟨zb,zb⟩⟩
structure vB (W:World)(A:ze)(n c:Nat)(L:List (Int×Int)):Prop where
 len:L.length=n
 fits:n<=c
 small:c<=1048576
 ints:∀q ∈ L,xz q.1/\xz q.2
 row:∀r q,L[r]?=some q->∃ad,A=some ad/\ad.block<W.heap.size/\W.cell? (ad.add (r*2))=some (.int .i64 q.1)/\W.cell? (ad.add (r*2+1))=some (.int .i64 q.2)
theorem vB.below {W':World}(h:vB W A n c L)(hb:Below W.heap.size W W'):vB W' A n c L:=
 ⟨h.len,h.fits,h.small,h.ints,λr q hr=>by
  obtain⟨ad,e,h1,h2,h3⟩:=h.row r q hr;exact⟨ad,e,qJ h1 hb.size,(hb.cell (by rw [y8];exact h1)).trans h2,(hb.cell (by rw [y8];exact h1)).trans h3⟩⟩
theorem Qr {H:Type}{y:TypeId×Value->H}{P:Program}{t:TypeId}{f0 f1:Field}{x:DataW H×List MemPlace}
  (ht:P.underlying t0=some (.slice t)) (hs:P.underlying t=some (.struct #[f0,f1])) (hf:(f0.offset,P.cellsOf f0.type,f1.offset,P.cellsOf f1.type)=(0,1,1,1)) (hC:P.cellsOf t=2) (h0:P.underlying f0.type=some (.int .i64)) (h1:P.underlying f1.type=some (.int .i64))
  (h:DataW.trod y P W 0 (λ_=>true) true g t0 (Value.slice A n c).cells.toList=some x) (hb:Rows.uptoBulk x.1<=1048576):∃L,vB W A n c L:=by
 rcases open_slice ht h with⟨hcs,_⟩|⟨a,len,cap,m,k,D,Pl,hcs,_,hl,hm,hmm,hx,hi⟩
 ·simp [Value.cells] at hcs;obtain⟨rfl,rfl,rfl⟩:=hcs;exact⟨[],rfl,qY _,zb,λq hq=>(by cases hq),λr q hr=>by simp at hr⟩
 ·simp [Value.cells] at hcs;obtain⟨rfl,rfl,rfl⟩:=hcs;rw [if_pos rfl] at hmm;rw [hmm] at hx hi;subst hx;have B:=UA.slice_le (H:=H) ((List.range n).map D) ((List.range (c - n)).map λj=>D (n+j));have hb':Rows.uptoBulk (DataW.slice (H:=H) ((List.range n).map D) ((List.range (c - n)).map λj=>D (n+j)))<=1048576:=hb;have z:c<=1048576:=by
   simp only [xV,jJ] at B;omega
  have d:∀r,r<n->∃q:Int×Int,W.cell? (a.add (r*2))=some (.int .i64 q.1)/\W.cell? (a.add (r*2+1))=some (.int .i64 q.2)/\xz q.1/\xz q.2:=λr hr=>by
   obtain⟨cs,o,C⟩:=hi r zb;rw [hC] at o;obtain⟨_,u,i⟩:=World.cells?_some o;obtain⟨c0,c1,rfl⟩:∃c0 c1,cs=[c0,c1]:=by
    match cs,u with
    |[c0,c1],_=>exact⟨c0,c1,rfl⟩
   obtain⟨p,q,rfl,rfl,hp,hq⟩:=S5 (x:=(D r,Pl r)) hs hf h0 h1 C;have h0:=i 0 zg;have h1:=i 1 zg;rw [Go.Deep.add_add] at h0 h1;exact⟨(p,q),h0,h1,hp,hq⟩
  obtain ⟨f,s⟩ : ∃ f : Nat → Int × Int,∀ r,r < n → W.cell? (a.add (r * 2)) = some (.int .i64 (f r).1) ∧ W.cell? (a.add (r * 2 + 1)) = some (.int .i64 (f r).2) ∧ xz (f r).1 ∧ xz (f r).2 :=
   ⟨λr=>if hr:r<n then(d r hr).choose else(0,0),λr hr=>by simp only [dif_pos hr];exact(d r hr).choose_spec⟩
  refine⟨(List.range n).map f,zE,hl,z,λq hq=>?_,λr q hr=>?_⟩
  ·obtain⟨r,hr,rfl⟩:=List.mem_map.1 hq;exact(s r (List.mem_range.1 hr)).2.2
  ·have v:r<n:=by
    have:=(List.getElem?_eq_some_iff.1 hr).1;simpa using this
   obtain rfl:f r=q:=by
    rw [QQ,xW v] at hr;simpa using hr
   obtain⟨c0,c1,_⟩:=s r v;refine⟨a,rfl,?_,c0,c1⟩;have:=xQ W _ c0;rw [y8] at this;exact this
theorem Tx {H:Type}{g:TypeId×Value->H}{P:Program}{t:TypeId}{f0 f1:Field}{v:Value}{x:DataW H×List MemPlace}
  (ht:P.underlying t0=some (.slice t)) (hs:P.underlying t=some (.struct #[f0,f1])) (hf:(f0.offset,P.cellsOf f0.type,f1.offset,P.cellsOf f1.type)=(0,1,1,1)) (hC:P.cellsOf t=2) (h0:P.underlying f0.type=some (.int .i64)) (h1:P.underlying f1.type=some (.int .i64))
  (h:DataW.trod g P W 0 (λ_=>true) true d t0 [v]=some x) (hb:Rows.uptoBulk x.1<=1048576):∃A n c L,v=.slice A n c/\vB W A n c L:=by
 have go:∀A n c,[v]=[Value.slice A n c]->∃A n c L,v=.slice A n c/\vB W A n c L:=λA n c e=>by
  simp only [List.cons.injEq,and_true] at e;subst e;obtain⟨L,hL⟩:=Qr ht hs hf hC h0 h1 (A:=A) (n:=n) (c:=c) (by simpa [Value.cells] using h) hb;exact⟨A,n,c,L,rfl,hL⟩
 rcases open_slice ht h with⟨hcs,_⟩|⟨a,len,cap,m,k,D,Pl,hcs,_⟩
 ·exact go _ _ _ hcs
 ·exact go _ _ _ hcs
structure uf (W:World)(A:ze)(n c:Nat)(R:Nat->ze×Nat×Nat×List (Int×Int)):Prop where
 fits:n<=c
 small:c<=1048576
 row:∀r,r<n->∃ad,A=some ad/\ad.block<W.heap.size/\W.cell? (ad.add r)=some (.slice (R r).1 (R r).2.1 (R r).2.2.1)/\vB W (R r).1 (R r).2.1 (R r).2.2.1 (R r).2.2.2
theorem TC {H:Type}{s:TypeId×Value->H}{P:Program}{t9 t:TypeId}{f0 f1:Field}{x:DataW H×List MemPlace}
  (E:P.underlying t9=some (.slice t0)) (u:P.cellsOf t0=1) (ht:P.underlying t0=some (.slice t)) (hs:P.underlying t=some (.struct #[f0,f1])) (hf:(f0.offset,P.cellsOf f0.type,f1.offset,P.cellsOf f1.type)=(0,1,1,1)) (hC:P.cellsOf t=2) (h0:P.underlying f0.type=some (.int .i64)) (h1:P.underlying f1.type=some (.int .i64))
  (h:DataW.trod s P W 0 (λ_=>true) true g t9 (Value.slice A n c).cells.toList=some x) (hb:Rows.uptoBulk x.1<=1048576):∃R,uf W A n c R:=by
 rcases open_slice E h with⟨hcs,_⟩|⟨a,len,cap,m,k,D,Pl,hcs,_,hl,hm,hmm,hx,hi⟩
 ·simp [Value.cells] at hcs;obtain⟨rfl,rfl,rfl⟩:=hcs;exact⟨λ_=>(none,0,0,[]),qY _,zb,λr hr=>by omega⟩
 ·simp [Value.cells] at hcs;obtain⟨rfl,rfl,rfl⟩:=hcs;rw [if_pos rfl] at hmm;rw [hmm] at hx hi;subst hx;have C:=UA.slice_le (H:=H) ((List.range n).map D) ((List.range (c - n)).map λj=>D (n+j));have y:Rows.uptoBulk (DataW.slice (H:=H) ((List.range n).map D) ((List.range (c - n)).map λj=>D (n+j)))<=1048576:=hb;have z:c<=1048576:=by
   simp only [xV,jJ] at C;omega
  have d:∀r,r<n->∃q:ze×Nat×Nat×List (Int×Int),W.cell? (a.add r)=some (.slice q.1 q.2.1 q.2.2.1)/\vB W q.1 q.2.1 q.2.2.1 q.2.2.2:=λr hr=>by
   obtain⟨cs,i,F⟩:=hi r zb;rw [u] at i;obtain⟨_,o,v⟩:=World.cells?_some i;obtain⟨c0,rfl⟩:∃c0,cs=[c0]:=by
    match cs,o with
    |[c0],_=>exact⟨c0,rfl⟩
   have hD:Rows.uptoBulk (D r)<=1048576:=by
    have B:D r ∈(List.range n).map D:=List.mem_map.2 ⟨r,List.mem_range.2 hr,rfl⟩;have hm2:=UA.mem_le B;simp only [Rows.uptoBulk] at y;omega
   obtain⟨A',n',c',L,rfl,hL⟩:=Tx (x:=(D r,Pl r)) ht hs hf hC h0 h1 F hD;have h0:=v 0 zg;rw [Go.Deep.add_add,xC,xN] at h0;exact⟨(A',n',c',L),h0,hL⟩
  refine⟨λr=>if hr:r<n then(d r hr).choose else(none,0,0,[]),hl,z,λr hr=>⟨a,rfl,?_,?_⟩⟩
  ·have:=xQ W _ (d r hr).choose_spec.1;rw [y8] at this;exact this
  ·simp only [dif_pos hr];exact(d r hr).choose_spec
theorem vB.take {N:Nat}(h:vB W A n c L)(hN:N<=n):vB W A N c (L.take N):=by
 have hl:=h.len;have hf:=h.fits;refine⟨by rw [qB];omega,zb,h.small,λq hq=>h.ints q (XY hq),λr q hr=>?_⟩;rw [XO] at hr
 split at hr
 ·exact h.row r q hr
 ·cases hr
open Go Go.RowKit Go.Proofs.Tryz
set_option maxHeartbeats 16000000
def sd (w:World)(q r:Nat)(b:Bool)(e:Ending)(w':World):Prop:=∃(A:ze) (n c:Nat) (B:ze) (m d:Nat),e=.returned (.tuple #[.agg #[.slice A n c],.agg #[.slice B m d],.bool b])/\zn w' q A n c/\zn w' r B m d/\Below w.heap.size w w'
def jI (w:World)(x:Nat)(b:Bool)(e:Ending)(w':World):Prop:=∃(A:ze) (n c:Nat),e=.returned (.tuple #[.agg #[.slice A n c],.bool b])/\zn w' x A n c/\Below w.heap.size w w'
def fD (w:World)(q x:Nat)(b:Bool)(e:Ending)(w':World):Prop:=∃(A:ze) (n c:Nat),e=.returned (.tuple #[.agg #[.slice A n c],.int .u64 (x:Int),.bool b])/\zn w' q A n c/\Below w.heap.size w w'
structure iT:Prop where
 divMod:∀(x y:Nat) (A D:ze) (n m c d:Nat) (w:World),zn w x A n c->zn w y D m d->n<=1073741824->m<=1073741824->y≠0->Calls prog 181 #[.agg #[.slice A n c],.agg #[.slice D m d]] w (sd w (x / y) (x%y) true)
 divModNo:∀(x y:Nat) (A D:ze) (n m c d:Nat) (w:World),zn w x A n c->zn w y D m d->n<=1073741824->m<=1073741824->y=0->Calls prog 181 #[.agg #[.slice A n c],.agg #[.slice D m d]] w (sd w 0 0 false)
 div:∀(x y:Nat) (A D:ze) (n m c d:Nat) (w:World),zn w x A n c->zn w y D m d->n<=1073741824->m<=1073741824->y≠0->Calls prog 163 #[.agg #[.slice A n c],.agg #[.slice D m d]] w (jI w (x / y) true)
 mod:∀(x y:Nat) (A D:ze) (n m c d:Nat) (w:World),zn w x A n c->zn w y D m d->n<=1073741824->m<=1073741824->y≠0->Calls prog 187 #[.agg #[.slice A n c],.agg #[.slice D m d]] w (jI w (x%y) true)
 byWord:∀(x a:Nat) (A:ze) (n c:Nat) (w:World),zn w x A n c->n<=1073741824->a<18446744073709551616->a≠0->Calls prog 191 #[.agg #[.slice A n c],.int .u64 a] w (fD w (x / a) (x%a) true)
 byWordNo:∀(x:Nat) (A:ze) (n c:Nat) (w:World),zn w x A n c->n<=1073741824->Calls prog 191 #[.agg #[.slice A n c],.int .u64 0] w (fD w 0 0 false)
open Go Go.RowKit Go.Proofs.Tryz
set_option maxHeartbeats 16000000
def uL (p q:Int):Rat:=Rat.divInt p (if q=0 then 1 else q)
theorem Us (p:Int):uL p 0=(p:Rat):=by
 unfold uL;rw [if_pos rfl];exact Rat.ext (by rw [Rat.num_divInt,yU];simp) (by rw [Rat.den_divInt,yW];simp)
theorem qr {q:Int}(h:q≠0):uL p q=Rat.divInt p q:=by unfold uL;rw [if_neg h]
theorem iA {z:Int}(h1: -9223372036854775808<=z)(h2:z<=9223372036854775807):Sz 1 z.natAbs:=by
 show z.natAbs<18446744073709551616^1;rw [Nat.pow_one];omega
theorem jg {q:Int}(a: -9223372036854775808<=p)(c:p<=9223372036854775807)(d: -9223372036854775808<=q)(g:q<=9223372036854775807):zm 1 (uL p q):=by
 unfold uL;refine zm.made (iA a c) ?_ zg
 split
 ·exact iA zg zg
 ·exact iA d g
def uA (rs:List Rat):Rat:=rs.foldl (λa b=>a+b) 0
theorem Pe (rs:List Rat)(a:Rat):rs.foldl (λa b=>a+b) a=a+uA rs:=by
 unfold uA
 induction rs generalizing a with
 |nil=>exact(XJ a).symm
 |cons r t ih=>
   rw [List.foldl_cons,List.foldl_cons,ih (a+r),ih (0+r),YM,Rat.add_assoc]
theorem WH:uA []=0:=rfl
theorem bG (r:Rat)(rs:List Rat):uA (r::rs)=r+uA rs:=by
 show(r::rs).foldl (λa b=>a+b) 0=_;rw [List.foldl_cons,Pe,YM]
def gm (xs ys:List Rat):Rat:=uA (List.zipWith (λa b=>a*b) xs ys)
def dP (xs ys:List Rat):List Rat:=List.zipWith (λa b=>a+b) xs ys
def cF (xs ys:List Rat):List Rat:=List.zipWith (λa b=>a - b) xs ys
def gE (xs ys:List Rat):List Rat:=List.zipWith (λa b=>a*b) xs ys
def kB (xs:List Rat)(r:Rat)(ys:List Rat):List Rat:=List.zipWith (λa b=>a+r*b) xs ys
def y6 (r:Rat)(xs:List Rat):List Rat:=xs.map λx=>r*x
theorem UO {f:Rat->Rat->Rat}(h:xs.length=n)(k:ys.length=n):(List.zipWith f xs ys).length=n:=by rw [List.length_zipWith,h,k,Nat.min_self]
def vR:List Rat->List Rat->Int
 |[],[]=>0
 |[],_::_=> -1
 |_::_,[]=>1
 |x::xs,y::ys=>if x=y then vR xs ys else uW x y
theorem nc {x:Rat}(h:x≠y):uW x y≠0:=λe=>h ((o9 x y).1 e)
theorem ZD:∀(xs ys:List Rat),vR xs ys=0↔xs=ys
 |[],[]=>by simp [vR]
 |[],_::_=>by simp [vR]
 |_::_,[]=>by simp [vR]
 |x::xs,y::ys=>by
   unfold vR;by_cases h:x=y
   ·rw [if_pos h,ZD xs ys,h];simp
   ·rw [if_neg h];constructor
    ·intro e;exact absurd e (nc h)
    ·intro e;injection e with e1 e2;exact absurd e1 h
theorem Qy {x:Rat}(h:x=y):vR (x::xs) (y::ys)=vR xs ys:=by
 show(if x=y then vR xs ys else uW x y)=_;exact if_pos h
theorem RI {x:Rat}(h:x≠y):vR (x::xs) (y::ys)=uW x y:=by
 show(if x=y then vR xs ys else uW x y)=_;exact if_neg h
theorem iy {xs:List Rat}(h:k<xs.length):xs.drop k=xs.getD k 0::xs.drop (k+1):=by
 rw [yC h,qQ,qX h];rfl
theorem Ty (hx:k<xs.length)(hy:k<ys.length)(h:xs.getD k 0=ys.getD k 0):vR (xs.drop k) (ys.drop k)=vR (xs.drop (k+1)) (ys.drop (k+1)):=by
 rw [iy hx,iy hy,Qy h]
theorem Ts (hx:k<xs.length)(hy:k<ys.length)(h:xs.getD k 0≠ys.getD k 0):vR (xs.drop k) (ys.drop k)=uW (xs.getD k 0) (ys.getD k 0):=by
 rw [iy hx,iy hy,RI h]
def sV (a b:Nat):Int:=if a<b then -1 else if a=b then 0 else 1
theorem sW (hk:k=min xs.length ys.length):vR (xs.drop k) (ys.drop k)=sV xs.length ys.length:=by
 unfold sV;by_cases h1:xs.length<ys.length
 ·rw [if_pos h1,xG zb,iy (xs:=ys) zb];rfl
 ·rw [if_neg h1];by_cases h2:xs.length=ys.length
  ·rw [if_pos h2,xG zb,xG zb];rfl
  ·rw [if_neg h2,xG (l:=ys) zb,iy (xs:=xs) zb];rfl
def zK (K:Nat)(xs:List Rat):Prop:=∀x ∈ xs,zm K x
theorem zK.at_ (h:zK K xs){k:Nat}(hk:k<xs.length):zm K (xs.getD k 0):=by
 rw [qQ,qX hk];exact h _ (xS hk)
theorem zK.up (h:zK K xs)(e:K<=K'):zK K' xs:=λx hx=>(h x hx).up e
theorem zK.zip {K K' L:Nat}{f:Rat->Rat->Rat}(hf:∀x y,zm K x->zm K' y->zm L (f x y)):∀{xs ys:List Rat},zK K xs->zK K' ys->zK L (List.zipWith f xs ys)
 |[],_,_,_=>λx hx=>by cases hx
 |_::_,[],_,_=>λx hx=>by cases hx
 |x::xs,y::ys,h,k=>λz hz=>by
   rw [List.zipWith_cons_cons] at hz;rcases List.mem_cons.1 hz with rfl|hz
   ·exact hf x y (h x xM) (k y xM)
   ·exact zK.zip hf (λa ha=>h a (XN _ ha)) (λa ha=>k a (XN _ ha)) z hz
theorem zK.add (h:zK K xs)(k:zK K' ys):zK (K+K'+1) (dP xs ys):=zK.zip (λ_ _=>zm.add) h k
theorem zK.sub (h:zK K xs)(k:zK K' ys):zK (K+K'+1) (cF xs ys):=zK.zip (λ_ _=>zm.sub) h k
theorem zK.mul (h:zK K xs)(k:zK K' ys):zK (K+K') (gE xs ys):=zK.zip (λ_ _=>zm.mul) h k
theorem zK.addT {L:Nat}{r:Rat}(h:zK K xs)(hr:zm L r)(k:zK K' ys):zK (K+(L+K')+1) (kB xs r ys):=zK.zip (λ_ _ a b=>a.add (hr.mul b)) h k
theorem zK.scale {L:Nat}{r:Rat}(hr:zm L r)(h:zK K xs):zK (L+K) (y6 r xs):=λx hx=>by
 obtain⟨y,hy,rfl⟩:=List.mem_map.1 hx;exact hr.mul (h y hy)
theorem ZU {K:Nat}:∀{xs:List Rat},zK K xs->zm (1+xs.length*(K+1)) (uA xs)
 |[],_=>by rw [YB,Nat.zero_mul];exact zm.zero
 |x::xs,h=>by
   rw [bG];exact((h x xM).add (ZU λa ha=>h a (XN _ ha))).up (by rw [xP,Nat.succ_mul];omega)
theorem mK (h:zK K xs)(hl:xs.length=n)(k:Nat)(hk:k<=n):zm (1+n*(K+1)) (uA (xs.take k)):=by
 have h1:=ZU (xs:=xs.take k) (K:=K) (λa ha=>h a (XY ha));refine h1.up ?_;rw [qB];have:min k xs.length*(K+1)<=n*(K+1):=qW _ zb;omega
theorem kM (hx:xs.length=n)(hy:ys.length=n)(h:zK K xs)(k:zK K' ys):zm (1+n*(K+K'+1)) (gm xs ys):=by
 have:=ZU (zK.mul h k);rw [show(gE xs ys).length=n from UO hx hy] at this;exact this
theorem ti {r:Rat}(hx:xs.length=n):(y6 r xs).length=n:=by unfold y6;rw [xV];exact hx
open Go Go.RowKit Go.Proofs.Tryz
set_option maxHeartbeats 16000000
set_option maxRecDepth 100000
theorem gR (x:Nat)(A:ze)(n c:Nat)(w:World)(hA:zn w x A n c)(hn:n<=1):
  Calls prog 157 #[.agg #[.slice A n c]] w λe w'=>e=.returned (.tuple #[.int .u64 (wd x 0:Nat),.bool true])/\Below w.heap.size w w':=by
 have WX:=(λw' (h:Below w.heap.size w w')=>ki x A n c 0 w' (hA.below h));obtain⟨a,ha⟩:∃a,wd x 0=a:=⟨_,rfl⟩;rw [ha] at WX⊢;have d:=za WX;have h1:decide ((1:Int)<(n:Int))=false:=by simp;omega
 have h2:decide ((n:Int)>1)=false:=by simp;omega
 have h3:¬ 1<n:=zb;clear WX ha hA;go_enter func157,ntmps157;go_wp2_with fail;obtain⟨b1,b2,b5⟩:=zw w 37 #[.slice A n c];refine(d.o _ b1).mono ?_;rintro e w1 ⟨rfl,hb⟩;have hB:=zc b1 hb;clear hb b1 b2 b5;go_wp2
 go_ret2
 exact⟨rfl,hB⟩
theorem gT (A:ze)(n c:Nat)(w:World)(hn:1<n):
  Calls prog 157 #[.agg #[.slice A n c]] w λe w'=>e=.returned (.tuple #[.int .u64 0,.bool false])/\Below w.heap.size w w':=by
 go_enter func157,ntmps157;go_wp2
 go_ret2
 exact⟨rfl,(qZ _ w).alloc (qY _) _⟩
def TW (x t:Nat):Prop:=(x=0/\t=0)\/∃m,x=2^t*(2*m+1)
def wg (x:Nat):Nat:=if x=0 then 0 else Lib.ctzFrom x x
theorem dJ (h:x=2^t*(2*m+1)):x / 2^t%2=1:=by
 rw [h,XM _ (QW t)];omega
theorem pI {j:Nat}(h:x=2^t*(2*m+1))(hj:j<t):x / 2^j%2=0:=by
 obtain⟨s,rfl⟩:∃s,t=j+(s+1):=⟨t - j - 1,zb⟩;rw [h,xX,qG,XM _ (QW j),qP,qS (2^s) 2,qG];exact Nat.mul_mod_right _ _
theorem pJ (h:x=2^t*(2*m+1)):x≠0:=by
 have:=QW t;rw [h];exact Nat.ne_of_gt (Nat.mul_pos this zb)
theorem tF (x:Nat):TW x (wg x):=by
 unfold TW wg;by_cases h:x=0
 ·exact .inl ⟨h,by rw [if_pos h]⟩
 ·rw [if_neg h];obtain⟨m,hm,_⟩:=Lib.ctzFrom_spec x x zb Nat.lt_two_pow_self;exact .inr ⟨m,hm⟩
theorem mL (a:∀j,j<t->x / 2^j%2=0)(hx:x=0->t=0)(h1:x≠0->x / 2^t%2=1):t=wg x:=by
 rcases tF x with⟨e,h⟩|⟨m,h⟩
 ·rw [hx e,h]
 ·have h0:=pJ h;rcases XT t (wg x) with hl|hl|hl
  ·have:=pI h hl;rw [h1 h0] at this;omega
  ·exact hl
  ·have:=dJ h;rw [a _ hl] at this;omega
theorem gN {m:Nat}(h:x=2^t*(2*m+1)):t=wg x:=
 mL (λj hj=>pI h hj) (λe=>absurd e (pJ h)) (λ_=>dJ h)
theorem Td (h0:x%18446744073709551616^k=0)(hw:wd x k≠0):64*k+Lib.ctz 64 (wd x k)=wg x:=by
 have a:=wF x k;obtain⟨m,hm,hc⟩:=Lib.ctzFrom_spec 64 (wd x k) zb (by simpa using a);have ec:Lib.ctz 64 (wd x k)=Lib.ctzFrom 64 (wd x k):=by unfold Lib.ctz;rw [if_neg hw]
 rw [ec];generalize Lib.ctzFrom 64 (wd x k)=c at*;obtain⟨s,hs⟩:∃s,64=c+(s+1):=⟨63 - c,zb⟩;obtain⟨q,hq⟩:∃q,x / 18446744073709551616^k / 18446744073709551616=q:=⟨_,rfl⟩;have e1:x / 18446744073709551616^k=18446744073709551616*q+wd x k:=by rw [<-hq];exact(XK _ _).symm
 have e2:x=18446744073709551616^k*(x / 18446744073709551616^k):=by
  have:=XK x (18446744073709551616^k);rw [h0] at this;omega
 have e3:(18446744073709551616:Nat)=2^c*(2*2^s):=by
  rw [show(18446744073709551616:Nat)=2^64 from rfl,hs,xX,qP,qS (2^s) 2]
 refine gN (m:=2^s*q+m) ?_;have e4:(18446744073709551616:Nat)^k=2^(64*k):=by rw [show(18446744073709551616:Nat)=2^64 from rfl,<-yG]
 have e5:18446744073709551616*q+wd x k=2^c*(2*(2^s*q+m)+1):=by
  rw [hm]
  conv=>lhs;rw [e3]
  rw [qG,<-qC,qC 2,qG,xE]
 rw [e2,e1,e5,e4,<-qG,<-xX]
theorem aQ (x:Nat)(A:ze)(n c:Nat)(w:World)(hA:zn w x A n c)(hn:n<=1099511627776)(hT:zu w):
  Calls prog 180 #[.agg #[.slice A n c]] w λe w'=>e=.returned (.int .i64 (wg x:Nat))/\Below w.heap.size w w':=by
 have u:=za hA.len;have hr:=hA.1;have HT:=za (λo=>hT.on ((qZ _ w).alloc (qY _) o));have g:∀o,zd (zH (w.alloc o) w.heap.size 1 A n (zq .u64 (dg 18446744073709551616 x))):=λo=>hr.alloc (qY _) o;have HC:=za g;clear hA hT g hr;go_enter func180,ntmps180;go_wp2_with fail
 go_loop [3,4,8] (λ_ _ ix=>∃k:Nat,k<=n/\ix=.int .i64 k/\zd (x%18446744073709551616^k=0)) (λ_ _ ix=>n - (intOf ix).toNat)
 case atStart=>exact⟨0,qN _,rfl,by show _=_;simp [xT]⟩
 case round=>
  obtain⟨k,hk,rfl,H⟩:=hrel;by_cases hlt:k<n
  ·obtain⟨ad,rfl,hadb,d⟩:=wB (HC.o (.cells #[.slice A n c] 37)).o hlt;rw [oH] at d;by_cases hz:wd x k=0
   ·have HN:zd (x%18446744073709551616^(k+1)=0):=by
     show _=_;rw [vO 18446744073709551616 x k,H.o,xA];unfold wd at hz;rw [hz,yZ]
    rw [hz] at d;clear hz;go_wp2
    go_round
    case rel=>exact⟨k+1,zb,by go_num,HN⟩
    case measure=>simp [intOf];omega
   ·have HV:=za (Td H.o hz);have i:=wF x k;have WT:=(λw' (h:zu w')=>RW ((wd x k:Nat):Int) ⟨zb,zb⟩ w' h);have m:=kI (wd x k) (by simpa using i);have et:jW ((wd x k:Nat):Int)=((Lib.ctz 64 (wd x k):Nat):Int):=by unfold jW;simp
    rw [et] at WT;obtain⟨t,ht⟩:∃t,Lib.ctz 64 (wd x k)=t:=⟨_,rfl⟩;rw [ht] at WT HV m;obtain⟨a,ha⟩:∃a,wd x k=a:=⟨_,rfl⟩;rw [ha] at d WT hz;have j:=za WT;have hz':((a:Int)==0)=false:=beq_eq_false_iff_ne.2 zb;have hz2:((a:Int) !=0)=true:=by simp;omega
    clear WT ht ha et hz i;go_wp2_with fail;refine(j.o _ (HT.o _)).mono ?_;rintro e w' ⟨rfl,rfl⟩;go_wp2;go_ret;refine⟨Zs ?_,(qZ _ w).alloc (qY _) _⟩;have:=HV.o;omega
  ·have s:k=n:=zb;subst s;have HX:zd (wg x=0):=by
    show _=_;have h1:=ym (b:=18446744073709551616) zg x;rw [u.o] at h1;have h2:=H.o;rw [qO h1] at h2;rw [h2];rfl
   go_wp2;go_ret;exact⟨by rw [HX.o];rfl,(qZ _ w).alloc (qY _) _⟩
open Go Go.RowKit Go.Proofs.Tryz
set_option maxHeartbeats 16000000
theorem UJ {r:Rat}{t:Int}(hd:d≠0)(hc:Nat.gcd t.natAbs d=1)(h:r=Rat.divInt t d):r.num=t/\r.den=d:=by
 have e:(⟨t,d,hd,hc⟩:Rat)=Rat.divInt t d:=Rat.mk_eq_divInt;rw [<-e] at h;subst h;exact⟨rfl,rfl⟩
theorem Zi (t:Int)(h:Nat)(hd:h ∣ t.natAbs):t=(h:Int)*zW (decide (t<0)) (t.natAbs / h):=by
 obtain⟨k,hk⟩:=hd;by_cases h0:h=0
 ·subst h0;rw [Nat.zero_mul] at hk;have:t=0:=Int.natAbs_eq_zero.1 hk;subst this;simp
 have e:t.natAbs / h=k:=by rw [hk];exact XM _ (xR h0)
 rw [e];unfold zW;by_cases ht:t<0
 ·rw [decide_eq_true ht,if_pos rfl,Int.mul_neg,<-QN,<-hk];omega
 ·rw [decide_eq_false ht,if_neg zg,<-QN,<-hk];omega
theorem pn (s u:Bool)(x y:Nat):zW s x*zW u y=zW (s !=u) (x*y):=by
 cases s<;>cases u<;>simp [zW,QN,Int.neg_mul,Int.mul_neg]
theorem PG {p1 p2 t:Int}{q1 mA mB:Nat}(hc:Nat.gcd p1.natAbs q1=1)(hA:mA ∣ q1)(hm:Nat.gcd mA mB=1)(ht:t=p1*mB+p2*mA):Nat.gcd t.natAbs mA=1:=by
 refine Nat.dvd_one.1 ?_;have h1:Nat.gcd t.natAbs mA ∣ mA:=XW _ _;have h2:Nat.gcd t.natAbs mA ∣ t.natAbs:=yL _ _;generalize Nat.gcd t.natAbs mA=d at*;have h3:(d:Int)∣ p1*mB:=by
  have a:=Int.ofNat_dvd_left.2 h2;have b:(d:Int)∣ p2*mA:=Int.dvd_trans (Int.ofNat_dvd.2 h1) (Int.dvd_mul_left _ _);have c:=Int.dvd_sub a b;rw [ht,Int.add_sub_cancel] at c;exact c
 have h4:d ∣ p1.natAbs*mB:=by
  have:=Int.ofNat_dvd_left.1 h3;rwa [xO,XZ] at this
 have h5:Nat.Coprime d mB:=YQ h1 hm;have h6:d ∣ p1.natAbs:=h5.dvd_of_dvd_mul_right h4;have h7:=Nat.dvd_gcd h6 (Nat.dvd_trans h1 hA);rwa [hc] at h7
theorem P3 (a b:Rat){mA mB:Nat}{t:Int}(hA:mA=a.den / Nat.gcd a.den b.den)(hB:mB=b.den / Nat.gcd a.den b.den)(ht:t=a.num*mB+b.num*mA):
  (a+b).num=zW (decide (t<0)) (t.natAbs / Nat.gcd t.natAbs b.den)/\(a+b).den=mA*(b.den / Nat.gcd t.natAbs b.den):=by
 have g0:0<Nat.gcd a.den b.den:=Nat.gcd_pos_of_pos_left _ (xR a.den_nz);have k0:0<Nat.gcd t.natAbs b.den:=Nat.gcd_pos_of_pos_right _ (xR b.den_nz);have ea:Nat.gcd a.den b.den*mA=a.den:=by rw [hA];exact YJ (yL _ _)
 have eb:Nat.gcd a.den b.den*mB=b.den:=by rw [hB];exact YJ (XW _ _)
 have hm:Nat.gcd mA mB=1:=by rw [hA,hB];exact Nat.gcd_div_gcd_div_gcd_of_pos_left (xR a.den_nz)
 have hp:Nat.gcd t.natAbs mA=1:=PG a.reduced ⟨_,(qS mA _▸ea).symm⟩ hm ht;have eh:Nat.gcd t.natAbs b.den*(b.den / Nat.gcd t.natAbs b.den)=b.den:=YJ (XW _ _);have et:=Zi t (Nat.gcd t.natAbs b.den) (yL _ _);have hq:Nat.gcd (t.natAbs / Nat.gcd t.natAbs b.den) (b.den / Nat.gcd t.natAbs b.den)=1:=YK (xR b.den_nz);have c:mA≠0:=λh=>a.den_nz (by rw [<-ea,h];rfl);have r0:b.den / Nat.gcd t.natAbs b.den≠0:=λh=>b.den_nz (by rw [<-eh,h];rfl);refine UJ (Nat.mul_ne_zero c r0) ?_ ?_
 ·rw [jE];refine Nat.Coprime.mul_right ?_ hq;exact YQ (Nat.div_dvd_of_dvd (yL _ _)) hp
 ·have e1:a+b=Rat.divInt (a.num*b.den+b.num*a.den) ((a.den*b.den:Nat):Int):=by rw [Rat.add_def'];rfl
  have e2:a.num*(b.den:Int)+b.num*(a.den:Int)=(Nat.gcd a.den b.den:Int)*t:=by
   rw [ht];generalize Nat.gcd a.den b.den=g at*;rw [<-eb,<-ea,QN,QN,Int.mul_add,Int.mul_left_comm,Int.mul_left_comm b.num]
  have e3:((a.den*b.den:Nat):Int)=(Nat.gcd a.den b.den:Int)*((mA*b.den:Nat):Int):=by
   generalize Nat.gcd a.den b.den=g at*;rw [<-ea,qG,QN]
  rw [e1,e2,e3,Rat.divInt_mul_left zb];generalize Nat.gcd t.natAbs b.den=h at*;have e4:((mA*b.den:Nat):Int)=(h:Int)*((mA*(b.den / h):Nat):Int):=by
   conv=>lhs;rw [<-eh]
   rw [Nat.mul_left_comm,QN]
  rw [e4]
  conv=>lhs;rw [et]
  exact Rat.divInt_mul_left zb
theorem P5 (a b:Rat):(a*b).num=zW (decide (a.num<0) !=decide (b.num<0)) (a.num.natAbs / Nat.gcd a.num.natAbs b.den*(b.num.natAbs / Nat.gcd b.num.natAbs a.den))/\
  (a*b).den=a.den / Nat.gcd b.num.natAbs a.den*(b.den / Nat.gcd a.num.natAbs b.den):=by
 have g0:0<Nat.gcd a.num.natAbs b.den:=Nat.gcd_pos_of_pos_right _ (xR b.den_nz);have k0:0<Nat.gcd b.num.natAbs a.den:=Nat.gcd_pos_of_pos_right _ (xR a.den_nz);have ea:Nat.gcd b.num.natAbs a.den*(a.den / Nat.gcd b.num.natAbs a.den)=a.den:=YJ (XW _ _);have eb:Nat.gcd a.num.natAbs b.den*(b.den / Nat.gcd a.num.natAbs b.den)=b.den:=YJ (XW _ _);have ta:=Zi a.num _ (yL a.num.natAbs b.den);have tb:=Zi b.num _ (yL b.num.natAbs a.den);have c1:Nat.Coprime (a.num.natAbs / Nat.gcd a.num.natAbs b.den) (b.den / Nat.gcd a.num.natAbs b.den):=YK (xR b.den_nz);have c2:Nat.Coprime (b.num.natAbs / Nat.gcd b.num.natAbs a.den) (a.den / Nat.gcd b.num.natAbs a.den):=YK (xR a.den_nz);have c3 : Nat.Coprime (a.num.natAbs / Nat.gcd a.num.natAbs b.den) (a.den / Nat.gcd b.num.natAbs a.den) :=
  YQ (Nat.div_dvd_of_dvd (yL _ _)) (Nat.Coprime.coprime_dvd_right (Nat.div_dvd_of_dvd (XW _ _)) a.reduced)
 have c4 : Nat.Coprime (b.num.natAbs / Nat.gcd b.num.natAbs a.den) (b.den / Nat.gcd a.num.natAbs b.den) :=
  YQ (Nat.div_dvd_of_dvd (yL _ _)) (Nat.Coprime.coprime_dvd_right (Nat.div_dvd_of_dvd (XW _ _)) b.reduced)
 refine UJ (λh=>?_) ?_ ?_
 ·rcases Nat.mul_eq_zero.1 h with h|h
  ·rw [h] at ea;exact a.den_nz ea.symm
  ·rw [h] at eb;exact b.den_nz eb.symm
 ·rw [jE];exact Nat.Coprime.mul_right (Nat.Coprime.mul_left c3 c2) (Nat.Coprime.mul_left c1 c4)
 ·have e1:a*b=Rat.divInt (a.num*b.num) ((a.den*b.den:Nat):Int):=by rw [Rat.mul_def'];rfl
  rw [e1,<-pn];generalize a.num.natAbs / Nat.gcd a.num.natAbs b.den=x1 at*;generalize b.num.natAbs / Nat.gcd b.num.natAbs a.den=x2 at*;generalize b.den / Nat.gcd a.num.natAbs b.den=y2 at*;generalize a.den / Nat.gcd b.num.natAbs a.den=y1 at*;generalize Nat.gcd a.num.natAbs b.den=g at*;generalize Nat.gcd b.num.natAbs a.den=k at*;generalize zW (decide (a.num<0)) x1=u1 at*;generalize zW (decide (b.num<0)) x2=u2 at*;have e2:a.num*b.num=((g*k:Nat):Int)*(u1*u2):=by
   rw [ta,tb,QN];simp only [Int.mul_assoc,Int.mul_left_comm]
  have e3:((a.den*b.den:Nat):Int)=((g*k:Nat):Int)*((y1*y2:Nat):Int):=by
   rw [<-ea,<-eb,<-QN];congr 1;simp only [Nat.mul_left_comm,qS]
  rw [e2,e3];exact Rat.divInt_mul_left (by have:=Nat.mul_pos g0 k0;omega)
theorem P4 (a:Rat)(h:a≠0):(a⁻¹).num=zW (decide (a.num<0)) a.den/\(a⁻¹).den=a.num.natAbs:=by
 have hn:a.num≠0:=λe=>h (Rat.num_eq_zero.1 e);constructor
 ·rw [Rat.num_inv];unfold zW;rcases Int.lt_or_gt_of_ne hn with h1|h1
  ·rw [Int.sign_eq_neg_one_of_neg h1,decide_eq_true h1,if_pos rfl];omega
  ·rw [Int.sign_eq_one_of_pos h1,decide_eq_false zb,if_neg zg];omega
 ·rw [Rat.den_inv,if_neg hn]
theorem P6 (a:Rat):(-a).num=zW (!decide (a.num<0)) a.num.natAbs/\(-a).den=a.den:=by
 refine⟨?_,rfl⟩;rw [Rat.neg_num];unfold zW;by_cases h:a.num<0
 ·simp [h];omega
 ·simp [h];omega
theorem Of (ha:a.den=1)(hb:b.den=1):(a+b)=((a.num+b.num:Int):Rat):=by
 have h1:a=((a.num:Int):Rat):=Rat.ext (by rw [yU]) (by rw [yW,ha]);have h2:b=((b.num:Int):Rat):=Rat.ext (by rw [yU]) (by rw [yW,hb]);rw [Rat.intCast_add,<-h1,<-h2]
theorem Oi (h:a=0\/b=0\/a.den=1/\b.den=1):(a*b)=((a.num*b.num:Int):Rat):=by
 rcases h with h|h|⟨ha,hb⟩
 ·subst h;rw [yV,show(0:Rat).num=0 from rfl,Int.zero_mul];rfl
 ·subst h;rw [xI,show(0:Rat).num=0 from rfl,Int.mul_zero];rfl
 ·have h1:a=((a.num:Int):Rat):=Rat.ext (by rw [yU]) (by rw [yW,ha]);have h2:b=((b.num:Int):Rat):=Rat.ext (by rw [yU]) (by rw [yW,hb]);rw [yB,<-h1,<-h2]
open Go Go.RowKit Go.Proofs.Tryz
set_option maxHeartbeats 16000000
theorem mM:prog.underlying 45=some (.slice 3):=zP
open Go Go.RowKit Go.Proofs.Tryz
set_option maxHeartbeats 16000000
set_option maxRecDepth 100000
open Go Go.RowKit Go.Proofs.Tryz
set_option maxHeartbeats 16000000
set_option maxRecDepth 100000
open Go Go.RowKit Go.Proofs.Tryz
set_option maxHeartbeats 16000000
theorem wO {T:World->Prop}:wQ T where
 new s x A n c w _ hA hn:=Sr s x A n c w hA zb
 of z w _ h1 h2:=Rc z w h1 h2
 belowI z b A n c w _ hA hn:=TF z b A n c w hA
 abs z b A n c w _ hA hn:=(Sm z b A n c w hA zb).mono λ_ _ ⟨A',n',c',he,hw,hb,_⟩=>⟨A',n',c',he,hw,hb⟩
 sign z b A n c w _ hA hn:=Sb z b A n c w hA
 cmp x y b b' A D n m c d w _ hA hD hn hm:=So x y b b' A D n m c d w hA hD zb zb
 add x y b b' A D n m c d w _ hA hD hn hm:=Sn x y b b' A D n m c d w hA hD zb zb
 mul x y b b' A D n m c d w _ hA hD hn hm:=Sq x y b b' A D n m c d w hA hD zb zb
open Go Go.RowKit Go.Proofs.Tryz
set_option maxHeartbeats 16000000
set_option maxRecDepth 100000
theorem gW {w:World}(h:zh w g 3 #[.int .i64 1]):zB w 1 (some ⟨g,0,none⟩) 1 1:=by
 have e:dg 65536 1=[1]:=by
  rw [kf zg zg];rfl
 refine⟨?_,qY _,zb⟩;rw [e];refine⟨rfl,λ_=>⟨_,rfl,h.lt,λj u hu=>?_⟩⟩
 match j,hu with
 |0,hu=>simp [zq] at hu;subst hu;exact h.cell 0
open Go Go.RowKit Go.Proofs.Tryz
set_option maxHeartbeats 16000000
theorem nG:xz 1:=⟨zg,zg⟩
theorem nF:xz 0:=⟨zg,zg⟩
open Go Go.RowKit Go.Proofs.Tryz
set_option maxHeartbeats 16000000
def zC (k:Nat)(f:Nat->Rat):Rat:=uA ((List.range k).map f)
theorem eG (f:Nat->Rat):zC 0 f=0:=rfl
theorem Qo (rs:List Rat)(r:Rat):uA (rs++[r])=uA rs+r:=by
 unfold uA;rw [yR];rfl
theorem wj (k:Nat)(f:Nat->Rat):zC (k+1) f=zC k f+f k:=by
 unfold zC;rw [yA,YX,yX,List.map_nil,Qo]
theorem yt {f g:Nat->Rat}(h:∀i,i<k->f i=g i):zC k f=zC k g:=by
 unfold zC;congr 1;exact List.map_congr_left λi hi=>h i (List.mem_range.1 hi)
theorem tj (h:∀i,i<k->f i=0):zC k f=0:=by
 induction k with
 |zero=>rfl
 |succ k ih=>rw [wj,ih (λi hi=>h i zb),h k zb,XJ]
theorem Ru (a b c d:Rat):(a+b)+(c+d)=(a+c)+(b+d):=by
 rw [Rat.add_assoc,Rat.add_assoc,<-Rat.add_assoc b c d,<-Rat.add_assoc c b d,Rat.add_comm b c]
theorem sc (k:Nat)(f g:Nat->Rat):zC k (λi=>f i+g i)=zC k f+zC k g:=by
 induction k with
 |zero=>exact(XJ 0).symm
 |succ k ih=>rw [wj,wj,wj,ih,Ru]
theorem wU (k:Nat)(a:Rat)(f:Nat->Rat):a*zC k f=zC k (λi=>a*f i):=by
 induction k with
 |zero=>exact xI a
 |succ k ih=>rw [wj,wj,Rat.mul_add,ih]
theorem aF (n k:Nat)(f:Nat->Nat->Rat):zC n (λi=>zC k (λj=>f i j))=zC k (λj=>zC n (λi=>f i j)):=by
 induction n with
 |zero=>exact(tj λi _=>rfl).symm
 |succ n ih=>
   rw [wj,ih,<-sc];exact yt λj _=>(wj n λi=>f i j).symm
theorem WI (hc:c<k)(f:Nat->Rat):zC k (λi=>f i*(if i=c then 1 else 0))=f c:=by
 induction k with
 |zero=>omega
 |succ k ih=>
   rw [wj];by_cases h:c=k
   ·subst h;rw [if_pos rfl,Rat.mul_one,tj λi hi=>by rw [if_neg zb,xI],YM]
   ·rw [if_neg zb,xI,XJ,ih zb]
def vk (n m:Nat)(f:Nat->Nat->Rat):List (List Rat):=(List.range n).map λr=>(List.range m).map (f r)
def zv (M:List (List Rat))(r c:Nat):Rat:=(M.getD r []).getD c 0
structure zM (M:List (List Rat))(n m:Nat):Prop where
 rows:M.length=n
 cols:∀L ∈ M,L.length=m
theorem zM.row {m:Nat}(h:zM M n m){r:Nat}(hr:r<n):(M.getD r []).length=m:=by
 have hl:=h.rows;rw [qQ,qX zb];exact h.cols _ (xS _)
theorem eI (n m:Nat)(f:Nat->Nat->Rat):zM (vk n m f) n m:=⟨by simp [vk],λL hL=>by
 obtain⟨r,_,rfl⟩:=List.mem_map.1 hL;simp⟩
theorem V6 {f:Nat->Nat->Rat}{r:Nat}(hr:r<n):(vk n m f).getD r []=(List.range m).map (f r):=by
 unfold vk;rw [qQ,QQ,xW hr];rfl
theorem R4 (hc:c<m):((List.range m).map f).getD c 0=f c:=by
 rw [qQ,QQ,xW hc];rfl
theorem Tb {f:Nat->Nat->Rat}{r:Nat}(hr:r<n)(hc:c<m):zv (vk n m f) r c=f r c:=by
 unfold zv;rw [V6 hr,R4 hc]
theorem R5 (h:xs.length=m):(List.range m).map (λc=>xs.getD c 0)=xs:=by
 subst h;apply jQ
 ·simp
 ·intro i h1 h2;rw [List.getElem_map,List.getElem_range,qQ,qX h2];rfl
theorem zM.eq (h:zM M n m):vk n m (zv M)=M:=by
 have hl:=h.rows;unfold vk;apply jQ
 ·simp [hl]
 ·intro i h1 h2;rw [List.getElem_map,List.getElem_range];have e:M.getD i []=M[i]:=by rw [qQ,qX h2];rfl
  show(List.range m).map (λc=>(M.getD i []).getD c 0)=M[i];rw [e];exact R5 (h.cols _ (xS h2))
def um (n:Nat)(M:List (List Rat))(c:Nat):List Rat:=(List.range n).map λr=>zv M r c
theorem fv (n:Nat)(M:List (List Rat))(c:Nat):(um n M c).length=n:=by simp [um]
def uU (n m:Nat)(M:List (List Rat)):List (List Rat):=vk m n λr c=>zv M c r
theorem PH {r:Nat}(hr:r<m):(uU n m M).getD r []=um n M r:=V6 hr
def dZ (n k m:Nat)(A B:List (List Rat)):List (List Rat):=vk n m λr c=>gm (A.getD r []) (um k B c)
theorem Zw {r:Nat}(hr:r<m)(hc:c<n):zv (uU n m M) r c=zv M c r:=Tb hr hc
theorem aH (n m:Nat)(M:List (List Rat)):zM (uU n m M) m n:=eI _ _ _
theorem VT (m:Nat):zM [] 0 m:=⟨rfl,λL hL=>by cases hL⟩
def vh (M:List (List Rat))(r:Nat):List (List Rat):=M.eraseIdx r
theorem Ro {v:List Rat}(h:M.length=n):vh (M++[v]) n=M:=by
 subst h;unfold vh;rw [List.eraseIdx_append_of_length_le (qY _),yJ];simp
