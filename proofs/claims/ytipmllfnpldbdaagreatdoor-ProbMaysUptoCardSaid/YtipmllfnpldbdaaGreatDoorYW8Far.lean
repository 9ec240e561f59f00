/- What this claim leans on. -/
import Derived.Test.YtipmllfnpldbdaaGreatDoorYD8Math
set_option linter.unusedVariables false
set_option linter.unusedSimpArgs false
namespace Go.Proofs.YtipmllfnpldbdaaGreatDoor
open Go Go.RowKit
set_option maxHeartbeats 16000000
variable {cs:Array Value}{b:Bool}{p z:Int}{xs ys:List Rat}{B K K' c f g id x:Nat}{y:Rat}{t:TypeId}{a:Value}{W w w':World}{A E:zf}
def xe (g:Nat)(w w':World):Prop:=w'.heap.size=w.heap.size/\∀p:Addr,p.block≠g->w'.cell? p=w.cell? p
theorem xe.refl (g:Nat)(w:World):xe g w w:=⟨rfl,λ_ _=>rfl⟩
theorem xe.set_ (h:xe g w w')(j:Nat)(v:Value):xe g w (w'.setCell ⟨g,j,none⟩ v):=
 ⟨by rw [<-h.1];simp,λp hp=>(yL w' ⟨g,j,none⟩ p v (λe=>hp (by first|rw [e]|rw [<-e]))).trans (h.2 p hp)⟩
theorem pp (w:World)(g:Nat)(v0:Value):xe g w (w.setCell ⟨g,0,none⟩ v0):=(xe.refl g w).set_ 0 v0
theorem wS (w:World)(g:Nat)(v0 v1:Value):xe g w ((w.setCell ⟨g,0,none⟩ v0).setCell ⟨g,1,none⟩ v1):=(pp w g v0).set_ 1 v1
theorem wT (w:World)(g:Nat)(v0 v1 v2:Value):xe g w (((w.setCell ⟨g,0,none⟩ v0).setCell ⟨g,1,none⟩ v1).setCell ⟨g,2,none⟩ v2):=(wS w g v0 v1).set_ 2 v2
def yd (cs:Array Value):Prop:=∀v ∈ cs.toList,∀k z,v≠.int k z
theorem yd.s1 (q:zf)(r s:Nat):yd #[.slice q r s]:=by intro v hv k z e;simp at hv;subst hv;cases e
theorem yd.s2 (p:Bool)(q:zf)(r s:Nat):yd #[.bool p,.slice q r s]:=by intro v hv k z e;simp at hv;rcases hv with rfl|rfl<;>cases e
theorem yd.s3 (p:Bool)(q:zf)(r s:Nat)(q2:zf)(r2 s2:Nat):yd #[.bool p,.slice q r s,.slice q2 r2 s2]:=by intro v hv k z e;simp at hv;rcases hv with rfl|rfl|rfl<;>cases e
theorem jU:yd #[.slice none 0 0]:=yd.s1 _ _ _
theorem jV:yd #[.bool false,.slice none 0 0]:=yd.s2 _ _ _ _
theorem d8 {n:Nat}{k:IntKind}{l:List Nat}(h:zE w w.heap.size 1 A n (zw k l))(hk:zi w g t cs)(a:yd cs):0<n->∀ad,A=some ad->ad.block≠g:=λhn ad e hg=>by
 have hl:=h.len_;obtain⟨ad',e',_,hc⟩:=h.2 hn;rw [e] at e';injection e' with e';subst e';have h0:=hc 0 (.int k (l.getD 0 0:Nat)) (oD k _ 0 za);have e0:ad.add 0=ad:=by unfold Addr.add;rw [if_pos rfl]
 rw [e0] at h0;obtain⟨bk,off,pr⟩:=ad;simp only at hg;subst hg;unfold zi at hk;cases pr with
 |none=>
   rw [show w.cell? ⟨bk,off,none⟩=cs[off]? from cell_of_row w bk off _ t (0,0) hk,<-QP] at h0;exact a _ (QN h0) _ _ rfl
 |some q=>simp [World.cell?,hk] at h0
theorem VO {n:Nat}{k:IntKind}{l:List Nat}(h:zE w w.heap.size 1 A n (zw k l))(hk:zi w g t cs)(a:yd cs)(ho:xe g w w'):zE w' w'.heap.size 1 A n (zw k l):=by
 have d:=d8 h hk a;refine⟨h.1,λhn=>?_⟩;obtain⟨ad,e,hb,hc⟩:=h.2 hn;refine⟨ad,e,by rw [ho.1];exact hb,λj v hv=>?_⟩;rw [ho.2 (ad.add j) (by rw [y9];exact d hn ad e)];exact hc j v hv
theorem oE {n:Nat}(h:zp w x A n c)(hk:zi w g t cs)(a:yd cs)(ho:xe g w w'):zp w' x A n c:=⟨VO h.1 hk a ho,h.2⟩
theorem iZ {n:Nat}(h:zO w z b A n c)(hk:zi w g t cs)(a:yd cs)(ho:xe g w w'):zO w' z b A n c:=⟨h.1,oE h.2 hk a ho⟩
theorem pY {r:Rat}{n:Nat}{k:Nat}(h:zu w r b A n c E k f)(hk:zi w g t cs)(a:yd cs)(ho:xe g w w'):zu w' r b A n c E k f:=by
 refine⟨iZ h.1 hk a ho,?_⟩;obtain⟨x,e,hx⟩:=h.2;exact⟨x,e,oE hx hk a ho⟩
def zt (K:Nat)(r:Rat):Prop:=yh (18446744073709551616^K) r
theorem zt.up {r:Rat}(h:zt K r)(hk:K<=K'):zt K' r:=yh.up h (qL zh hk)
theorem eI (K K':Nat):2*(18446744073709551616^K*18446744073709551616^K')<=18446744073709551616^(K+K'+1):=by
 rw [qN,xU,qE];exact QG _ zh
theorem zt.add {r s:Rat}(h:zt K r)(h':zt K' s):zt (K+K'+1) (r+s):=yh.up (yh.add h h') (eI K K')
theorem zt.sub {r s:Rat}(h:zt K r)(h':zt K' s):zt (K+K'+1) (r - s):=yh.up (yh.sub h h') (eI K K')
theorem zt.mul {r s:Rat}(h:zt K r)(h':zt K' s):zt (K+K') (r*s):=yh.up (yh.mul h h') (by rw [xU];exact qX _)
theorem zt.neg {r:Rat}(h:zt K r):zt K (-r):=yh.neg h
theorem zt.inv {r:Rat}(h:zt K r):zt K r⁻¹:=yh.inv h
theorem zt.abs {r:Rat}(h:zt K r):zt K r.abs:=by
 unfold Rat.abs
 split
 ·exact h
 ·exact h.neg
theorem zt.min {r s:Rat}(h:zt K r)(h':zt K' s):zt (K+K') (nu r s):=by
 unfold nu
 split
 ·exact h.up za
 ·exact h'.up za
theorem zt.num {r:Rat}(h:zt K r):Sz K r.num.natAbs:=h.1
theorem zt.den {r:Rat}(h:zt K r):Sz K r.den:=h.2
theorem jc (h:0<K):1<18446744073709551616^K:=Nat.one_lt_pow za zh
theorem zt.whole (h:Sz K z.natAbs)(hK:0<K):zt K (z:Rat):=yh.whole h (jc hK)
theorem zt.made {K:Nat}{q:Int}(h:Sz K p.natAbs)(h':Sz K q.natAbs)(hK:0<K):zt K (Rat.divInt p q):=yh.made h h' (jc hK)
theorem zt.zero:zt 1 (0:Rat):=⟨zh,zh⟩
theorem zt.fit {r:Rat}(h:zt K r){w:World}{b:Bool}{A:zf}{n c:Nat}{E:zf}{k f:Nat}(hr:zu w r b A n c E k f)(hK:K<=67108864):zJ n k:=by
 refine⟨qC (h.num.words hr.1.2) (qC hK zh),?_⟩;obtain⟨x,⟨e,_⟩,hx⟩:=hr.2;have hd:Sz K x:=h.den.of_le (by rw [e];split<;>omega);exact qC (hd.words hx) (qC hK zh)
def ut (p q:Int):Rat:=Rat.divInt p (if q=0 then 1 else q)
theorem sv (p:Int):ut p 0=(p:Rat):=by
 unfold ut;rw [if_pos rfl];exact Rat.ext (by rw [Rat.num_divInt,yR];simp) (by rw [Rat.den_divInt,yS];simp)
theorem nE {q:Int}(h:q≠0):ut p q=Rat.divInt p q:=by unfold ut;rw [if_neg h]
theorem vL (h1: -9223372036854775808<=z)(h2:z<=9223372036854775807):Sz 1 z.natAbs:=by
 show z.natAbs<18446744073709551616^1;rw [Nat.pow_one];omega
theorem su {q:Int}(a: -9223372036854775808<=p)(d:p<=9223372036854775807)(g: -9223372036854775808<=q)(h:q<=9223372036854775807):zt 1 (ut p q):=by
 unfold ut;refine zt.made (vL a d) ?_ zh
 split
 ·exact vL zh zh
 ·exact vL g h
def ui (rs:List Rat):Rat:=rs.foldl (λa b=>a+b) 0
theorem V7 (rs:List Rat)(a:Rat):rs.foldl (λa b=>a+b) a=a+ui rs:=by
 unfold ui
 induction rs generalizing a with
 |nil=>exact(YC a).symm
 |cons r t ih=>
   rw [List.foldl_cons,List.foldl_cons,ih (a+r),ih (0+r),YE,Rat.add_assoc]
theorem cP:ui []=0:=rfl
theorem iv (r:Rat)(rs:List Rat):ui (r::rs)=r+ui rs:=by
 show(r::rs).foldl (λa b=>a+b) 0=_;rw [List.foldl_cons,V7,YE]
def wR (xs ys:List Rat):Rat:=ui (List.zipWith (λa b=>a*b) xs ys)
def jF (xs ys:List Rat):List Rat:=List.zipWith (λa b=>a+b) xs ys
def nG (xs ys:List Rat):List Rat:=List.zipWith (λa b=>a - b) xs ys
def lw (xs ys:List Rat):List Rat:=List.zipWith (λa b=>a*b) xs ys
theorem aS {f:Rat->Rat->Rat}{n:Nat}(h:xs.length=n)(k:ys.length=n):(List.zipWith f xs ys).length=n:=by rw [List.length_zipWith,h,k,Nat.min_self]
def wI:List Rat->List Rat->Int
 |[],[]=>0
 |[],_::_=> -1
 |_::_,[]=>1
 |x::xs,y::ys=>if x=y then wI xs ys else wX x y
theorem qg {x:Rat}(h:x≠y):wX x y≠0:=λe=>h ((qf x y).1 e)
theorem gK:∀(xs ys:List Rat),wI xs ys=0↔xs=ys
 |[],[]=>by simp [wI]
 |[],_::_=>by simp [wI]
 |_::_,[]=>by simp [wI]
 |x::xs,y::ys=>by
   unfold wI;by_cases h:x=y
   ·rw [if_pos h,gK xs ys,h];simp
   ·rw [if_neg h];constructor
    ·intro e;exact absurd e (qg h)
    ·intro e;injection e with e1 e2;exact absurd e1 h
theorem Vp {x:Rat}(h:x=y):wI (x::xs) (y::ys)=wI xs ys:=by
 show(if x=y then wI xs ys else wX x y)=_;exact if_pos h
theorem Xz {x:Rat}(h:x≠y):wI (x::xs) (y::ys)=wX x y:=by
 show(if x=y then wI xs ys else wX x y)=_;exact if_neg h
theorem mz {xs:List Rat}{k:Nat}(h:k<xs.length):xs.drop k=xs.getD k 0::xs.drop (k+1):=by
 rw [xS h,qQ,qZ h];rfl
theorem ZO {k:Nat}(hx:k<xs.length)(hy:k<ys.length)(h:xs.getD k 0=ys.getD k 0):wI (xs.drop k) (ys.drop k)=wI (xs.drop (k+1)) (ys.drop (k+1)):=by
 rw [mz hx,mz hy,Vp h]
theorem ZC {k:Nat}(hx:k<xs.length)(hy:k<ys.length)(h:xs.getD k 0≠ys.getD k 0):wI (xs.drop k) (ys.drop k)=wX (xs.getD k 0) (ys.getD k 0):=by
 rw [mz hx,mz hy,Xz h]
def tp (a b:Nat):Int:=if a<b then -1 else if a=b then 0 else 1
theorem tr {k:Nat}(hk:k=min xs.length ys.length):wI (xs.drop k) (ys.drop k)=tp xs.length ys.length:=by
 unfold tp;by_cases h1:xs.length<ys.length
 ·rw [if_pos h1,QM za,mz (xs:=ys) za];rfl
 ·rw [if_neg h1];by_cases h2:xs.length=ys.length
  ·rw [if_pos h2,QM za,QM za];rfl
  ·rw [if_neg h2,QM (l:=ys) za,mz (xs:=xs) za];rfl
def rL (xs:List Rat):Bool:=xs.any λx=>decide (x.num<0)
theorem Xh (xs:List Rat)(k:Nat)(h:k<xs.length):rL (xs.take (k+1))=(rL (xs.take k)||decide ((xs.getD k 0).num<0)):=by
 unfold rL;rw [QJ h,List.any_append,qQ,qZ h];simp
def zI (K:Nat)(xs:List Rat):Prop:=∀x ∈ xs,zt K x
theorem zI.at_ (h:zI K xs){k:Nat}(hk:k<xs.length):zt K (xs.getD k 0):=by
 rw [qQ,qZ hk];exact h _ (xM hk)
theorem zI.up (h:zI K xs)(e:K<=K'):zI K' xs:=λx hx=>(h x hx).up e
theorem zI.zip {K K' L:Nat}{f:Rat->Rat->Rat}(hf:∀x y,zt K x->zt K' y->zt L (f x y)):∀{xs ys:List Rat},zI K xs->zI K' ys->zI L (List.zipWith f xs ys)
 |[],_,_,_=>λx hx=>by cases hx
 |_::_,[],_,_=>λx hx=>by cases hx
 |x::xs,y::ys,h,k=>λz hz=>by
   rw [List.zipWith_cons_cons] at hz;rcases List.mem_cons.1 hz with rfl|hz
   ·exact hf x y (h x yD) (k y yD)
   ·exact zI.zip hf (λa ha=>h a (yE _ ha)) (λa ha=>k a (yE _ ha)) z hz
theorem zI.add (h:zI K xs)(k:zI K' ys):zI (K+K'+1) (jF xs ys):=zI.zip (λ_ _=>zt.add) h k
theorem zI.sub (h:zI K xs)(k:zI K' ys):zI (K+K'+1) (nG xs ys):=zI.zip (λ_ _=>zt.sub) h k
theorem zI.mul (h:zI K xs)(k:zI K' ys):zI (K+K') (lw xs ys):=zI.zip (λ_ _=>zt.mul) h k
theorem fh {K:Nat}:∀{xs:List Rat},zI K xs->zt (1+xs.length*(K+1)) (ui xs)
 |[],_=>by rw [YZ,Nat.zero_mul];exact zt.zero
 |x::xs,h=>by
   rw [iv];exact((h x yD).add (fh λa ha=>h a (yE _ ha))).up (by rw [xY,Nat.succ_mul];omega)
theorem pN {n:Nat}(h:zI K xs)(hl:xs.length=n)(k:Nat)(hk:k<=n):zt (1+n*(K+1)) (ui (xs.take k)):=by
 have h1:=fh (xs:=xs.take k) (K:=K) (λa ha=>h a (XK ha));refine h1.up ?_;rw [QY];have:min k xs.length*(K+1)<=n*(K+1):=QK _ za;omega
theorem fk {n:Nat}(hx:xs.length=n)(hy:ys.length=n)(h:zI K xs)(k:zI K' ys):zt (1+n*(K+K'+1)) (wR xs ys):=by
 have:=fh (zI.mul h k);rw [show(lw xs ys).length=n from aS hx hy] at this;exact this
def Cs (w:World):List (Addr×Value)->Prop
 |[]=>True
 |q::t=>w.cell? q.1=some q.2/\Cs w t
theorem zQ:Cs w []:=trivial
theorem zk {p:Addr}{v:Value}{l:List (Addr×Value)}(h:w.cell? p=some v)(t:Cs w l):Cs w ((p,v)::l):=⟨h,t⟩
theorem Cs.below {l:List (Addr×Value)}(h:Cs w l)(hb:Below w.heap.size w w'):Cs w' l:=by
 induction l with
 |nil=>trivial
 |cons q t ih=>exact⟨zq hb h.1,ih h.2⟩
theorem Cs.drew {l:List (Addr×Value)}(h:Cs w l):Cs w.drew l:=by
 induction l with
 |nil=>trivial
 |cons q t ih=>exact⟨h.1,ih h.2⟩
def vU (g:Nat):List (Addr×Value)->Prop
 |[]=>True
 |q::t=>q.1.block≠g/\vU g t
theorem Cs.far {l:List (Addr×Value)}(h:Cs w l)(hf:xe g w w')(hn:vU g l):Cs w' l:=by
 induction l with
 |nil=>trivial
 |cons q t ih=>exact⟨(hf.2 q.1 hn.1).trans h.1,ih h.2 hn.2⟩
theorem fs {l:List (Addr×Value)}(x y:Value)(h:Cs w l)(hn:vU g l:=by(simp only [vU,and_true];try omega)):Cs ((w.setCell ⟨g,0,none⟩ x).setCell ⟨g,1,none⟩ y) l:=h.far (wS w g x y) hn
theorem ru {l:List (Addr×Value)}(x y z:Value)(h:Cs w l)(hn:vU g l:=by(simp only [vU,and_true];try omega)):Cs (((w.setCell ⟨g,0,none⟩ x).setCell ⟨g,1,none⟩ y).setCell ⟨g,2,none⟩ z) l:=h.far (wT w g x y z) hn
theorem zR:(∀(a:Act) (d:Nat) (v:Value),a.put (some d) v={tmps:=a.tmps.setIfInBounds d v,defers:=a.defers})/\(∀(a:Act) (v:Value),a.put none v=a)/\(∀(l:List Value) (i:Nat) (v:Value),l.toArray.setIfInBounds i v=(l.set i v).toArray)/\(∀(x:Value) (l:List Value) (v:Value),(x::l).set 0 v=v::l)/\(∀(x:Value) (l:List Value) (i:Nat) (v:Value),(x::l).set (i+1) v=x::l.set i v):=
 ⟨λ_ _ _=>rfl,λ_ _=>rfl,λ_ _ _=>qK ..,λ_ _ _=>rfl,λ_ _ _ _=>rfl⟩
section
variable {P:Program}{ops:Array Oper}{Q:Exit->Act->World->Prop}{S:World->Prop}{fuel:Nat}{l:Array Bool}{a:Act}{w:World}
theorem rg {cl:List (Addr×Value)}(h0:Cs w cl)(h:Cs w.drew cl->wpAnyH P .any ops (NoPanic Q) (λw'=>Cs w' cl) ops.size (Array.replicate ops.size false) a w.drew)(hm:P.follows Departure.mixedOrders=true:=by kernel_rfl):Code.wp P (.region id ops true) Q a w:=
 wp_region_noPanic (wp_region_held_drew (S:=λw'=>Cs w' cl) hm h0.drew h)
theorem tk (i:Nat){o:Oper}{v:Value}{a':Act}(hn:wpAnyH P .any ops (NoPanic Q) S fuel (l.setIfInBounds i true) a' w)(h1:ops[i]?=some o:=by simp only [QQ,qR,qW];rfl)(h2:Region.noSelect ops=true:=by kernel_rfl)(h3:Region.free .any ops l i=true:=by kernel_rfl)(h4:(Region.ready .any ops l).contains i=true:=by kernel_rfl)(h5:Region.wanted o (yielded ops a.tmps)=true:=by rfl)(h6:∀w,S w->Sem.run P (execOp a.eval o) w=Result.ok (Next.value v) w:=by((intro w d;(try dsimp only [Cs] at d);go_simp);(try with_reducible rfl)))(hS:S w:=by with_reducible assumption)(ha:a.put o.dst v=a':=by(simp only [zR];try rfl)):wpAnyH P .any ops (NoPanic Q) S (fuel+1) l a w:=
 wpAnyH_take h1 h2 h3 h4 (λ_ _ _ h=>h) (Or.inl ⟨h5,h6⟩) hS (ha▸hn)
theorem rc (i:Nat){o:Oper}(hk:∀K':Act->World->Prop,Shut (∀(a:Act) (w:World),S w->(S w->wpAnyH P .any ops (NoPanic Q) S fuel (l.setIfInBounds i true) a w)->K' a w)->Oper.wp P o a w K' (NoPanic Q))(h1:ops[i]?=some o:=by simp only [QQ,qR,qW];rfl)(h2:Region.ready .any ops l=[i]:=by kernel_rfl)(h3:Region.wanted o (yielded ops a.tmps)=true:=by rfl):wpAnyH P .any ops (NoPanic Q) S (fuel+1) l a w:=
 wpAnyH_ready h2 zD (AllReadyH.cons h1 (λK' hK=>by rw [if_pos h3];exact hk K' hK) AllReadyH.nil)
theorem z8 (h:Q .normal a w)(hr:Region.ready .any ops l=[]:=by kernel_rfl):wpAnyH P .any ops (NoPanic Q) S fuel l a w:=wpAnyH_done hr (NoPanic.normal h) fuel
variable {ops0:Array Oper}{md:Region.Mode}{i:Nat}
theorem Gd.off (h:Gd b (false=true)):b=false:=by
 cases b
 ·rfl
 ·exact absurd (h rfl) zh
end
theorem zi.c1 {x:Value}(h:zi w g t #[x]):w.cell? ⟨g,0,none⟩=some x:=h.cell 0
theorem zi.c2 {x y:Value}(h:zi w g t #[x,y]):w.cell? ⟨g,0,none⟩=some x/\w.cell? ⟨g,1,none⟩=some y:=⟨h.cell 0,h.cell 1⟩
theorem zi.c3 {x y z:Value}(h:zi w g t #[x,y,z]):w.cell? ⟨g,0,none⟩=some x/\w.cell? ⟨g,1,none⟩=some y/\w.cell? ⟨g,2,none⟩=some z:=⟨h.cell 0,h.cell 1,h.cell 2⟩
theorem kG (h:zi w g t #[a]):w.cell? ⟨g,0,none⟩=some a/\w.frozen? ⟨g,0,none⟩=false:=⟨h.cell 0,h.frozen 0⟩
theorem oz {b:Value}(h:zi w g t #[a,b])(x:Value):w.cell? ⟨g,0,none⟩=some a/\w.frozen? ⟨g,0,none⟩=false/\(w.setCell ⟨g,0,none⟩ x).cell? ⟨g,1,none⟩=some b/\(w.setCell ⟨g,0,none⟩ x).frozen? ⟨g,1,none⟩=false:=⟨h.cell 0,h.frozen 0,(h.set_ 0 x).cell 1,(h.set_ 0 x).frozen 1⟩
theorem yj {b c:Value}(h:zi w g t #[a,b,c])(x y:Value):w.cell? ⟨g,0,none⟩=some a/\w.frozen? ⟨g,0,none⟩=false/\(w.setCell ⟨g,0,none⟩ x).cell? ⟨g,1,none⟩=some b/\(w.setCell ⟨g,0,none⟩ x).frozen? ⟨g,1,none⟩=false/\((w.setCell ⟨g,0,none⟩ x).setCell ⟨g,1,none⟩ y).cell? ⟨g,2,none⟩=some c/\((w.setCell ⟨g,0,none⟩ x).setCell ⟨g,1,none⟩ y).frozen? ⟨g,2,none⟩=false:=
 ⟨h.cell 0,h.frozen 0,(h.set_ 0 x).cell 1,(h.set_ 0 x).frozen 1,((h.set_ 0 x).set_ 1 y).cell 2,((h.set_ 0 x).set_ 1 y).frozen 2⟩
theorem lH (h:zi w g t #[a])(x:Value):zi (w.setCell ⟨g,0,none⟩ x) g t #[x]:=h.set_ 0 x
theorem ow {b:Value}(h:zi w g t #[a,b])(x y:Value):zi ((w.setCell ⟨g,0,none⟩ x).setCell ⟨g,1,none⟩ y) g t #[x,y]:=(h.set_ 0 x).set_ 1 y
theorem yi {b c:Value}(h:zi w g t #[a,b,c])(x y z:Value):zi (((w.setCell ⟨g,0,none⟩ x).setCell ⟨g,1,none⟩ y).setCell ⟨g,2,none⟩ z) g t #[x,y,z]:=((h.set_ 0 x).set_ 1 y).set_ 2 z
theorem oU (x:Value)(hg:w.heap.size<=g)(h:Below w.heap.size w W):Below w.heap.size w (W.setCell ⟨g,0,none⟩ x):=zH x hg h
theorem rt {g:Nat}(x y:Value)(hg:w.heap.size<=g)(h:Below w.heap.size w W):Below w.heap.size w ((W.setCell ⟨g,0,none⟩ x).setCell ⟨g,1,none⟩ y):=zH y hg (zH x hg h)
theorem vY (x y z:Value)(hg:w.heap.size<=g)(h:Below w.heap.size w W):Below w.heap.size w (((W.setCell ⟨g,0,none⟩ x).setCell ⟨g,1,none⟩ y).setCell ⟨g,2,none⟩ z):=zH z hg (rt x y hg h)
theorem fu {n:Nat}{q:zf}{r s:Nat}(h:zp W x A n c)(k:zi W g t #[.slice q r s])(hB:Below w.heap.size w W)(hg:w.heap.size<=g):nO w x (.returned (.agg #[.slice A n c])) (W.setCell ⟨g,0,none⟩ (.slice A n c)):=
 ⟨_,_,_,rfl,oE h k (yd.s1 _ _ _) (pp _ _ _),oU _ hg hB⟩
theorem jQ {n:Nat}{p:Bool}{q:zf}{r s:Nat}(h:zO W z b A n c)(k:zi W g t #[.bool p,.slice q r s])(hB:Below w.heap.size w W)(hg:w.heap.size<=g):yu w z (.returned (.agg #[.bool b,.slice A n c])) ((W.setCell ⟨g,0,none⟩ (.bool b)).setCell ⟨g,1,none⟩ (.slice A n c)):=
 ⟨_,_,_,_,rfl,iZ h k (yd.s2 _ _ _ _) (wS _ _ _ _),rt _ _ hg hB⟩
theorem xw {r:Rat}{n k:Nat}{p:Bool}{q q2:zf}{r1 s r2 s2:Nat}(h:zu W r b A n c E k f)(kd:zi W g t #[.bool p,.slice q r1 s,.slice q2 r2 s2])(hB:Below w.heap.size w W)(hg:w.heap.size<=g):ye w r (.returned (.agg #[.bool b,.slice A n c,.slice E k f])) (((W.setCell ⟨g,0,none⟩ (.bool b)).setCell ⟨g,1,none⟩ (.slice A n c)).setCell ⟨g,2,none⟩ (.slice E k f)):=
 ⟨_,_,_,_,_,_,_,rfl,pY h kd (yd.s3 _ _ _ _ _ _ _) (wT _ _ _ _ _),vY _ _ _ hg hB⟩
theorem tB {r:Rat}(u:Bool){g:Nat}{t:TypeId}{b:Bool}{A E:zf}{n c k f:Nat}{p:Bool}{q q2:zf}{r1 s r2 s2:Nat}(h:zu W r b A n c E k f)(kd:zi W g t #[.bool p,.slice q r1 s,.slice q2 r2 s2])(hB:Below w.heap.size w W)(hg:w.heap.size<=g):wj w r u (.returned (.tuple #[.agg #[.bool b,.slice A n c,.slice E k f],.bool u])) (((W.setCell ⟨g,0,none⟩ (.bool b)).setCell ⟨g,1,none⟩ (.slice A n c)).setCell ⟨g,2,none⟩ (.slice E k f)):=
 ⟨_,_,_,_,_,_,_,rfl,pY h kd (yd.s3 _ _ _ _ _ _ _) (wT _ _ _ _ _),vY _ _ _ hg hB⟩
section
variable {P:Program}{ops:Array Oper}{Q:Exit->Act->World->Prop}{S:World->Prop}{fuel:Nat}{l:Array Bool}{a:Act}{w:World}
theorem mt (h:Below w.heap.size w w.drew->wpAnyH P .any ops (NoPanic Q) (λw'=>Below w.heap.size w w') ops.size (Array.replicate ops.size false) a w.drew)(hm:P.follows Departure.mixedOrders=true:=by kernel_rfl):Code.wp P (.region id ops true) Q a w:=
 wp_region_noPanic (wp_region_held_drew (S:=λw'=>Below w.heap.size w w') hm (qY _ w).drew h)
theorem tl (i:Nat){cl:List (Addr×Value)}(hc:∀w,S w->Cs w cl){o:Oper}{v:Value}{a':Act}(hn:wpAnyH P .any ops (NoPanic Q) S fuel (l.setIfInBounds i true) a' w)(h1:ops[i]?=some o:=by simp only [QQ,qR,qW];rfl)(h2:Region.noSelect ops=true:=by kernel_rfl)(h3:Region.free .any ops l i=true:=by kernel_rfl)(h4:(Region.ready .any ops l).contains i=true:=by kernel_rfl)(h5:Region.wanted o (yielded ops a.tmps)=true:=by rfl)(h6:∀w,Cs w cl->Sem.run P (execOp a.eval o) w=Result.ok (Next.value v) w:=by((intro w d;(try dsimp only [Cs] at d);go_simp);(try with_reducible rfl)))(hS:S w:=by with_reducible assumption)(ha:a.put o.dst v=a':=by(simp only [zR];try rfl)):wpAnyH P .any ops (NoPanic Q) S (fuel+1) l a w:=
 wpAnyH_take h1 h2 h3 h4 (λ_ _ _ h=>h) (Or.inl ⟨h5,λw hs=>h6 w (hc w hs)⟩) hS (ha▸hn)
end
theorem z7 {n:Nat}(h:zg (Sz K x))(k:zp w x A n c)(e:K<=B:=by omega):n<=B:=qC (h.o.words k) e
theorem zZ {n:Nat}(h:zg (Sz K z.natAbs))(k:zO w z b A n c)(e:K<=B:=by omega):n<=B:=qC (h.o.words k.words) e
theorem ya {n k:Nat}{r:Rat}(h:zg (zt K r))(q:zu w r b A n c E k f)(e:K<=67108864:=by omega):zJ n k:=zt.fit h.o q e
