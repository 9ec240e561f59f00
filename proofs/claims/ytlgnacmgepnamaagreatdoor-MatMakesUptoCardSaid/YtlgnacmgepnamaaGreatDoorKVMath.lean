/- What this claim leans on. -/
import Derived.Test.YtlgnacmgepnamaaGreatDoorKW8Far
namespace Go.Proofs.YtlgnacmgepnamaaGreatDoor
open Go Go.RowKit
set_option maxHeartbeats 16000000
set_option linter.unusedVariables false
def qOf (p q:Int):Rat:=Rat.divInt p (if q=0 then 1 else q)
theorem zlS (p:Int):qOf p 0=(p:Rat):=by
 unfold qOf
 rw [if_pos rfl]
 exact Rat.ext (by rw [Rat.num_divInt,Rat.num_intCast];simp) (by rw [Rat.den_divInt,Rat.den_intCast];simp)
theorem qOf_ne {p q:Int}(h:q≠0):qOf p q=Rat.divInt p q:=by unfold qOf;rw [if_neg h]
theorem zel {z:Int}(h1: -9223372036854775808<=z)(h2:z<=9223372036854775807):Sz 1 z.natAbs:=by
 show z.natAbs<18446744073709551616^1
 rw [Nat.pow_one]
 omega
theorem qOf_sz {p q:Int}(hp1: -9223372036854775808<=p)(hp2:p<=9223372036854775807)(hq1: -9223372036854775808<=q)(hq2:q<=9223372036854775807):SzQ 1 (qOf p q):=by
 unfold qOf
 refine SzQ.made (zel hp1 hp2) ?_ (by decide)
 split
 ·exact zel (by decide) (by decide)
 ·exact zel hq1 hq2
def zdp (rs:List Rat):Rat:=rs.foldl (λa b=>a+b) 0
theorem zoU (rs:List Rat)(a:Rat):rs.foldl (λa b=>a+b) a=a+zdp rs:=by
 unfold zdp
 induction rs generalizing a with
 |nil=>exact(Rat.add_zero a).symm
 |cons r t ih=>
   rw [List.foldl_cons,List.foldl_cons,ih (a+r),ih (0+r),Rat.zero_add,Rat.add_assoc]
theorem zjJ:zdp []=0:=rfl
theorem zeA (r:Rat)(rs:List Rat):zdp (r::rs)=r+zdp rs:=by
 show(r::rs).foldl (λa b=>a+b) 0=_
 rw [List.foldl_cons,zoU,Rat.zero_add]
def zgn (xs ys:List Rat):Rat:=zdp (List.zipWith (λa b=>a*b) xs ys)
theorem zji (x:Rat)(xs:List Rat)(y:Rat)(ys:List Rat):zgn (x::xs) (y::ys)=x*y+zgn xs ys:=by
 show zdp (List.zipWith _ (x::xs) (y::ys))=_
 rw [List.zipWith_cons_cons,zeA]
 rfl
def addL (xs ys:List Rat):List Rat:=List.zipWith (λa b=>a+b) xs ys
def mulL (xs ys:List Rat):List Rat:=List.zipWith (λa b=>a*b) xs ys
theorem zoC {xs ys:List Rat}{f:Rat->Rat->Rat}{n:Nat}(h:xs.length=n)(k:ys.length=n):(List.zipWith f xs ys).length=n:=by rw [List.length_zipWith,h,k,Nat.min_self]
def zeu:List Rat->List Rat->Int
 |[],[]=>0
 |[],_::_=> -1
 |_::_,[]=>1
 |x::xs,y::ys=>if x=y then zeu xs ys else zfL x y
theorem cmpQ_ne {x y:Rat}(h:x≠y):zfL x y≠0:=λe=>h ((cmpQ_eq x y).1 e)
theorem zkc:∀(xs ys:List Rat),zeu xs ys=0↔xs=ys
 |[],[]=>by simp [zeu]
 |[],_::_=>by simp [zeu]
 |_::_,[]=>by simp [zeu]
 |x::xs,y::ys=>by
   unfold zeu
   by_cases h:x=y
   ·rw [if_pos h,zkc xs ys,h];simp
   ·rw [if_neg h]
    constructor
    ·intro e;exact absurd e (cmpQ_ne h)
    ·intro e;injection e with e1 e2;exact absurd e1 h
theorem zoL {x y:Rat}{xs ys:List Rat}(h:x=y):zeu (x::xs) (y::ys)=zeu xs ys:=by
 show(if x=y then zeu xs ys else zfL x y)=_
 exact if_pos h
theorem zmG {x y:Rat}{xs ys:List Rat}(h:x≠y):zeu (x::xs) (y::ys)=zfL x y:=by
 show(if x=y then zeu xs ys else zfL x y)=_
 exact if_neg h
theorem zdy {xs:List Rat}{k:Nat}(h:k<xs.length):xs.drop k=xs.getD k 0::xs.drop (k+1):=by
 rw [List.drop_eq_getElem_cons h,List.getD_eq_getElem?_getD,List.getElem?_eq_getElem h];rfl
theorem zhM {xs ys:List Rat}{k:Nat}(hx:k<xs.length)(hy:k<ys.length)(h:xs.getD k 0=ys.getD k 0):zeu (xs.drop k) (ys.drop k)=zeu (xs.drop (k+1)) (ys.drop (k+1)):=by
 rw [zdy hx,zdy hy,zoL h]
theorem zho {xs ys:List Rat}{k:Nat}(hx:k<xs.length)(hy:k<ys.length)(h:xs.getD k 0≠ys.getD k 0):zeu (xs.drop k) (ys.drop k)=zfL (xs.getD k 0) (ys.getD k 0):=by
 rw [zdy hx,zdy hy,zmG h]
def cmpN (a b:Nat):Int:=if a<b then -1 else if a=b then 0 else 1
theorem cmpV_end {xs ys:List Rat}{k:Nat}(hk:k=min xs.length ys.length):zeu (xs.drop k) (ys.drop k)=cmpN xs.length ys.length:=by
 unfold cmpN
 by_cases h1:xs.length<ys.length
 ·rw [if_pos h1,List.drop_of_length_le (by omega),zdy (xs:=ys) (by omega)];rfl
 ·rw [if_neg h1]
  by_cases h2:xs.length=ys.length
  ·rw [if_pos h2,List.drop_of_length_le (by omega),List.drop_of_length_le (by omega)];rfl
  ·rw [if_neg h2,List.drop_of_length_le (l:=ys) (by omega),zdy (xs:=xs) (by omega)];rfl
def zaE (K:Nat)(xs:List Rat):Prop:=∀x ∈ xs,SzQ K x
theorem zaE.at_ {K:Nat}{xs:List Rat}(h:zaE K xs){k:Nat}(hk:k<xs.length):SzQ K (xs.getD k 0):=by
 rw [List.getD_eq_getElem?_getD,List.getElem?_eq_getElem hk]
 exact h _ (List.getElem_mem hk)
theorem zaE.up {K K':Nat}{xs:List Rat}(h:zaE K xs)(e:K<=K'):zaE K' xs:=λx hx=>(h x hx).up e
theorem zaE.zip {K K' L:Nat}{f:Rat->Rat->Rat}(hf:∀x y,SzQ K x->SzQ K' y->SzQ L (f x y)):∀{xs ys:List Rat},zaE K xs->zaE K' ys->zaE L (List.zipWith f xs ys)
 |[],_,_,_=>λx hx=>by cases hx
 |_::_,[],_,_=>λx hx=>by cases hx
 |x::xs,y::ys,h,k=>λz hz=>by
   rw [List.zipWith_cons_cons] at hz
   rcases List.mem_cons.1 hz with rfl|hz
   ·exact hf x y (h x List.mem_cons_self) (k y List.mem_cons_self)
   ·exact zaE.zip hf (λa ha=>h a (List.mem_cons_of_mem _ ha)) (λa ha=>k a (List.mem_cons_of_mem _ ha)) z hz
theorem zaE.add {K K':Nat}{xs ys:List Rat}(h:zaE K xs)(k:zaE K' ys):zaE (K+K'+1) (addL xs ys):=zaE.zip (λ_ _=>SzQ.add) h k
theorem zaE.mul {K K':Nat}{xs ys:List Rat}(h:zaE K xs)(k:zaE K' ys):zaE (K+K') (mulL xs ys):=zaE.zip (λ_ _=>SzQ.mul) h k
theorem znI {K:Nat}:∀{xs:List Rat},zaE K xs->SzQ (1+xs.length*(K+1)) (zdp xs)
 |[],_=>by rw [List.length_nil,Nat.zero_mul];exact SzQ.zero
 |x::xs,h=>by
   rw [zeA]
   exact((h x List.mem_cons_self).add (znI λa ha=>h a (List.mem_cons_of_mem _ ha))).up (by rw [List.length_cons,Nat.succ_mul];omega)
theorem take_sz {K n:Nat}{xs:List Rat}(h:zaE K xs)(hl:xs.length=n)(k:Nat)(hk:k<=n):SzQ (1+n*(K+1)) (zdp (xs.take k)):=by
 have h1:=znI (xs:=xs.take k) (K:=K) (λa ha=>h a (List.mem_of_mem_take ha))
 refine h1.up ?_
 rw [List.length_take]
 have:min k xs.length*(K+1)<=n*(K+1):=Nat.mul_le_mul_right _ (by omega)
 omega
theorem dot_sz {K K' n:Nat}{xs ys:List Rat}(hx:xs.length=n)(hy:ys.length=n)(h:zaE K xs)(k:zaE K' ys):SzQ (1+n*(K+K'+1)) (zgn xs ys):=by
 have:=znI (zaE.mul h k)
 rw [show(mulL xs ys).length=n from zoC hx hy] at this
 exact this
def Cs (w:World):List (Addr×Value)->Prop
 |[]=>True
 |q::t=>w.cell? q.1=some q.2/\Cs w t
theorem csn {w:World}:Cs w []:=trivial
theorem csc {w:World}{p:Addr}{v:Value}{l:List (Addr×Value)}(h:w.cell? p=some v)(t:Cs w l):Cs w ((p,v)::l):=⟨h,t⟩
theorem Cs.below {w w':World}{l:List (Addr×Value)}(h:Cs w l)(hb:Below w.heap.size w w'):Cs w' l:=by
 induction l with
 |nil=>trivial
 |cons q t ih=>exact⟨zad hb h.1,ih h.2⟩
theorem Cs.drew {w:World}{l:List (Addr×Value)}(h:Cs w l):Cs w.drew l:=by
 induction l with
 |nil=>trivial
 |cons q t ih=>exact⟨h.1,ih h.2⟩
def OffL (g:Nat):List (Addr×Value)->Prop
 |[]=>True
 |q::t=>q.1.block≠g/\OffL g t
theorem Cs.far {w w':World}{g:Nat}{l:List (Addr×Value)}(h:Cs w l)(hf:zcV g w w')(hn:OffL g l):Cs w' l:=by
 induction l with
 |nil=>trivial
 |cons q t ih=>exact⟨(hf.2 q.1 hn.1).trans h.1,ih h.2 hn.2⟩
theorem cs2 {w:World}{g:Nat}{l:List (Addr×Value)}(x y:Value)(h:Cs w l)(hn:OffL g l:=by(simp only [OffL,and_true];try omega)):Cs ((w.setCell ⟨g,0,none⟩ x).setCell ⟨g,1,none⟩ y) l:=h.far (zez w g x y) hn
theorem cs3 {w:World}{g:Nat}{l:List (Addr×Value)}(x y z:Value)(h:Cs w l)(hn:OffL g l:=by(simp only [OffL,and_true];try omega)):Cs (((w.setCell ⟨g,0,none⟩ x).setCell ⟨g,1,none⟩ y).setCell ⟨g,2,none⟩ z) l:=h.far (off3 w g x y z) hn
theorem sb9:(∀(a:Act) (d:Nat) (v:Value),a.put (some d) v={tmps:=a.tmps.setIfInBounds d v,defers:=a.defers})/\(∀(a:Act) (v:Value),a.put none v=a)/\(∀(l:List Value) (i:Nat) (v:Value),l.toArray.setIfInBounds i v=(l.set i v).toArray)/\(∀(x:Value) (l:List Value) (v:Value),(x::l).set 0 v=v::l)/\(∀(x:Value) (l:List Value) (i:Nat) (v:Value),(x::l).set (i+1) v=x::l.set i v):=
 ⟨λ_ _ _=>rfl,λ_ _=>rfl,λ_ _ _=>List.setIfInBounds_toArray ..,λ_ _ _=>rfl,λ_ _ _ _=>rfl⟩
section
variable {P:Program}{ops:Array Oper}{Q:Exit->Act->World->Prop}{S:World->Prop}{fuel:Nat}{l:Array Bool}{a:Act}{w:World}
theorem rg {id:Nat}{cl:List (Addr×Value)}(h0:Cs w cl)(h:Cs w.drew cl->wpAnyH P .any ops (NoPanic Q) (λw'=>Cs w' cl) ops.size (Array.replicate ops.size false) a w.drew)(hm:P.follows Departure.mixedOrders=true:=by kernel_rfl):Code.wp P (.region id ops true) Q a w:=
 wp_region_noPanic (wp_region_held_drew (S:=λw'=>Cs w' cl) hm h0.drew h)
theorem tk (i:Nat){o:Oper}{v:Value}{a':Act}(hn:wpAnyH P .any ops (NoPanic Q) S fuel (l.setIfInBounds i true) a' w)(h1:ops[i]?=some o:=by simp only [List.getElem?_toArray,List.getElem?_cons_succ,List.getElem?_cons_zero];rfl)(h2:Region.noSelect ops=true:=by kernel_rfl)(h3:Region.free .any ops l i=true:=by kernel_rfl)(h4:(Region.ready .any ops l).contains i=true:=by kernel_rfl)(h5:Region.wanted o (yielded ops a.tmps)=true:=by rfl)(h6:∀w,S w->Sem.run P (execOp a.eval o) w=Result.ok (Next.value v) w:=by((intro w hSw;(try dsimp only [Cs] at hSw);go_simp);(try with_reducible rfl)))(hS:S w:=by with_reducible assumption)(ha:a.put o.dst v=a':=by(simp only [sb9];try rfl)):wpAnyH P .any ops (NoPanic Q) S (fuel+1) l a w:=
 wpAnyH_take h1 h2 h3 h4 (λ_ _ _ h=>h) (Or.inl ⟨h5,h6⟩) hS (ha▸hn)
theorem rc (i:Nat){o:Oper}(hk:∀K':Act->World->Prop,Shut (∀(a:Act) (w:World),S w->(S w->wpAnyH P .any ops (NoPanic Q) S fuel (l.setIfInBounds i true) a w)->K' a w)->Oper.wp P o a w K' (NoPanic Q))(h1:ops[i]?=some o:=by simp only [List.getElem?_toArray,List.getElem?_cons_succ,List.getElem?_cons_zero];rfl)(h2:Region.ready .any ops l=[i]:=by kernel_rfl)(h3:Region.wanted o (yielded ops a.tmps)=true:=by rfl):wpAnyH P .any ops (NoPanic Q) S (fuel+1) l a w:=
 wpAnyH_ready h2 (by simp) (AllReadyH.cons h1 (λK' hK=>by rw [if_pos h3];exact hk K' hK) AllReadyH.nil)
theorem rdn (h:Q .normal a w)(hr:Region.ready .any ops l=[]:=by kernel_rfl):wpAnyH P .any ops (NoPanic Q) S fuel l a w:=wpAnyH_done hr (NoPanic.normal h) fuel
variable {ops0:Array Oper}{md:Region.Mode}{i:Nat}
theorem rdp (d k:Nat){o:Oper}{e:Edge}(hi:i ∈ Region.ready md ops l)(hO:ops=ops0)(ho:ops0[i]?=some o:=by simp only [List.getElem?_toArray,List.getElem?_cons_succ,List.getElem?_cons_zero];rfl)(he:o.after[k]?=some e:=by rfl)(hb:Region.binds md e=true:=by rfl)(hd:e.on=d:=by rfl):l.getD d false=true:=by
 subst hO;subst hd;exact zpA hi ho he hb
theorem als (i:Nat){o:Oper}(h:Region.ready md ops l=[])(hO:ops=ops0)(ho:ops0[i]?=some o:=by simp only [List.getElem?_toArray,List.getElem?_cons_succ,List.getElem?_cons_zero];rfl)(hr:(o.after.toList.all λe=> !Region.binds md e||l.getD e.on false)=true:=by rfl):l.getD i true=true:=by
 subst hO;exact zmz h ho hr
theorem gdl (i:Nat){L l:Array Bool}(h:L=l):l.getD i false=L.getD i false:=by rw [h]
theorem Gd.off {b:Bool}(h:Gd b (false=true)):b=false:=by
 cases b
 ·rfl
 ·exact absurd (h rfl) (by decide)
theorem wog {o:Oper}{K:Act->World->Prop}{Q:Exit->Act->World->Prop}(hO:ops=ops0)(h:∀K':Act->World->Prop,Shut (∀a w,K a w->K' a w)->Oper.wp P o a w K' Q)(ho:ops0[i]?=some o:=by simp only [List.getElem?_toArray,List.getElem?_cons_succ,List.getElem?_cons_zero];rfl)(hg:o.guard=none:=by rfl):wpOp P ops Q i K a w:=by
 subst hO;exact wpOp_go ho hg h
theorem kq0 {f:Bool}{a:Act}{x i:Nat}{u v:Value}(h:Gd f (a.tmps.getD x undef=u))(hn:x≠i:=by decide):Gd f ((a.put (some i) v).tmps.getD x undef=u):=h.mono λh=>(rd_ne hn _).trans h
theorem kq {f:Bool}{a:Act}{x i:Nat}{u v:Value}{p q:Prop}(h:Gd f (a.tmps.getD x undef=u/\p))(g:p->q)(hn:x≠i:=by decide):Gd f ((a.put (some i) v).tmps.getD x undef=u/\q):=h.mono λh=>⟨(rd_ne hn _).trans h.1,g h.2⟩
end
theorem Blk.c1 {w:World}{g:Nat}{t:TypeId}{x:Value}(h:Blk w g t #[x]):w.cell? ⟨g,0,none⟩=some x:=h.cell 0
theorem Blk.c2 {w:World}{g:Nat}{t:TypeId}{x y:Value}(h:Blk w g t #[x,y]):w.cell? ⟨g,0,none⟩=some x/\w.cell? ⟨g,1,none⟩=some y:=⟨h.cell 0,h.cell 1⟩
theorem Blk.c3 {w:World}{g:Nat}{t:TypeId}{x y z:Value}(h:Blk w g t #[x,y,z]):w.cell? ⟨g,0,none⟩=some x/\w.cell? ⟨g,1,none⟩=some y/\w.cell? ⟨g,2,none⟩=some z:=⟨h.cell 0,h.cell 1,h.cell 2⟩
theorem st1 {w:World}{g:Nat}{t:TypeId}{a:Value}(h:Blk w g t #[a]):w.cell? ⟨g,0,none⟩=some a/\w.frozen? ⟨g,0,none⟩=false:=⟨h.cell 0,h.frozen 0⟩
theorem st2 {w:World}{g:Nat}{t:TypeId}{a b:Value}(h:Blk w g t #[a,b])(x:Value):w.cell? ⟨g,0,none⟩=some a/\w.frozen? ⟨g,0,none⟩=false/\(w.setCell ⟨g,0,none⟩ x).cell? ⟨g,1,none⟩=some b/\(w.setCell ⟨g,0,none⟩ x).frozen? ⟨g,1,none⟩=false:=⟨h.cell 0,h.frozen 0,(h.set_ 0 x).cell 1,(h.set_ 0 x).frozen 1⟩
theorem st3 {w:World}{g:Nat}{t:TypeId}{a b c:Value}(h:Blk w g t #[a,b,c])(x y:Value):w.cell? ⟨g,0,none⟩=some a/\w.frozen? ⟨g,0,none⟩=false/\(w.setCell ⟨g,0,none⟩ x).cell? ⟨g,1,none⟩=some b/\(w.setCell ⟨g,0,none⟩ x).frozen? ⟨g,1,none⟩=false/\((w.setCell ⟨g,0,none⟩ x).setCell ⟨g,1,none⟩ y).cell? ⟨g,2,none⟩=some c/\((w.setCell ⟨g,0,none⟩ x).setCell ⟨g,1,none⟩ y).frozen? ⟨g,2,none⟩=false:=
 ⟨h.cell 0,h.frozen 0,(h.set_ 0 x).cell 1,(h.set_ 0 x).frozen 1,((h.set_ 0 x).set_ 1 y).cell 2,((h.set_ 0 x).set_ 1 y).frozen 2⟩
theorem sn1 {w:World}{g:Nat}{t:TypeId}{a:Value}(h:Blk w g t #[a])(x:Value):Blk (w.setCell ⟨g,0,none⟩ x) g t #[x]:=h.set_ 0 x
theorem sn2 {w:World}{g:Nat}{t:TypeId}{a b:Value}(h:Blk w g t #[a,b])(x y:Value):Blk ((w.setCell ⟨g,0,none⟩ x).setCell ⟨g,1,none⟩ y) g t #[x,y]:=(h.set_ 0 x).set_ 1 y
theorem sn3 {w:World}{g:Nat}{t:TypeId}{a b c:Value}(h:Blk w g t #[a,b,c])(x y z:Value):Blk (((w.setCell ⟨g,0,none⟩ x).setCell ⟨g,1,none⟩ y).setCell ⟨g,2,none⟩ z) g t #[x,y,z]:=((h.set_ 0 x).set_ 1 y).set_ 2 z
theorem bl1 {w W:World}{g:Nat}(x:Value)(hg:w.heap.size<=g)(h:Below w.heap.size w W):Below w.heap.size w (W.setCell ⟨g,0,none⟩ x):=zag x hg h
theorem bl2 {w W:World}{g:Nat}(x y:Value)(hg:w.heap.size<=g)(h:Below w.heap.size w W):Below w.heap.size w ((W.setCell ⟨g,0,none⟩ x).setCell ⟨g,1,none⟩ y):=zag y hg (zag x hg h)
theorem bl3 {w W:World}{g:Nat}(x y z:Value)(hg:w.heap.size<=g)(h:Below w.heap.size w W):Below w.heap.size w (((W.setCell ⟨g,0,none⟩ x).setCell ⟨g,1,none⟩ y).setCell ⟨g,2,none⟩ z):=zag z hg (bl2 x y hg h)
theorem gn1 {w W:World}{x g:Nat}{t:TypeId}{A:oA9}{n c:Nat}{q:oA9}{r s:Nat}(h:zaf W x A n c)(k:Blk W g t #[.slice q r s])(hB:Below w.heap.size w W)(hg:w.heap.size<=g):zeo w x (.returned (.agg #[.slice A n c])) (W.setCell ⟨g,0,none⟩ (.slice A n c)):=
 ⟨_,_,_,rfl,zav h k (NoU.s1 _ _ _) (zbF _ _ _),bl1 _ hg hB⟩
theorem gi2 {w W:World}{z:Int}{g:Nat}{t:TypeId}{b:Bool}{A:oA9}{n c:Nat}{p:Bool}{q:oA9}{r s:Nat}(h:zaC W z b A n c)(k:Blk W g t #[.bool p,.slice q r s])(hB:Below w.heap.size w W)(hg:w.heap.size<=g):zaT w z (.returned (.agg #[.bool b,.slice A n c])) ((W.setCell ⟨g,0,none⟩ (.bool b)).setCell ⟨g,1,none⟩ (.slice A n c)):=
 ⟨_,_,_,_,rfl,zgq h k (NoU.s2 _ _ _ _) (zez _ _ _ _),bl2 _ _ hg hB⟩
theorem gq3 {w W:World}{r:Rat}{g:Nat}{t:TypeId}{b:Bool}{A E:oA9}{n c k f:Nat}{p:Bool}{q q2:oA9}{r1 s r2 s2:Nat}(h:zan W r b A n c E k f)(kd:Blk W g t #[.bool p,.slice q r1 s,.slice q2 r2 s2])(hB:Below w.heap.size w W)(hg:w.heap.size<=g):zaJ w r (.returned (.agg #[.bool b,.slice A n c,.slice E k f])) (((W.setCell ⟨g,0,none⟩ (.bool b)).setCell ⟨g,1,none⟩ (.slice A n c)).setCell ⟨g,2,none⟩ (.slice E k f)):=
 ⟨_,_,_,_,_,_,_,rfl,zhV h kd (NoU.s3 _ _ _ _ _ _ _) (off3 _ _ _ _ _),bl3 _ _ _ hg hB⟩
theorem gb3 {w W:World}{r:Rat}(u:Bool){g:Nat}{t:TypeId}{b:Bool}{A E:oA9}{n c k f:Nat}{p:Bool}{q q2:oA9}{r1 s r2 s2:Nat}(h:zan W r b A n c E k f)(kd:Blk W g t #[.bool p,.slice q r1 s,.slice q2 r2 s2])(hB:Below w.heap.size w W)(hg:w.heap.size<=g):zdg w r u (.returned (.tuple #[.agg #[.bool b,.slice A n c,.slice E k f],.bool u])) (((W.setCell ⟨g,0,none⟩ (.bool b)).setCell ⟨g,1,none⟩ (.slice A n c)).setCell ⟨g,2,none⟩ (.slice E k f)):=
 ⟨_,_,_,_,_,_,_,rfl,zhV h kd (NoU.s3 _ _ _ _ _ _ _) (off3 _ _ _ _ _),bl3 _ _ _ hg hB⟩
section
variable {P:Program}{ops:Array Oper}{Q:Exit->Act->World->Prop}{S:World->Prop}{fuel:Nat}{l:Array Bool}{a:Act}{w:World}
theorem rgB {id:Nat}(h:Below w.heap.size w w.drew->wpAnyH P .any ops (NoPanic Q) (λw'=>Below w.heap.size w w') ops.size (Array.replicate ops.size false) a w.drew)(hm:P.follows Departure.mixedOrders=true:=by kernel_rfl):Code.wp P (.region id ops true) Q a w:=
 wp_region_noPanic (wp_region_held_drew (S:=λw'=>Below w.heap.size w w') hm (Below.refl _ w).drew h)
theorem tl (i:Nat){cl:List (Addr×Value)}(hc:∀w,S w->Cs w cl){o:Oper}{v:Value}{a':Act}(hn:wpAnyH P .any ops (NoPanic Q) S fuel (l.setIfInBounds i true) a' w)(h1:ops[i]?=some o:=by simp only [List.getElem?_toArray,List.getElem?_cons_succ,List.getElem?_cons_zero];rfl)(h2:Region.noSelect ops=true:=by kernel_rfl)(h3:Region.free .any ops l i=true:=by kernel_rfl)(h4:(Region.ready .any ops l).contains i=true:=by kernel_rfl)(h5:Region.wanted o (yielded ops a.tmps)=true:=by rfl)(h6:∀w,Cs w cl->Sem.run P (execOp a.eval o) w=Result.ok (Next.value v) w:=by((intro w hSw;(try dsimp only [Cs] at hSw);go_simp);(try with_reducible rfl)))(hS:S w:=by with_reducible assumption)(ha:a.put o.dst v=a':=by(simp only [sb9];try rfl)):wpAnyH P .any ops (NoPanic Q) S (fuel+1) l a w:=
 wpAnyH_take h1 h2 h3 h4 (λ_ _ _ h=>h) (Or.inl ⟨h5,λw hs=>h6 w (hc w hs)⟩) hS (ha▸hn)
end
theorem szw {K B x n c:Nat}{A:oA9}{w:World}(h:Hid (Sz K x))(k:zaf w x A n c)(e:K<=B:=by omega):n<=B:=Nat.le_trans (h.out.words k) e
theorem szi {K B n c:Nat}{z:Int}{b:Bool}{A:oA9}{w:World}(h:Hid (Sz K z.natAbs))(k:zaC w z b A n c)(e:K<=B:=by omega):n<=B:=Nat.le_trans (h.out.words k.words) e
theorem szq {K n k c f:Nat}{r:Rat}{b:Bool}{A E:oA9}{w:World}(h:Hid (SzQ K r))(q:zan w r b A n c E k f)(e:K<=67108864:=by omega):zaQ n k:=SzQ.fit h.out q e
def zgT (k:Nat)(f:Nat->Rat):Rat:=zdp ((List.range k).map f)
theorem znH (rs:List Rat)(r:Rat):zdp (rs++[r])=zdp rs+r:=by
 unfold zdp
 rw [List.foldl_append]
 rfl
theorem zjK (k:Nat)(f:Nat->Rat):zgT (k+1) f=zgT k f+f k:=by
 unfold zgT
 rw [List.range_succ,List.map_append,List.map_cons,List.map_nil,znH]
theorem ziF {k:Nat}{f g:Nat->Rat}(h:∀i,i<k->f i=g i):zgT k f=zgT k g:=by
 unfold zgT
 congr 1
 exact List.map_congr_left λi hi=>h i (List.mem_range.1 hi)
theorem zpJ {k:Nat}{f:Nat->Rat}(h:∀i,i<k->f i=0):zgT k f=0:=by
 induction k with
 |zero=>rfl
 |succ k ih=>rw [zjK,ih (λi hi=>h i (by omega)),h k (by omega),Rat.add_zero]
theorem zpK {k c:Nat}(hc:c<k)(f:Nat->Rat):zgT k (λi=>f i*(if i=c then 1 else 0))=f c:=by
 induction k with
 |zero=>omega
 |succ k ih=>
   rw [zjK]
   by_cases h:c=k
   ·subst h
    rw [if_pos rfl,Rat.mul_one,zpJ λi hi=>by rw [if_neg (by omega),Rat.mul_zero],Rat.zero_add]
   ·rw [if_neg (by omega),Rat.mul_zero,Rat.add_zero,ih (by omega)]
theorem zoN:∀{k:Nat} {xs ys:List Rat},xs.length=k->ys.length=k->zgn xs ys=zgT k λi=>xs.getD i 0*ys.getD i 0
 |k,xs,ys,hx,hy=>by
   unfold zgn zgT
   congr 1
   apply List.ext_getElem
   ·simp [hx,hy]
   ·intro i h1 h2
    have h3:i<k:=by simpa using h2
    rw [List.getElem_zipWith,List.getElem_map,List.getElem_range,List.getD_eq_getElem?_getD,List.getD_eq_getElem?_getD,List.getElem?_eq_getElem (by omega),List.getElem?_eq_getElem (by omega)]
    rfl
def zcn (n m:Nat)(f:Nat->Nat->Rat):List (List Rat):=(List.range n).map λr=>(List.range m).map (f r)
def atM (M:List (List Rat))(r c:Nat):Rat:=(M.getD r []).getD c 0
structure zcH (M:List (List Rat))(n m:Nat):Prop where
 rows:M.length=n
 cols:∀L ∈ M,L.length=m
theorem zcH.row {M:List (List Rat)}{n m:Nat}(h:zcH M n m){r:Nat}(hr:r<n):(M.getD r []).length=m:=by
 have hl:=h.rows
 rw [List.getD_eq_getElem?_getD,List.getElem?_eq_getElem (by omega)]
 exact h.cols _ (List.getElem_mem _)
theorem zde (n m:Nat)(f:Nat->Nat->Rat):zcH (zcn n m f) n m:=⟨by simp [zcn],λL hL=>by
 obtain⟨r,_,rfl⟩:=List.mem_map.1 hL
 simp⟩
theorem tabN_row {n m:Nat}{f:Nat->Nat->Rat}{r:Nat}(hr:r<n):(zcn n m f).getD r []=(List.range m).map (f r):=by
 unfold zcn
 rw [List.getD_eq_getElem?_getD,List.getElem?_map,List.getElem?_range hr]
 rfl
theorem ziv {m c:Nat}{f:Nat->Rat}(hc:c<m):((List.range m).map f).getD c 0=f c:=by
 rw [List.getD_eq_getElem?_getD,List.getElem?_map,List.getElem?_range hc]
 rfl
theorem zkJ {n m:Nat}{f:Nat->Nat->Rat}{r c:Nat}(hr:r<n)(hc:c<m):atM (zcn n m f) r c=f r c:=by
 unfold atM
 rw [tabN_row hr,ziv hc]
theorem znJ {n m:Nat}{f g:Nat->Nat->Rat}(h:∀r c,r<n->c<m->f r c=g r c):zcn n m f=zcn n m g:=by
 unfold zcn
 exact List.map_congr_left λr hr=>List.map_congr_left λc hc=>h r c (List.mem_range.1 hr) (List.mem_range.1 hc)
theorem zns {m:Nat}{xs:List Rat}(h:xs.length=m):(List.range m).map (λc=>xs.getD c 0)=xs:=by
 subst h
 apply List.ext_getElem
 ·simp
 ·intro i h1 h2
  rw [List.getElem_map,List.getElem_range,List.getD_eq_getElem?_getD,List.getElem?_eq_getElem h2]
  rfl
theorem zcH.eq {M:List (List Rat)}{n m:Nat}(h:zcH M n m):zcn n m (atM M)=M:=by
 have hl:=h.rows
 unfold zcn
 apply List.ext_getElem
 ·simp [hl]
 ·intro i h1 h2
  rw [List.getElem_map,List.getElem_range]
  have e:M.getD i []=M[i]:=by rw [List.getD_eq_getElem?_getD,List.getElem?_eq_getElem h2];rfl
  show(List.range m).map (λc=>(M.getD i []).getD c 0)=M[i]
  rw [e]
  exact zns (h.cols _ (List.getElem_mem h2))
theorem zcH.ext {A B:List (List Rat)}{n m:Nat}(hA:zcH A n m)(hB:zcH B n m)(h:∀r c,r<n->c<m->atM A r c=atM B r c):A=B:=by
 rw [<-hA.eq,<-hB.eq]
 exact znJ h
def zdD (n:Nat)(M:List (List Rat))(c:Nat):List Rat:=(List.range n).map λr=>atM M r c
theorem zeQ (n:Nat)(M:List (List Rat))(c:Nat):(zdD n M c).length=n:=by simp [zdD]
theorem colM_at {n:Nat}{M:List (List Rat)}{c r:Nat}(hr:r<n):(zdD n M c).getD r 0=atM M r c:=ziv hr
def zbW (n m:Nat)(M:List (List Rat)):List (List Rat):=zcn m n λr c=>atM M c r
def zgO (n k m:Nat)(A B:List (List Rat)):List (List Rat):=zcn n m λr c=>zgn (A.getD r []) (zdD k B c)
theorem zjw (n k m:Nat)(A B:List (List Rat)):zcH (zgO n k m A B) n m:=zde _ _ _
theorem mulM_at {n k m:Nat}{A B:List (List Rat)}(hA:zcH A n k){r c:Nat}(hr:r<n)(hc:c<m):atM (zgO n k m A B) r c=zgT k λi=>atM A r i*atM B i c:=by
 unfold zgO
 rw [zkJ hr hc,zoN (hA.row hr) (zeQ k B c)]
 exact ziF λi hi=>by rw [colM_at hi];rfl
def zfT (n:Nat):List (List Rat):=zcn n n λr c=>if r=c then 1 else 0
theorem mul_oneM {n k:Nat}{A:List (List Rat)}(hA:zcH A n k):zgO n k k A (zfT k)=A:=by
 refine zcH.ext (zjw _ _ _ _ _) hA λr c hr hc=>?_
 rw [mulM_at hA hr hc]
 have h1:zgT k (λi=>atM A r i*atM (zfT k) i c)=zgT k (λi=>atM A r i*(if i=c then 1 else 0)):=ziF λi hi=>by unfold zfT;rw [zkJ hi hc]
 rw [h1]
 exact zpK hc _
theorem zfz (n m:Nat)(M:List (List Rat)):zcH (zbW n m M) m n:=zde _ _ _
def byM (n m:Nat)(v:List Rat)(M:List (List Rat)):List Rat:=(List.range m).map λc=>zgn v (zdD n M c)
def zbG (M:List (List Rat))(v:List Rat):List Rat:=M.map λL=>zgn L v
theorem zjh:∀(xs ys:List Rat),zgn xs ys=zgn ys xs
 |[],[]=>rfl
 |[],_::_=>rfl
 |_::_,[]=>rfl
 |x::xs,y::ys=>by rw [zji,zji,zjh xs ys,Rat.mul_comm]
theorem znM {n m:Nat}{M:List (List Rat)}{v:List Rat}:zbG (zbW n m M) v=byM n m v M:=by
 unfold zbG byM zbW zcn
 rw [List.map_map]
 exact List.map_congr_left λc _=>zjh _ _
theorem zld (m:Nat):zcH [] 0 m:=⟨rfl,λL hL=>by cases hL⟩
