/- What this claim leans on. -/
import Derived.Test.YtipmllfnpldbdaaGreatDoorYBunZ
set_option linter.unusedVariables false
set_option linter.unusedSimpArgs false
namespace Go.Proofs.YtipmllfnpldbdaaGreatDoor
open Go Go.RowKit Go.Proofs.Tryz
set_option maxHeartbeats 16000000
variable {a a0:Act}{D:List Nat}{b b' c f i x:Nat}{v:Value}{w w':World}{A E:zf}
theorem ir (a:Int)(g:Nat):(a / (g:Int)).natAbs<=a.natAbs:=by
 rcases QS g with rfl|hg
 ·simp
 ·exact Int.natAbs_ediv_le_natAbs a g
theorem Ve (a b:Rat):(a+b).num.natAbs<=a.num.natAbs*b.den+b.num.natAbs*a.den:=by
 rw [Rat.num_add];refine qC (ir _ _) (qC (Int.natAbs_add_le _ _) ?_);rw [xB,xB,XB,XB];exact qX _
theorem WI (a b:Rat):(a+b).den<=a.den*b.den:=by rw [Rat.den_add];exact xK _ _
theorem Vg (a b:Rat):(a*b).num.natAbs<=a.num.natAbs*b.num.natAbs:=by
 rw [Rat.num_mul];refine qC (ir _ _) ?_;rw [xB];exact qX _
theorem WJ (a b:Rat):(a*b).den<=a.den*b.den:=by rw [Rat.den_mul];exact xK _ _
theorem Vf (a:Rat):(a⁻¹).num.natAbs<=a.den:=by
 rw [Rat.num_inv,xB,XB];by_cases h:a.num=0
 ·simp [h]
 ·rw [Int.natAbs_sign_of_ne_zero h,XU];exact qX _
theorem ZU (p q:Int):(Rat.divInt p q).num.natAbs<=p.natAbs:=by
 rw [Rat.num_divInt];refine qC (ir _ _) ?_;rw [xB];by_cases h:q=0
 ·simp [h]
 ·rw [Int.natAbs_sign_of_ne_zero h,XU];exact qX _
def yh (b:Nat)(r:Rat):Prop:=r.num.natAbs<b/\r.den<b
theorem yh.up {r:Rat}(h:yh b r)(hb:b<=b'):yh b' r:=⟨qJ h.1 hb,qJ h.2 hb⟩
theorem yh.pos {r:Rat}(h:yh b r):1<b:=QA (xL r.den_nz) h.2
theorem yh.add {r s:Rat}(h:yh b r)(h':yh b' s):yh (2*(b*b')) (r+s):=by
 have h1:r.num.natAbs*s.den<b*b':=yJ h.1 h'.2;have h2:s.num.natAbs*r.den<b*b':=by rw [qE b b'];exact yJ h'.1 h.2
 have h3:r.den*s.den<b*b':=yJ h.2 h'.2;have h4:=Ve r s;have h5:=WI r s;exact⟨za,za⟩
theorem yh.mul {r s:Rat}(h:yh b r)(h':yh b' s):yh (b*b') (r*s):=
 ⟨QA (Vg r s) (yJ h.1 h'.1),QA (WJ r s) (yJ h.2 h'.2)⟩
theorem yh.neg {r:Rat}(h:yh b r):yh b (-r):=⟨by rw [Rat.neg_num,Int.natAbs_neg];exact h.1,h.2⟩
theorem yh.sub {r s:Rat}(h:yh b r)(h':yh b' s):yh (2*(b*b')) (r - s):=by rw [Rat.sub_eq_add_neg];exact h.add h'.neg
theorem yh.inv {r:Rat}(h:yh b r):yh b r⁻¹:=by
 refine⟨QA (Vf r) h.2,?_⟩;rw [Rat.den_inv]
 split
 ·exact h.pos
 ·exact h.1
theorem yh.made {p q:Int}(hp:p.natAbs<b)(hq:q.natAbs<b)(hb:1<b):yh b (Rat.divInt p q):=by
 refine⟨QA (ZU p q) hp,?_⟩;rw [Rat.den_divInt]
 split
 ·exact hb
 ·exact QA (xK _ _) hq
theorem yh.whole {z:Int}(hz:z.natAbs<b)(hb:1<b):yh b (z:Rat):=⟨by rw [yR];exact hz,by rw [yS];exact hb⟩
def wX (r s:Rat):Int:=if r<s then -1 else if r=s then 0 else 1
theorem Xy (r s:Rat):wX r s=un (r.num*s.den) (s.num*r.den):=by
 unfold wX un;by_cases h1:r<s
 ·rw [if_pos h1,if_pos ((Rat.lt_iff r s).1 h1)]
 ·rw [if_neg h1,if_neg (λh=>h1 ((Rat.lt_iff r s).2 h))];by_cases h2:r=s
  ·rw [if_pos h2,if_pos (Rat.eq_iff_mul_eq_mul.1 h2)]
  ·rw [if_neg h2,if_neg (λh=>h2 (Rat.eq_iff_mul_eq_mul.2 h))]
theorem qf (r s:Rat):wX r s=0↔r=s:=by
 unfold wX;by_cases h1:r<s
 ·rw [if_pos h1];constructor
  ·intro h;omega
  ·intro h;exact absurd h (Rat.ne_of_lt h1)
 ·rw [if_neg h1];by_cases h2:r=s<;>simp [h2]
def uq (r:Rat):Int:=vR r.num
def nu (r s:Rat):Rat:=if wX r s<=0 then r else s
def jS (r s:Rat):Rat:=if wX r s<=0 then s else r
theorem tU (p q:Int)(hq:q≠0):(Rat.divInt p q).num.natAbs=p.natAbs / Nat.gcd p.natAbs q.natAbs:=by
 rw [Rat.num_divInt,Int.gcd];have hd:(Nat.gcd q.natAbs p.natAbs:Int)∣ q.sign*p:=Int.dvd_trans (Int.ofNat_dvd_left.2 (XY ..)) (Int.dvd_mul_left ..);rw [Int.natAbs_ediv_of_dvd hd,xB,Int.natAbs_sign_of_ne_zero hq,XU,XB,XE]
theorem tT (p q:Int)(hq:q≠0):(Rat.divInt p q).den=q.natAbs / Nat.gcd p.natAbs q.natAbs:=by
 rw [Rat.den_divInt,if_neg hq,Int.gcd,XE]
theorem Uf (p q:Int)(hq:q≠0):(Rat.divInt p q).num<0↔(p<0/\0<q\/0<p/\q<0):=by
 rw [Rat.num_divInt];have a:0<(q.gcd p:Int):=by
  have:0<q.gcd p:=Int.gcd_pos_of_ne_zero_left p hq;omega
 have e:q.sign*p / (q.gcd p:Int)<0↔q.sign*p<0:=by
  constructor
  ·intro h;refine Int.not_le.1 λh1=>?_;have:=yP h1 (Int.le_of_lt a);omega
  ·intro h;exact Int.ediv_neg_of_neg_of_pos h a
 rw [e];rcases Int.lt_or_gt_of_ne hq with h|h
 ·rw [Int.sign_eq_neg_one_of_neg h];omega
 ·rw [Int.sign_eq_one_of_pos h];omega
def vz (w:World)(q:Nat)(A:zf)(n c:Nat):Prop:=∃x,(q=(if x=0 then 1 else x)/\x≠1)/\zp w x A n c
theorem vz.below {q:Nat}{n:Nat}(h:vz w q A n c)(hb:Below w.heap.size w w'):vz w' q A n c:=by
 obtain⟨x,e,h1⟩:=h;exact⟨x,e,h1.below hb⟩
def zu (w:World)(r:Rat)(b:Bool)(A:zf)(n c:Nat)(E:zf)(k f:Nat):Prop:=zO w r.num b A n c/\vz w r.den E k f
theorem zu.below {r:Rat}{b:Bool}{n:Nat}{k:Nat}(h:zu w r b A n c E k f)(hb:Below w.heap.size w w'):zu w' r b A n c E k f:=⟨h.1.below hb,h.2.below hb⟩
theorem zu.to {r s:Rat}{b:Bool}{n:Nat}{k:Nat}(e:r=s)(h:zu w r b A n c E k f):zu w s b A n c E k f:=e▸h
def ye (w:World)(r:Rat)(e:Ending)(w':World):Prop:=∃(b:Bool) (A:zf) (n c:Nat) (E:zf) (k f:Nat),e=.returned (.agg #[.bool b,.slice A n c,.slice E k f])/\zu w' r b A n c E k f/\Below w.heap.size w w'
def wj (w:World)(r:Rat)(t:Bool)(e:Ending)(w':World):Prop:=∃(b:Bool) (A:zf) (n c:Nat) (E:zf) (k f:Nat),e=.returned (.tuple #[.agg #[.bool b,.slice A n c,.slice E k f],.bool t])/\zu w' r b A n c E k f/\Below w.heap.size w w'
def zJ (n k:Nat):Prop:=n<=67108864/\k<=67108864
structure og (T:World->Prop):Prop where
 mul:∀(r s:Rat) (b b':Bool) (A A':zf) (n n' c c':Nat) (E E':zf) (k k' f f':Nat) (w:World),T w->zu w r b A n c E k f->zu w s b' A' n' c' E' k' f'->zJ n k->zJ n' k'->Calls prog 63 #[.agg #[.bool b,.slice A n c,.slice E k f],.agg #[.bool b',.slice A' n' c',.slice E' k' f']] w (ye w (r*s))
 div:∀(r s:Rat) (b b':Bool) (A A':zf) (n n' c c':Nat) (E E':zf) (k k' f f':Nat) (w:World),T w->zu w r b A n c E k f->zu w s b' A' n' c' E' k' f'->zJ n k->zJ n' k'->s≠0->Calls prog 73 #[.agg #[.bool b,.slice A n c,.slice E k f],.agg #[.bool b',.slice A' n' c',.slice E' k' f']] w (wj w (r / s) true)
 divNo:∀(r s:Rat) (b b':Bool) (A A':zf) (n n' c c':Nat) (E E':zf) (k k' f f':Nat) (w:World),T w->zu w r b A n c E k f->zu w s b' A' n' c' E' k' f'->zJ n k->zJ n' k'->s=0->Calls prog 73 #[.agg #[.bool b,.slice A n c,.slice E k f],.agg #[.bool b',.slice A' n' c',.slice E' k' f']] w (wj w 0 false)
structure oh (T:World->Prop):Prop where
 min:∀(r s:Rat) (b b':Bool) (A A':zf) (n n' c c':Nat) (E E':zf) (k k' f f':Nat) (w:World),T w->zu w r b A n c E k f->zu w s b' A' n' c' E' k' f'->zJ n k->zJ n' k'->Calls prog 41 #[.agg #[.bool b,.slice A n c,.slice E k f],.agg #[.bool b',.slice A' n' c',.slice E' k' f']] w (ye w (nu r s))
 max:∀(r s:Rat) (b b':Bool) (A A':zf) (n n' c c':Nat) (E E':zf) (k k' f f':Nat) (w:World),T w->zu w r b A n c E k f->zu w s b' A' n' c' E' k' f'->zJ n k->zJ n' k'->Calls prog 42 #[.agg #[.bool b,.slice A n c,.slice E k f],.agg #[.bool b',.slice A' n' c',.slice E' k' f']] w (ye w (jS r s))
structure oj (T:World->Prop):Prop where
 int:∀(z:Int) (w:World),T w-> -9223372036854775808<=z->z<=9223372036854775807->Calls prog 36 #[.int .i64 z] w (ye w (z:Rat))
structure oR (T:World->Prop)(M:Nat->Prop):Prop where
 g0:M 0->og T
 g1:M 1->oh T
 g2:M 2->oj T
 new:∀(p q:Int) (b b':Bool) (A D:zf) (n m c d:Nat) (w:World),T w->zO w p b A n c->zO w q b' D m d->n<=67108864->m<=67108864->q≠0->Calls prog 77 #[.agg #[.bool b,.slice A n c],.agg #[.bool b',.slice D m d]] w (wj w (Rat.divInt p q) true)
 newNo:∀(p q:Int) (b b':Bool) (A D:zf) (n m c d:Nat) (w:World),T w->zO w p b A n c->zO w q b' D m d->n<=67108864->m<=67108864->q=0->Calls prog 77 #[.agg #[.bool b,.slice A n c],.agg #[.bool b',.slice D m d]] w (wj w 0 false)
 of:∀(p q:Int) (w:World),T w-> -9223372036854775808<=p->p<=9223372036854775807-> -9223372036854775808<=q->q<=9223372036854775807->q≠0->Calls prog 38 #[.int .i64 p,.int .i64 q] w (wj w (Rat.divInt p q) true)
 ofNo:∀(p q:Int) (w:World),T w-> -9223372036854775808<=p->p<=9223372036854775807->q=0->Calls prog 38 #[.int .i64 p,.int .i64 q] w (wj w 0 false)
 num:∀(r:Rat) (b:Bool) (A:zf) (n c:Nat) (E:zf) (k f:Nat) (w:World),T w->zu w r b A n c E k f->zJ n k->Calls prog 50 #[.agg #[.bool b,.slice A n c,.slice E k f]] w (yu w r.num)
 den:∀(r:Rat) (b:Bool) (A:zf) (n c:Nat) (E:zf) (k f:Nat) (w:World),T w->zu w r b A n c E k f->zJ n k->Calls prog 52 #[.agg #[.bool b,.slice A n c,.slice E k f]] w (nO w r.den)
 sign:∀(r:Rat) (b:Bool) (A:zf) (n c:Nat) (E:zf) (k f:Nat) (w:World),T w->zu w r b A n c E k f->zJ n k->Calls prog 61 #[.agg #[.bool b,.slice A n c,.slice E k f]] w (wF w (uq r))
 zero:∀(r:Rat) (b:Bool) (A:zf) (n c:Nat) (E:zf) (k f:Nat) (w:World),T w->zu w r b A n c E k f->zJ n k->Calls prog 66 #[.agg #[.bool b,.slice A n c,.slice E k f]] w λe w'=>e=.returned (.bool (decide (r=0)))/\Below w.heap.size w w'
 isInt:∀(r:Rat) (b:Bool) (A:zf) (n c:Nat) (E:zf) (k f:Nat) (w:World),T w->zu w r b A n c E k f->zJ n k->Calls prog 68 #[.agg #[.bool b,.slice A n c,.slice E k f]] w λe w'=>e=.returned (.bool (decide (r.den=1)))/\Below w.heap.size w w'
 neg:∀(r:Rat) (b:Bool) (A:zf) (n c:Nat) (E:zf) (k f:Nat) (w:World),T w->zu w r b A n c E k f->zJ n k->Calls prog 79 #[.agg #[.bool b,.slice A n c,.slice E k f]] w (ye w (-r))
 inv:∀(r:Rat) (b:Bool) (A:zf) (n c:Nat) (E:zf) (k f:Nat) (w:World),T w->zu w r b A n c E k f->zJ n k->r≠0->Calls prog 102 #[.agg #[.bool b,.slice A n c,.slice E k f]] w (wj w r⁻¹ true)
 invNo:∀(r:Rat) (b:Bool) (A:zf) (n c:Nat) (E:zf) (k f:Nat) (w:World),T w->zu w r b A n c E k f->zJ n k->r=0->Calls prog 102 #[.agg #[.bool b,.slice A n c,.slice E k f]] w (wj w 0 false)
 add:∀(r s:Rat) (b b':Bool) (A A':zf) (n n' c c':Nat) (E E':zf) (k k' f f':Nat) (w:World),T w->zu w r b A n c E k f->zu w s b' A' n' c' E' k' f'->zJ n k->zJ n' k'->Calls prog 27 #[.agg #[.bool b,.slice A n c,.slice E k f],.agg #[.bool b',.slice A' n' c',.slice E' k' f']] w (ye w (r+s))
 sub:∀(r s:Rat) (b b':Bool) (A A':zf) (n n' c c':Nat) (E E':zf) (k k' f f':Nat) (w:World),T w->zu w r b A n c E k f->zu w s b' A' n' c' E' k' f'->zJ n k->zJ n' k'->Calls prog 40 #[.agg #[.bool b,.slice A n c,.slice E k f],.agg #[.bool b',.slice A' n' c',.slice E' k' f']] w (ye w (r - s))
 cmp:∀(r s:Rat) (b b':Bool) (A A':zf) (n n' c c':Nat) (E E':zf) (k k' f f':Nat) (w:World),T w->zu w r b A n c E k f->zu w s b' A' n' c' E' k' f'->zJ n k->zJ n' k'->Calls prog 25 #[.agg #[.bool b,.slice A n c,.slice E k f],.agg #[.bool b',.slice A' n' c',.slice E' k' f']] w (wF w (wX r s))
 same:∀(r s:Rat) (b b':Bool) (A A':zf) (n n' c c':Nat) (E E':zf) (k k' f f':Nat) (w:World),T w->zu w r b A n c E k f->zu w s b' A' n' c' E' k' f'->zJ n k->zJ n' k'->Calls prog 26 #[.agg #[.bool b,.slice A n c,.slice E k f],.agg #[.bool b',.slice A' n' c',.slice E' k' f']] w λe w'=>e=.returned (.bool (decide (r=s)))/\Below w.heap.size w w'
def um (D:List Nat)(a0 a:Act):Prop:=a.defers=a0.defers/\a.tmps.size=a0.tmps.size/\∀j,j ∉ D->a.tmps.getD j undef=a0.tmps.getD j undef
theorem um.refl (D:List Nat)(a:Act):um D a a:=⟨rfl,rfl,λ_ _=>rfl⟩
theorem oN {j:Nat}(h:j≠i)(v:Value):(a.put (some i) v).tmps.getD j undef=a.tmps.getD j undef:=by
 simp only [Act.put,QZ];rw [qB (Ne.symm h)]
theorem sA (h:i<a.tmps.size)(v:Value):(a.put (some i) v).tmps.getD i undef=v:=by
 simp only [Act.put,QZ];rw [QR h];rfl
theorem jl (a:Act)(i:Nat)(v:Value):(a.put (some i) v).tmps.size=a.tmps.size:=by simp [Act.put]
theorem um.put (h:um D a0 a){i:Nat}(hi:i ∈ D)(v:Value):um D a0 (a.put (some i) v):=
 ⟨h.1,by rw [jl];exact h.2.1,λj hj=>(oN (λe=>hj (by rw [e];exact hi)) v).trans (h.2.2 j hj)⟩
theorem um.get (h:um D a0 a)(j:Nat)(hj:j ∉ D){v:Value}(hv:a0.tmps.getD j undef=v):a.tmps.getD j undef=v:=(h.2.2 j hj).trans hv
theorem um.lt (h:um D a0 a){j:Nat}(hj:j<a0.tmps.size):j<a.tmps.size:=by rw [h.2.1];exact hj
theorem r8 {b:Act}(hd:a.defers=b.defers)(hs:a.tmps.size=b.tmps.size)(hg:∀j,a.tmps.getD j undef=b.tmps.getD j undef):a=b:=by
 obtain⟨at_,ad⟩:=a;obtain⟨bt,bd⟩:=b;simp only at hd hs hg;subst hd;congr 1;refine Array.ext hs λj h1 h2=>?_;have:=hg j;simp only [QZ,QX h1,QX h2] at this;exact this
def ud (vs:List (Nat×Value))(a:Act):Act:=vs.foldl (λa p=>a.put (some p.1) p.2) a
theorem fX (vs:List (Nat×Value))(a:Act):(ud vs a).tmps.size=a.tmps.size/\(ud vs a).defers=a.defers:=by
 unfold ud
 induction vs generalizing a with
 |nil=>exact⟨rfl,rfl⟩
 |cons p t ih=>rw [List.foldl_cons];have:=ih (a.put (some p.1) p.2);exact⟨this.1.trans (jl _ _ _),this.2⟩
theorem Wl (vs:List (Nat×Value))(a b:Act)(hs:b.tmps.size=a.tmps.size)(hv:∀p ∈ vs,a.tmps.getD p.1 undef=p.2):∀j,(ud vs b).tmps.getD j undef=if j ∈ vs.map Prod.fst then a.tmps.getD j undef else b.tmps.getD j undef:=by
 intro j
 induction vs generalizing b with
 |nil=>rfl
 |cons p t ih=>
   show(ud t (b.put (some p.1) p.2)).tmps.getD j undef=_;rw [ih (b.put (some p.1) p.2) (by rw [jl];exact hs) (λq hq=>hv q (yE _ hq))];by_cases h1:j ∈ t.map Prod.fst
   ·rw [if_pos h1,if_pos (by rw [YK];exact yE _ h1)]
   ·rw [if_neg h1];by_cases h2:j=p.1
    ·rw [if_pos (by rw [YK,h2];exact yD),h2,hv p yD];by_cases h3:p.1<b.tmps.size
     ·exact sA h3 _
     ·have h4:=hv p yD;have h5:¬ p.1<a.tmps.size:=by rw [<-hs];exact h3
      simp only [QZ] at h4⊢;rw [Array.getElem?_eq_none za] at h4;rw [Array.getElem?_eq_none (by rw [jl];omega)];exact h4
    ·rw [if_neg (by rw [YK];intro h;rcases List.mem_cons.1 h with h|h;exact h2 h;exact h1 h)];exact oN h2 _
theorem um.eq (h:um D a0 a)(vs:List (Nat×Value))(hD:vs.map Prod.fst=D)(hv:∀p ∈ vs,a.tmps.getD p.1 undef=p.2):a=ud vs a0:=by
 subst hD;refine r8 (h.1.trans (fX vs a0).2.symm) (h.2.1.trans (fX vs a0).1.symm) λj=>?_;rw [Wl vs a a0 h.2.1.symm hv j];by_cases h1:j ∈ vs.map Prod.fst
 ·rw [if_pos h1]
 ·rw [if_neg h1];exact h.2.2 j h1
section
variable {P:Program}{ops0:Array Oper}{Q:Exit->Act->World->Prop}{md:Region.Mode}{S:World->Prop}
theorem gO {d:Array Oper}{o:Oper}{K:Act->World->Prop}(ho:d[i]?=some o)(hg:o.guard=none)
  (h:∀K':Act->World->Prop,Shut (∀a w,K a w->K' a w)->Oper.wp P o a w K' Q):wpOp P d Q i K a w:=
 wpOp_step ho λK' hK=>by
  rw [if_pos (by unfold Region.wanted;rw [hg])];exact h K' hK
theorem aA {o:Oper}{K:Act->World->Prop}{w':World}{v:Value}(h:(execOp a.eval o).run P w=.ok (.value v) w')(hK:K (a.put o.dst v) w'):Oper.wp P o a w K Q:=by
 unfold Oper.wp;rw [h];exact hK
theorem Us {o:Oper}{K:Act->World->Prop}(ho:o.op=.move (.tmp x)\/o.op=.assign (.tmp x))(hx:a.tmps.getD x undef=v)(hK:K (a.put o.dst v) w):Oper.wp P o a w K Q:=by
 refine aA (v:=v) (w':=w) ?_ hK;unfold execOp;rcases ho with ho|ho<;>rw [ho]<;>simp only [Act.eval,hx]<;>rfl
theorem YW {o:Oper}{K:Act->World->Prop}{k:Nat}{vs:Array Value}(ho:o.op=.extract (.tmp x) k)(hx:a.tmps.getD x undef=.tuple vs)(hk:vs[k]?=some v)(hK:K (a.put o.dst v) w):Oper.wp P o a w K Q:=by
 refine aA (v:=v) (w':=w) ?_ hK;unfold execOp;rw [ho];simp only [Act.eval,hx,Instr.extract,hk];rfl
end
