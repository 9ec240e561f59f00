/- What this claim leans on. -/
import Derived.Test.YtghpdeciaaagnaaGreatDoorIBun7
namespace Go.Proofs.YtghpdeciaaagnaaGreatDoor
open Go Go.RowKit
set_option maxHeartbeats 16000000
set_option linter.unusedVariables false
theorem zgI (a:Int)(g:Nat):(a / (g:Int)).natAbs<=a.natAbs:=by
 rcases Nat.eq_zero_or_pos g with rfl|hg
 ·simp
 ·exact Int.natAbs_ediv_le_natAbs a g
theorem zoG (a b:Rat):(a+b).num.natAbs<=a.num.natAbs*b.den+b.num.natAbs*a.den:=by
 rw [Rat.num_add]
 refine Nat.le_trans (zgI _ _) (Nat.le_trans (Int.natAbs_add_le _ _) ?_)
 rw [Int.natAbs_mul,Int.natAbs_mul,Int.natAbs_natCast,Int.natAbs_natCast]
 exact Nat.le_refl _
theorem zod (a b:Rat):(a+b).den<=a.den*b.den:=by rw [Rat.den_add];exact Nat.div_le_self _ _
theorem zoI (a b:Rat):(a*b).num.natAbs<=a.num.natAbs*b.num.natAbs:=by
 rw [Rat.num_mul]
 refine Nat.le_trans (zgI _ _) ?_
 rw [Int.natAbs_mul]
 exact Nat.le_refl _
theorem zoe (a b:Rat):(a*b).den<=a.den*b.den:=by rw [Rat.den_mul];exact Nat.div_le_self _ _
theorem zoH (a:Rat):(a⁻¹).num.natAbs<=a.den:=by
 rw [Rat.num_inv,Int.natAbs_mul,Int.natAbs_natCast]
 by_cases h:a.num=0
 ·simp [h]
 ·rw [Int.natAbs_sign_of_ne_zero h,Nat.one_mul];exact Nat.le_refl _
theorem zkv (p q:Int):(Rat.divInt p q).num.natAbs<=p.natAbs:=by
 rw [Rat.num_divInt]
 refine Nat.le_trans (zgI _ _) ?_
 rw [Int.natAbs_mul]
 by_cases h:q=0
 ·simp [h]
 ·rw [Int.natAbs_sign_of_ne_zero h,Nat.one_mul];exact Nat.le_refl _
def LtQ (b:Nat)(r:Rat):Prop:=r.num.natAbs<b/\r.den<b
theorem LtQ.up {b b':Nat}{r:Rat}(h:LtQ b r)(hb:b<=b'):LtQ b' r:=⟨Nat.lt_of_lt_of_le h.1 hb,Nat.lt_of_lt_of_le h.2 hb⟩
theorem LtQ.pos {b:Nat}{r:Rat}(h:LtQ b r):1<b:=Nat.lt_of_le_of_lt (Nat.pos_of_ne_zero r.den_nz) h.2
theorem LtQ.add {b b':Nat}{r s:Rat}(h:LtQ b r)(h':LtQ b' s):LtQ (2*(b*b')) (r+s):=by
 have h1:r.num.natAbs*s.den<b*b':=Nat.mul_lt_mul'' h.1 h'.2
 have h2:s.num.natAbs*r.den<b*b':=by rw [Nat.mul_comm b b'];exact Nat.mul_lt_mul'' h'.1 h.2
 have h3:r.den*s.den<b*b':=Nat.mul_lt_mul'' h.2 h'.2
 have h4:=zoG r s
 have h5:=zod r s
 exact⟨by omega,by omega⟩
theorem LtQ.mul {b b':Nat}{r s:Rat}(h:LtQ b r)(h':LtQ b' s):LtQ (b*b') (r*s):=
 ⟨Nat.lt_of_le_of_lt (zoI r s) (Nat.mul_lt_mul'' h.1 h'.1),Nat.lt_of_le_of_lt (zoe r s) (Nat.mul_lt_mul'' h.2 h'.2)⟩
theorem LtQ.neg {b:Nat}{r:Rat}(h:LtQ b r):LtQ b (-r):=⟨by rw [Rat.neg_num,Int.natAbs_neg];exact h.1,h.2⟩
theorem LtQ.sub {b b':Nat}{r s:Rat}(h:LtQ b r)(h':LtQ b' s):LtQ (2*(b*b')) (r - s):=by rw [Rat.sub_eq_add_neg];exact h.add h'.neg
theorem LtQ.inv {b:Nat}{r:Rat}(h:LtQ b r):LtQ b r⁻¹:=by
 refine⟨Nat.lt_of_le_of_lt (zoH r) h.2,?_⟩
 rw [Rat.den_inv]
 split
 ·exact h.pos
 ·exact h.1
theorem LtQ.div {b b':Nat}{r s:Rat}(h:LtQ b r)(h':LtQ b' s):LtQ (b*b') (r / s):=by rw [Rat.div_def];exact h.mul h'.inv
theorem LtQ.made {b:Nat}{p q:Int}(hp:p.natAbs<b)(hq:q.natAbs<b)(hb:1<b):LtQ b (Rat.divInt p q):=by
 refine⟨Nat.lt_of_le_of_lt (zkv p q) hp,?_⟩
 rw [Rat.den_divInt]
 split
 ·exact hb
 ·exact Nat.lt_of_le_of_lt (Nat.div_le_self _ _) hq
theorem LtQ.whole {b:Nat}{z:Int}(hz:z.natAbs<b)(hb:1<b):LtQ b (z:Rat):=⟨by rw [Rat.num_intCast];exact hz,by rw [Rat.den_intCast];exact hb⟩
def zgG (r s:Rat):Int:=if r<s then -1 else if r=s then 0 else 1
theorem znZ (r s:Rat):zgG r s=zhM (r.num*s.den) (s.num*r.den):=by
 unfold zgG zhM
 by_cases h1:r<s
 ·rw [if_pos h1,if_pos ((Rat.lt_iff r s).1 h1)]
 ·rw [if_neg h1,if_neg (λh=>h1 ((Rat.lt_iff r s).2 h))]
  by_cases h2:r=s
  ·rw [if_pos h2,if_pos (Rat.eq_iff_mul_eq_mul.1 h2)]
  ·rw [if_neg h2,if_neg (λh=>h2 (Rat.eq_iff_mul_eq_mul.2 h))]
theorem cmpQ_eq (r s:Rat):zgG r s=0↔r=s:=by
 unfold zgG
 by_cases h1:r<s
 ·rw [if_pos h1]
  constructor
  ·intro h;omega
  ·intro h;exact absurd h (Rat.ne_of_lt h1)
 ·rw [if_neg h1]
  by_cases h2:r=s<;>simp [h2]
def sgnQ (r:Rat):Int:=ziB r.num
theorem zdD (r:Rat):r*(r.den:Rat)=(r.num:Rat):=by
 have h0:(r.den:Rat)≠0:=λh=>r.den_nz (by
  have:=congrArg Rat.num h
  rw [Rat.num_natCast] at this
  exact Int.ofNat.inj this)
 have h1:r=(r.num:Rat) / ((r.den:Int):Rat):=by
  have:=Rat.num_divInt_den r
  rw [Rat.divInt_eq_div] at this
  exact this.symm
 have h2:((r.den:Int):Rat)=(r.den:Rat):=rfl
 rw [h2] at h1
 generalize r.num=p at*
 generalize r.den=q at*
 rw [h1,Rat.div_mul_cancel h0]
theorem made_num (p q:Int)(hq:q≠0):(Rat.divInt p q).num.natAbs=p.natAbs / Nat.gcd p.natAbs q.natAbs:=by
 rw [Rat.num_divInt,Int.gcd]
 have hd:(Nat.gcd q.natAbs p.natAbs:Int)∣ q.sign*p:=Int.dvd_trans (Int.ofNat_dvd_left.2 (Nat.gcd_dvd_right ..)) (Int.dvd_mul_left ..)
 rw [Int.natAbs_ediv_of_dvd hd,Int.natAbs_mul,Int.natAbs_sign_of_ne_zero hq,Nat.one_mul,Int.natAbs_natCast,Nat.gcd_comm]
theorem made_den (p q:Int)(hq:q≠0):(Rat.divInt p q).den=q.natAbs / Nat.gcd p.natAbs q.natAbs:=by
 rw [Rat.den_divInt,if_neg hq,Int.gcd,Nat.gcd_comm]
theorem zqz (p q:Int)(hq:q≠0):(Rat.divInt p q).num<0↔(p<0/\0<q\/0<p/\q<0):=by
 rw [Rat.num_divInt]
 have hg0:0<(q.gcd p:Int):=by
  have:0<q.gcd p:=Int.gcd_pos_of_ne_zero_left p hq
  omega
 have e:q.sign*p / (q.gcd p:Int)<0↔q.sign*p<0:=by
  constructor
  ·intro h
   refine Int.not_le.1 λh1=>?_
   have:=Int.ediv_nonneg h1 (Int.le_of_lt hg0)
   omega
  ·intro h
   exact Int.ediv_neg_of_neg_of_pos h hg0
 rw [e]
 rcases Int.lt_or_gt_of_ne hq with h|h
 ·rw [Int.sign_eq_neg_one_of_neg h];omega
 ·rw [Int.sign_eq_one_of_pos h];omega
def DenIn (w:World)(q:Nat)(A:oA9)(n c:Nat):Prop:=∃x,(q=(if x=0 then 1 else x)/\x≠1)/\zad w x A n c
theorem DenIn.below {w w':World}{q:Nat}{A:oA9}{n c:Nat}(h:DenIn w q A n c)(hb:Below w.heap.size w w'):DenIn w' q A n c:=by
 obtain⟨x,e,h1⟩:=h
 exact⟨x,e,h1.below hb⟩
def zah (w:World)(r:Rat)(b:Bool)(A:oA9)(n c:Nat)(E:oA9)(k f:Nat):Prop:=zaG w r.num b A n c/\DenIn w r.den E k f
theorem zah.below {w w':World}{r:Rat}{b:Bool}{A:oA9}{n c:Nat}{E:oA9}{k f:Nat}(h:zah w r b A n c E k f)(hb:Below w.heap.size w w'):zah w' r b A n c E k f:=⟨h.1.below hb,h.2.below hb⟩
theorem zah.to {w:World}{r s:Rat}{b:Bool}{A:oA9}{n c:Nat}{E:oA9}{k f:Nat}(e:r=s)(h:zah w r b A n c E k f):zah w s b A n c E k f:=e▸h
def zaH (w:World)(r:Rat)(e:Ending)(w':World):Prop:=∃(b:Bool) (A:oA9) (n c:Nat) (E:oA9) (k f:Nat),e=.returned (.agg #[.bool b,.slice A n c,.slice E k f])/\zah w' r b A n c E k f/\Below w.heap.size w w'
def zbD (w:World)(r:Rat)(t:Bool)(e:Ending)(w':World):Prop:=∃(b:Bool) (A:oA9) (n c:Nat) (E:oA9) (k f:Nat),e=.returned (.tuple #[.agg #[.bool b,.slice A n c,.slice E k f],.bool t])/\zah w' r b A n c E k f/\Below w.heap.size w w'
def zaT (n k:Nat):Prop:=n<=67108864/\k<=67108864
structure RatG0 (T:World->Prop):Prop where
 mul:∀(r s:Rat) (b b':Bool) (A A':oA9) (n n' c c':Nat) (E E':oA9) (k k' f f':Nat) (w:World),T w->zah w r b A n c E k f->zah w s b' A' n' c' E' k' f'->zaT n k->zaT n' k'->Calls Tryz.prog 38 #[.agg #[.bool b,.slice A n c,.slice E k f],.agg #[.bool b',.slice A' n' c',.slice E' k' f']] w (zaH w (r*s))
 div:∀(r s:Rat) (b b':Bool) (A A':oA9) (n n' c c':Nat) (E E':oA9) (k k' f f':Nat) (w:World),T w->zah w r b A n c E k f->zah w s b' A' n' c' E' k' f'->zaT n k->zaT n' k'->s≠0->Calls Tryz.prog 53 #[.agg #[.bool b,.slice A n c,.slice E k f],.agg #[.bool b',.slice A' n' c',.slice E' k' f']] w (zbD w (r / s) true)
 divNo:∀(r s:Rat) (b b':Bool) (A A':oA9) (n n' c c':Nat) (E E':oA9) (k k' f f':Nat) (w:World),T w->zah w r b A n c E k f->zah w s b' A' n' c' E' k' f'->zaT n k->zaT n' k'->s=0->Calls Tryz.prog 53 #[.agg #[.bool b,.slice A n c,.slice E k f],.agg #[.bool b',.slice A' n' c',.slice E' k' f']] w (zbD w 0 false)
structure RatG1 (T:World->Prop):Prop where
structure RatG2 (T:World->Prop):Prop where
 int:∀(z:Int) (w:World),T w-> -9223372036854775808<=z->z<=9223372036854775807->Calls Tryz.prog 56 #[.int .i64 z] w (zaH w (z:Rat))
 whole:∀(z:Int) (b:Bool) (A:oA9) (n c:Nat) (w:World),T w->zaG w z b A n c->n<=67108864->Calls Tryz.prog 179 #[.agg #[.bool b,.slice A n c]] w (zaH w (z:Rat))
structure RatC (T:World->Prop)(M:Nat->Prop):Prop where
 g0:M 0->RatG0 T
 g1:M 1->RatG1 T
 g2:M 2->RatG2 T
 new:∀(p q:Int) (b b':Bool) (A D:oA9) (n m c d:Nat) (w:World),T w->zaG w p b A n c->zaG w q b' D m d->n<=67108864->m<=67108864->q≠0->Calls Tryz.prog 175 #[.agg #[.bool b,.slice A n c],.agg #[.bool b',.slice D m d]] w (zbD w (Rat.divInt p q) true)
 newNo:∀(p q:Int) (b b':Bool) (A D:oA9) (n m c d:Nat) (w:World),T w->zaG w p b A n c->zaG w q b' D m d->n<=67108864->m<=67108864->q=0->Calls Tryz.prog 175 #[.agg #[.bool b,.slice A n c],.agg #[.bool b',.slice D m d]] w (zbD w 0 false)
 of:∀(p q:Int) (w:World),T w-> -9223372036854775808<=p->p<=9223372036854775807-> -9223372036854775808<=q->q<=9223372036854775807->q≠0->Calls Tryz.prog 120 #[.int .i64 p,.int .i64 q] w (zbD w (Rat.divInt p q) true)
 ofNo:∀(p q:Int) (w:World),T w-> -9223372036854775808<=p->p<=9223372036854775807->q=0->Calls Tryz.prog 120 #[.int .i64 p,.int .i64 q] w (zbD w 0 false)
 num:∀(r:Rat) (b:Bool) (A:oA9) (n c:Nat) (E:oA9) (k f:Nat) (w:World),T w->zah w r b A n c E k f->zaT n k->Calls Tryz.prog 76 #[.agg #[.bool b,.slice A n c,.slice E k f]] w (zbc w r.num)
 den:∀(r:Rat) (b:Bool) (A:oA9) (n c:Nat) (E:oA9) (k f:Nat) (w:World),T w->zah w r b A n c E k f->zaT n k->Calls Tryz.prog 78 #[.agg #[.bool b,.slice A n c,.slice E k f]] w (zeQ w r.den)
 sign:∀(r:Rat) (b:Bool) (A:oA9) (n c:Nat) (E:oA9) (k f:Nat) (w:World),T w->zah w r b A n c E k f->zaT n k->Calls Tryz.prog 66 #[.agg #[.bool b,.slice A n c,.slice E k f]] w (zcH w (sgnQ r))
 zero:∀(r:Rat) (b:Bool) (A:oA9) (n c:Nat) (E:oA9) (k f:Nat) (w:World),T w->zah w r b A n c E k f->zaT n k->Calls Tryz.prog 17 #[.agg #[.bool b,.slice A n c,.slice E k f]] w λe w'=>e=.returned (.bool (decide (r=0)))/\Below w.heap.size w w'
 isInt:∀(r:Rat) (b:Bool) (A:oA9) (n c:Nat) (E:oA9) (k f:Nat) (w:World),T w->zah w r b A n c E k f->zaT n k->Calls Tryz.prog 79 #[.agg #[.bool b,.slice A n c,.slice E k f]] w λe w'=>e=.returned (.bool (decide (r.den=1)))/\Below w.heap.size w w'
 bits:∀(r:Rat) (b:Bool) (A:oA9) (n c:Nat) (E:oA9) (k f:Nat) (w:World),T w->zah w r b A n c E k f->zaT n k->Calls Tryz.prog 80 #[.agg #[.bool b,.slice A n c,.slice E k f]] w (zcH w ((bitLen r.num.natAbs+bitLen r.den:Nat):Int))
 neg:∀(r:Rat) (b:Bool) (A:oA9) (n c:Nat) (E:oA9) (k f:Nat) (w:World),T w->zah w r b A n c E k f->zaT n k->Calls Tryz.prog 55 #[.agg #[.bool b,.slice A n c,.slice E k f]] w (zaH w (-r))
 inv:∀(r:Rat) (b:Bool) (A:oA9) (n c:Nat) (E:oA9) (k f:Nat) (w:World),T w->zah w r b A n c E k f->zaT n k->r≠0->Calls Tryz.prog 123 #[.agg #[.bool b,.slice A n c,.slice E k f]] w (zbD w r⁻¹ true)
 invNo:∀(r:Rat) (b:Bool) (A:oA9) (n c:Nat) (E:oA9) (k f:Nat) (w:World),T w->zah w r b A n c E k f->zaT n k->r=0->Calls Tryz.prog 123 #[.agg #[.bool b,.slice A n c,.slice E k f]] w (zbD w 0 false)
 add:∀(r s:Rat) (b b':Bool) (A A':oA9) (n n' c c':Nat) (E E':oA9) (k k' f f':Nat) (w:World),T w->zah w r b A n c E k f->zah w s b' A' n' c' E' k' f'->zaT n k->zaT n' k'->Calls Tryz.prog 126 #[.agg #[.bool b,.slice A n c,.slice E k f],.agg #[.bool b',.slice A' n' c',.slice E' k' f']] w (zaH w (r+s))
 sub:∀(r s:Rat) (b b':Bool) (A A':oA9) (n n' c c':Nat) (E E':oA9) (k k' f f':Nat) (w:World),T w->zah w r b A n c E k f->zah w s b' A' n' c' E' k' f'->zaT n k->zaT n' k'->Calls Tryz.prog 171 #[.agg #[.bool b,.slice A n c,.slice E k f],.agg #[.bool b',.slice A' n' c',.slice E' k' f']] w (zaH w (r - s))
 cmp:∀(r s:Rat) (b b':Bool) (A A':oA9) (n n' c c':Nat) (E E':oA9) (k k' f f':Nat) (w:World),T w->zah w r b A n c E k f->zah w s b' A' n' c' E' k' f'->zaT n k->zaT n' k'->Calls Tryz.prog 174 #[.agg #[.bool b,.slice A n c,.slice E k f],.agg #[.bool b',.slice A' n' c',.slice E' k' f']] w (zcH w (zgG r s))
 same:∀(r s:Rat) (b b':Bool) (A A':oA9) (n n' c c':Nat) (E E':oA9) (k k' f f':Nat) (w:World),T w->zah w r b A n c E k f->zah w s b' A' n' c' E' k' f'->zaT n k->zaT n' k'->Calls Tryz.prog 37 #[.agg #[.bool b,.slice A n c,.slice E k f],.agg #[.bool b',.slice A' n' c',.slice E' k' f']] w λe w'=>e=.returned (.bool (decide (r=s)))/\Below w.heap.size w w'
def zdJ (D:List Nat)(a0 a:Act):Prop:=a.defers=a0.defers/\a.tmps.size=a0.tmps.size/\∀j,j ∉ D->a.tmps.getD j undef=a0.tmps.getD j undef
theorem zdJ.refl (D:List Nat)(a:Act):zdJ D a a:=⟨rfl,rfl,λ_ _=>rfl⟩
theorem rd_ne {a:Act}{i j:Nat}(h:j≠i)(v:Value):(a.put (some i) v).tmps.getD j undef=a.tmps.getD j undef:=by
 simp only [Act.put,Array.getD_eq_getD_getElem?]
 rw [Array.getElem?_setIfInBounds_ne (Ne.symm h)]
theorem zaZ {a:Act}{i:Nat}(h:i<a.tmps.size)(v:Value):(a.put (some i) v).tmps.getD i undef=v:=by
 simp only [Act.put,Array.getD_eq_getD_getElem?]
 rw [Array.getElem?_setIfInBounds_self_of_lt h]
 rfl
theorem zhr (a:Act)(i:Nat)(v:Value):(a.put (some i) v).tmps.size=a.tmps.size:=by simp [Act.put]
theorem zdJ.put {D:List Nat}{a0 a:Act}(h:zdJ D a0 a){i:Nat}(hi:i ∈ D)(v:Value):zdJ D a0 (a.put (some i) v):=
 ⟨h.1,by rw [zhr];exact h.2.1,λj hj=>(rd_ne (λe=>hj (by rw [e];exact hi)) v).trans (h.2.2 j hj)⟩
theorem zdJ.get {D:List Nat}{a0 a:Act}(h:zdJ D a0 a)(j:Nat)(hj:j ∉ D){v:Value}(hv:a0.tmps.getD j undef=v):a.tmps.getD j undef=v:=(h.2.2 j hj).trans hv
theorem zdJ.lt {D:List Nat}{a0 a:Act}(h:zdJ D a0 a){j:Nat}(hj:j<a0.tmps.size):j<a.tmps.size:=by rw [h.2.1];exact hj
theorem act_ext {a b:Act}(hd:a.defers=b.defers)(hs:a.tmps.size=b.tmps.size)(hg:∀j,a.tmps.getD j undef=b.tmps.getD j undef):a=b:=by
 obtain⟨at_,ad⟩:=a
 obtain⟨bt,bd⟩:=b
 simp only at hd hs hg
 subst hd
 congr 1
 refine Array.ext hs λj h1 h2=>?_
 have:=hg j
 simp only [Array.getD_eq_getD_getElem?,Array.getElem?_eq_getElem h1,Array.getElem?_eq_getElem h2] at this
 exact this
def zdp (vs:List (Nat×Value))(a:Act):Act:=vs.foldl (λa p=>a.put (some p.1) p.2) a
theorem zin (vs:List (Nat×Value))(a:Act):(zdp vs a).tmps.size=a.tmps.size/\(zdp vs a).defers=a.defers:=by
 unfold zdp
 induction vs generalizing a with
 |nil=>exact⟨rfl,rfl⟩
 |cons p t ih=>rw [List.foldl_cons];have:=ih (a.put (some p.1) p.2);exact⟨this.1.trans (zhr _ _ _),this.2⟩
theorem zoK (vs:List (Nat×Value))(a b:Act)(hs:b.tmps.size=a.tmps.size)(hv:∀p ∈ vs,a.tmps.getD p.1 undef=p.2):∀j,(zdp vs b).tmps.getD j undef=if j ∈ vs.map Prod.fst then a.tmps.getD j undef else b.tmps.getD j undef:=by
 intro j
 induction vs generalizing b with
 |nil=>rfl
 |cons p t ih=>
   show(zdp t (b.put (some p.1) p.2)).tmps.getD j undef=_
   rw [ih (b.put (some p.1) p.2) (by rw [zhr];exact hs) (λq hq=>hv q (List.mem_cons_of_mem _ hq))]
   by_cases h1:j ∈ t.map Prod.fst
   ·rw [if_pos h1,if_pos (by rw [List.map_cons];exact List.mem_cons_of_mem _ h1)]
   ·rw [if_neg h1]
    by_cases h2:j=p.1
    ·rw [if_pos (by rw [List.map_cons,h2];exact List.mem_cons_self),h2,hv p List.mem_cons_self]
     by_cases h3:p.1<b.tmps.size
     ·exact zaZ h3 _
     ·have h4:=hv p List.mem_cons_self
      have h5:¬ p.1<a.tmps.size:=by rw [<-hs];exact h3
      simp only [Array.getD_eq_getD_getElem?] at h4⊢
      rw [Array.getElem?_eq_none (by omega)] at h4
      rw [Array.getElem?_eq_none (by rw [zhr];omega)]
      exact h4
    ·rw [if_neg (by rw [List.map_cons];intro h;rcases List.mem_cons.1 h with h|h;exact h2 h;exact h1 h)]
     exact rd_ne h2 _
theorem zdJ.eq {D:List Nat}{a0 a:Act}(h:zdJ D a0 a)(vs:List (Nat×Value))(hD:vs.map Prod.fst=D)(hv:∀p ∈ vs,a.tmps.getD p.1 undef=p.2):a=zdp vs a0:=by
 subst hD
 refine act_ext (h.1.trans (zin vs a0).2.symm) (h.2.1.trans (zin vs a0).1.symm) λj=>?_
 rw [zoK vs a a0 h.2.1.symm hv j]
 by_cases h1:j ∈ vs.map Prod.fst
 ·rw [if_pos h1]
 ·rw [if_neg h1];exact h.2.2 j h1
section
variable {P:Program}{ops0:Array Oper}{Q:Exit->Act->World->Prop}{md:Region.Mode}{S:World->Prop}
theorem zcl {J:Act->Array Bool->Act->World->Prop}{L:Array Bool}{a0:Act}{l0:Array Bool}{w0:World}{fuel:Nat}(hd:due l0=fuel)(h0:J a0 l0 a0 w0)
  (hstep:∀(ops:Array Oper) (A0:Act) (Q':Exit->Act->World->Prop),ops=ops0->A0.tmps.size=a0.tmps.size->(∀i d,A0.tmps.getD i d=a0.tmps.getD i d)->(∀l a w,J A0 l a w->Region.ready md ops l=[]->l=L)/\∀l a w i,J A0 l a w->l≠L->i ∈ Region.ready md ops l->wpOp P ops Q' i (λa' w'=>S w'/\J A0 (l.setIfInBounds i true) a' w') a w)
  (hgoal:∀a w,J a0 L a w->wpAnyH P md ops0 Q S (due L) L a w):wpAnyH P md ops0 Q S fuel l0 a0 w0:=
 zmq (hstep ops0 a0 Q rfl rfl (λ_ _=>rfl)).1 (hstep ops0 a0 Q rfl rfl (λ_ _=>rfl)).2 hgoal fuel l0 a0 w0 hd h0
theorem wpOp_go {ops:Array Oper}{i:Nat}{o:Oper}{K:Act->World->Prop}{a:Act}{w:World}(ho:ops[i]?=some o)(hg:o.guard=none)
  (h:∀K':Act->World->Prop,Shut (∀a w,K a w->K' a w)->Oper.wp P o a w K' Q):wpOp P ops Q i K a w:=
 wpOp_step ho λK' hK=>by
  rw [if_pos (by unfold Region.wanted;rw [hg])]
  exact h K' hK
theorem znA {o:Oper}{K:Act->World->Prop}{a:Act}{w w':World}{v:Value}(h:(execOp a.eval o).run P w=.ok (.value v) w')(hK:K (a.put o.dst v) w'):Oper.wp P o a w K Q:=by
 unfold Oper.wp;rw [h];exact hK
theorem zeM {o:Oper}{K:Act->World->Prop}{a:Act}{w:World}{v:Value}{x:Nat}(ho:o.op=.move (.tmp x)\/o.op=.assign (.tmp x))(hx:a.tmps.getD x undef=v)(hK:K (a.put o.dst v) w):Oper.wp P o a w K Q:=by
 refine znA (v:=v) (w':=w) ?_ hK
 unfold execOp
 rcases ho with ho|ho<;>rw [ho]<;>simp only [Act.eval,hx]<;>rfl
theorem zbu {o:Oper}{K:Act->World->Prop}{a:Act}{w:World}{v:Value}{x k:Nat}{vs:Array Value}(ho:o.op=.extract (.tmp x) k)(hx:a.tmps.getD x undef=.tuple vs)(hk:vs[k]?=some v)(hK:K (a.put o.dst v) w):Oper.wp P o a w K Q:=by
 refine znA (v:=v) (w':=w) ?_ hK
 unfold execOp
 rw [ho]
 simp only [Act.eval,hx,Instr.extract,hk]
 rfl
end
theorem zpv {r:Rat}{t:Int}{d:Nat}(hd:d≠0)(hc:Nat.gcd t.natAbs d=1)(h:r=Rat.divInt t d):r.num=t/\r.den=d:=by
 have e:(⟨t,d,hd,hc⟩:Rat)=Rat.divInt t d:=Rat.mk_eq_divInt
 rw [<-e] at h
 subst h
 exact⟨rfl,rfl⟩
theorem zjY (t:Int)(h:Nat)(hd:h ∣ t.natAbs):t=(h:Int)*zba (decide (t<0)) (t.natAbs / h):=by
 obtain⟨k,hk⟩:=hd
 by_cases h0:h=0
 ·subst h0;rw [Nat.zero_mul] at hk;have:t=0:=Int.natAbs_eq_zero.1 hk;subst this;simp
 have e:t.natAbs / h=k:=by rw [hk];exact Nat.mul_div_cancel_left _ (Nat.pos_of_ne_zero h0)
 rw [e]
 unfold zba
 by_cases ht:t<0
 ·rw [decide_eq_true ht,if_pos rfl,Int.mul_neg,<-Int.natCast_mul,<-hk];omega
 ·rw [decide_eq_false ht,if_neg (by decide),<-Int.natCast_mul,<-hk];omega
theorem sgnI_mul (s u:Bool)(x y:Nat):zba s x*zba u y=zba (s !=u) (x*y):=by
 cases s<;>cases u<;>simp [zba,Int.natCast_mul,Int.neg_mul,Int.mul_neg]
theorem zrh {p1 p2 t:Int}{q1 mA mB:Nat}(hc:Nat.gcd p1.natAbs q1=1)(hA:mA ∣ q1)(hm:Nat.gcd mA mB=1)(ht:t=p1*mB+p2*mA):Nat.gcd t.natAbs mA=1:=by
 refine Nat.dvd_one.1 ?_
 have h1:Nat.gcd t.natAbs mA ∣ mA:=Nat.gcd_dvd_right _ _
 have h2:Nat.gcd t.natAbs mA ∣ t.natAbs:=Nat.gcd_dvd_left _ _
 generalize Nat.gcd t.natAbs mA=d at*
 have h3:(d:Int)∣ p1*mB:=by
  have a:=Int.ofNat_dvd_left.2 h2
  have b:(d:Int)∣ p2*mA:=Int.dvd_trans (Int.ofNat_dvd.2 h1) (Int.dvd_mul_left _ _)
  have c:=Int.dvd_sub a b
  rw [ht,Int.add_sub_cancel] at c
  exact c
 have h4:d ∣ p1.natAbs*mB:=by
  have:=Int.ofNat_dvd_left.1 h3
  rwa [Int.natAbs_mul,Int.natAbs_natCast] at this
 have h5:Nat.Coprime d mB:=Nat.Coprime.coprime_dvd_left h1 hm
 have h6:d ∣ p1.natAbs:=h5.dvd_of_dvd_mul_right h4
 have h7:=Nat.dvd_gcd h6 (Nat.dvd_trans h1 hA)
 rwa [hc] at h7
theorem zqE (a b:Rat){mA mB:Nat}{t:Int}(hA:mA=a.den / Nat.gcd a.den b.den)(hB:mB=b.den / Nat.gcd a.den b.den)(ht:t=a.num*mB+b.num*mA):
  (a+b).num=zba (decide (t<0)) (t.natAbs / Nat.gcd t.natAbs b.den)/\(a+b).den=mA*(b.den / Nat.gcd t.natAbs b.den):=by
 have g0:0<Nat.gcd a.den b.den:=Nat.gcd_pos_of_pos_left _ (Nat.pos_of_ne_zero a.den_nz)
 have k0:0<Nat.gcd t.natAbs b.den:=Nat.gcd_pos_of_pos_right _ (Nat.pos_of_ne_zero b.den_nz)
 have ea:Nat.gcd a.den b.den*mA=a.den:=by rw [hA];exact Nat.mul_div_cancel' (Nat.gcd_dvd_left _ _)
 have eb:Nat.gcd a.den b.den*mB=b.den:=by rw [hB];exact Nat.mul_div_cancel' (Nat.gcd_dvd_right _ _)
 have hm:Nat.gcd mA mB=1:=by rw [hA,hB];exact Nat.gcd_div_gcd_div_gcd_of_pos_left (Nat.pos_of_ne_zero a.den_nz)
 have hp:Nat.gcd t.natAbs mA=1:=zrh a.reduced ⟨_,(Nat.mul_comm mA _▸ea).symm⟩ hm ht
 have eh:Nat.gcd t.natAbs b.den*(b.den / Nat.gcd t.natAbs b.den)=b.den:=Nat.mul_div_cancel' (Nat.gcd_dvd_right _ _)
 have et:=zjY t (Nat.gcd t.natAbs b.den) (Nat.gcd_dvd_left _ _)
 have hq:Nat.gcd (t.natAbs / Nat.gcd t.natAbs b.den) (b.den / Nat.gcd t.natAbs b.den)=1:=Nat.gcd_div_gcd_div_gcd_of_pos_right (Nat.pos_of_ne_zero b.den_nz)
 have mA0:mA≠0:=λh=>a.den_nz (by rw [<-ea,h];rfl)
 have r0:b.den / Nat.gcd t.natAbs b.den≠0:=λh=>b.den_nz (by rw [<-eh,h];rfl)
 refine zpv (Nat.mul_ne_zero mA0 r0) ?_ ?_
 ·rw [zeb]
  refine Nat.Coprime.mul_right ?_ hq
  exact Nat.Coprime.coprime_dvd_left (Nat.div_dvd_of_dvd (Nat.gcd_dvd_left _ _)) hp
 ·have e1:a+b=Rat.divInt (a.num*b.den+b.num*a.den) ((a.den*b.den:Nat):Int):=by rw [Rat.add_def'];rfl
  have e2:a.num*(b.den:Int)+b.num*(a.den:Int)=(Nat.gcd a.den b.den:Int)*t:=by
   rw [ht]
   generalize Nat.gcd a.den b.den=g at*
   rw [<-eb,<-ea,Int.natCast_mul,Int.natCast_mul,Int.mul_add,Int.mul_left_comm,Int.mul_left_comm b.num]
  have e3:((a.den*b.den:Nat):Int)=(Nat.gcd a.den b.den:Int)*((mA*b.den:Nat):Int):=by
   generalize Nat.gcd a.den b.den=g at*
   rw [<-ea,Nat.mul_assoc,Int.natCast_mul]
  rw [e1,e2,e3,Rat.divInt_mul_left (by omega)]
  generalize Nat.gcd t.natAbs b.den=h at*
  have e4:((mA*b.den:Nat):Int)=(h:Int)*((mA*(b.den / h):Nat):Int):=by
   conv=>lhs;rw [<-eh]
   rw [Nat.mul_left_comm,Int.natCast_mul]
  rw [e4]
  conv=>lhs;rw [et]
  exact Rat.divInt_mul_left (by omega)
theorem zqG (a b:Rat):(a*b).num=zba (decide (a.num<0) !=decide (b.num<0)) (a.num.natAbs / Nat.gcd a.num.natAbs b.den*(b.num.natAbs / Nat.gcd b.num.natAbs a.den))/\
  (a*b).den=a.den / Nat.gcd b.num.natAbs a.den*(b.den / Nat.gcd a.num.natAbs b.den):=by
 have g0:0<Nat.gcd a.num.natAbs b.den:=Nat.gcd_pos_of_pos_right _ (Nat.pos_of_ne_zero b.den_nz)
 have k0:0<Nat.gcd b.num.natAbs a.den:=Nat.gcd_pos_of_pos_right _ (Nat.pos_of_ne_zero a.den_nz)
 have ea:Nat.gcd b.num.natAbs a.den*(a.den / Nat.gcd b.num.natAbs a.den)=a.den:=Nat.mul_div_cancel' (Nat.gcd_dvd_right _ _)
 have eb:Nat.gcd a.num.natAbs b.den*(b.den / Nat.gcd a.num.natAbs b.den)=b.den:=Nat.mul_div_cancel' (Nat.gcd_dvd_right _ _)
 have ta:=zjY a.num _ (Nat.gcd_dvd_left a.num.natAbs b.den)
 have tb:=zjY b.num _ (Nat.gcd_dvd_left b.num.natAbs a.den)
 have c1:Nat.Coprime (a.num.natAbs / Nat.gcd a.num.natAbs b.den) (b.den / Nat.gcd a.num.natAbs b.den):=Nat.gcd_div_gcd_div_gcd_of_pos_right (Nat.pos_of_ne_zero b.den_nz)
 have c2:Nat.Coprime (b.num.natAbs / Nat.gcd b.num.natAbs a.den) (a.den / Nat.gcd b.num.natAbs a.den):=Nat.gcd_div_gcd_div_gcd_of_pos_right (Nat.pos_of_ne_zero a.den_nz)
 have c3 : Nat.Coprime (a.num.natAbs / Nat.gcd a.num.natAbs b.den) (a.den / Nat.gcd b.num.natAbs a.den) :=
  Nat.Coprime.coprime_dvd_left (Nat.div_dvd_of_dvd (Nat.gcd_dvd_left _ _)) (Nat.Coprime.coprime_dvd_right (Nat.div_dvd_of_dvd (Nat.gcd_dvd_right _ _)) a.reduced)
 have c4 : Nat.Coprime (b.num.natAbs / Nat.gcd b.num.natAbs a.den) (b.den / Nat.gcd a.num.natAbs b.den) :=
  Nat.Coprime.coprime_dvd_left (Nat.div_dvd_of_dvd (Nat.gcd_dvd_left _ _)) (Nat.Coprime.coprime_dvd_right (Nat.div_dvd_of_dvd (Nat.gcd_dvd_right _ _)) b.reduced)
 refine zpv (λh=>?_) ?_ ?_
 ·rcases Nat.mul_eq_zero.1 h with h|h
  ·rw [h] at ea;exact a.den_nz ea.symm
  ·rw [h] at eb;exact b.den_nz eb.symm
 ·rw [zeb]
  exact Nat.Coprime.mul_right (Nat.Coprime.mul_left c3 c2) (Nat.Coprime.mul_left c1 c4)
 ·have e1:a*b=Rat.divInt (a.num*b.num) ((a.den*b.den:Nat):Int):=by rw [Rat.mul_def'];rfl
  rw [e1,<-sgnI_mul]
  generalize a.num.natAbs / Nat.gcd a.num.natAbs b.den=x1 at*
  generalize b.num.natAbs / Nat.gcd b.num.natAbs a.den=x2 at*
  generalize b.den / Nat.gcd a.num.natAbs b.den=y2 at*
  generalize a.den / Nat.gcd b.num.natAbs a.den=y1 at*
  generalize Nat.gcd a.num.natAbs b.den=g at*
  generalize Nat.gcd b.num.natAbs a.den=k at*
  generalize zba (decide (a.num<0)) x1=u1 at*
  generalize zba (decide (b.num<0)) x2=u2 at*
  have e2:a.num*b.num=((g*k:Nat):Int)*(u1*u2):=by
   rw [ta,tb,Int.natCast_mul];simp only [Int.mul_assoc,Int.mul_left_comm]
  have e3:((a.den*b.den:Nat):Int)=((g*k:Nat):Int)*((y1*y2:Nat):Int):=by
   rw [<-ea,<-eb,<-Int.natCast_mul];congr 1;simp only [Nat.mul_left_comm,Nat.mul_comm]
  rw [e2,e3]
  exact Rat.divInt_mul_left (by have:=Nat.mul_pos g0 k0;omega)
theorem zqF (a:Rat)(h:a≠0):(a⁻¹).num=zba (decide (a.num<0)) a.den/\(a⁻¹).den=a.num.natAbs:=by
 have hn:a.num≠0:=λe=>h (Rat.num_eq_zero.1 e)
 constructor
 ·rw [Rat.num_inv]
  unfold zba
  rcases Int.lt_or_gt_of_ne hn with h1|h1
  ·rw [Int.sign_eq_neg_one_of_neg h1,decide_eq_true h1,if_pos rfl];omega
  ·rw [Int.sign_eq_one_of_pos h1,decide_eq_false (by omega),if_neg (by decide)];omega
 ·rw [Rat.den_inv,if_neg hn]
theorem zqH (a:Rat):(-a).num=zba (!decide (a.num<0)) a.num.natAbs/\(-a).den=a.den:=by
 refine⟨?_,rfl⟩
 rw [Rat.neg_num]
 unfold zba
 by_cases h:a.num<0
 ·simp [h];omega
 ·simp [h];omega
theorem zrn {a b:Rat}(ha:a.den=1)(hb:b.den=1):(a+b)=((a.num+b.num:Int):Rat):=by
 have h1:a=((a.num:Int):Rat):=Rat.ext (by rw [Rat.num_intCast]) (by rw [Rat.den_intCast,ha])
 have h2:b=((b.num:Int):Rat):=Rat.ext (by rw [Rat.num_intCast]) (by rw [Rat.den_intCast,hb])
 rw [Rat.intCast_add,<-h1,<-h2]
theorem zhY {a b:Rat}(h:a=0\/b=0\/a.den=1/\b.den=1):(a*b)=((a.num*b.num:Int):Rat):=by
 rcases h with h|h|⟨ha,hb⟩
 ·subst h;rw [Rat.zero_mul,show(0:Rat).num=0 from rfl,Int.zero_mul];rfl
 ·subst h;rw [Rat.mul_zero,show(0:Rat).num=0 from rfl,Int.mul_zero];rfl
 ·have h1:a=((a.num:Int):Rat):=Rat.ext (by rw [Rat.num_intCast]) (by rw [Rat.den_intCast,ha])
  have h2:b=((b.num:Int):Rat):=Rat.ext (by rw [Rat.num_intCast]) (by rw [Rat.den_intCast,hb])
  rw [Rat.intCast_mul,<-h1,<-h2]
