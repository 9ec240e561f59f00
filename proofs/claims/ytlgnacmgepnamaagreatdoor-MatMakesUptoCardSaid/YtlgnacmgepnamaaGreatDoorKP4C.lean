/- What this claim leans on. -/
import Derived.Test.YtlgnacmgepnamaaGreatDoorKMeet2
import Derived.Test.YtlgnacmgepnamaaGreatDoorKBunQ
import Derived.Deep.RegionLaw
import Derived.Laws.AppendOwn
import Derived.Laws.Concat
import Derived.Laws.IdiomCopy
namespace Go.Proofs.YtlgnacmgepnamaaGreatDoor
open Go Go.RowKit
set_option maxHeartbeats 16000000
set_option linter.unusedVariables false
def zcs (w:World)(q r:Nat)(b:Bool)(e:Ending)(w':World):Prop:=∃(A:oA9) (n c:Nat) (B:oA9) (m d:Nat),e=.returned (.tuple #[.agg #[.slice A n c],.agg #[.slice B m d],.bool b])/\zaf w' q A n c/\zaf w' r B m d/\Below w.heap.size w w'
def zep (w:World)(x:Nat)(b:Bool)(e:Ending)(w':World):Prop:=∃(A:oA9) (n c:Nat),e=.returned (.tuple #[.agg #[.slice A n c],.bool b])/\zaf w' x A n c/\Below w.heap.size w w'
def zgd (w:World)(q x:Nat)(b:Bool)(e:Ending)(w':World):Prop:=∃(A:oA9) (n c:Nat),e=.returned (.tuple #[.agg #[.slice A n c],.int .u64 (x:Int),.bool b])/\zaf w' q A n c/\Below w.heap.size w w'
structure QuotC:Prop where
 divMod:∀(x y:Nat) (A D:oA9) (n m c d:Nat) (w:World),zaf w x A n c->zaf w y D m d->n<=1073741824->m<=1073741824->y≠0->Calls Tryz.prog 169 #[.agg #[.slice A n c],.agg #[.slice D m d]] w (zcs w (x / y) (x%y) true)
 divModNo:∀(x y:Nat) (A D:oA9) (n m c d:Nat) (w:World),zaf w x A n c->zaf w y D m d->n<=1073741824->m<=1073741824->y=0->Calls Tryz.prog 169 #[.agg #[.slice A n c],.agg #[.slice D m d]] w (zcs w 0 0 false)
 div:∀(x y:Nat) (A D:oA9) (n m c d:Nat) (w:World),zaf w x A n c->zaf w y D m d->n<=1073741824->m<=1073741824->y≠0->Calls Tryz.prog 150 #[.agg #[.slice A n c],.agg #[.slice D m d]] w (zep w (x / y) true)
 mod:∀(x y:Nat) (A D:oA9) (n m c d:Nat) (w:World),zaf w x A n c->zaf w y D m d->n<=1073741824->m<=1073741824->y≠0->Calls Tryz.prog 177 #[.agg #[.slice A n c],.agg #[.slice D m d]] w (zep w (x%y) true)
 byWord:∀(x a:Nat) (A:oA9) (n c:Nat) (w:World),zaf w x A n c->n<=1073741824->a<18446744073709551616->a≠0->Calls Tryz.prog 181 #[.agg #[.slice A n c],.int .u64 a] w (zgd w (x / a) (x%a) true)
 byWordNo:∀(x:Nat) (A:oA9) (n c:Nat) (w:World),zaf w x A n c->n<=1073741824->Calls Tryz.prog 181 #[.agg #[.slice A n c],.int .u64 0] w (zgd w 0 0 false)
theorem zfN (a:Int)(g:Nat):(a / (g:Int)).natAbs<=a.natAbs:=by
 rcases Nat.eq_zero_or_pos g with rfl|hg
 ·simp
 ·exact Int.natAbs_ediv_le_natAbs a g
theorem znj (a b:Rat):(a+b).num.natAbs<=a.num.natAbs*b.den+b.num.natAbs*a.den:=by
 rw [Rat.num_add]
 refine Nat.le_trans (zfN _ _) (Nat.le_trans (Int.natAbs_add_le _ _) ?_)
 rw [Int.natAbs_mul,Int.natAbs_mul,Int.natAbs_natCast,Int.natAbs_natCast]
 exact Nat.le_refl _
theorem zmH (a b:Rat):(a+b).den<=a.den*b.den:=by rw [Rat.den_add];exact Nat.div_le_self _ _
theorem znk (a b:Rat):(a*b).num.natAbs<=a.num.natAbs*b.num.natAbs:=by
 rw [Rat.num_mul]
 refine Nat.le_trans (zfN _ _) ?_
 rw [Int.natAbs_mul]
 exact Nat.le_refl _
theorem zmI (a b:Rat):(a*b).den<=a.den*b.den:=by rw [Rat.den_mul];exact Nat.div_le_self _ _
theorem ziV (p q:Int):(Rat.divInt p q).num.natAbs<=p.natAbs:=by
 rw [Rat.num_divInt]
 refine Nat.le_trans (zfN _ _) ?_
 rw [Int.natAbs_mul]
 by_cases h:q=0
 ·simp [h]
 ·rw [Int.natAbs_sign_of_ne_zero h,Nat.one_mul];exact Nat.le_refl _
def LtQ (b:Nat)(r:Rat):Prop:=r.num.natAbs<b/\r.den<b
theorem LtQ.up {b b':Nat}{r:Rat}(h:LtQ b r)(hb:b<=b'):LtQ b' r:=⟨Nat.lt_of_lt_of_le h.1 hb,Nat.lt_of_lt_of_le h.2 hb⟩
theorem LtQ.add {b b':Nat}{r s:Rat}(h:LtQ b r)(h':LtQ b' s):LtQ (2*(b*b')) (r+s):=by
 have h1:r.num.natAbs*s.den<b*b':=Nat.mul_lt_mul'' h.1 h'.2
 have h2:s.num.natAbs*r.den<b*b':=by rw [Nat.mul_comm b b'];exact Nat.mul_lt_mul'' h'.1 h.2
 have h3:r.den*s.den<b*b':=Nat.mul_lt_mul'' h.2 h'.2
 have h4:=znj r s
 have h5:=zmH r s
 exact⟨by omega,by omega⟩
theorem LtQ.mul {b b':Nat}{r s:Rat}(h:LtQ b r)(h':LtQ b' s):LtQ (b*b') (r*s):=
 ⟨Nat.lt_of_le_of_lt (znk r s) (Nat.mul_lt_mul'' h.1 h'.1),Nat.lt_of_le_of_lt (zmI r s) (Nat.mul_lt_mul'' h.2 h'.2)⟩
theorem LtQ.neg {b:Nat}{r:Rat}(h:LtQ b r):LtQ b (-r):=⟨by rw [Rat.neg_num,Int.natAbs_neg];exact h.1,h.2⟩
theorem LtQ.made {b:Nat}{p q:Int}(hp:p.natAbs<b)(hq:q.natAbs<b)(hb:1<b):LtQ b (Rat.divInt p q):=by
 refine⟨Nat.lt_of_le_of_lt (ziV p q) hp,?_⟩
 rw [Rat.den_divInt]
 split
 ·exact hb
 ·exact Nat.lt_of_le_of_lt (Nat.div_le_self _ _) hq
theorem LtQ.whole {b:Nat}{z:Int}(hz:z.natAbs<b)(hb:1<b):LtQ b (z:Rat):=⟨by rw [Rat.num_intCast];exact hz,by rw [Rat.den_intCast];exact hb⟩
def zfL (r s:Rat):Int:=if r<s then -1 else if r=s then 0 else 1
theorem zmF (r s:Rat):zfL r s=zgI (r.num*s.den) (s.num*r.den):=by
 unfold zfL zgI
 by_cases h1:r<s
 ·rw [if_pos h1,if_pos ((Rat.lt_iff r s).1 h1)]
 ·rw [if_neg h1,if_neg (λh=>h1 ((Rat.lt_iff r s).2 h))]
  by_cases h2:r=s
  ·rw [if_pos h2,if_pos (Rat.eq_iff_mul_eq_mul.1 h2)]
  ·rw [if_neg h2,if_neg (λh=>h2 (Rat.eq_iff_mul_eq_mul.2 h))]
theorem cmpQ_eq (r s:Rat):zfL r s=0↔r=s:=by
 unfold zfL
 by_cases h1:r<s
 ·rw [if_pos h1]
  constructor
  ·intro h;omega
  ·intro h;exact absurd h (Rat.ne_of_lt h1)
 ·rw [if_neg h1]
  by_cases h2:r=s<;>simp [h2]
def sgnQ (r:Rat):Int:=zej r.num
theorem zlE (p q:Int)(hq:q≠0):(Rat.divInt p q).num.natAbs=p.natAbs / Nat.gcd p.natAbs q.natAbs:=by
 rw [Rat.num_divInt,Int.gcd]
 have hd:(Nat.gcd q.natAbs p.natAbs:Int)∣ q.sign*p:=Int.dvd_trans (Int.ofNat_dvd_left.2 (Nat.gcd_dvd_right ..)) (Int.dvd_mul_left ..)
 rw [Int.natAbs_ediv_of_dvd hd,Int.natAbs_mul,Int.natAbs_sign_of_ne_zero hq,Nat.one_mul,Int.natAbs_natCast,Nat.gcd_comm]
theorem zlD (p q:Int)(hq:q≠0):(Rat.divInt p q).den=q.natAbs / Nat.gcd p.natAbs q.natAbs:=by
 rw [Rat.den_divInt,if_neg hq,Int.gcd,Nat.gcd_comm]
theorem zju (p q:Int)(hq:q≠0):(Rat.divInt p q).num<0↔(p<0/\0<q\/0<p/\q<0):=by
 rw [Rat.num_divInt]
 have hg0:0<(q.gcd p:Int):=by
  have:0<q.gcd p:=Int.gcd_pos_of_ne_zero_left p hq
  omega
 have e:q.sign*p / (q.gcd p:Int)<0↔q.sign*p<0:=by
  constructor
  ·intro h
   refine Int.not_le.1 λh1=>?_
   have:=Int.ediv_nonneg h1 (Int.le_of_lt hg0)
   omega
  ·intro h
   exact Int.ediv_neg_of_neg_of_pos h hg0
 rw [e]
 rcases Int.lt_or_gt_of_ne hq with h|h
 ·rw [Int.sign_eq_neg_one_of_neg h];omega
 ·rw [Int.sign_eq_one_of_pos h];omega
def DenIn (w:World)(q:Nat)(A:oA9)(n c:Nat):Prop:=∃x,(q=(if x=0 then 1 else x)/\x≠1)/\zaf w x A n c
theorem DenIn.below {w w':World}{q:Nat}{A:oA9}{n c:Nat}(h:DenIn w q A n c)(hb:Below w.heap.size w w'):DenIn w' q A n c:=by
 obtain⟨x,e,h1⟩:=h
 exact⟨x,e,h1.below hb⟩
def zan (w:World)(r:Rat)(b:Bool)(A:oA9)(n c:Nat)(E:oA9)(k f:Nat):Prop:=zaC w r.num b A n c/\DenIn w r.den E k f
theorem zan.below {w w':World}{r:Rat}{b:Bool}{A:oA9}{n c:Nat}{E:oA9}{k f:Nat}(h:zan w r b A n c E k f)(hb:Below w.heap.size w w'):zan w' r b A n c E k f:=⟨h.1.below hb,h.2.below hb⟩
theorem zan.to {w:World}{r s:Rat}{b:Bool}{A:oA9}{n c:Nat}{E:oA9}{k f:Nat}(e:r=s)(h:zan w r b A n c E k f):zan w s b A n c E k f:=e▸h
def zaJ (w:World)(r:Rat)(e:Ending)(w':World):Prop:=∃(b:Bool) (A:oA9) (n c:Nat) (E:oA9) (k f:Nat),e=.returned (.agg #[.bool b,.slice A n c,.slice E k f])/\zan w' r b A n c E k f/\Below w.heap.size w w'
def zdg (w:World)(r:Rat)(t:Bool)(e:Ending)(w':World):Prop:=∃(b:Bool) (A:oA9) (n c:Nat) (E:oA9) (k f:Nat),e=.returned (.tuple #[.agg #[.bool b,.slice A n c,.slice E k f],.bool t])/\zan w' r b A n c E k f/\Below w.heap.size w w'
def zaQ (n k:Nat):Prop:=n<=67108864/\k<=67108864
structure RatG0 (T:World->Prop):Prop where
 mul:∀(r s:Rat) (b b':Bool) (A A':oA9) (n n' c c':Nat) (E E':oA9) (k k' f f':Nat) (w:World),T w->zan w r b A n c E k f->zan w s b' A' n' c' E' k' f'->zaQ n k->zaQ n' k'->Calls Tryz.prog 138 #[.agg #[.bool b,.slice A n c,.slice E k f],.agg #[.bool b',.slice A' n' c',.slice E' k' f']] w (zaJ w (r*s))
structure RatG1 (T:World->Prop):Prop where
structure RatG2 (T:World->Prop):Prop where
 int:∀(z:Int) (w:World),T w-> -9223372036854775808<=z->z<=9223372036854775807->Calls Tryz.prog 26 #[.int .i64 z] w (zaJ w (z:Rat))
structure RatC (T:World->Prop)(M:Nat->Prop):Prop where
 g0:M 0->RatG0 T
 g1:M 1->RatG1 T
 g2:M 2->RatG2 T
 new:∀(p q:Int) (b b':Bool) (A D:oA9) (n m c d:Nat) (w:World),T w->zaC w p b A n c->zaC w q b' D m d->n<=67108864->m<=67108864->q≠0->Calls Tryz.prog 99 #[.agg #[.bool b,.slice A n c],.agg #[.bool b',.slice D m d]] w (zdg w (Rat.divInt p q) true)
 newNo:∀(p q:Int) (b b':Bool) (A D:oA9) (n m c d:Nat) (w:World),T w->zaC w p b A n c->zaC w q b' D m d->n<=67108864->m<=67108864->q=0->Calls Tryz.prog 99 #[.agg #[.bool b,.slice A n c],.agg #[.bool b',.slice D m d]] w (zdg w 0 false)
 of:∀(p q:Int) (w:World),T w-> -9223372036854775808<=p->p<=9223372036854775807-> -9223372036854775808<=q->q<=9223372036854775807->q≠0->Calls Tryz.prog 57 #[.int .i64 p,.int .i64 q] w (zdg w (Rat.divInt p q) true)
 ofNo:∀(p q:Int) (w:World),T w-> -9223372036854775808<=p->p<=9223372036854775807->q=0->Calls Tryz.prog 57 #[.int .i64 p,.int .i64 q] w (zdg w 0 false)
 num:∀(r:Rat) (b:Bool) (A:oA9) (n c:Nat) (E:oA9) (k f:Nat) (w:World),T w->zan w r b A n c E k f->zaQ n k->Calls Tryz.prog 59 #[.agg #[.bool b,.slice A n c,.slice E k f]] w (zaT w r.num)
 den:∀(r:Rat) (b:Bool) (A:oA9) (n c:Nat) (E:oA9) (k f:Nat) (w:World),T w->zan w r b A n c E k f->zaQ n k->Calls Tryz.prog 61 #[.agg #[.bool b,.slice A n c,.slice E k f]] w (zeo w r.den)
 sign:∀(r:Rat) (b:Bool) (A:oA9) (n c:Nat) (E:oA9) (k f:Nat) (w:World),T w->zan w r b A n c E k f->zaQ n k->Calls Tryz.prog 67 #[.agg #[.bool b,.slice A n c,.slice E k f]] w (zbK w (sgnQ r))
 zero:∀(r:Rat) (b:Bool) (A:oA9) (n c:Nat) (E:oA9) (k f:Nat) (w:World),T w->zan w r b A n c E k f->zaQ n k->Calls Tryz.prog 25 #[.agg #[.bool b,.slice A n c,.slice E k f]] w λe w'=>e=.returned (.bool (decide (r=0)))/\Below w.heap.size w w'
 isInt:∀(r:Rat) (b:Bool) (A:oA9) (n c:Nat) (E:oA9) (k f:Nat) (w:World),T w->zan w r b A n c E k f->zaQ n k->Calls Tryz.prog 97 #[.agg #[.bool b,.slice A n c,.slice E k f]] w λe w'=>e=.returned (.bool (decide (r.den=1)))/\Below w.heap.size w w'
 bits:∀(r:Rat) (b:Bool) (A:oA9) (n c:Nat) (E:oA9) (k f:Nat) (w:World),T w->zan w r b A n c E k f->zaQ n k->Calls Tryz.prog 83 #[.agg #[.bool b,.slice A n c,.slice E k f]] w (zbK w ((bitLen r.num.natAbs+bitLen r.den:Nat):Int))
 add:∀(r s:Rat) (b b':Bool) (A A':oA9) (n n' c c':Nat) (E E':oA9) (k k' f f':Nat) (w:World),T w->zan w r b A n c E k f->zan w s b' A' n' c' E' k' f'->zaQ n k->zaQ n' k'->Calls Tryz.prog 107 #[.agg #[.bool b,.slice A n c,.slice E k f],.agg #[.bool b',.slice A' n' c',.slice E' k' f']] w (zaJ w (r+s))
 cmp:∀(r s:Rat) (b b':Bool) (A A':oA9) (n n' c c':Nat) (E E':oA9) (k k' f f':Nat) (w:World),T w->zan w r b A n c E k f->zan w s b' A' n' c' E' k' f'->zaQ n k->zaQ n' k'->Calls Tryz.prog 121 #[.agg #[.bool b,.slice A n c,.slice E k f],.agg #[.bool b',.slice A' n' c',.slice E' k' f']] w (zbK w (zfL r s))
 same:∀(r s:Rat) (b b':Bool) (A A':oA9) (n n' c c':Nat) (E E':oA9) (k k' f f':Nat) (w:World),T w->zan w r b A n c E k f->zan w s b' A' n' c' E' k' f'->zaQ n k->zaQ n' k'->Calls Tryz.prog 43 #[.agg #[.bool b,.slice A n c,.slice E k f],.agg #[.bool b',.slice A' n' c',.slice E' k' f']] w λe w'=>e=.returned (.bool (decide (r=s)))/\Below w.heap.size w w'
def zcI (w:World)(x:Nat)(e:Ending)(w':World):Prop:=∃(A:oA9) (n c:Nat),e=.returned (.agg #[.slice A n c])/\zaf w' x A n c/\Below w.heap.size w w'
def zjT (w:World)(x y:Nat)(e:Ending)(w':World):Prop:=∃(A:oA9) (n c:Nat) (B:oA9) (m d:Nat),e=.returned (.tuple #[.agg #[.slice A n c],.agg #[.slice B m d]])/\zaf w' x A n c/\zaf w' y B m d/\Below w.heap.size w w'
theorem Sz.gcd {K K' x y:Nat}(h:Sz K x)(h':Sz K' y):Sz (K+K') (Nat.gcd x y):=by
 rcases Nat.eq_zero_or_pos x with e|e
 ·rw [e,Nat.gcd_zero_left];exact h'.up (by omega)
 ·exact(h.of_le (Nat.gcd_le_left y e)).up (by omega)
structure GcdC:Prop where
 of:∀(x y:Nat) (A D:oA9) (n m c d:Nat) (w:World),zaf w x A n c->zaf w y D m d->n<=1073741824->m<=1073741824->zal w->Calls Tryz.prog 149 #[.agg #[.slice A n c],.agg #[.slice D m d]] w (zcI w (Nat.gcd x y))
 reduce:∀(x y:Nat) (A D:oA9) (n m c d:Nat) (w:World),zaf w x A n c->zaf w y D m d->n<=1073741824->m<=1073741824->zal w->Calls Tryz.prog 127 #[.agg #[.slice A n c],.agg #[.slice D m d]] w (zjT w (x / Nat.gcd x y) (y / Nat.gcd x y))
theorem zbz {P:Program}{f:FuncId}{args:Array Value}{w:World}{z v:Int}(e:z=v)(h:Calls P f args w (zbK w z)):Calls P f args w λe w'=>e=.returned (.int .i64 v)/\Below w.heap.size w w':=by
 subst e;exact h
theorem zax {P:Program}{f:FuncId}{args:Array Value}{w:World}{b t:Bool}(e:b=t)(h:Calls P f args w λe w'=>e=.returned (.bool b)/\Below w.heap.size w w'):Calls P f args w λe w'=>e=.returned (.bool t)/\Below w.heap.size w w':=by
 subst e;exact h
theorem inew_pos {T:World->Prop}(IC:IntC T)(x:Nat)(A:oA9)(n c:Nat)(w:World)(hT:T w)(h:zaf w x A n c)(hn:n<=268435456):Calls Tryz.prog 129 #[.bool false,.agg #[.slice A n c]] w (zaT w (x:Int)):=
 IC.new false x A n c w hT h hn
theorem under_N:Tryz.prog.underlying 90=some (.slice 3):=by kernel_rfl
def zbX (w:World)(t:TypeId)(g cap n:Nat)(L:List Nat):Prop:=
 ∃cur,Blk w g t cur/\n<=cap/\cap<=maxLen/\cur.size=cap/\L.length=n/\cur.toList.take n=zat .u8 L
section
variable {w w':World}{t:TypeId}{g cap n:Nat}{L:List Nat}
theorem zbX.len (h:zbX w t g cap n L):L.length=n:=by obtain⟨_,_,_,_,_,h,_⟩:=h;exact h
theorem zbX.room (h:zbX w t g cap n L):n<=cap/\cap<=maxLen:=by obtain⟨_,_,h,h2,_⟩:=h;exact⟨h,h2⟩
theorem zbX.lt (h:zbX w t g cap n L):g<w.heap.size:=by obtain⟨_,h,_⟩:=h;exact h.lt
theorem zbX.cell (h:zbX w t g cap n L)(k:Nat)(hk:k<n):w.cell? ⟨g,k,none⟩=some (.int .u8 (L.getD k 0:Nat)):=by
 obtain⟨cur,hb,h1,h2,h3,h4,h5⟩:=h
 rw [hb.cell k,<-Array.getElem?_toList,<-zcl .u8 L k (by omega),<-h5,List.getElem?_take,if_pos hk]
theorem zbX.frozen (h:zbX w t g cap n L)(k:Nat):w.frozen? ⟨g,k,none⟩=false:=by
 obtain⟨cur,hb,_⟩:=h
 exact hb.frozen k
theorem zbX.set_ (h:zbX w t g cap n L)(k d:Nat)(hk:k<n):zbX (w.setCell ⟨g,k,none⟩ (.int .u8 (d:Int))) t g cap n (L.set k d):=by
 obtain⟨cur,hb,h1,h2,h3,h4,h5⟩:=h
 refine⟨_,hb.set_ k _,h1,h2,by simpa using h3,by simpa using h4,?_⟩
 rw [Array.toList_setIfInBounds,List.take_set,h5]
 unfold zat
 rw [List.map_set]
theorem zbX.below {B:Nat}(h:zbX w t g cap n L)(hb:Below B w w')(hg:g<B):zbX w' t g cap n L:=by
 obtain⟨cur,h0,h1⟩:=h
 exact⟨cur,h0.below hb hg,h1⟩
theorem zbX.keep (h:zbX w t g cap n L)(hb:Below w.heap.size w w'):zbX w' t g cap n L:=h.below hb h.lt
theorem zbX.drew (h:zbX w t g cap n L):zbX w.drew t g cap n L:=h
theorem zbX.alloc (h:zbX w t g cap n L)(o:Obj):zbX (w.alloc o) t g cap n L:=by
 obtain⟨cur,h0,h1⟩:=h
 exact⟨cur,h0.alloc o,h1⟩
theorem zbX.far (h:zbX w t g cap n L){p:Addr}(hp:g≠p.block)(u:Value):zbX (w.setCell p u) t g cap n L:=by
 obtain⟨cur,h0,h1⟩:=h
 exact⟨cur,h0.far hp u,h1⟩
theorem zbX.reads (h:zbX w t g cap n L):zas w w.heap.size 1 (some ⟨g,0,none⟩) n (zat .u8 L):=by
 have hl:=h.lt
 have hc:=h.cell
 have hn:=h.len
 refine⟨by rw [zaz];omega,λ_=>⟨_,rfl,hl,λj u hu=>?_⟩⟩
 have hj:j<L.length:=by
  rcases Nat.lt_or_ge j L.length with hj|hj
  ·exact hj
  ·rw [List.getElem?_eq_none (by rw [zaz];exact hj)] at hu;cases hu
 have e:(⟨g,0,none⟩:Addr).add j=⟨g,j,none⟩:=by unfold Addr.add;split<;>simp_all
 rw [e,hc j (by omega),<-zcl .u8 L j hj,hu]
theorem zbX.own (h:zbX w t g cap n L){base:Nat}(hb:base<=g):w.ownsRow base t 1 (.slice (some ⟨g,0,none⟩) n cap) n (zat .u8 L):=by
 obtain⟨cur,h0,h1,h2,h3,h4,h5⟩:=h
 exact⟨by rw [zaz];omega,.inr ⟨g,cap,cur,rfl,hb,h0,h1,h2,by omega,by rw [Nat.mul_one];exact h5⟩⟩
theorem zbX.made (w:World)(t:TypeId)(N:Nat)(hN:N<=maxLen):zbX (w.alloc (.cells (madeCells (Value.cells (.int .u8 0)) N) t)) t w.heap.size N N (List.replicate N 0):=by
 refine⟨_,Blk.new w t _,Nat.le_refl _,hN,size_madeCells _ _,by simp,?_⟩
 show(madeCells #[Value.int .u8 0] N).toList.take N=_
 rw [toList_madeCells_one,List.take_of_length_le (by simp)]
 simp [zat]
theorem zbX.of_own {base:Nat}{v:Value}{l:List Nat}(h:w.ownsRow base t 1 v n (zat .u8 l))(hn:0<n):∃g cap,v=.slice (some ⟨g,0,none⟩) n cap/\base<=g/\zbX w t g cap n l:=by
 obtain⟨h1,h2⟩:=h
 rcases h2 with⟨_,h⟩|⟨g,cap,cur,e,hb,hk,a,b,c,d⟩
 ·omega
 ·refine⟨g,cap,e,hb,cur,hk,a,b,by omega,by rw [zaz] at h1;omega,?_⟩
  rw [Nat.mul_one] at d
  exact d
end
set_option maxRecDepth 100000
set_option linter.unusedSimpArgs false
structure zgF (w:World)(v:Value)(w':World)(v':Value):Prop where
 grown:w.grownBy w' v.ownBlock
 at_:v'.ownBlock=v.ownBlock\/∀g,v'.ownBlock=some g->w.heap.size<=g
theorem zgF.refl (w:World)(v:Value):zgF w v w v:=⟨World.grownBy.refl _ _,.inl rfl⟩
theorem zgF.alloc (w:World)(v:Value)(o:Obj):zgF w v (w.alloc o) v:=⟨World.grownBy_alloc w o _,.inl rfl⟩
theorem zgF.trans {w w1 w2:World}{v v1 v2:Value}(h:zgF w v w1 v1)(k:zgF w1 v1 w2 v2):zgF w v w2 v2:=by
 refine⟨⟨k.grown.os.trans h.grown.os,k.grown.tape.trans h.grown.tape,k.grown.output.trans h.grown.output,Nat.le_trans h.grown.size k.grown.size,λi hi hne=>?_⟩,?_⟩
 ·refine(k.grown.block i (Nat.lt_of_lt_of_le hi h.grown.size) (λe=>?_)).trans (h.grown.block i hi hne)
  rcases h.at_ with h1|h1
  ·exact hne (by rw [e,h1])
  ·have:=h1 i e.symm;omega
 ·rcases k.at_ with k1|k1
  ·rw [k1];exact h.at_
  ·exact .inr λg hg=>Nat.le_trans h.grown.size (k1 g hg)
theorem zgF.below {w w':World}{v:Value}(hb:Below w.heap.size w w'):zgF w v w' v:=⟨⟨hb.os,hb.tape,hb.output,hb.size,λi hi _=>hb.block i hi⟩,.inl rfl⟩
def lowD (n p:Nat):List Nat:=(List.range n).map λk=>p / 10^k%10
theorem zlC (n p:Nat):(lowD n p).length=n:=by simp [lowD]
theorem zpd (n p:Nat):lowD (n+1) p=lowD n p++[p / 10^n%10]:=by simp [lowD,List.range_succ]
theorem lowD_dgs (n p:Nat):Dgs 10 (lowD n p):=by
 intro d hd
 obtain⟨j,_,rfl⟩:=List.mem_map.1 hd
 exact Nat.mod_lt _ (by decide)
theorem zof (p:Nat):∀n,dv 10 (lowD n p)=p%10^n
 |0=>by simp [lowD,dv,Nat.mod_one]
 |n+1=>by rw [zpd,zbk,zof p n,zlC,zaN 10 p n]
theorem zlk (l:List Nat)(i k a:Nat):(l.set i a).getD k 0=if i=k/\k<l.length then a else l.getD k 0:=by
 simp only [List.getD_eq_getElem?_getD,List.getElem?_set]
 by_cases h:i=k
 ·subst h
  by_cases h2:i<l.length
  ·simp [h2]
  ·simp [h2]
 ·simp [h]
def zhI (L:List Nat)(i:Nat)(M:List Nat):Prop:=M.length=L.length/\∀j,j<L.length->M.getD j 0=if j<i\/L.length<=j+i then L.getD (L.length - 1 - j) 0 else L.getD j 0
theorem zhI.start (L:List Nat):zhI L 0 L:=⟨rfl,λj hj=>by rw [if_neg (by omega)]⟩
theorem zhI.step {L M:List Nat}{i j:Nat}(h:zhI L i M)(hij:i+j+1=L.length)(hlt:i<j):zhI L (i+1) ((M.set i (M.getD j 0)).set j (M.getD i 0)):=by
 obtain⟨h1,h2⟩:=h
 refine⟨by simpa using h1,λk hk=>?_⟩
 rw [zlk,zlk,List.length_set,h1]
 by_cases hkj:j=k
 ·subst hkj
  rw [if_pos ⟨rfl,hk⟩,if_pos (by omega),h2 i (by omega),if_neg (by omega)]
  congr 1;omega
 ·rw [if_neg (by omega)]
  by_cases hki:i=k
  ·subst hki
   rw [if_pos ⟨rfl,hk⟩,if_pos (by omega),h2 j (by omega),if_neg (by omega)]
   congr 1;omega
  ·rw [if_neg (by omega),h2 k hk]
   by_cases hc:k<i\/L.length<=k+i
   ·rw [if_pos hc,if_pos (by omega)]
   ·rw [if_neg hc,if_neg (by omega)]
theorem zhI.done {L M:List Nat}{i j:Nat}(h:zhI L i M)(hij:i+j+1=L.length)(hle:j<=i):M=L.reverse:=by
 obtain⟨h1,h2⟩:=h
 refine List.ext_getElem (by simpa using h1) λk hk hk2=>?_
 have h3:=h2 k (by omega)
 rw [List.getD_eq_getElem?_getD,List.getElem?_eq_getElem hk] at h3
 rw [List.getElem_reverse]
 have e1:L[L.length - 1 - k]'(by omega)=L.getD (L.length - 1 - k) 0:=by rw [List.getD_eq_getElem?_getD,List.getElem?_eq_getElem (by omega)];rfl
 rw [e1]
 refine Eq.trans h3 ?_
 by_cases hc:k<i\/L.length<=k+i
 ·rw [if_pos hc]
 ·rw [if_neg hc]
  congr 1;omega
theorem Off.drew {g:Nat}{w w':World}(h:Off g w w'):Off g w w'.drew:=⟨h.os,h.tape,h.output,h.size,h.block⟩
def Aside (v:Value)(B:oA9)(m:Nat):Prop:=0<m->∀ad,B=some ad->v.ownBlock≠some ad.block
theorem Aside.words {w w':World}{v v':Value}{x m d:Nat}{B:oA9}(h:Aside v B m)(hx:zaf w x B m d)(hg:zgF w v w' v'):zaf w' x B m d/\Aside v' B m:=by
 refine⟨zhl hx hg.grown (λhm ad e=>(h hm ad e).symm),λhm ad e=>?_⟩
 rcases hg.at_ with h1|h1
 ·rw [h1];exact h hm ad e
 ·intro h2
  have:=h1 _ h2
  obtain⟨ad',e',hb,_⟩:=hx.1.2 hm
  rw [e] at e'
  injection e' with e'
  subst e'
  omega
theorem zgF.blk {w w':World}{v v':Value}{base g n:Nat}{t e:TypeId}{cs:Array Value}{vs:List Value}(h:zgF w v w' v')(hv:w.ownsRow base e 1 v n vs)(hk:Blk w g t cs)(hg:g<base):Blk w' g t cs:=
 hk.grown h.grown (λe=>by have:=(hv.lt g e.symm).1;omega)
def zgi (x y:Nat)(D:List Nat):Prop:=Dgs 10 D/\dv 10 D+10^D.length*y=x
theorem zgi.start (x:Nat):zgi x x []:=⟨λd hd=>by simp at hd,by simp [dv]⟩
theorem zgi.step {x y:Nat}{D:List Nat}(h:zgi x y D):zgi x (y / 10000000000000000000) (D++lowD 19 (y%10000000000000000000)):=by
 refine⟨h.1.append (lowD_dgs _ _),?_⟩
 rw [zbf,List.length_append,zlC,zof,Nat.pow_add,show(10:Nat)^19=10000000000000000000 from rfl,Nat.mod_mod,Nat.mul_assoc,Nat.add_assoc,<-Nat.mul_add,Nat.mod_add_div]
 exact h.2
theorem zgi.done {x:Nat}{D:List Nat}(h:zgi x 0 D):dv 10 D=x:=by have:=h.2;simpa using this
theorem zgi.len {x y:Nat}{D:List Nat}(h:zgi x y D)(hy:y≠0):10^D.length<=x:=by
 have:=h.2
 have h1:10^D.length*1<=10^D.length*y:=Nat.mul_le_mul_left _ (by omega)
 omega
theorem zdG {w:World}{g:Nat}(h:Blk w g 3 #[.int .i64 1]):zak w 1 (some ⟨g,0,none⟩) 1 1:=by
 have e:dg 65536 1=[1]:=by
  rw [zdR (by decide) (by decide)]
  rfl
 refine⟨?_,Nat.le_refl _,by omega⟩
 rw [e]
 refine⟨rfl,λ_=>⟨_,rfl,h.lt,λj u hu=>?_⟩⟩
 match j,hu with
 |0,hu=>simp [zat] at hu;subst hu;exact h.cell 0
theorem isInt_0:zbg 0:=⟨by decide,by decide⟩
section
variable {P:Program}{ops:Array Oper}{Q:Exit->Act->World->Prop}{S:World->Prop}{fuel:Nat}{l:Array Bool}{a:Act}{w:World}
theorem rcb (i j:Nat){o p:Oper}(hk:∀K':Act->World->Prop,Shut (∀(a:Act) (w:World),S w->(S w->wpAnyH P .any ops (NoPanic Q) S fuel (l.setIfInBounds i true) a w)->K' a w)->Oper.wp P o a w K' (NoPanic Q))(hj:∀K':Act->World->Prop,Shut (∀(a:Act) (w:World),S w->(S w->wpAnyH P .any ops (NoPanic Q) S fuel (l.setIfInBounds j true) a w)->K' a w)->Oper.wp P p a w K' (NoPanic Q))(h1:ops[i]?=some o:=by simp only [List.getElem?_toArray,List.getElem?_cons_succ,List.getElem?_cons_zero];rfl)(h1':ops[j]?=some p:=by simp only [List.getElem?_toArray,List.getElem?_cons_succ,List.getElem?_cons_zero];rfl)(h2:Region.ready .any ops l=[i,j]:=by kernel_rfl)(h3:Region.wanted o (yielded ops a.tmps)=true:=by rfl)(h3':Region.wanted p (yielded ops a.tmps)=true:=by rfl):wpAnyH P .any ops (NoPanic Q) S (fuel+1) l a w:=
 wpAnyH_ready h2 (by simp) (AllReadyH.cons h1 (λK' hK=>by rw [if_pos h3];exact hk K' hK) (AllReadyH.cons h1' (λK' hK=>by rw [if_pos h3'];exact hj K' hK) AllReadyH.nil))
end
