/- What this claim leans on. -/
import Derived.Test.YtghpdeciaaagnaaGreatDoorQBunQ
import Derived.Deep.RegionHeld
import Derived.Deep.RegionLaw
import Derived.Laws.BytesArg
import Derived.LoopIn
import Derived.LoopNIn
import Derived.OrdersHeld
import Derived.OrdersIn
import Derived.OwnWalkIn
import Derived.RangeFuncBound
import Derived.RangeFuncCalls
import Derived.RangeFuncLeaves
import Derived.RangeFuncNested
import Derived.Shelf.Abstract
import Derived.Shelf.RegionOpen
import Derived.TacticsInMore
namespace Go.Proofs.YtghpdeciaaagnaaGreatDoor
open Go Go.RowKit Go.Proofs.Tryz
set_option maxHeartbeats 16000000
set_option linter.unusedVariables false
def zhN (x y:Int):Int:=if x<y then -1 else if x=y then 0 else 1
theorem ziH (x y:Int):zhN x y=0↔x=y:=by unfold zhN;split<;>(try split)<;>omega
def ziD (x:Int):Int:=if x<0 then -1 else if x=0 then 0 else 1
def qI (x y:Int):Int:=if 0<=y then x / y else(-x) / (-y)
def rI (x y:Int):Int:=if 0<=y then x%y else -((-x)%(-y))
theorem qI_rI (x y:Int):qI x y*y+rI x y=x:=by
 unfold qI rI
 split
 ·rw [Int.mul_comm];exact Int.mul_ediv_add_emod x y
 ·have h:=Int.mul_ediv_add_emod (-x) (-y);rw [Int.neg_mul] at h;rw [Int.mul_comm];omega
theorem rI_abs {x y:Int}(hy:y≠0):(rI x y).natAbs<y.natAbs:=by
 unfold rI
 split
 ·have h1:=Int.emod_nonneg x hy;have h2:=Int.emod_lt_of_pos x (show 0<y by omega);omega
 ·have h1:=Int.emod_nonneg (-x) (show -y≠0 by omega);have h2:=Int.emod_lt_of_pos (-x) (show 0< -y by omega);omega
theorem rI_side {x y:Int}(hy:y≠0):rI x y=0\/(0<rI x y/\0<y\/rI x y<0/\y<0):=by
 unfold rI
 split
 ·have h1:=Int.emod_nonneg x hy;omega
 ·have h1:=Int.emod_nonneg (-x) (show -y≠0 by omega);omega
theorem zgP (a:Int)(g:Nat):(a / (g:Int)).natAbs<=a.natAbs:=by
 rcases Nat.eq_zero_or_pos g with rfl|hg
 ·simp
 ·exact Int.natAbs_ediv_le_natAbs a g
theorem zoI (a b:Rat):(a+b).num.natAbs<=a.num.natAbs*b.den+b.num.natAbs*a.den:=by
 rw [Rat.num_add];refine Nat.le_trans (zgP _ _) (Nat.le_trans (Int.natAbs_add_le _ _) ?_);rw [Int.natAbs_mul,Int.natAbs_mul,Int.natAbs_natCast,Int.natAbs_natCast];exact Nat.le_refl _
theorem znZ (a b:Rat):(a+b).den<=a.den*b.den:=by rw [Rat.den_add];exact Nat.div_le_self _ _
theorem zoK (a b:Rat):(a*b).num.natAbs<=a.num.natAbs*b.num.natAbs:=by
 rw [Rat.num_mul];refine Nat.le_trans (zgP _ _) ?_;rw [Int.natAbs_mul];exact Nat.le_refl _
theorem zoa (a b:Rat):(a*b).den<=a.den*b.den:=by rw [Rat.den_mul];exact Nat.div_le_self _ _
theorem zoJ (a:Rat):(a⁻¹).num.natAbs<=a.den:=by
 rw [Rat.num_inv,Int.natAbs_mul,Int.natAbs_natCast];by_cases h:a.num=0
 ·simp [h]
 ·rw [Int.natAbs_sign_of_ne_zero h,Nat.one_mul];exact Nat.le_refl _
theorem zkg (p q:Int):(Rat.divInt p q).num.natAbs<=p.natAbs:=by
 rw [Rat.num_divInt];refine Nat.le_trans (zgP _ _) ?_;rw [Int.natAbs_mul];by_cases h:q=0
 ·simp [h]
 ·rw [Int.natAbs_sign_of_ne_zero h,Nat.one_mul];exact Nat.le_refl _
def LtQ (b:Nat)(r:Rat):Prop:=r.num.natAbs<b/\r.den<b
theorem LtQ.up {b b':Nat}{r:Rat}(h:LtQ b r)(hb:b<=b'):LtQ b' r:=⟨Nat.lt_of_lt_of_le h.1 hb,Nat.lt_of_lt_of_le h.2 hb⟩
theorem LtQ.pos {b:Nat}{r:Rat}(h:LtQ b r):1<b:=Nat.lt_of_le_of_lt (Nat.pos_of_ne_zero r.den_nz) h.2
theorem LtQ.add {b b':Nat}{r s:Rat}(h:LtQ b r)(h':LtQ b' s):LtQ (2*(b*b')) (r+s):=by
 have h1:r.num.natAbs*s.den<b*b':=Nat.mul_lt_mul'' h.1 h'.2;have h2:s.num.natAbs*r.den<b*b':=by rw [Nat.mul_comm b b'];exact Nat.mul_lt_mul'' h'.1 h.2
 have h3:r.den*s.den<b*b':=Nat.mul_lt_mul'' h.2 h'.2;have h4:=zoI r s;have h5:=znZ r s;exact⟨om9,om9⟩
theorem LtQ.mul {b b':Nat}{r s:Rat}(h:LtQ b r)(h':LtQ b' s):LtQ (b*b') (r*s):=
 ⟨Nat.lt_of_le_of_lt (zoK r s) (Nat.mul_lt_mul'' h.1 h'.1),Nat.lt_of_le_of_lt (zoa r s) (Nat.mul_lt_mul'' h.2 h'.2)⟩
theorem LtQ.neg {b:Nat}{r:Rat}(h:LtQ b r):LtQ b (-r):=⟨by rw [Rat.neg_num,Int.natAbs_neg];exact h.1,h.2⟩
theorem LtQ.sub {b b':Nat}{r s:Rat}(h:LtQ b r)(h':LtQ b' s):LtQ (2*(b*b')) (r - s):=by rw [Rat.sub_eq_add_neg];exact h.add h'.neg
theorem LtQ.inv {b:Nat}{r:Rat}(h:LtQ b r):LtQ b r⁻¹:=by
 refine⟨Nat.lt_of_le_of_lt (zoJ r) h.2,?_⟩;rw [Rat.den_inv]
 split
 ·exact h.pos
 ·exact h.1
theorem LtQ.div {b b':Nat}{r s:Rat}(h:LtQ b r)(h':LtQ b' s):LtQ (b*b') (r / s):=by rw [Rat.div_def];exact h.mul h'.inv
theorem LtQ.made {b:Nat}{p q:Int}(hp:p.natAbs<b)(hq:q.natAbs<b)(hb:1<b):LtQ b (Rat.divInt p q):=by
 refine⟨Nat.lt_of_le_of_lt (zkg p q) hp,?_⟩;rw [Rat.den_divInt]
 split
 ·exact hb
 ·exact Nat.lt_of_le_of_lt (Nat.div_le_self _ _) hq
theorem LtQ.whole {b:Nat}{z:Int}(hz:z.natAbs<b)(hb:1<b):LtQ b (z:Rat):=⟨by rw [Rat.num_intCast];exact hz,by rw [Rat.den_intCast];exact hb⟩
def zgA (r s:Rat):Int:=if r<s then -1 else if r=s then 0 else 1
theorem znW (r s:Rat):zgA r s=zhN (r.num*s.den) (s.num*r.den):=by
 unfold zgA zhN;by_cases h1:r<s
 ·rw [if_pos h1,if_pos ((Rat.lt_iff r s).1 h1)]
 ·rw [if_neg h1,if_neg (λh=>h1 ((Rat.lt_iff r s).2 h))];by_cases h2:r=s
  ·rw [if_pos h2,if_pos (Rat.eq_iff_mul_eq_mul.1 h2)]
  ·rw [if_neg h2,if_neg (λh=>h2 (Rat.eq_iff_mul_eq_mul.2 h))]
theorem cmpQ_eq (r s:Rat):zgA r s=0↔r=s:=by
 unfold zgA;by_cases h1:r<s
 ·rw [if_pos h1];constructor
  ·intro h;omega
  ·intro h;exact absurd h (Rat.ne_of_lt h1)
 ·rw [if_neg h1];by_cases h2:r=s<;>simp [h2]
def sgnQ (r:Rat):Int:=ziD r.num
def minQ (r s:Rat):Rat:=if zgA r s<=0 then r else s
theorem zdK (r:Rat):r*(r.den:Rat)=(r.num:Rat):=by
 have h0:(r.den:Rat)≠0:=λh=>r.den_nz (by
  have:=congrArg Rat.num h;rw [Rat.num_natCast] at this;exact Int.ofNat.inj this)
 have h1:r=(r.num:Rat) / ((r.den:Int):Rat):=by
  have:=Rat.num_divInt_den r;rw [Rat.divInt_eq_div] at this;exact this.symm
 have h2:((r.den:Int):Rat)=(r.den:Rat):=rfl;rw [h2] at h1;generalize r.num=p at*;generalize r.den=q at*;rw [h1,Rat.div_mul_cancel h0]
theorem made_num (p q:Int)(hq:q≠0):(Rat.divInt p q).num.natAbs=p.natAbs / Nat.gcd p.natAbs q.natAbs:=by
 rw [Rat.num_divInt,Int.gcd];have hd:(Nat.gcd q.natAbs p.natAbs:Int)∣ q.sign*p:=Int.dvd_trans (Int.ofNat_dvd_left.2 (Nat.gcd_dvd_right ..)) (Int.dvd_mul_left ..);rw [Int.natAbs_ediv_of_dvd hd,Int.natAbs_mul,Int.natAbs_sign_of_ne_zero hq,Nat.one_mul,Int.natAbs_natCast,Nat.gcd_comm]
theorem made_den (p q:Int)(hq:q≠0):(Rat.divInt p q).den=q.natAbs / Nat.gcd p.natAbs q.natAbs:=by
 rw [Rat.den_divInt,if_neg hq,Int.gcd,Nat.gcd_comm]
theorem zqI (p q:Int)(hq:q≠0):(Rat.divInt p q).num<0↔(p<0/\0<q\/0<p/\q<0):=by
 rw [Rat.num_divInt];have a:0<(q.gcd p:Int):=by
  have:0<q.gcd p:=Int.gcd_pos_of_ne_zero_left p hq;omega
 have e:q.sign*p / (q.gcd p:Int)<0↔q.sign*p<0:=by
  constructor
  ·intro h;refine Int.not_le.1 λh1=>?_;have:=Int.ediv_nonneg h1 (Int.le_of_lt a);omega
  ·intro h;exact Int.ediv_neg_of_neg_of_pos h a
 rw [e];rcases Int.lt_or_gt_of_ne hq with h|h
 ·rw [Int.sign_eq_neg_one_of_neg h];omega
 ·rw [Int.sign_eq_one_of_pos h];omega
def zaN (w:World)(z:Int)(b:Bool)(A:oA9)(n c:Nat):Prop:=b=decide (z<0)/\zad w z.natAbs A n c
theorem zaN.below {w w':World}{z:Int}{b:Bool}{A:oA9}{n c:Nat}(h:zaN w z b A n c)(hb:Below w.heap.size w w'):zaN w' z b A n c:=⟨h.1,h.2.below hb⟩
theorem zaN.words {w:World}{z:Int}{b:Bool}{A:oA9}{n c:Nat}(h:zaN w z b A n c):zad w z.natAbs A n c:=h.2
def zbh (w:World)(z:Int)(e:Ending)(w':World):Prop:=∃(b:Bool) (A:oA9) (n c:Nat),e=.returned (.agg #[.bool b,.slice A n c])/\zaN w' z b A n c/\Below w.heap.size w w'
def zfc (w:World)(x:Nat)(e:Ending)(w':World):Prop:=∃(A:oA9) (n c:Nat),e=.returned (.agg #[.slice A n c])/\zad w' x A n c/\Below w.heap.size w w'
structure IntC (T:World->Prop):Prop where
 new:∀(s:Bool) (x:Nat) (A:oA9) (n c:Nat) (w:World),T w->zad w x A n c->n<=268435456->Calls prog 163 #[.bool s,.agg #[.slice A n c]] w (zbh w (if s then -(x:Int) else(x:Int)))
 of:∀(z:Int) (w:World),T w-> -9223372036854775808<=z->z<=9223372036854775807->Calls prog 127 #[.int .i64 z] w (zbh w z)
 belowI:∀(z:Int) (b:Bool) (A:oA9) (n c:Nat) (w:World),T w->zaN w z b A n c->n<=268435456->Calls prog 107 #[.agg #[.bool b,.slice A n c]] w λe w'=>e=.returned (.bool (decide (z<0)))/\Below w.heap.size w w'
 abs:∀(z:Int) (b:Bool) (A:oA9) (n c:Nat) (w:World),T w->zaN w z b A n c->n<=268435456->Calls prog 104 #[.agg #[.bool b,.slice A n c]] w (zfc w z.natAbs)
 sign:∀(z:Int) (b:Bool) (A:oA9) (n c:Nat) (w:World),T w->zaN w z b A n c->n<=268435456->Calls prog 134 #[.agg #[.bool b,.slice A n c]] w (zcL w (ziD z))
 cmp:∀(x y:Int) (b b':Bool) (A D:oA9) (n m c d:Nat) (w:World),T w->zaN w x b A n c->zaN w y b' D m d->n<=268435456->m<=268435456->Calls prog 100 #[.agg #[.bool b,.slice A n c],.agg #[.bool b',.slice D m d]] w (zcL w (zhN x y))
 add:∀(x y:Int) (b b':Bool) (A D:oA9) (n m c d:Nat) (w:World),T w->zaN w x b A n c->zaN w y b' D m d->n<=268435456->m<=268435456->Calls prog 177 #[.agg #[.bool b,.slice A n c],.agg #[.bool b',.slice D m d]] w (zbh w (x+y))
 mul:∀(x y:Int) (b b':Bool) (A D:oA9) (n m c d:Nat) (w:World),T w->zaN w x b A n c->zaN w y b' D m d->n<=268435456->m<=268435456->Calls prog 102 #[.agg #[.bool b,.slice A n c],.agg #[.bool b',.slice D m d]] w (zbh w (x*y))
set_option maxRecDepth 100000
set_option linter.unusedSimpArgs false
theorem zle {w:World}{A:oA9}{n c x g:Nat}{t:TypeId}{cs:Array Value}(h:zad w x A n c)(hk:Blk w g t cs)(a:∀v ∈ cs.toList,∀z,v≠.int .u64 z):0<n->∀ad,A=some ad->ad.block≠g:=λhn ad e hg=>by
 obtain⟨ad',e',_,hc⟩:=h.1.2 hn;rw [e] at e';injection e' with e';subst e';have hl:=h.len;have h0:=hc 0 (.int .u64 ((dg 18446744073709551616 x).getD 0 0:Nat)) (zdc .u64 _ 0 om9);have e0:ad.add 0=ad:=by unfold Addr.add;rw [if_pos rfl]
 rw [e0] at h0;obtain⟨bk,off,pr⟩:=ad;simp only at hg;subst hg;unfold Blk at hk;cases pr with
 |none=>
   rw [show w.cell? ⟨bk,off,none⟩=cs[off]? from cell_of_row w bk off _ t (0,0) hk,<-Array.getElem?_toList] at h0;exact a _ (List.mem_of_getElem? h0) _ rfl
 |some q=>simp [World.cell?,hk] at h0
theorem zby {w:World}{z:Int}{b p:Bool}{A q:oA9}{n c r s g:Nat}{t:TypeId}(h:zaN w z b A n c)(hk:Blk w g t #[.bool p,.slice q r s])(p':Bool)(q':oA9)(r' s':Nat):
  zaN ((w.setCell ⟨g,0,none⟩ (.bool p')).setCell ⟨g,1,none⟩ (.slice q' r' s')) z b A n c:=by
 have h1:=zfx (p:=⟨g,0,none⟩) h.2 (zle h.2 hk (by intro v hv;simp at hv;rcases hv with rfl|rfl<;>intro z e<;>cases e)) (.bool p');exact⟨h.1,zfx (p:=⟨g,1,none⟩) h1 (zle h1 (hk.set_ 0 (.bool p')) (by intro v hv;simp at hv;rcases hv with rfl|rfl<;>intro z e<;>cases e)) _⟩
def due (l:Array Bool):Nat:=l.toList.countP λb=> !b
section
variable {P:Program}{ops:Array Oper}{Q:Exit->Act->World->Prop}{md:Region.Mode}{S:World->Prop}
theorem zan {i:Nat}{l:Array Bool}(hi:i ∈ Region.ready md ops l):l.getD i true=false:=(mem_ready.1 hi).1
theorem zeV {i:Nat}{l:Array Bool}(hi:i ∈ Region.ready md ops l):i<ops.size:=by
 obtain⟨_,o,ho,_⟩:=mem_ready.1 hi;exact(Array.getElem?_eq_some_iff.1 ho).1
theorem zrg {i k:Nat}{l:Array Bool}{o:Oper}{e:Edge}(hi:i ∈ Region.ready md ops l)(ho:ops[i]?=some o)(he:o.after[k]?=some e)(hb:Region.binds md e=true):l.getD e.on false=true:=by
 obtain⟨_,o',a,h⟩:=mem_ready.1 hi;rw [ho] at a;cases a;exact h e (Array.mem_of_getElem? he) hb
theorem znR {i:Nat}{l:Array Bool}{o:Oper}(h:Region.ready md ops l=[])(ho:ops[i]?=some o)(hr:(o.after.toList.all λe=> !Region.binds md e||l.getD e.on false)=true):l.getD i true=true:=by
 cases hl:l.getD i true
 ·have:i ∈ Region.ready md ops l:=mem_ready.2 ⟨hl,o,ho,λe he hb=>by
   have:=List.all_eq_true.1 hr e (by simpa using he);rw [hb] at this;simpa using this⟩
  rw [h] at this;cases this
 ·rfl
theorem zpr {i:Nat}{l:Array Bool}(h:l.getD i true=false):due (l.setIfInBounds i true)+1=due l:=by
 obtain⟨l⟩:=l;unfold due;have hi:i<l.length:=by
  rcases Nat.lt_or_ge i l.length with h'|h'
  ·exact h'
  ·simp [List.getElem?_eq_none h'] at h
 have hv:l[i]=false:=by simpa [hi] using h
 simp only [List.setIfInBounds_toArray];clear h
 induction l generalizing i with
 |nil=>simp at hi
 |cons b t ih=>
   cases i with
   |zero=>
     have hb:b=false:=hv;subst hb;simp
   |succ j=>
     have:=ih (i:=j) (by simpa using hi) (by simpa using hv);simp only [List.set_cons_succ,List.countP_cons];omega
theorem zqr {l:Array Bool}(h:due l=0):Region.ready md ops l=[]:=by
 refine List.eq_nil_iff_forall_not_mem.2 λi hi=>?_;have:=zpr (zan hi);omega
theorem zmc {J:Act->Array Bool->Act->World->Prop}{L:Array Bool}{a0:Act}(c:∀l a w,J a0 l a w->Region.ready md ops l=[]->l=L)
  (f:∀l a w i,J a0 l a w->l≠L->i ∈ Region.ready md ops l->wpOp P ops Q i (λa' w'=>S w'/\J a0 (l.setIfInBounds i true) a' w') a w)
  (d:∀a w,J a0 L a w->wpAnyH P md ops Q S (due L) L a w):∀(b:Nat) (l:Array Bool) (a:Act) (w:World),due l=b->J a0 l a w->wpAnyH P md ops Q S b l a w:=by
 intro b
 induction b with
 |zero=>
   intro l a w hd hJ;have e:=c l a w hJ (zqr hd);subst e;have:=d a w hJ;rwa [hd] at this
 |succ n ih=>
   intro l a w hd hJ;by_cases hl:l=L
   ·subst hl;have:=d a w hJ;rwa [hd] at this
   ·refine⟨λh=>absurd (c l a w hJ h) hl,λi hi=>?_⟩;exact wpOp_mono (λa' w' ⟨h1,h2⟩=>⟨h1,ih _ a' w' (by have:=zpr (zan hi);omega) h2⟩) (f l a w i hJ hl hi)
end
def Gd (f:Bool)(p:Prop):Prop:=f=true->p
theorem Gd.no {p:Prop}:Gd false p:=λh=>by cases h
theorem Gd.yes {p:Prop}(h:p):Gd true p:=λ_=>h
theorem Gd.get {p:Prop}(h:Gd true p):p:=h rfl
theorem Gd.mono {f:Bool}{p q:Prop}(h:Gd f p)(k:p->q):Gd f q:=λe=>k (h e)
def Made (b:Nat)(w:World)(g:Nat)(t:TypeId)(cs:Array Value)(v:Value):Prop:=v=.pointer (some ⟨g,0,none⟩)/\b<=g/\w.heap[g]?=some (.cells cs t (0,0))
theorem Made.lt {b g:Nat}{w:World}{t:TypeId}{cs:Array Value}{v:Value}(h:Made b w g t cs v):g<w.heap.size:=(Array.getElem?_eq_some_iff.1 h.2.2).1
theorem Made.keep {b g:Nat}{w w':World}{t:TypeId}{cs:Array Value}{v:Value}(h:Made b w g t cs v)(hb:Below w.heap.size w w'):Made b w' g t cs v:=⟨h.1,h.2.1,(hb.block g h.lt).trans h.2.2⟩
theorem Made.new (b:Nat)(w:World)(t:TypeId)(cs:Array Value)(hb:b<=w.heap.size):Made b (w.alloc (.cells cs t)) w.heap.size t cs (.pointer (some ⟨w.heap.size,0,none⟩)):=⟨rfl,hb,heap_alloc_new w _⟩
theorem SzI.add {K K':Nat}{x y:Int}(h:Sz K x.natAbs)(h':Sz K' y.natAbs):Sz (K+K'+1) (x+y).natAbs:=
 Sz.of_le (Sz.add (h.up (by omega:K<=K+K')) (h'.up (by omega:K'<=K+K'))) (Int.natAbs_add_le x y)
theorem SzI.sub {K K':Nat}{x y:Int}(h:Sz K x.natAbs)(h':Sz K' y.natAbs):Sz (K+K'+1) (x - y).natAbs:=by
 rw [Int.sub_eq_add_neg];exact SzI.add h (by rw [Int.natAbs_neg];exact h')
theorem SzI.mul {K K':Nat}{x y:Int}(h:Sz K x.natAbs)(h':Sz K' y.natAbs):Sz (K+K') (x*y).natAbs:=by
 rw [Int.natAbs_mul];exact Sz.mul h h'
theorem SzI.neg {K:Nat}{x:Int}(h:Sz K x.natAbs):Sz K (-x).natAbs:=by rw [Int.natAbs_neg];exact h
theorem qI_le (x y:Int):(qI x y).natAbs<=x.natAbs:=by
 by_cases hy:y=0
 ·subst hy;unfold qI;simp
 ·have h1:=qI_rI x y;have h2:=rI_abs (x:=x) hy;have h3:=rI_side (x:=x) hy;generalize rI x y=r at*;generalize qI x y=q at*;by_cases hq:q=0
  ·subst hq;simp
  ·have e:x.natAbs+r.natAbs>=q.natAbs*y.natAbs:=by
    rw [<-Int.natAbs_mul];have:=Int.natAbs_sub_le x r;rw [show x - r=q*y by omega] at this;exact this
   have hq1:1<=q.natAbs:=om9;have a:1<=y.natAbs:=om9;rcases h3 with h3|h3
   ·subst h3;have:q.natAbs*1<=q.natAbs*y.natAbs:=Nat.mul_le_mul_left _ a;simp at e;omega
   ·-- what is left has the divisor's side:the quotient is not farther out than the number
    have e2:(x - r).natAbs=q.natAbs*y.natAbs:=by rw [<-Int.natAbs_mul];congr 1;omega
    rcases Int.lt_trichotomy q 0 with hq0|hq0|hq0
    ·-- below 0:x and y lie on two sides
     have:(q.natAbs - 1)*y.natAbs+y.natAbs=q.natAbs*y.natAbs:=by
      obtain⟨k,hk⟩:∃k,q.natAbs=k+1:=⟨q.natAbs - 1,om9⟩;rw [hk,Nat.add_sub_cancel,Nat.add_mul,Nat.one_mul]
     have hm:(q.natAbs - 1)*1<=(q.natAbs - 1)*y.natAbs:=Nat.mul_le_mul_left _ a;by_cases hy2:y.natAbs=1
     ·omega
     ·by_cases hk:q.natAbs=1
      ·have hx0:x≠0:=by
        intro hx;subst hx;rw [hk,Nat.one_mul] at e2;omega
       omega
      ·have hm2:(q.natAbs - 1)*2<=(q.natAbs - 1)*y.natAbs:=Nat.mul_le_mul_left _ om9;omega
    ·omega
    ·have hxr:x.natAbs=q.natAbs*y.natAbs+r.natAbs:=by
      rcases h3 with⟨ha,hb⟩|⟨ha,hb⟩
      ·have:0<q*y:=Int.mul_pos hq0 hb;have e3:(q*y).natAbs=q.natAbs*y.natAbs:=Int.natAbs_mul _ _;omega
      ·have:q*y<0:=Int.mul_neg_of_pos_of_neg hq0 hb;have e3:(q*y).natAbs=q.natAbs*y.natAbs:=Int.natAbs_mul _ _;omega
     have:q.natAbs*1<=q.natAbs*y.natAbs:=Nat.mul_le_mul_left _ a;omega
theorem SzI.q {K:Nat}{x:Int}(y:Int)(h:Sz K x.natAbs):Sz K (qI x y).natAbs:=Sz.of_le h (qI_le x y)
section
variable {P:Program}{f:FuncId}{args:Array Value}{w:World}
theorem icmp_eq {x y:Int}(h:x=y)(hc:Calls P f args w (zcL w (zhN x y))):Calls P f args w (zcL w 0):=by rw [(ziH x y).2 h] at hc;exact hc
end
def zcw (w:World)(t:TypeId)(g cap n:Nat)(L:List Nat):Prop:=
 ∃cur,Blk w g t cur/\n<=cap/\cap<=maxLen/\cur.size=cap/\L.length=n/\cur.toList.take n=zaF .u8 L
section
variable {w w':World}{t:TypeId}{g cap n:Nat}{L:List Nat}
theorem zcw.len (h:zcw w t g cap n L):L.length=n:=by obtain⟨_,_,_,_,_,h,_⟩:=h;exact h
theorem zcw.room (h:zcw w t g cap n L):n<=cap/\cap<=maxLen:=by obtain⟨_,_,h,h2,_⟩:=h;exact⟨h,h2⟩
theorem zcw.lt (h:zcw w t g cap n L):g<w.heap.size:=by obtain⟨_,h,_⟩:=h;exact h.lt
theorem zcw.cell (h:zcw w t g cap n L)(k:Nat)(hk:k<n):w.cell? ⟨g,k,none⟩=some (.int .u8 (L.getD k 0:Nat)):=by
 obtain⟨cur,hb,h1,h2,h3,h4,h5⟩:=h;rw [hb.cell k,<-Array.getElem?_toList,<-zdc .u8 L k om9,<-h5,List.getElem?_take,if_pos hk]
theorem zcw.frozen (h:zcw w t g cap n L)(k:Nat):w.frozen? ⟨g,k,none⟩=false:=by
 obtain⟨cur,hb,_⟩:=h;exact hb.frozen k
theorem zcw.set_ (h:zcw w t g cap n L)(k d:Nat)(hk:k<n):zcw (w.setCell ⟨g,k,none⟩ (.int .u8 (d:Int))) t g cap n (L.set k d):=by
 obtain⟨cur,hb,h1,h2,h3,h4,h5⟩:=h;refine⟨_,hb.set_ k _,h1,h2,by simpa using h3,by simpa using h4,?_⟩;rw [Array.toList_setIfInBounds,List.take_set,h5];unfold zaF;rw [List.map_set]
theorem zcw.below {B:Nat}(h:zcw w t g cap n L)(hb:Below B w w')(hg:g<B):zcw w' t g cap n L:=by
 obtain⟨a,h0,h1⟩:=h;exact⟨a,h0.below hb hg,h1⟩
theorem zcw.keep (h:zcw w t g cap n L)(hb:Below w.heap.size w w'):zcw w' t g cap n L:=h.below hb h.lt
theorem zcw.drew (h:zcw w t g cap n L):zcw w.drew t g cap n L:=h
theorem zcw.alloc (h:zcw w t g cap n L)(o:Obj):zcw (w.alloc o) t g cap n L:=by
 obtain⟨a,h0,h1⟩:=h;exact⟨a,h0.alloc o,h1⟩
theorem zcw.far (h:zcw w t g cap n L){p:Addr}(hp:g≠p.block)(u:Value):zcw (w.setCell p u) t g cap n L:=by
 obtain⟨a,h0,h1⟩:=h;exact⟨a,h0.far hp u,h1⟩
theorem zcw.reads (h:zcw w t g cap n L):zaw w w.heap.size 1 (some ⟨g,0,none⟩) n (zaF .u8 L):=by
 have hl:=h.lt;have hc:=h.cell;have hn:=h.len;refine⟨by rw [zaL];omega,λ_=>⟨_,rfl,hl,λj u hu=>?_⟩⟩;have hj:j<L.length:=by
  rcases Nat.lt_or_ge j L.length with hj|hj
  ·exact hj
  ·rw [List.getElem?_eq_none (by rw [zaL];exact hj)] at hu;cases hu
 have e:(⟨g,0,none⟩:Addr).add j=⟨g,j,none⟩:=by unfold Addr.add;split<;>simp_all
 rw [e,hc j om9,<-zdc .u8 L j hj,hu]
theorem zcw.own (h:zcw w t g cap n L){a:Nat}(hb:a<=g):w.ownsRow a t 1 (.slice (some ⟨g,0,none⟩) n cap) n (zaF .u8 L):=by
 obtain⟨b,h0,h1,h2,h3,h4,h5⟩:=h;exact⟨by rw [zaL];omega,.inr ⟨g,cap,b,rfl,hb,h0,h1,h2,om9,by rw [Nat.mul_one];exact h5⟩⟩
theorem zcw.made (w:World)(t:TypeId)(N:Nat)(hN:N<=maxLen):zcw (w.alloc (.cells (madeCells (Value.cells (.int .u8 0)) N) t)) t w.heap.size N N (List.replicate N 0):=by
 refine⟨_,Blk.new w t _,Nat.le_refl _,hN,size_madeCells _ _,si9,?_⟩;show(madeCells #[Value.int .u8 0] N).toList.take N=_;rw [toList_madeCells_one,List.take_of_length_le si9];simp [zaF]
theorem zcw.of_own {f:Nat}{v:Value}{l:List Nat}(h:w.ownsRow f t 1 v n (zaF .u8 l))(hn:0<n):∃g cap,v=.slice (some ⟨g,0,none⟩) n cap/\f<=g/\zcw w t g cap n l:=by
 obtain⟨h1,h2⟩:=h;rcases h2 with⟨_,h⟩|⟨g,cap,cur,e,hb,hk,a,b,c,d⟩
 ·omega
 ·refine⟨g,cap,e,hb,cur,hk,a,b,om9,by rw [zaL] at h1;omega,?_⟩;rw [Nat.mul_one] at d;exact d
end
structure zhJ (w:World)(v:Value)(w':World)(v':Value):Prop where
 grown:w.grownBy w' v.ownBlock
 at_:v'.ownBlock=v.ownBlock\/∀g,v'.ownBlock=some g->w.heap.size<=g
theorem zhJ.refl (w:World)(v:Value):zhJ w v w v:=⟨World.grownBy.refl _ _,.inl rfl⟩
theorem zhJ.alloc (w:World)(v:Value)(o:Obj):zhJ w v (w.alloc o) v:=⟨World.grownBy_alloc w o _,.inl rfl⟩
theorem zhJ.trans {w w1 w2:World}{v v1 v2:Value}(h:zhJ w v w1 v1)(k:zhJ w1 v1 w2 v2):zhJ w v w2 v2:=by
 refine⟨⟨k.grown.os.trans h.grown.os,k.grown.tape.trans h.grown.tape,k.grown.output.trans h.grown.output,Nat.le_trans h.grown.size k.grown.size,λi hi a=>?_⟩,?_⟩
 ·refine(k.grown.block i (Nat.lt_of_lt_of_le hi h.grown.size) (λe=>?_)).trans (h.grown.block i hi a);rcases h.at_ with h1|h1
  ·exact a (by rw [e,h1])
  ·have:=h1 i e.symm;omega
 ·rcases k.at_ with k1|k1
  ·rw [k1];exact h.at_
  ·exact .inr λg hg=>Nat.le_trans h.grown.size (k1 g hg)
theorem zhJ.below {w w':World}{v:Value}(hb:Below w.heap.size w w'):zhJ w v w' v:=⟨⟨hb.os,hb.tape,hb.output,hb.size,λi hi _=>hb.block i hi⟩,.inl rfl⟩
def lowD (n p:Nat):List Nat:=(List.range n).map λk=>p / 10^k%10
theorem zmR (n p:Nat):(lowD n p).length=n:=by simp [lowD]
theorem zqF (n p:Nat):lowD (n+1) p=lowD n p++[p / 10^n%10]:=by simp [lowD,List.range_succ]
theorem lowD_dgs (n p:Nat):Dgs 10 (lowD n p):=by
 intro d hd;obtain⟨j,_,rfl⟩:=List.mem_map.1 hd;exact Nat.mod_lt _ de9
theorem zpx (p:Nat):∀n,dv 10 (lowD n p)=p%10^n
 |0=>by simp [lowD,dv,Nat.mod_one]
 |n+1=>by rw [zqF,zbF,zpx p n,zmR,zba 10 p n]
theorem zmB (l:List Nat)(i k a:Nat):(l.set i a).getD k 0=if i=k/\k<l.length then a else l.getD k 0:=by
 simp only [List.getD_eq_getElem?_getD,List.getElem?_set];by_cases h:i=k
 ·subst h;by_cases h2:i<l.length
  ·simp [h2]
  ·simp [h2]
 ·simp [h]
def zmg (L:List Nat)(i:Nat)(M:List Nat):Prop:=M.length=L.length/\∀j,j<L.length->M.getD j 0=if j<i\/L.length<=j+i then L.getD (L.length - 1 - j) 0 else L.getD j 0
theorem zmg.start (L:List Nat):zmg L 0 L:=⟨rfl,λj hj=>by rw [if_neg om9]⟩
theorem zmg.step {L M:List Nat}{i j:Nat}(h:zmg L i M)(hij:i+j+1=L.length)(hlt:i<j):zmg L (i+1) ((M.set i (M.getD j 0)).set j (M.getD i 0)):=by
 obtain⟨h1,h2⟩:=h;refine⟨by simpa using h1,λk hk=>?_⟩;rw [zmB,zmB,List.length_set,h1];by_cases hkj:j=k
 ·subst hkj;rw [if_pos ⟨rfl,hk⟩,if_pos om9,h2 i om9,if_neg om9];congr 1;omega
 ·rw [if_neg om9];by_cases hki:i=k
  ·subst hki;rw [if_pos ⟨rfl,hk⟩,if_pos om9,h2 j om9,if_neg om9];congr 1;omega
  ·rw [if_neg om9,h2 k hk];by_cases hc:k<i\/L.length<=k+i
   ·rw [if_pos hc,if_pos om9]
   ·rw [if_neg hc,if_neg om9]
theorem Off.drew {g:Nat}{w w':World}(h:Off g w w'):Off g w w'.drew:=⟨h.os,h.tape,h.output,h.size,h.block⟩
def Aside (v:Value)(B:oA9)(m:Nat):Prop:=0<m->∀ad,B=some ad->v.ownBlock≠some ad.block
theorem Aside.words {w w':World}{v v':Value}{x m d:Nat}{B:oA9}(h:Aside v B m)(hx:zad w x B m d)(hg:zhJ w v w' v'):zad w' x B m d/\Aside v' B m:=by
 refine⟨ziv hx hg.grown (λhm ad e=>(h hm ad e).symm),λhm ad e=>?_⟩;rcases hg.at_ with h1|h1
 ·rw [h1];exact h hm ad e
 ·intro h2;have:=h1 _ h2;obtain⟨ad',e',hb,_⟩:=hx.1.2 hm;rw [e] at e';injection e' with e';subst e';omega
theorem zhJ.blk {w w':World}{v v':Value}{a g n:Nat}{t e:TypeId}{cs:Array Value}{vs:List Value}(h:zhJ w v w' v')(hv:w.ownsRow a e 1 v n vs)(hk:Blk w g t cs)(hg:g<a):Blk w' g t cs:=
 hk.grown h.grown (λe=>by have:=(hv.lt g e.symm).1;omega)
def ziX (x y:Nat)(D:List Nat):Prop:=Dgs 10 D/\dv 10 D+10^D.length*y=x
theorem ziX.start (x:Nat):ziX x x []:=⟨λd hd=>by simp at hd,by simp [dv]⟩
theorem ziX.step {x y:Nat}{D:List Nat}(h:ziX x y D):ziX x (y / 10000000000000000000) (D++lowD 19 (y%10000000000000000000)):=by
 refine⟨h.1.append (lowD_dgs _ _),?_⟩;rw [zbA,List.length_append,zmR,zpx,Nat.pow_add,show(10:Nat)^19=10000000000000000000 from rfl,Nat.mod_mod,Nat.mul_assoc,Nat.add_assoc,<-Nat.mul_add,Nat.mod_add_div];exact h.2
theorem ziX.len {x y:Nat}{D:List Nat}(h:ziX x y D)(hy:y≠0):10^D.length<=x:=by
 have:=h.2;have h1:10^D.length*1<=10^D.length*y:=Nat.mul_le_mul_left _ om9;omega
