/- What this claim leans on. -/
import Derived.Test.YtielpgdebeggbaaGreatDoorMBunQ
import Derived.Deep.RegionHeld
import Derived.Deep.RegionLaw
import Derived.Laws.BytesArg
import Derived.LoopIn
import Derived.LoopNIn
import Derived.OrdersHeld
import Derived.OrdersIn
import Derived.OwnWalkIn
import Derived.RangeFuncBound
import Derived.RangeFuncCalls
import Derived.RangeFuncLeaves
import Derived.RangeFuncNested
import Derived.Shelf.Abstract
import Derived.Shelf.RegionOpen
import Derived.TacticsInMore
set_option linter.unusedVariables false
set_option linter.unusedSimpArgs false
namespace Go.Proofs.YtielpgdebeggbaaGreatDoor
open Go Go.RowKit Go.Proofs.Tryz
set_option maxHeartbeats 16000000
variable {a0:Act}{cs:Array Value}{x y z:Int}{D:List Nat}{K K' b b' c d g i n:Nat}{s:Rat}{t:TypeId}{v v':Value}{w w':World}{A:ze}
def sG (x y:Int):Int:=if x<y then -1 else if x=y then 0 else 1
theorem bW (x y:Int):sG x y=0↔x=y:=by unfold sG;split<;>(try split)<;>omega
def ro (x:Int):Int:=if x<0 then -1 else if x=0 then 0 else 1
def qI (x y:Int):Int:=if 0<=y then x / y else(-x) / (-y)
def rI (x y:Int):Int:=if 0<=y then x%y else -((-x)%(-y))
theorem fA (x y:Int):qI x y*y+rI x y=x:=by
 unfold qI rI
 split
 ·rw [yV];exact XW x y
 ·have h:=XW (-x) (-y);rw [Int.neg_mul] at h;rw [yV];omega
theorem pU {x:Int}(hy:y≠0):(rI x y).natAbs<y.natAbs:=by
 unfold rI
 split
 ·have h1:=YE x hy;have h2:=YS x (show 0<y by omega);omega
 ·have h1:=YE (-x) (show -y≠0 by omega);have h2:=YS (-x) (show 0< -y by omega);omega
theorem mZ {x:Int}(hy:y≠0):rI x y=0\/(0<rI x y/\0<y\/rI x y<0/\y<0):=by
 unfold rI
 split
 ·have h1:=YE x hy;omega
 ·have h1:=YE (-x) (show -y≠0 by omega);omega
theorem ZF (a:Int)(g:Nat):(a / (g:Int)).natAbs<=a.natAbs:=by
 rcases QW g with rfl|hg
 ·simp
 ·exact Int.natAbs_ediv_le_natAbs a g
theorem Qs (a b:Rat):(a+b).num.natAbs<=a.num.natAbs*b.den+b.num.natAbs*a.den:=by
 rw [Rat.num_add];refine qH (ZF _ _) (qH (Int.natAbs_add_le _ _) ?_);rw [xS,xS,yN,yN];exact qX _
theorem Qg (a b:Rat):(a+b).den<=a.den*b.den:=by rw [Rat.den_add];exact xN _ _
theorem Qu (a b:Rat):(a*b).num.natAbs<=a.num.natAbs*b.num.natAbs:=by
 rw [Rat.num_mul];refine qH (ZF _ _) ?_;rw [xS];exact qX _
theorem Qh (a b:Rat):(a*b).den<=a.den*b.den:=by rw [Rat.den_mul];exact xN _ _
theorem Qt (a:Rat):(a⁻¹).num.natAbs<=a.den:=by
 rw [Rat.num_inv,xS,yN];by_cases h:a.num=0
 ·simp [h]
 ·rw [Int.natAbs_sign_of_ne_zero h,yJ];exact qX _
theorem So (p q:Int):(Rat.divInt p q).num.natAbs<=p.natAbs:=by
 rw [Rat.num_divInt];refine qH (ZF _ _) ?_;rw [xS];by_cases h:q=0
 ·simp [h]
 ·rw [Int.natAbs_sign_of_ne_zero h,yJ];exact qX _
def y5 (b:Nat)(r:Rat):Prop:=r.num.natAbs<b/\r.den<b
theorem y5.up {r:Rat}(h:y5 b r)(hb:b<=b'):y5 b' r:=⟨qJ h.1 hb,qJ h.2 hb⟩
theorem y5.pos {r:Rat}(h:y5 b r):1<b:=QI (xI r.den_nz) h.2
theorem y5.add {r:Rat}(h:y5 b r)(h':y5 b' s):y5 (2*(b*b')) (r+s):=by
 have h1:r.num.natAbs*s.den<b*b':=YO h.1 h'.2;have h2:s.num.natAbs*r.den<b*b':=by rw [QK b b'];exact YO h'.1 h.2
 have h3:r.den*s.den<b*b':=YO h.2 h'.2;have h4:=Qs r s;have h5:=Qg r s;exact⟨za,za⟩
theorem y5.mul {r:Rat}(h:y5 b r)(h':y5 b' s):y5 (b*b') (r*s):=
 ⟨QI (Qu r s) (YO h.1 h'.1),QI (Qh r s) (YO h.2 h'.2)⟩
theorem y5.neg {r:Rat}(h:y5 b r):y5 b (-r):=⟨by rw [Rat.neg_num,Int.natAbs_neg];exact h.1,h.2⟩
theorem y5.sub {r:Rat}(h:y5 b r)(h':y5 b' s):y5 (2*(b*b')) (r - s):=by rw [Rat.sub_eq_add_neg];exact h.add h'.neg
theorem y5.inv {r:Rat}(h:y5 b r):y5 b r⁻¹:=by
 refine⟨QI (Qt r) h.2,?_⟩;rw [Rat.den_inv]
 split
 ·exact h.pos
 ·exact h.1
theorem y5.div {r:Rat}(h:y5 b r)(h':y5 b' s):y5 (b*b') (r / s):=by rw [Rat.div_def];exact h.mul h'.inv
theorem y5.made {p q:Int}(hp:p.natAbs<b)(hq:q.natAbs<b)(hb:1<b):y5 b (Rat.divInt p q):=by
 refine⟨QI (So p q) hp,?_⟩;rw [Rat.den_divInt]
 split
 ·exact hb
 ·exact QI (xN _ _) hq
theorem y5.whole (hz:z.natAbs<b)(hb:1<b):y5 b (z:Rat):=⟨by rw [YZ];exact hz,by rw [YJ];exact hb⟩
def uW (r s:Rat):Int:=if r<s then -1 else if r=s then 0 else 1
theorem Qe (r s:Rat):uW r s=sG (r.num*s.den) (s.num*r.den):=by
 unfold uW sG;by_cases h1:r<s
 ·rw [if_pos h1,if_pos ((Rat.lt_iff r s).1 h1)]
 ·rw [if_neg h1,if_neg (λh=>h1 ((Rat.lt_iff r s).2 h))];by_cases h2:r=s
  ·rw [if_pos h2,if_pos (Rat.eq_iff_mul_eq_mul.1 h2)]
  ·rw [if_neg h2,if_neg (λh=>h2 (Rat.eq_iff_mul_eq_mul.2 h))]
theorem nV (r s:Rat):uW r s=0↔r=s:=by
 unfold uW;by_cases h1:r<s
 ·rw [if_pos h1];constructor
  ·intro h;omega
  ·intro h;exact absurd h (Rat.ne_of_lt h1)
 ·rw [if_neg h1];by_cases h2:r=s<;>simp [h2]
def so (r:Rat):Int:=ro r.num
def fv (r s:Rat):Rat:=if uW r s<=0 then r else s
theorem fR (r:Rat):r*(r.den:Rat)=(r.num:Rat):=by
 have h0:(r.den:Rat)≠0:=λh=>r.den_nz (by
  have:=congrArg Rat.num h;rw [Rat.num_natCast] at this;exact Int.ofNat.inj this)
 have h1:r=(r.num:Rat) / ((r.den:Int):Rat):=by
  have:=Rat.num_divInt_den r;rw [Rat.divInt_eq_div] at this;exact this.symm
 have h2:((r.den:Int):Rat)=(r.den:Rat):=rfl;rw [h2] at h1;generalize r.num=p at*;generalize r.den=q at*;rw [h1,Rat.div_mul_cancel h0]
theorem pu (p q:Int)(hq:q≠0):(Rat.divInt p q).num.natAbs=p.natAbs / Nat.gcd p.natAbs q.natAbs:=by
 rw [Rat.num_divInt,Int.gcd];have hd:(Nat.gcd q.natAbs p.natAbs:Int)∣ q.sign*p:=Int.dvd_trans (Int.ofNat_dvd_left.2 (XT ..)) (Int.dvd_mul_left ..);rw [Int.natAbs_ediv_of_dvd hd,xS,Int.natAbs_sign_of_ne_zero hq,yJ,yN,yW]
theorem pt (p q:Int)(hq:q≠0):(Rat.divInt p q).den=q.natAbs / Nat.gcd p.natAbs q.natAbs:=by
 rw [Rat.den_divInt,if_neg hq,Int.gcd,yW]
theorem Ol (p q:Int)(hq:q≠0):(Rat.divInt p q).num<0↔(p<0/\0<q\/0<p/\q<0):=by
 rw [Rat.num_divInt];have a:0<(q.gcd p:Int):=by
  have:0<q.gcd p:=Int.gcd_pos_of_ne_zero_left p hq;omega
 have e:q.sign*p / (q.gcd p:Int)<0↔q.sign*p<0:=by
  constructor
  ·intro h;refine Int.not_le.1 λh1=>?_;have:=YC h1 (Int.le_of_lt a);omega
  ·intro h;exact Int.ediv_neg_of_neg_of_pos h a
 rw [e];rcases Int.lt_or_gt_of_ne hq with h|h
 ·rw [Int.sign_eq_neg_one_of_neg h];omega
 ·rw [Int.sign_eq_one_of_pos h];omega
def yi (w:World)(z:Int)(b:Bool)(A:ze)(n c:Nat):Prop:=b=decide (z<0)/\zq w z.natAbs A n c
theorem yi.below {b:Bool}(h:yi w z b A n c)(hb:Below w.heap.size w w'):yi w' z b A n c:=⟨h.1,h.2.below hb⟩
theorem yi.words {b:Bool}(h:yi w z b A n c):zq w z.natAbs A n c:=h.2
def wl (w:World)(z:Int)(e:Ending)(w':World):Prop:=∃(b:Bool) (A:ze) (n c:Nat),e=.returned (.agg #[.bool b,.slice A n c])/\yi w' z b A n c/\Below w.heap.size w w'
def ic (w:World)(x:Nat)(e:Ending)(w':World):Prop:=∃(A:ze) (n c:Nat),e=.returned (.agg #[.slice A n c])/\zq w' x A n c/\Below w.heap.size w w'
structure kM (T:World->Prop):Prop where
 new:∀(s:Bool) (x:Nat) (A:ze) (n c:Nat) (w:World),T w->zq w x A n c->n<=268435456->Calls prog 113 #[.bool s,.agg #[.slice A n c]] w (wl w (if s then -(x:Int) else(x:Int)))
 of:∀(z:Int) (w:World),T w-> -9223372036854775808<=z->z<=9223372036854775807->Calls prog 69 #[.int .i64 z] w (wl w z)
 belowI:∀(z:Int) (b:Bool) (A:ze) (n c:Nat) (w:World),T w->yi w z b A n c->n<=268435456->Calls prog 66 #[.agg #[.bool b,.slice A n c]] w λe w'=>e=.returned (.bool (decide (z<0)))/\Below w.heap.size w w'
 abs:∀(z:Int) (b:Bool) (A:ze) (n c:Nat) (w:World),T w->yi w z b A n c->n<=268435456->Calls prog 67 #[.agg #[.bool b,.slice A n c]] w (ic w z.natAbs)
 sign:∀(z:Int) (b:Bool) (A:ze) (n c:Nat) (w:World),T w->yi w z b A n c->n<=268435456->Calls prog 108 #[.agg #[.bool b,.slice A n c]] w (vU w (ro z))
 cmp:∀(x y:Int) (b b':Bool) (A D:ze) (n m c d:Nat) (w:World),T w->yi w x b A n c->yi w y b' D m d->n<=268435456->m<=268435456->Calls prog 54 #[.agg #[.bool b,.slice A n c],.agg #[.bool b',.slice D m d]] w (vU w (sG x y))
 add:∀(x y:Int) (b b':Bool) (A D:ze) (n m c d:Nat) (w:World),T w->yi w x b A n c->yi w y b' D m d->n<=268435456->m<=268435456->Calls prog 110 #[.agg #[.bool b,.slice A n c],.agg #[.bool b',.slice D m d]] w (wl w (x+y))
 mul:∀(x y:Int) (b b':Bool) (A D:ze) (n m c d:Nat) (w:World),T w->yi w x b A n c->yi w y b' D m d->n<=268435456->m<=268435456->Calls prog 94 #[.agg #[.bool b,.slice A n c],.agg #[.bool b',.slice D m d]] w (wl w (x*y))
set_option maxRecDepth 100000
theorem Ue {x:Nat}(h:zq w x A n c)(hk:zh w g t cs)(a:∀v ∈ cs.toList,∀z,v≠.int .u64 z):0<n->∀ad,A=some ad->ad.block≠g:=λhn ad e hg=>by
 obtain⟨ad',e',_,hc⟩:=h.1.2 hn;rw [e] at e';injection e' with e';subst e';have hl:=h.len;have h0:=hc 0 (.int .u64 ((dg 18446744073709551616 x).getD 0 0:Nat)) (kB .u64 _ 0 za);have e0:ad.add 0=ad:=by unfold Addr.add;rw [if_pos rfl]
 rw [e0] at h0;obtain⟨bk,off,pr⟩:=ad;simp only at hg;subst hg;unfold zh at hk;cases pr with
 |none=>
   rw [show w.cell? ⟨bk,off,none⟩=cs[off]? from cell_of_row w bk off _ t (0,0) hk,<-QS] at h0;exact a _ (QX h0) _ rfl
 |some q=>simp [World.cell?,hk] at h0
theorem uv {b p:Bool}{q:ze}{r s:Nat}(h:yi w z b A n c)(hk:zh w g t #[.bool p,.slice q r s])(p':Bool)(q':ze)(r' s':Nat):
  yi ((w.setCell ⟨g,0,none⟩ (.bool p')).setCell ⟨g,1,none⟩ (.slice q' r' s')) z b A n c:=by
 have h1:=cO (p:=⟨g,0,none⟩) h.2 (Ue h.2 hk (by intro v hv;simp at hv;rcases hv with rfl|rfl<;>intro z e<;>cases e)) (.bool p');exact⟨h.1,cO (p:=⟨g,1,none⟩) h1 (Ue h1 (hk.set_ 0 (.bool p')) (by intro v hv;simp at hv;rcases hv with rfl|rfl<;>intro z e<;>cases e)) _⟩
def sI (l:Array Bool):Nat:=l.toList.countP λb=> !b
section
variable {P:Program}{ops:Array Oper}{Q:Exit->Act->World->Prop}{md:Region.Mode}{S:World->Prop}
theorem uM {l:Array Bool}(hi:i ∈ Region.ready md ops l):l.getD i true=false:=(mem_ready.1 hi).1
theorem Z8 {l:Array Bool}(hi:i ∈ Region.ready md ops l):i<ops.size:=by
 obtain⟨_,o,ho,_⟩:=mem_ready.1 hi;exact(Array.getElem?_eq_some_iff.1 ho).1
theorem PS {k:Nat}{l:Array Bool}{o:Oper}{e:Edge}(hi:i ∈ Region.ready md ops l)(ho:ops[i]?=some o)(he:o.after[k]?=some e)(hb:Region.binds md e=true):l.getD e.on false=true:=by
 obtain⟨_,o',a,h⟩:=mem_ready.1 hi;rw [ho] at a;cases a;exact h e (Array.mem_of_getElem? he) hb
theorem R5 {l:Array Bool}{o:Oper}(h:Region.ready md ops l=[])(ho:ops[i]?=some o)(hr:(o.after.toList.all λe=> !Region.binds md e||l.getD e.on false)=true):l.getD i true=true:=by
 cases hl:l.getD i true
 ·have:i ∈ Region.ready md ops l:=mem_ready.2 ⟨hl,o,ho,λe he hb=>by
   have:=List.all_eq_true.1 hr e (by simpa using he);rw [hb] at this;simpa using this⟩
  rw [h] at this;cases this
 ·rfl
theorem Tg {l:Array Bool}(h:l.getD i true=false):sI (l.setIfInBounds i true)+1=sI l:=by
 obtain⟨l⟩:=l;unfold sI;have hi:i<l.length:=by
  rcases xG i l.length with h'|h'
  ·exact h'
  ·simp [qN h'] at h
 have hv:l[i]=false:=by simpa [hi] using h
 simp only [qU];clear h
 induction l generalizing i with
 |nil=>simp at hi
 |cons b t ih=>
   cases i with
   |zero=>
     have hb:b=false:=hv;subst hb;simp
   |succ j=>
     have:=ih (i:=j) (by simpa using hi) (by simpa using hv);simp only [qO,List.countP_cons];omega
theorem Py {l:Array Bool}(h:sI l=0):Region.ready md ops l=[]:=by
 refine List.eq_nil_iff_forall_not_mem.2 λi hi=>?_;have:=Tg (uM hi);omega
theorem WF {J:Act->Array Bool->Act->World->Prop}{L:Array Bool}(g:∀l a w,J a0 l a w->Region.ready md ops l=[]->l=L)
  (k:∀l a w i,J a0 l a w->l≠L->i ∈ Region.ready md ops l->wpOp P ops Q i (λa' w'=>S w'/\J a0 (l.setIfInBounds i true) a' w') a w)
  (j:∀a w,J a0 L a w->wpAnyH P md ops Q S (sI L) L a w):∀(d:Nat) (l:Array Bool) (a:Act) (w:World),sI l=d->J a0 l a w->wpAnyH P md ops Q S d l a w:=by
 intro d
 induction d with
 |zero=>
   intro l a w hd hJ;have e:=g l a w hJ (Py hd);subst e;have:=j a w hJ;rwa [hd] at this
 |succ n ih=>
   intro l a w hd hJ;by_cases hl:l=L
   ·subst hl;have:=j a w hJ;rwa [hd] at this
   ·refine⟨λh=>absurd (g l a w hJ h) hl,λi hi=>?_⟩;exact wpOp_mono (λa' w' ⟨h1,h2⟩=>⟨h1,ih _ a' w' (by have:=Tg (uM hi);omega) h2⟩) (k l a w i hJ hl hi)
theorem Rn {J:Act->Array Bool->Act->World->Prop}{L:Array Bool}{l0:Array Bool}{w0:World}(hd:sI l0=d)(h0:J a0 l0 a0 w0)
  (g:∀l a w,J a0 l a w->Region.ready md ops l=[]->l=L)
  (j:∀l a w i,J a0 l a w->l≠L->i ∈ Region.ready md ops l->wpOp P ops Q i (λa' w'=>S w'/\J a0 (l.setIfInBounds i true) a' w') a w)
  (h:∀a w,J a0 L a w->wpAnyH P md ops Q S (sI L) L a w):wpAnyH P md ops Q S d l0 a0 w0:=
 WF g j h d l0 a0 w0 hd h0
end
def Gd (f:Bool)(p:Prop):Prop:=f=true->p
theorem Gd.no {p:Prop}:Gd false p:=λh=>by cases h
theorem Gd.yes {p:Prop}(h:p):Gd true p:=λ_=>h
theorem Gd.get {p:Prop}(h:Gd true p):p:=h rfl
theorem Gd.mono {f:Bool}{p q:Prop}(h:Gd f p)(k:p->q):Gd f q:=λe=>k (h e)
def u3 (b:Nat)(w:World)(g:Nat)(t:TypeId)(cs:Array Value)(v:Value):Prop:=v=.pointer (some ⟨g,0,none⟩)/\b<=g/\w.heap[g]?=some (.cells cs t (0,0))
theorem u3.lt {t:TypeId}{cs:Array Value}(h:u3 b w g t cs v):g<w.heap.size:=(Array.getElem?_eq_some_iff.1 h.2.2).1
theorem u3.keep {w':World}(h:u3 b w g t cs v)(hb:Below w.heap.size w w'):u3 b w' g t cs v:=⟨h.1,h.2.1,(hb.block g h.lt).trans h.2.2⟩
theorem u3.new (b:Nat)(w:World)(t:TypeId)(cs:Array Value)(hb:b<=w.heap.size):u3 b (w.alloc (.cells cs t)) w.heap.size t cs (.pointer (some ⟨w.heap.size,0,none⟩)):=⟨rfl,hb,heap_alloc_new w _⟩
theorem SzI.add (h:Sz K x.natAbs)(h':Sz K' y.natAbs):Sz (K+K'+1) (x+y).natAbs:=
 Sz.of_le (Sz.add (h.up (by omega:K<=K+K')) (h'.up (by omega:K'<=K+K'))) (Int.natAbs_add_le x y)
theorem SzI.sub (h:Sz K x.natAbs)(h':Sz K' y.natAbs):Sz (K+K'+1) (x - y).natAbs:=by
 rw [Int.sub_eq_add_neg];exact SzI.add h (by rw [Int.natAbs_neg];exact h')
theorem SzI.mul (h:Sz K x.natAbs)(h':Sz K' y.natAbs):Sz (K+K') (x*y).natAbs:=by
 rw [xS];exact Sz.mul h h'
theorem SzI.neg (h:Sz K x.natAbs):Sz K (-x).natAbs:=by rw [Int.natAbs_neg];exact h
theorem fz (x y:Int):(qI x y).natAbs<=x.natAbs:=by
 by_cases hy:y=0
 ·subst hy;unfold qI;simp
 ·have h1:=fA x y;have h2:=pU (x:=x) hy;have h3:=mZ (x:=x) hy;generalize rI x y=r at*;generalize qI x y=q at*;by_cases hq:q=0
  ·subst hq;simp
  ·have e:x.natAbs+r.natAbs>=q.natAbs*y.natAbs:=by
    rw [<-xS];have:=Int.natAbs_sub_le x r;rw [show x - r=q*y by omega] at this;exact this
   have hq1:1<=q.natAbs:=za;have a:1<=y.natAbs:=za;rcases h3 with h3|h3
   ·subst h3;have:q.natAbs*1<=q.natAbs*y.natAbs:=QN _ a;simp at e;omega
   ·-- what is left has the divisor's side:the quotient is not farther out than the number
    have e2:(x - r).natAbs=q.natAbs*y.natAbs:=by rw [<-xS];congr 1;omega
    rcases Int.lt_trichotomy q 0 with hq0|hq0|hq0
    ·-- below 0:x and y lie on two sides
     have:(q.natAbs - 1)*y.natAbs+y.natAbs=q.natAbs*y.natAbs:=by
      obtain⟨k,hk⟩:∃k,q.natAbs=k+1:=⟨q.natAbs - 1,za⟩;rw [hk,Nat.add_sub_cancel,QB,yJ]
     have hm:(q.natAbs - 1)*1<=(q.natAbs - 1)*y.natAbs:=QN _ a;by_cases hy2:y.natAbs=1
     ·omega
     ·by_cases hk:q.natAbs=1
      ·have hx0:x≠0:=by
        intro hx;subst hx;rw [hk,yJ] at e2;omega
       omega
      ·have hm2:(q.natAbs - 1)*2<=(q.natAbs - 1)*y.natAbs:=QN _ za;omega
    ·omega
    ·have hxr:x.natAbs=q.natAbs*y.natAbs+r.natAbs:=by
      rcases h3 with⟨ha,hb⟩|⟨ha,hb⟩
      ·have:0<q*y:=Int.mul_pos hq0 hb;have e3:(q*y).natAbs=q.natAbs*y.natAbs:=xS _ _;omega
      ·have:q*y<0:=Int.mul_neg_of_pos_of_neg hq0 hb;have e3:(q*y).natAbs=q.natAbs*y.natAbs:=xS _ _;omega
     have:q.natAbs*1<=q.natAbs*y.natAbs:=QN _ a;omega
theorem SzI.q (y:Int)(h:Sz K x.natAbs):Sz K (qI x y).natAbs:=Sz.of_le h (fz x y)
theorem SzI.r (x:Int)(hy:y≠0)(h:Sz K y.natAbs):Sz K (rI x y).natAbs:=Sz.of_le h (qD (pU hy))
section
variable {P:Program}{f:FuncId}{args:Array Value}{w:World}
theorem mo (h:x=y)(hc:Calls P f args w (vU w (sG x y))):Calls P f args w (vU w 0):=by rw [(bW x y).2 h] at hc;exact hc
end
def xx (w:World)(t:TypeId)(g cap n:Nat)(L:List Nat):Prop:=
 ∃cur,zh w g t cur/\n<=cap/\cap<=maxLen/\cur.size=cap/\L.length=n/\cur.toList.take n=zH .u8 L
section
variable {w w':World}{t:TypeId}{g cap n:Nat}{L:List Nat}
theorem xx.len (h:xx w t g cap n L):L.length=n:=by obtain⟨_,_,_,_,_,h,_⟩:=h;exact h
theorem xx.room (h:xx w t g cap n L):n<=cap/\cap<=maxLen:=by obtain⟨_,_,h,h2,_⟩:=h;exact⟨h,h2⟩
theorem xx.lt (h:xx w t g cap n L):g<w.heap.size:=by obtain⟨_,h,_⟩:=h;exact h.lt
theorem xx.cell (h:xx w t g cap n L)(k:Nat)(hk:k<n):w.cell? ⟨g,k,none⟩=some (.int .u8 (L.getD k 0:Nat)):=by
 obtain⟨cur,hb,h1,h2,h3,h4,h5⟩:=h;rw [hb.cell k,<-QS,<-kB .u8 L k za,<-h5,xZ,if_pos hk]
theorem xx.frozen (h:xx w t g cap n L)(k:Nat):w.frozen? ⟨g,k,none⟩=false:=by
 obtain⟨cur,hb,_⟩:=h;exact hb.frozen k
theorem xx.set_ (h:xx w t g cap n L)(k d:Nat)(hk:k<n):xx (w.setCell ⟨g,k,none⟩ (.int .u8 (d:Int))) t g cap n (L.set k d):=by
 obtain⟨cur,hb,h1,h2,h3,h4,h5⟩:=h;refine⟨_,hb.set_ k _,h1,h2,by simpa using h3,by simpa using h4,?_⟩;rw [QO,YL,h5];unfold zH;rw [List.map_set]
theorem xx.below {B:Nat}(h:xx w t g cap n L)(hb:Below B w w')(hg:g<B):xx w' t g cap n L:=by
 obtain⟨a,h0,h1⟩:=h;exact⟨a,h0.below hb hg,h1⟩
theorem xx.keep (h:xx w t g cap n L)(hb:Below w.heap.size w w'):xx w' t g cap n L:=h.below hb h.lt
theorem xx.drew (h:xx w t g cap n L):xx w.drew t g cap n L:=h
theorem xx.alloc (h:xx w t g cap n L)(o:Obj):xx (w.alloc o) t g cap n L:=by
 obtain⟨a,h0,h1⟩:=h;exact⟨a,h0.alloc o,h1⟩
theorem xx.far (h:xx w t g cap n L){p:Addr}(hp:g≠p.block)(u:Value):xx (w.setCell p u) t g cap n L:=by
 obtain⟨a,h0,h1⟩:=h;exact⟨a,h0.far hp u,h1⟩
theorem xx.reads (h:xx w t g cap n L):zN w w.heap.size 1 (some ⟨g,0,none⟩) n (zH .u8 L):=by
 have hl:=h.lt;have hc:=h.cell;have hn:=h.len;refine⟨by rw [vd];omega,λ_=>⟨_,rfl,hl,λj u hu=>?_⟩⟩;have hj:j<L.length:=by
  rcases xG j L.length with hj|hj
  ·exact hj
  ·rw [qN (by rw [vd];exact hj)] at hu;cases hu
 have e:(⟨g,0,none⟩:Addr).add j=⟨g,j,none⟩:=by unfold Addr.add;split<;>simp_all
 rw [e,hc j za,<-kB .u8 L j hj,hu]
theorem xx.own (h:xx w t g cap n L){a:Nat}(hb:a<=g):w.ownsRow a t 1 (.slice (some ⟨g,0,none⟩) n cap) n (zH .u8 L):=by
 obtain⟨d,h0,h1,h2,h3,h4,h5⟩:=h;exact⟨by rw [vd];omega,.inr ⟨g,cap,d,rfl,hb,h0,h1,h2,za,by rw [xO];exact h5⟩⟩
theorem xx.made (w:World)(t:TypeId)(N:Nat)(hN:N<=maxLen):xx (w.alloc (.cells (madeCells (Value.cells (.int .u8 0)) N) t)) t w.heap.size N N (List.replicate N 0):=by
 refine⟨_,zh.new w t _,qX _,hN,size_madeCells _ _,zF,?_⟩;show(madeCells #[Value.int .u8 0] N).toList.take N=_;rw [toList_madeCells_one,qV zF];simp [zH]
theorem xx.of_own {l:List Nat}(h:w.ownsRow i t 1 v n (zH .u8 l))(hn:0<n):∃g cap,v=.slice (some ⟨g,0,none⟩) n cap/\i<=g/\xx w t g cap n l:=by
 obtain⟨h1,h2⟩:=h;rcases h2 with⟨_,h⟩|⟨g,cap,cur,e,hb,hk,a,b,c,d⟩
 ·omega
 ·refine⟨g,cap,e,hb,cur,hk,a,b,za,by rw [vd] at h1;omega,?_⟩;rw [xO] at d;exact d
end
structure sE (w:World)(v:Value)(w':World)(v':Value):Prop where
 grown:w.grownBy w' v.ownBlock
 at_:v'.ownBlock=v.ownBlock\/∀g,v'.ownBlock=some g->w.heap.size<=g
theorem sE.refl (w:World)(v:Value):sE w v w v:=⟨World.grownBy.refl _ _,.inl rfl⟩
theorem sE.alloc (w:World)(v:Value)(o:Obj):sE w v (w.alloc o) v:=⟨jQ w o _,.inl rfl⟩
theorem sE.trans {w1 w2:World}{v1 v2:Value}(h:sE w v w1 v1)(k:sE w1 v1 w2 v2):sE w v w2 v2:=by
 refine⟨⟨k.grown.os.trans h.grown.os,k.grown.tape.trans h.grown.tape,k.grown.output.trans h.grown.output,qH h.grown.size k.grown.size,λi hi a=>?_⟩,?_⟩
 ·refine(k.grown.block i (qJ hi h.grown.size) (λe=>?_)).trans (h.grown.block i hi a);rcases h.at_ with h1|h1
  ·exact a (by rw [e,h1])
  ·have:=h1 i e.symm;omega
 ·rcases k.at_ with k1|k1
  ·rw [k1];exact h.at_
  ·exact .inr λg hg=>qH h.grown.size (k1 g hg)
theorem sE.below (hb:Below w.heap.size w w'):sE w v w' v:=⟨⟨hb.os,hb.tape,hb.output,hb.size,λi hi _=>hb.block i hi⟩,.inl rfl⟩
def vN (n p:Nat):List Nat:=(List.range n).map λk=>p / 10^k%10
theorem Ut (n p:Nat):(vN n p).length=n:=by simp [vN]
theorem Oi (n p:Nat):vN (n+1) p=vN n p++[p / 10^n%10]:=by simp [vN,XE]
theorem pi (n p:Nat):zK 10 (vN n p):=by
 intro d hd;obtain⟨j,_,rfl⟩:=List.mem_map.1 hd;exact xD _ zf
theorem Tl (p:Nat):∀n,dv 10 (vN n p)=p%10^n
 |0=>by simp [vN,dv,XZ]
 |n+1=>by rw [Oi,vR,Tl p n,Ut,ue 10 p n]
theorem Um (l:List Nat)(i k a:Nat):(l.set i a).getD k 0=if i=k/\k<l.length then a else l.getD k 0:=by
 simp only [qQ,List.getElem?_set];by_cases h:i=k
 ·subst h;by_cases h2:i<l.length
  ·simp [h2]
  ·simp [h2]
 ·simp [h]
def dJ (L:List Nat)(i:Nat)(M:List Nat):Prop:=M.length=L.length/\∀j,j<L.length->M.getD j 0=if j<i\/L.length<=j+i then L.getD (L.length - 1 - j) 0 else L.getD j 0
theorem dJ.start (L:List Nat):dJ L 0 L:=⟨rfl,λj hj=>by rw [if_neg za]⟩
theorem dJ.step {L M:List Nat}{j:Nat}(h:dJ L i M)(hij:i+j+1=L.length)(hlt:i<j):dJ L (i+1) ((M.set i (M.getD j 0)).set j (M.getD i 0)):=by
 obtain⟨h1,h2⟩:=h;refine⟨by simpa using h1,λk hk=>?_⟩;rw [Um,Um,QY,h1];by_cases hkj:j=k
 ·subst hkj;rw [if_pos ⟨rfl,hk⟩,if_pos za,h2 i za,if_neg za];congr 1;omega
 ·rw [if_neg za];by_cases hki:i=k
  ·subst hki;rw [if_pos ⟨rfl,hk⟩,if_pos za,h2 j za,if_neg za];congr 1;omega
  ·rw [if_neg za,h2 k hk];by_cases hc:k<i\/L.length<=k+i
   ·rw [if_pos hc,if_pos za]
   ·rw [if_neg hc,if_neg za]
theorem yw.drew (h:yw g w w'):yw g w w'.drew:=⟨h.os,h.tape,h.output,h.size,h.block⟩
def ru (v:Value)(B:ze)(m:Nat):Prop:=0<m->∀ad,B=some ad->v.ownBlock≠some ad.block
theorem ru.words {x m:Nat}{B:ze}(h:ru v B m)(hx:zq w x B m d)(hg:sE w v w' v'):zq w' x B m d/\ru v' B m:=by
 refine⟨Wz hx hg.grown (λhm ad e=>(h hm ad e).symm),λhm ad e=>?_⟩;rcases hg.at_ with h1|h1
 ·rw [h1];exact h hm ad e
 ·intro h2;have:=h1 _ h2;obtain⟨ad',e',hb,_⟩:=hx.1.2 hm;rw [e] at e';injection e' with e';subst e';omega
theorem sE.blk {a:Nat}{e:TypeId}{vs:List Value}(h:sE w v w' v')(hv:w.ownsRow a e 1 v n vs)(hk:zh w g t cs)(hg:g<a):zh w' g t cs:=
 hk.grown h.grown (λe=>by have:=(hv.lt g e.symm).1;omega)
def iu (x y:Nat)(D:List Nat):Prop:=zK 10 D/\dv 10 D+10^D.length*y=x
theorem iu.start (x:Nat):iu x x []:=⟨λd hd=>by simp at hd,by simp [dv]⟩
theorem iu.step {x y:Nat}(h:iu x y D):iu x (y / 10000000000000000000) (D++vN 19 (y%10000000000000000000)):=by
 refine⟨h.1.append (pi _ _),?_⟩;rw [tU,qB,Ut,Tl,xW,show(10:Nat)^19=10000000000000000000 from rfl,Nat.mod_mod,qL,xC,<-QQ,XP];exact h.2
theorem iu.len {x y:Nat}(h:iu x y D)(hy:y≠0):10^D.length<=x:=by
 have:=h.2;have h1:10^D.length*1<=10^D.length*y:=QN _ za;omega
