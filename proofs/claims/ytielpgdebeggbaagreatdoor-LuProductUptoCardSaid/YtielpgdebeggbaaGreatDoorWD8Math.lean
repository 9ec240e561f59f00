/- What this claim leans on. -/
import Derived.Test.YtielpgdebeggbaaGreatDoorWBunT
import Derived.Deep.RegionHeld
set_option linter.unusedVariables false
set_option linter.unusedSimpArgs false
namespace Go.Proofs.YtielpgdebeggbaaGreatDoor
open Go Go.RowKit Go.Proofs.Tryz
set_option maxHeartbeats 16000000
variable {a a0:Act}{cs:Array Value}{x y z:Int}{D:List Nat}{K K' b b' c g i n:Nat}{s:Rat}{t:TypeId}{v:Value}{w w0:World}{A:ze}
theorem bW (a:Int)(g:Nat):(a / (g:Int)).natAbs<=a.natAbs:=by
 rcases xQ g with rfl|hg
 ·simp
 ·exact Int.natAbs_ediv_le_natAbs a g
theorem Rl (a b:Rat):(a+b).num.natAbs<=a.num.natAbs*b.den+b.num.natAbs*a.den:=by
 rw [Rat.num_add];refine qH (bW _ _) (qH (Int.natAbs_add_le _ _) ?_);rw [xR,xR,yB,yB];exact qX _
theorem St (a b:Rat):(a+b).den<=a.den*b.den:=by rw [Rat.den_add];exact xM _ _
theorem Rn (a b:Rat):(a*b).num.natAbs<=a.num.natAbs*b.num.natAbs:=by
 rw [Rat.num_mul];refine qH (bW _ _) ?_;rw [xR];exact qX _
theorem Su (a b:Rat):(a*b).den<=a.den*b.den:=by rw [Rat.den_mul];exact xM _ _
theorem Rm (a:Rat):(a⁻¹).num.natAbs<=a.den:=by
 rw [Rat.num_inv,xR,yB];by_cases h:a.num=0
 ·simp [h]
 ·rw [Int.natAbs_sign_of_ne_zero h,yY];exact qX _
theorem Tk (p q:Int):(Rat.divInt p q).num.natAbs<=p.natAbs:=by
 rw [Rat.num_divInt];refine qH (bW _ _) ?_;rw [xR];by_cases h:q=0
 ·simp [h]
 ·rw [Int.natAbs_sign_of_ne_zero h,yY];exact qX _
def y4 (b:Nat)(r:Rat):Prop:=r.num.natAbs<b/\r.den<b
theorem y4.up {r:Rat}(h:y4 b r)(hb:b<=b'):y4 b' r:=⟨qJ h.1 hb,qJ h.2 hb⟩
theorem y4.pos {r:Rat}(h:y4 b r):1<b:=QN (xN r.den_nz) h.2
theorem y4.add {r:Rat}(h:y4 b r)(h':y4 b' s):y4 (2*(b*b')) (r+s):=by
 have h1:r.num.natAbs*s.den<b*b':=YH h.1 h'.2;have h2:s.num.natAbs*r.den<b*b':=by rw [QQ b b'];exact YH h'.1 h.2
 have h3:r.den*s.den<b*b':=YH h.2 h'.2;have h4:=Rl r s;have h5:=St r s;exact⟨zb,zb⟩
theorem y4.mul {r:Rat}(h:y4 b r)(h':y4 b' s):y4 (b*b') (r*s):=
 ⟨QN (Rn r s) (YH h.1 h'.1),QN (Su r s) (YH h.2 h'.2)⟩
theorem y4.neg {r:Rat}(h:y4 b r):y4 b (-r):=⟨by rw [Rat.neg_num,Int.natAbs_neg];exact h.1,h.2⟩
theorem y4.sub {r:Rat}(h:y4 b r)(h':y4 b' s):y4 (2*(b*b')) (r - s):=by rw [Rat.sub_eq_add_neg];exact h.add h'.neg
theorem y4.inv {r:Rat}(h:y4 b r):y4 b r⁻¹:=by
 refine⟨QN (Rm r) h.2,?_⟩;rw [Rat.den_inv]
 split
 ·exact h.pos
 ·exact h.1
theorem y4.div {r:Rat}(h:y4 b r)(h':y4 b' s):y4 (b*b') (r / s):=by rw [Rat.div_def];exact h.mul h'.inv
theorem y4.made {p q:Int}(hp:p.natAbs<b)(hq:q.natAbs<b)(hb:1<b):y4 b (Rat.divInt p q):=by
 refine⟨QN (Tk p q) hp,?_⟩;rw [Rat.den_divInt]
 split
 ·exact hb
 ·exact QN (xM _ _) hq
theorem y4.whole (hz:z.natAbs<b)(hb:1<b):y4 b (z:Rat):=⟨by rw [yW];exact hz,by rw [YQ];exact hb⟩
def uO (r s:Rat):Int:=if r<s then -1 else if r=s then 0 else 1
theorem S3 (r s:Rat):uO r s=sj (r.num*s.den) (s.num*r.den):=by
 unfold uO sj;by_cases h1:r<s
 ·rw [if_pos h1,if_pos ((Rat.lt_iff r s).1 h1)]
 ·rw [if_neg h1,if_neg (λh=>h1 ((Rat.lt_iff r s).2 h))];by_cases h2:r=s
  ·rw [if_pos h2,if_pos (Rat.eq_iff_mul_eq_mul.1 h2)]
  ·rw [if_neg h2,if_neg (λh=>h2 (Rat.eq_iff_mul_eq_mul.2 h))]
theorem ni (r s:Rat):uO r s=0↔r=s:=by
 unfold uO;by_cases h1:r<s
 ·rw [if_pos h1];constructor
  ·intro h;omega
  ·intro h;exact absurd h (Rat.ne_of_lt h1)
 ·rw [if_neg h1];by_cases h2:r=s<;>simp [h2]
def tP (r:Rat):Int:=sP r.num
def iU (r s:Rat):Rat:=if uO r s<=0 then r else s
theorem gN (r:Rat):r*(r.den:Rat)=(r.num:Rat):=by
 have h0:(r.den:Rat)≠0:=λh=>r.den_nz (by
  have:=congrArg Rat.num h;rw [Rat.num_natCast] at this;exact Int.ofNat.inj this)
 have h1:r=(r.num:Rat) / ((r.den:Int):Rat):=by
  have:=Rat.num_divInt_den r;rw [Rat.divInt_eq_div] at this;exact this.symm
 have h2:((r.den:Int):Rat)=(r.den:Rat):=rfl;rw [h2] at h1;generalize r.num=p at*;generalize r.den=q at*;rw [h1,Rat.div_mul_cancel h0]
theorem qk (p q:Int)(hq:q≠0):(Rat.divInt p q).num.natAbs=p.natAbs / Nat.gcd p.natAbs q.natAbs:=by
 rw [Rat.num_divInt,Int.gcd];have hd:(Nat.gcd q.natAbs p.natAbs:Int)∣ q.sign*p:=Int.dvd_trans (Int.ofNat_dvd_left.2 (XI ..)) (Int.dvd_mul_left ..);rw [Int.natAbs_ediv_of_dvd hd,xR,Int.natAbs_sign_of_ne_zero hq,yY,yB,yE]
theorem qj (p q:Int)(hq:q≠0):(Rat.divInt p q).den=q.natAbs / Nat.gcd p.natAbs q.natAbs:=by
 rw [Rat.den_divInt,if_neg hq,Int.gcd,yE]
theorem Q2 (p q:Int)(hq:q≠0):(Rat.divInt p q).num<0↔(p<0/\0<q\/0<p/\q<0):=by
 rw [Rat.num_divInt];have a:0<(q.gcd p:Int):=by
  have:0<q.gcd p:=Int.gcd_pos_of_ne_zero_left p hq;omega
 have e:q.sign*p / (q.gcd p:Int)<0↔q.sign*p<0:=by
  constructor
  ·intro h;refine Int.not_le.1 λh1=>?_;have:=YC h1 (Int.le_of_lt a);omega
  ·intro h;exact Int.ediv_neg_of_neg_of_pos h a
 rw [e];rcases Int.lt_or_gt_of_ne hq with h|h
 ·rw [Int.sign_eq_neg_one_of_neg h];omega
 ·rw [Int.sign_eq_one_of_pos h];omega
def yf (w:World)(z:Int)(b:Bool)(A:ze)(n c:Nat):Prop:=b=decide (z<0)/\zp w z.natAbs A n c
theorem yf.below {w':World}{b:Bool}(h:yf w z b A n c)(hb:Below w.heap.size w w'):yf w' z b A n c:=⟨h.1,h.2.below hb⟩
theorem yf.words {b:Bool}(h:yf w z b A n c):zp w z.natAbs A n c:=h.2
def wf (w:World)(z:Int)(e:Ending)(w':World):Prop:=∃(b:Bool) (A:ze) (n c:Nat),e=.returned (.agg #[.bool b,.slice A n c])/\yf w' z b A n c/\Below w.heap.size w w'
def jg (w:World)(x:Nat)(e:Ending)(w':World):Prop:=∃(A:ze) (n c:Nat),e=.returned (.agg #[.slice A n c])/\zp w' x A n c/\Below w.heap.size w w'
structure lR (T:World->Prop):Prop where
 new:∀(s:Bool) (x:Nat) (A:ze) (n c:Nat) (w:World),T w->zp w x A n c->n<=268435456->Calls prog 113 #[.bool s,.agg #[.slice A n c]] w (wf w (if s then -(x:Int) else(x:Int)))
 of:∀(z:Int) (w:World),T w-> -9223372036854775808<=z->z<=9223372036854775807->Calls prog 69 #[.int .i64 z] w (wf w z)
 belowI:∀(z:Int) (b:Bool) (A:ze) (n c:Nat) (w:World),T w->yf w z b A n c->n<=268435456->Calls prog 66 #[.agg #[.bool b,.slice A n c]] w λe w'=>e=.returned (.bool (decide (z<0)))/\Below w.heap.size w w'
 abs:∀(z:Int) (b:Bool) (A:ze) (n c:Nat) (w:World),T w->yf w z b A n c->n<=268435456->Calls prog 67 #[.agg #[.bool b,.slice A n c]] w (jg w z.natAbs)
 sign:∀(z:Int) (b:Bool) (A:ze) (n c:Nat) (w:World),T w->yf w z b A n c->n<=268435456->Calls prog 108 #[.agg #[.bool b,.slice A n c]] w (vO w (sP z))
 cmp:∀(x y:Int) (b b':Bool) (A D:ze) (n m c d:Nat) (w:World),T w->yf w x b A n c->yf w y b' D m d->n<=268435456->m<=268435456->Calls prog 54 #[.agg #[.bool b,.slice A n c],.agg #[.bool b',.slice D m d]] w (vO w (sj x y))
 add:∀(x y:Int) (b b':Bool) (A D:ze) (n m c d:Nat) (w:World),T w->yf w x b A n c->yf w y b' D m d->n<=268435456->m<=268435456->Calls prog 110 #[.agg #[.bool b,.slice A n c],.agg #[.bool b',.slice D m d]] w (wf w (x+y))
 mul:∀(x y:Int) (b b':Bool) (A D:ze) (n m c d:Nat) (w:World),T w->yf w x b A n c->yf w y b' D m d->n<=268435456->m<=268435456->Calls prog 94 #[.agg #[.bool b,.slice A n c],.agg #[.bool b',.slice D m d]] w (wf w (x*y))
set_option maxRecDepth 100000
theorem Vp {x:Nat}(h:zp w x A n c)(hk:zh w g t cs)(a:∀v ∈ cs.toList,∀z,v≠.int .u64 z):0<n->∀ad,A=some ad->ad.block≠g:=λhn ad e hg=>by
 obtain⟨ad',e',_,hc⟩:=h.1.2 hn;rw [e] at e';injection e' with e';subst e';have hl:=h.len;have h0:=hc 0 (.int .u64 ((dg 18446744073709551616 x).getD 0 0:Nat)) (lw .u64 _ 0 zb);have e0:ad.add 0=ad:=by unfold Addr.add;rw [if_pos rfl]
 rw [e0] at h0;obtain⟨bk,off,pr⟩:=ad;simp only at hg;subst hg;unfold zh at hk;cases pr with
 |none=>
   rw [show w.cell? ⟨bk,off,none⟩=cs[off]? from cell_of_row w bk off _ t (0,0) hk,<-QS] at h0;exact a _ (QJ h0) _ rfl
 |some q=>simp [World.cell?,hk] at h0
theorem ui {b p:Bool}{q:ze}{r s:Nat}(h:yf w z b A n c)(hk:zh w g t #[.bool p,.slice q r s])(p':Bool)(q':ze)(r' s':Nat):
  yf ((w.setCell ⟨g,0,none⟩ (.bool p')).setCell ⟨g,1,none⟩ (.slice q' r' s')) z b A n c:=by
 have h1:=eM (p:=⟨g,0,none⟩) h.2 (Vp h.2 hk (by intro v hv;simp at hv;rcases hv with rfl|rfl<;>intro z e<;>cases e)) (.bool p');exact⟨h.1,eM (p:=⟨g,1,none⟩) h1 (Vp h1 (hk.set_ 0 (.bool p')) (by intro v hv;simp at hv;rcases hv with rfl|rfl<;>intro z e<;>cases e)) _⟩
def sm (l:Array Bool):Nat:=l.toList.countP λb=> !b
section
variable {P:Program}{ops:Array Oper}{Q:Exit->Act->World->Prop}{md:Region.Mode}{S:World->Prop}
theorem uD {l:Array Bool}(hi:i ∈ Region.ready md ops l):l.getD i true=false:=(mem_ready.1 hi).1
theorem Zp {l:Array Bool}(hi:i ∈ Region.ready md ops l):i<ops.size:=by
 obtain⟨_,o,ho,_⟩:=mem_ready.1 hi;exact(Array.getElem?_eq_some_iff.1 ho).1
theorem R8 {k:Nat}{l:Array Bool}{o:Oper}{e:Edge}(hi:i ∈ Region.ready md ops l)(ho:ops[i]?=some o)(he:o.after[k]?=some e)(hb:Region.binds md e=true):l.getD e.on false=true:=by
 obtain⟨_,o',a,h⟩:=mem_ready.1 hi;rw [ho] at a;cases a;exact h e (Array.mem_of_getElem? he) hb
theorem SV {l:Array Bool}{o:Oper}(h:Region.ready md ops l=[])(ho:ops[i]?=some o)(hr:(o.after.toList.all λe=> !Region.binds md e||l.getD e.on false)=true):l.getD i true=true:=by
 cases hl:l.getD i true
 ·have:i ∈ Region.ready md ops l:=mem_ready.2 ⟨hl,o,ho,λe he hb=>by
   have:=List.all_eq_true.1 hr e (by simpa using he);rw [hb] at this;simpa using this⟩
  rw [h] at this;cases this
 ·rfl
theorem Ur {l:Array Bool}(h:l.getD i true=false):sm (l.setIfInBounds i true)+1=sm l:=by
 obtain⟨l⟩:=l;unfold sm;have hi:i<l.length:=by
  rcases XQ i l.length with h'|h'
  ·exact h'
  ·simp [QL h'] at h
 have hv:l[i]=false:=by simpa [hi] using h
 simp only [qU];clear h
 induction l generalizing i with
 |nil=>simp at hi
 |cons b t ih=>
   cases i with
   |zero=>
     have hb:b=false:=hv;subst hb;simp
   |succ j=>
     have:=ih (i:=j) (by simpa using hi) (by simpa using hv);simp only [qP,List.countP_cons];omega
theorem RW {l:Array Bool}(h:sm l=0):Region.ready md ops l=[]:=by
 refine List.eq_nil_iff_forall_not_mem.2 λi hi=>?_;have:=Ur (uD hi);omega
theorem Yx {J:Act->Array Bool->Act->World->Prop}{L:Array Bool}(d:∀l a w,J a0 l a w->Region.ready md ops l=[]->l=L)
  (j:∀l a w i,J a0 l a w->l≠L->i ∈ Region.ready md ops l->wpOp P ops Q i (λa' w'=>S w'/\J a0 (l.setIfInBounds i true) a' w') a w)
  (g:∀a w,J a0 L a w->wpAnyH P md ops Q S (sm L) L a w):∀(c:Nat) (l:Array Bool) (a:Act) (w:World),sm l=c->J a0 l a w->wpAnyH P md ops Q S c l a w:=by
 intro c
 induction c with
 |zero=>
   intro l a w hd hJ;have e:=d l a w hJ (RW hd);subst e;have:=g a w hJ;rwa [hd] at this
 |succ n ih=>
   intro l a w hd hJ;by_cases hl:l=L
   ·subst hl;have:=g a w hJ;rwa [hd] at this
   ·refine⟨λh=>absurd (d l a w hJ h) hl,λi hi=>?_⟩;exact wpOp_mono (λa' w' ⟨h1,h2⟩=>⟨h1,ih _ a' w' (by have:=Ur (uD hi);omega) h2⟩) (j l a w i hJ hl hi)
theorem ST {J:Act->Array Bool->Act->World->Prop}{L:Array Bool}{l0:Array Bool}(hd:sm l0=c)(h0:J a0 l0 a0 w0)
  (d:∀l a w,J a0 l a w->Region.ready md ops l=[]->l=L)
  (h:∀l a w i,J a0 l a w->l≠L->i ∈ Region.ready md ops l->wpOp P ops Q i (λa' w'=>S w'/\J a0 (l.setIfInBounds i true) a' w') a w)
  (g:∀a w,J a0 L a w->wpAnyH P md ops Q S (sm L) L a w):wpAnyH P md ops Q S c l0 a0 w0:=
 Yx d h g c l0 a0 w0 hd h0
end
def Gd (f:Bool)(p:Prop):Prop:=f=true->p
theorem Gd.no {p:Prop}:Gd false p:=λh=>by cases h
theorem Gd.yes {p:Prop}(h:p):Gd true p:=λ_=>h
theorem Gd.get {p:Prop}(h:Gd true p):p:=h rfl
theorem Gd.mono {f:Bool}{p q:Prop}(h:Gd f p)(k:p->q):Gd f q:=λe=>k (h e)
def uQ (b:Nat)(w:World)(g:Nat)(t:TypeId)(cs:Array Value)(v:Value):Prop:=v=.pointer (some ⟨g,0,none⟩)/\b<=g/\w.heap[g]?=some (.cells cs t (0,0))
theorem uQ.lt {t:TypeId}{cs:Array Value}(h:uQ b w g t cs v):g<w.heap.size:=(Array.getElem?_eq_some_iff.1 h.2.2).1
theorem uQ.keep {w':World}(h:uQ b w g t cs v)(hb:Below w.heap.size w w'):uQ b w' g t cs v:=⟨h.1,h.2.1,(hb.block g h.lt).trans h.2.2⟩
theorem uQ.new (b:Nat)(w:World)(t:TypeId)(cs:Array Value)(hb:b<=w.heap.size):uQ b (w.alloc (.cells cs t)) w.heap.size t cs (.pointer (some ⟨w.heap.size,0,none⟩)):=⟨rfl,hb,heap_alloc_new w _⟩
theorem SzI.add (h:Sz K x.natAbs)(h':Sz K' y.natAbs):Sz (K+K'+1) (x+y).natAbs:=
 Sz.of_le (Sz.add (h.up (by omega:K<=K+K')) (h'.up (by omega:K'<=K+K'))) (Int.natAbs_add_le x y)
theorem SzI.sub (h:Sz K x.natAbs)(h':Sz K' y.natAbs):Sz (K+K'+1) (x - y).natAbs:=by
 rw [Int.sub_eq_add_neg];exact SzI.add h (by rw [Int.natAbs_neg];exact h')
theorem SzI.mul (h:Sz K x.natAbs)(h':Sz K' y.natAbs):Sz (K+K') (x*y).natAbs:=by
 rw [xR];exact Sz.mul h h'
theorem SzI.neg (h:Sz K x.natAbs):Sz K (-x).natAbs:=by rw [Int.natAbs_neg];exact h
theorem iZ (x y:Int):(qI x y).natAbs<=x.natAbs:=by
 by_cases hy:y=0
 ·subst hy;unfold qI;simp
 ·have h1:=gh x y;have h2:=pw (x:=x) hy;have h3:=mt (x:=x) hy;generalize rI x y=r at*;generalize qI x y=q at*;by_cases hq:q=0
  ·subst hq;simp
  ·have e:x.natAbs+r.natAbs>=q.natAbs*y.natAbs:=by
    rw [<-xR];have:=Int.natAbs_sub_le x r;rw [show x - r=q*y by omega] at this;exact this
   have hq1:1<=q.natAbs:=zb;have a:1<=y.natAbs:=zb;rcases h3 with h3|h3
   ·subst h3;have:q.natAbs*1<=q.natAbs*y.natAbs:=QM _ a;simp at e;omega
   ·-- what is left has the divisor's side:the quotient is not farther out than the number
    have e2:(x - r).natAbs=q.natAbs*y.natAbs:=by rw [<-xR];congr 1;omega
    rcases Int.lt_trichotomy q 0 with hq0|hq0|hq0
    ·-- below 0:x and y lie on two sides
     have:(q.natAbs - 1)*y.natAbs+y.natAbs=q.natAbs*y.natAbs:=by
      obtain⟨k,hk⟩:∃k,q.natAbs=k+1:=⟨q.natAbs - 1,zb⟩;rw [hk,Nat.add_sub_cancel,QE,yY]
     have hm:(q.natAbs - 1)*1<=(q.natAbs - 1)*y.natAbs:=QM _ a;by_cases hy2:y.natAbs=1
     ·omega
     ·by_cases hk:q.natAbs=1
      ·have hx0:x≠0:=by
        intro hx;subst hx;rw [hk,yY] at e2;omega
       omega
      ·have hm2:(q.natAbs - 1)*2<=(q.natAbs - 1)*y.natAbs:=QM _ zb;omega
    ·omega
    ·have hxr:x.natAbs=q.natAbs*y.natAbs+r.natAbs:=by
      rcases h3 with⟨ha,hb⟩|⟨ha,hb⟩
      ·have:0<q*y:=Int.mul_pos hq0 hb;have e3:(q*y).natAbs=q.natAbs*y.natAbs:=xR _ _;omega
      ·have:q*y<0:=Int.mul_neg_of_pos_of_neg hq0 hb;have e3:(q*y).natAbs=q.natAbs*y.natAbs:=xR _ _;omega
     have:q.natAbs*1<=q.natAbs*y.natAbs:=QM _ a;omega
theorem SzI.q (y:Int)(h:Sz K x.natAbs):Sz K (qI x y).natAbs:=Sz.of_le h (iZ x y)
theorem SzI.r (x:Int)(hy:y≠0)(h:Sz K y.natAbs):Sz K (rI x y).natAbs:=Sz.of_le h (qG (pw hy))
section
variable {P:Program}{f:FuncId}{args:Array Value}{w:World}
theorem nG (h:x=y)(hc:Calls P f args w (vO w (sj x y))):Calls P f args w (vO w 0):=by rw [(dR x y).2 h] at hc;exact hc
end
def tc (D:List Nat)(a0 a:Act):Prop:=a.defers=a0.defers/\a.tmps.size=a0.tmps.size/\∀j,j ∉ D->a.tmps.getD j undef=a0.tmps.getD j undef
theorem tc.refl (D:List Nat)(a:Act):tc D a a:=⟨rfl,rfl,λ_ _=>rfl⟩
theorem oT {j:Nat}(h:j≠i)(v:Value):(a.put (some i) v).tmps.getD j undef=a.tmps.getD j undef:=by
 simp only [Act.put,QR];rw [qK (Ne.symm h)]
theorem ou (h:i<a.tmps.size)(v:Value):(a.put (some i) v).tmps.getD i undef=v:=by
 simp only [Act.put,QR];rw [qM h];rfl
theorem eZ (a:Act)(i:Nat)(v:Value):(a.put (some i) v).tmps.size=a.tmps.size:=by simp [Act.put]
theorem tc.put (h:tc D a0 a){i:Nat}(hi:i ∈ D)(v:Value):tc D a0 (a.put (some i) v):=
 ⟨h.1,by rw [eZ];exact h.2.1,λj hj=>(oT (λe=>hj (by rw [e];exact hi)) v).trans (h.2.2 j hj)⟩
theorem tc.get (h:tc D a0 a)(j:Nat)(hj:j ∉ D){v:Value}(hv:a0.tmps.getD j undef=v):a.tmps.getD j undef=v:=(h.2.2 j hj).trans hv
theorem tc.lt (h:tc D a0 a){j:Nat}(hj:j<a0.tmps.size):j<a.tmps.size:=by rw [h.2.1];exact hj
theorem o7 {b:Act}(hd:a.defers=b.defers)(hs:a.tmps.size=b.tmps.size)(hg:∀j,a.tmps.getD j undef=b.tmps.getD j undef):a=b:=by
 obtain⟨at_,ad⟩:=a;obtain⟨bt,bd⟩:=b;simp only at hd hs hg;subst hd;congr 1;refine Array.ext hs λj h1 h2=>?_;have:=hg j;simp only [QR,QY h1,QY h2] at this;exact this
def tH (vs:List (Nat×Value))(a:Act):Act:=vs.foldl (λa p=>a.put (some p.1) p.2) a
theorem Y4 (vs:List (Nat×Value))(a:Act):(tH vs a).tmps.size=a.tmps.size/\(tH vs a).defers=a.defers:=by
 unfold tH
 induction vs generalizing a with
 |nil=>exact⟨rfl,rfl⟩
 |cons p t ih=>rw [List.foldl_cons];have:=ih (a.put (some p.1) p.2);exact⟨this.1.trans (eZ _ _ _),this.2⟩
theorem Rp (vs:List (Nat×Value))(a b:Act)(hs:b.tmps.size=a.tmps.size)(hv:∀p ∈ vs,a.tmps.getD p.1 undef=p.2):∀j,(tH vs b).tmps.getD j undef=if j ∈ vs.map Prod.fst then a.tmps.getD j undef else b.tmps.getD j undef:=by
 intro j
 induction vs generalizing b with
 |nil=>rfl
 |cons p t ih=>
   show(tH t (b.put (some p.1) p.2)).tmps.getD j undef=_;rw [ih (b.put (some p.1) p.2) (by rw [eZ];exact hs) (λq hq=>hv q (XB _ hq))];by_cases h1:j ∈ t.map Prod.fst
   ·rw [if_pos h1,if_pos (by rw [yK];exact XB _ h1)]
   ·rw [if_neg h1];by_cases h2:j=p.1
    ·rw [if_pos (by rw [yK,h2];exact xW),h2,hv p xW];by_cases h3:p.1<b.tmps.size
     ·exact ou h3 _
     ·have h4:=hv p xW;have h5:¬ p.1<a.tmps.size:=by rw [<-hs];exact h3
      simp only [QR] at h4⊢;rw [Array.getElem?_eq_none zb] at h4;rw [Array.getElem?_eq_none (by rw [eZ];omega)];exact h4
    ·rw [if_neg (by rw [yK];intro h;rcases List.mem_cons.1 h with h|h;exact h2 h;exact h1 h)];exact oT h2 _
theorem tc.eq (h:tc D a0 a)(vs:List (Nat×Value))(hD:vs.map Prod.fst=D)(hv:∀p ∈ vs,a.tmps.getD p.1 undef=p.2):a=tH vs a0:=by
 subst hD;refine o7 (h.1.trans (Y4 vs a0).2.symm) (h.2.1.trans (Y4 vs a0).1.symm) λj=>?_;rw [Rp vs a a0 h.2.1.symm hv j];by_cases h1:j ∈ vs.map Prod.fst
 ·rw [if_pos h1]
 ·rw [if_neg h1];exact h.2.2 j h1
section
variable {P:Program}{ops0:Array Oper}{Q:Exit->Act->World->Prop}{md:Region.Mode}{S:World->Prop}
theorem T5 {J:Act->Array Bool->Act->World->Prop}{L:Array Bool}{l0:Array Bool}(hd:sm l0=c)(h0:J a0 l0 a0 w0)
  (g:∀(h:Array Oper) (A0:Act) (Q':Exit->Act->World->Prop),h=ops0->A0.tmps.size=a0.tmps.size->(∀i d,A0.tmps.getD i d=a0.tmps.getD i d)->(∀l a w,J A0 l a w->Region.ready md h l=[]->l=L)/\∀l a w i,J A0 l a w->l≠L->i ∈ Region.ready md h l->wpOp P h Q' i (λa' w'=>S w'/\J A0 (l.setIfInBounds i true) a' w') a w)
  (j:∀a w,J a0 L a w->wpAnyH P md ops0 Q S (sm L) L a w):wpAnyH P md ops0 Q S c l0 a0 w0:=
 Yx (g ops0 a0 Q rfl rfl (λ_ _=>rfl)).1 (g ops0 a0 Q rfl rfl (λ_ _=>rfl)).2 j c l0 a0 w0 hd h0
theorem cG {c:Array Oper}{o:Oper}{K:Act->World->Prop}(ho:c[i]?=some o)(hg:o.guard=none)
  (h:∀K':Act->World->Prop,Shut (∀a w,K a w->K' a w)->Oper.wp P o a w K' Q):wpOp P c Q i K a w:=
 wpOp_step ho λK' hK=>by
  rw [if_pos (by unfold Region.wanted;rw [hg])];exact h K' hK
theorem VU {o:Oper}{K:Act->World->Prop}{w':World}{v:Value}(h:(execOp a.eval o).run P w=.ok (.value v) w')(hK:K (a.put o.dst v) w'):Oper.wp P o a w K Q:=by
 unfold Oper.wp;rw [h];exact hK
theorem Vl {o:Oper}{K:Act->World->Prop}{x:Nat}(ho:o.op=.move (.tmp x)\/o.op=.assign (.tmp x))(hx:a.tmps.getD x undef=v)(hK:K (a.put o.dst v) w):Oper.wp P o a w K Q:=by
 refine VU (v:=v) (w':=w) ?_ hK;unfold execOp;rcases ho with ho|ho<;>rw [ho]<;>simp only [Act.eval,hx]<;>rfl
theorem bV {o:Oper}{K:Act->World->Prop}{x k:Nat}{vs:Array Value}(ho:o.op=.extract (.tmp x) k)(hx:a.tmps.getD x undef=.tuple vs)(hk:vs[k]?=some v)(hK:K (a.put o.dst v) w):Oper.wp P o a w K Q:=by
 refine VU (v:=v) (w':=w) ?_ hK;unfold execOp;rw [ho];simp only [Act.eval,hx,Instr.extract,hk];rfl
end
