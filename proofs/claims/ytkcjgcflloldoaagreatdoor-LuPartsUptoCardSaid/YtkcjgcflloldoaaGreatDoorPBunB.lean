/- What this claim leans on. -/
import Derived.Test.YtkcjgcflloldoaaGreatDoorPBunQ
import Derived.Deep.RegionHeld
import Derived.OrdersHeld
set_option linter.unusedVariables false
set_option linter.unusedSimpArgs false
namespace Go.Proofs.YtkcjgcflloldoaaGreatDoor
open Go Go.RowKit Go.Proofs.Tryz
set_option maxHeartbeats 16000000
variable {a0:Act}{cs:Array Value}{b:Bool}{x y z:Int}{M:List Nat}{K K' c f g i j k n:Nat}{t:TypeId}{v:Value}{w w':World}{A E:ze}
def z6 (w:World)(z:Int)(b:Bool)(A:ze)(n c:Nat):Prop:=b=decide (z<0)/\zo w z.natAbs A n c
theorem z6.below (h:z6 w z b A n c)(hb:Below w.heap.size w w'):z6 w' z b A n c:=⟨h.1,h.2.below hb⟩
theorem z6.words (h:z6 w z b A n c):zo w z.natAbs A n c:=h.2
def ww (w:World)(z:Int)(e:Ending)(w':World):Prop:=∃(b:Bool) (A:ze) (n c:Nat),e=.returned (.agg #[.bool b,.slice A n c])/\z6 w' z b A n c/\Below w.heap.size w w'
def iQ (w:World)(x:Nat)(e:Ending)(w':World):Prop:=∃(A:ze) (n c:Nat),e=.returned (.agg #[.slice A n c])/\zo w' x A n c/\Below w.heap.size w w'
structure vf (T:World->Prop):Prop where
 new:∀(s:Bool) (x:Nat) (A:ze) (n c:Nat) (w:World),T w->zo w x A n c->n<=268435456->Calls prog 118 #[.bool s,.agg #[.slice A n c]] w (ww w (if s then -(x:Int) else(x:Int)))
 of:∀(z:Int) (w:World),T w-> -9223372036854775808<=z->z<=9223372036854775807->Calls prog 123 #[.int .i64 z] w (ww w z)
 belowI:∀(z:Int) (b:Bool) (A:ze) (n c:Nat) (w:World),T w->z6 w z b A n c->n<=268435456->Calls prog 61 #[.agg #[.bool b,.slice A n c]] w λe w'=>e=.returned (.bool (decide (z<0)))/\Below w.heap.size w w'
 abs:∀(z:Int) (b:Bool) (A:ze) (n c:Nat) (w:World),T w->z6 w z b A n c->n<=268435456->Calls prog 62 #[.agg #[.bool b,.slice A n c]] w (iQ w z.natAbs)
 sign:∀(z:Int) (b:Bool) (A:ze) (n c:Nat) (w:World),T w->z6 w z b A n c->n<=268435456->Calls prog 100 #[.agg #[.bool b,.slice A n c]] w (wR w (vY z))
 cmp:∀(x y:Int) (b b':Bool) (A D:ze) (n m c d:Nat) (w:World),T w->z6 w x b A n c->z6 w y b' D m d->n<=268435456->m<=268435456->Calls prog 80 #[.agg #[.bool b,.slice A n c],.agg #[.bool b',.slice D m d]] w (wR w (sK x y))
 add:∀(x y:Int) (b b':Bool) (A D:ze) (n m c d:Nat) (w:World),T w->z6 w x b A n c->z6 w y b' D m d->n<=268435456->m<=268435456->Calls prog 115 #[.agg #[.bool b,.slice A n c],.agg #[.bool b',.slice D m d]] w (ww w (x+y))
 mul:∀(x y:Int) (b b':Bool) (A D:ze) (n m c d:Nat) (w:World),T w->z6 w x b A n c->z6 w y b' D m d->n<=268435456->m<=268435456->Calls prog 111 #[.agg #[.bool b,.slice A n c],.agg #[.bool b',.slice D m d]] w (ww w (x*y))
set_option maxRecDepth 100000
theorem UP {x:Nat}(h:zo w x A n c)(hk:zh w g t cs)(a:∀v ∈ cs.toList,∀z,v≠.int .u64 z):0<n->∀ad,A=some ad->ad.block≠g:=λhn ad e hg=>by
 obtain⟨ad',e',_,hc⟩:=h.1.2 hn;rw [e] at e';injection e' with e';subst e';have hl:=h.len;have h0:=hc 0 (.int .u64 ((dg 18446744073709551616 x).getD 0 0:Nat)) (kj .u64 _ 0 za);have e0:ad.add 0=ad:=by unfold Addr.add;rw [if_pos rfl]
 rw [e0] at h0;obtain⟨bk,off,pr⟩:=ad;simp only at hg;subst hg;unfold zh at hk;cases pr with
 |none=>
   rw [show w.cell? ⟨bk,off,none⟩=cs[off]? from cell_of_row w bk off _ t (0,0) hk,<-QR] at h0;exact a _ (QY h0) _ rfl
 |some q=>simp [World.cell?,hk] at h0
theorem uI {p:Bool}{q:ze}{r s:Nat}(h:z6 w z b A n c)(hk:zh w g t #[.bool p,.slice q r s])(p':Bool)(q':ze)(r' s':Nat):
  z6 ((w.setCell ⟨g,0,none⟩ (.bool p')).setCell ⟨g,1,none⟩ (.slice q' r' s')) z b A n c:=by
 have h1:=aM (p:=⟨g,0,none⟩) h.2 (UP h.2 hk (by intro v hv;simp at hv;rcases hv with rfl|rfl<;>intro z e<;>cases e)) (.bool p');exact⟨h.1,aM (p:=⟨g,1,none⟩) h1 (UP h1 (hk.set_ 0 (.bool p')) (by intro v hv;simp at hv;rcases hv with rfl|rfl<;>intro z e<;>cases e)) _⟩
def tY (l:Array Bool):Nat:=l.toList.countP λb=> !b
section
variable {P:Program}{ops:Array Oper}{Q:Exit->Act->World->Prop}{md:Region.Mode}{S:World->Prop}
theorem xw {l:Array Bool}(hi:i ∈ Region.ready md ops l):l.getD i true=false:=(mem_ready.1 hi).1
theorem cK {l:Array Bool}(hi:i ∈ Region.ready md ops l):i<ops.size:=by
 obtain⟨_,o,ho,_⟩:=mem_ready.1 hi;exact(Array.getElem?_eq_some_iff.1 ho).1
theorem Nk {l:Array Bool}{o:Oper}{e:Edge}(hi:i ∈ Region.ready md ops l)(ho:ops[i]?=some o)(he:o.after[k]?=some e)(hb:Region.binds md e=true):l.getD e.on false=true:=by
 obtain⟨_,o',a,h⟩:=mem_ready.1 hi;rw [ho] at a;cases a;exact h e (Array.mem_of_getElem? he) hb
theorem PM {l:Array Bool}{o:Oper}(h:Region.ready md ops l=[])(ho:ops[i]?=some o)(hr:(o.after.toList.all λe=> !Region.binds md e||l.getD e.on false)=true):l.getD i true=true:=by
 cases hl:l.getD i true
 ·have:i ∈ Region.ready md ops l:=mem_ready.2 ⟨hl,o,ho,λe he hb=>by
   have:=List.all_eq_true.1 hr e (by simpa using he);rw [hb] at this;simpa using this⟩
  rw [h] at this;cases this
 ·rfl
theorem Sl {l:Array Bool}(h:l.getD i true=false):tY (l.setIfInBounds i true)+1=tY l:=by
 obtain⟨l⟩:=l;unfold tY;have hi:i<l.length:=by
  rcases xW i l.length with h'|h'
  ·exact h'
  ·simp [QE h'] at h
 have hv:l[i]=false:=by simpa [hi] using h
 simp only [qU];clear h
 induction l generalizing i with
 |nil=>simp at hi
 |cons b t ih=>
   cases i with
   |zero=>
     have hb:b=false:=hv;subst hb;simp
   |succ j=>
     have:=ih (i:=j) (by simpa using hi) (by simpa using hv);simp only [qR,List.countP_cons];omega
theorem Nr {l:Array Bool}(h:tY l=0):Region.ready md ops l=[]:=by
 refine List.eq_nil_iff_forall_not_mem.2 λi hi=>?_;have:=Sl (xw hi);omega
theorem Vm {J:Act->Array Bool->Act->World->Prop}{L:Array Bool}(d:∀l a w,J a0 l a w->Region.ready md ops l=[]->l=L)
  (j:∀l a w i,J a0 l a w->l≠L->i ∈ Region.ready md ops l->wpOp P ops Q i (λa' w'=>S w'/\J a0 (l.setIfInBounds i true) a' w') a w)
  (g:∀a w,J a0 L a w->wpAnyH P md ops Q S (tY L) L a w):∀(c:Nat) (l:Array Bool) (a:Act) (w:World),tY l=c->J a0 l a w->wpAnyH P md ops Q S c l a w:=by
 intro c
 induction c with
 |zero=>
   intro l a w hd hJ;have e:=d l a w hJ (Nr hd);subst e;have:=g a w hJ;rwa [hd] at this
 |succ n ih=>
   intro l a w hd hJ;by_cases hl:l=L
   ·subst hl;have:=g a w hJ;rwa [hd] at this
   ·refine⟨λh=>absurd (d l a w hJ h) hl,λi hi=>?_⟩;exact wpOp_mono (λa' w' ⟨h1,h2⟩=>⟨h1,ih _ a' w' (by have:=Sl (xw hi);omega) h2⟩) (j l a w i hJ hl hi)
theorem PK {J:Act->Array Bool->Act->World->Prop}{L:Array Bool}{l0:Array Bool}{w0:World}(hd:tY l0=c)(h0:J a0 l0 a0 w0)
  (d:∀l a w,J a0 l a w->Region.ready md ops l=[]->l=L)
  (j:∀l a w i,J a0 l a w->l≠L->i ∈ Region.ready md ops l->wpOp P ops Q i (λa' w'=>S w'/\J a0 (l.setIfInBounds i true) a' w') a w)
  (g:∀a w,J a0 L a w->wpAnyH P md ops Q S (tY L) L a w):wpAnyH P md ops Q S c l0 a0 w0:=
 Vm d j g c l0 a0 w0 hd h0
end
def Gd (f:Bool)(p:Prop):Prop:=f=true->p
theorem Gd.no {p:Prop}:Gd false p:=λh=>by cases h
theorem Gd.yes {p:Prop}(h:p):Gd true p:=λ_=>h
theorem Gd.get {p:Prop}(h:Gd true p):p:=h rfl
theorem Gd.mono {f:Bool}{p q:Prop}(h:Gd f p)(k:p->q):Gd f q:=λe=>k (h e)
def tt (b:Nat)(w:World)(g:Nat)(t:TypeId)(cs:Array Value)(v:Value):Prop:=v=.pointer (some ⟨g,0,none⟩)/\b<=g/\w.heap[g]?=some (.cells cs t (0,0))
theorem tt.lt {b:Nat}{t:TypeId}{cs:Array Value}(h:tt b w g t cs v):g<w.heap.size:=(Array.getElem?_eq_some_iff.1 h.2.2).1
theorem tt.keep {b:Nat}{w':World}(h:tt b w g t cs v)(hb:Below w.heap.size w w'):tt b w' g t cs v:=⟨h.1,h.2.1,(hb.block g h.lt).trans h.2.2⟩
theorem tt.new (b:Nat)(w:World)(t:TypeId)(cs:Array Value)(hb:b<=w.heap.size):tt b (w.alloc (.cells cs t)) w.heap.size t cs (.pointer (some ⟨w.heap.size,0,none⟩)):=⟨rfl,hb,heap_alloc_new w _⟩
theorem SzI.add (h:Sz K x.natAbs)(h':Sz K' y.natAbs):Sz (K+K'+1) (x+y).natAbs:=
 Sz.of_le (Sz.add (h.up (by omega:K<=K+K')) (h'.up (by omega:K'<=K+K'))) (Int.natAbs_add_le x y)
theorem SzI.sub (h:Sz K x.natAbs)(h':Sz K' y.natAbs):Sz (K+K'+1) (x - y).natAbs:=by
 rw [Int.sub_eq_add_neg];exact SzI.add h (by rw [Int.natAbs_neg];exact h')
theorem SzI.mul (h:Sz K x.natAbs)(h':Sz K' y.natAbs):Sz (K+K') (x*y).natAbs:=by
 rw [xN];exact Sz.mul h h'
theorem SzI.neg (h:Sz K x.natAbs):Sz K (-x).natAbs:=by rw [Int.natAbs_neg];exact h
theorem eK (x y:Int):(qI x y).natAbs<=x.natAbs:=by
 by_cases hy:y=0
 ·subst hy;unfold qI;simp
 ·have h1:=eM x y;have h2:=pW (x:=x) hy;have h3:=lr (x:=x) hy;generalize rI x y=r at*;generalize qI x y=q at*;by_cases hq:q=0
  ·subst hq;simp
  ·have e:x.natAbs+r.natAbs>=q.natAbs*y.natAbs:=by
    rw [<-xN];have:=Int.natAbs_sub_le x r;rw [show x - r=q*y by omega] at this;exact this
   have hq1:1<=q.natAbs:=za;have a:1<=y.natAbs:=za;rcases h3 with h3|h3
   ·subst h3;have:q.natAbs*1<=q.natAbs*y.natAbs:=QW _ a;simp at e;omega
   ·-- what is left has the divisor's side:the quotient is not farther out than the number
    have e2:(x - r).natAbs=q.natAbs*y.natAbs:=by rw [<-xN];congr 1;omega
    rcases Int.lt_trichotomy q 0 with hq0|hq0|hq0
    ·-- below 0:x and y lie on two sides
     have:(q.natAbs - 1)*y.natAbs+y.natAbs=q.natAbs*y.natAbs:=by
      obtain⟨k,hk⟩:∃k,q.natAbs=k+1:=⟨q.natAbs - 1,za⟩;rw [hk,Nat.add_sub_cancel,QN,yP]
     have hm:(q.natAbs - 1)*1<=(q.natAbs - 1)*y.natAbs:=QW _ a;by_cases hy2:y.natAbs=1
     ·omega
     ·by_cases hk:q.natAbs=1
      ·have hx0:x≠0:=by
        intro hx;subst hx;rw [hk,yP] at e2;omega
       omega
      ·have hm2:(q.natAbs - 1)*2<=(q.natAbs - 1)*y.natAbs:=QW _ za;omega
    ·omega
    ·have hxr:x.natAbs=q.natAbs*y.natAbs+r.natAbs:=by
      rcases h3 with⟨ha,hb⟩|⟨ha,hb⟩
      ·have:0<q*y:=Int.mul_pos hq0 hb;have e3:(q*y).natAbs=q.natAbs*y.natAbs:=xN _ _;omega
      ·have:q*y<0:=Int.mul_neg_of_pos_of_neg hq0 hb;have e3:(q*y).natAbs=q.natAbs*y.natAbs:=xN _ _;omega
     have:q.natAbs*1<=q.natAbs*y.natAbs:=QW _ a;omega
theorem SzI.q (y:Int)(h:Sz K x.natAbs):Sz K (qI x y).natAbs:=Sz.of_le h (eK x y)
theorem SzI.r (x:Int)(hy:y≠0)(h:Sz K y.natAbs):Sz K (rI x y).natAbs:=Sz.of_le h (QK (pW hy))
theorem Y7 {x:Nat}(h:zE w x A n c)(hx:x=0):n=0:=by rw [h.len,hx];rfl
theorem Wn {x:Nat}(h:zE w x A n c)(hx:x≠0):0<n:=by
 rw [h.len];exact(jA (b:=65536) zf x hx).1
theorem lH (h:0<x):vY x=1:=by unfold vY;rw [if_neg za,if_neg za]
theorem lF (h:x<0):vY x= -1:=by unfold vY;rw [if_pos h]
section
variable {P:Program}{f:FuncId}{args:Array Value}{w:World}
theorem mo (h:x=y)(hc:Calls P f args w (wR w (sK x y))):Calls P f args w (wR w 0):=by rw [(Zq x y).2 h] at hc;exact hc
theorem Yr {b:Bool}(h:decide (z<0)=b)(hc:Calls P f args w λe w'=>e=.returned (.bool (decide (z<0)))/\Below w.heap.size w w'):Calls P f args w λe w'=>e=.returned (.bool b)/\Below w.heap.size w w':=by rw [h] at hc;exact hc
theorem Wq {v:Int}(h:vY x=v)(hc:Calls P f args w (wR w (vY x))):Calls P f args w (wR w v):=by rw [h] at hc;exact hc
end
def tQ (w:World)(q:Nat)(A:ze)(n c:Nat):Prop:=∃x,(q=(if x=0 then 1 else x)/\x≠1)/\zo w x A n c
theorem tQ.below {q:Nat}(h:tQ w q A n c)(hb:Below w.heap.size w w'):tQ w' q A n c:=by
 obtain⟨x,e,h1⟩:=h;exact⟨x,e,h1.below hb⟩
def zp (w:World)(r:Rat)(b:Bool)(A:ze)(n c:Nat)(E:ze)(k f:Nat):Prop:=z6 w r.num b A n c/\tQ w r.den E k f
theorem zp.below {r:Rat}(h:zp w r b A n c E k f)(hb:Below w.heap.size w w'):zp w' r b A n c E k f:=⟨h.1.below hb,h.2.below hb⟩
theorem zp.to {r s:Rat}(e:r=s)(h:zp w r b A n c E k f):zp w s b A n c E k f:=e▸h
def yp (w:World)(r:Rat)(e:Ending)(w':World):Prop:=∃(b:Bool) (A:ze) (n c:Nat) (E:ze) (k f:Nat),e=.returned (.agg #[.bool b,.slice A n c,.slice E k f])/\zp w' r b A n c E k f/\Below w.heap.size w w'
def uK (w:World)(r:Rat)(t:Bool)(e:Ending)(w':World):Prop:=∃(b:Bool) (A:ze) (n c:Nat) (E:ze) (k f:Nat),e=.returned (.tuple #[.agg #[.bool b,.slice A n c,.slice E k f],.bool t])/\zp w' r b A n c E k f/\Below w.heap.size w w'
def zV (n k:Nat):Prop:=n<=67108864/\k<=67108864
structure kJ (T:World->Prop):Prop where
 mul:∀(r s:Rat) (b b':Bool) (A A':ze) (n n' c c':Nat) (E E':ze) (k k' f f':Nat) (w:World),T w->zp w r b A n c E k f->zp w s b' A' n' c' E' k' f'->zV n k->zV n' k'->Calls prog 56 #[.agg #[.bool b,.slice A n c,.slice E k f],.agg #[.bool b',.slice A' n' c',.slice E' k' f']] w (yp w (r*s))
 div:∀(r s:Rat) (b b':Bool) (A A':ze) (n n' c c':Nat) (E E':ze) (k k' f f':Nat) (w:World),T w->zp w r b A n c E k f->zp w s b' A' n' c' E' k' f'->zV n k->zV n' k'->s≠0->Calls prog 18 #[.agg #[.bool b,.slice A n c,.slice E k f],.agg #[.bool b',.slice A' n' c',.slice E' k' f']] w (uK w (r / s) true)
 divNo:∀(r s:Rat) (b b':Bool) (A A':ze) (n n' c c':Nat) (E E':ze) (k k' f f':Nat) (w:World),T w->zp w r b A n c E k f->zp w s b' A' n' c' E' k' f'->zV n k->zV n' k'->s=0->Calls prog 18 #[.agg #[.bool b,.slice A n c,.slice E k f],.agg #[.bool b',.slice A' n' c',.slice E' k' f']] w (uK w 0 false)
structure kK (T:World->Prop):Prop where
structure kL (T:World->Prop):Prop where
 int:∀(z:Int) (w:World),T w-> -9223372036854775808<=z->z<=9223372036854775807->Calls prog 72 #[.int .i64 z] w (yp w (z:Rat))
 whole:∀(z:Int) (b:Bool) (A:ze) (n c:Nat) (w:World),T w->z6 w z b A n c->n<=67108864->Calls prog 129 #[.agg #[.bool b,.slice A n c]] w (yp w (z:Rat))
structure tu (T:World->Prop)(M:Nat->Prop):Prop where
 g0:M 0->kJ T
 g1:M 1->kK T
 g2:M 2->kL T
 new:∀(p q:Int) (b b':Bool) (A D:ze) (n m c d:Nat) (w:World),T w->z6 w p b A n c->z6 w q b' D m d->n<=67108864->m<=67108864->q≠0->Calls prog 127 #[.agg #[.bool b,.slice A n c],.agg #[.bool b',.slice D m d]] w (uK w (Rat.divInt p q) true)
 newNo:∀(p q:Int) (b b':Bool) (A D:ze) (n m c d:Nat) (w:World),T w->z6 w p b A n c->z6 w q b' D m d->n<=67108864->m<=67108864->q=0->Calls prog 127 #[.agg #[.bool b,.slice A n c],.agg #[.bool b',.slice D m d]] w (uK w 0 false)
 of:∀(p q:Int) (w:World),T w-> -9223372036854775808<=p->p<=9223372036854775807-> -9223372036854775808<=q->q<=9223372036854775807->q≠0->Calls prog 78 #[.int .i64 p,.int .i64 q] w (uK w (Rat.divInt p q) true)
 ofNo:∀(p q:Int) (w:World),T w-> -9223372036854775808<=p->p<=9223372036854775807->q=0->Calls prog 78 #[.int .i64 p,.int .i64 q] w (uK w 0 false)
 num:∀(r:Rat) (b:Bool) (A:ze) (n c:Nat) (E:ze) (k f:Nat) (w:World),T w->zp w r b A n c E k f->zV n k->Calls prog 45 #[.agg #[.bool b,.slice A n c,.slice E k f]] w (ww w r.num)
 den:∀(r:Rat) (b:Bool) (A:ze) (n c:Nat) (E:ze) (k f:Nat) (w:World),T w->zp w r b A n c E k f->zV n k->Calls prog 47 #[.agg #[.bool b,.slice A n c,.slice E k f]] w (iQ w r.den)
 sign:∀(r:Rat) (b:Bool) (A:ze) (n c:Nat) (E:ze) (k f:Nat) (w:World),T w->zp w r b A n c E k f->zV n k->Calls prog 54 #[.agg #[.bool b,.slice A n c,.slice E k f]] w (wR w (sB r))
 zero:∀(r:Rat) (b:Bool) (A:ze) (n c:Nat) (E:ze) (k f:Nat) (w:World),T w->zp w r b A n c E k f->zV n k->Calls prog 17 #[.agg #[.bool b,.slice A n c,.slice E k f]] w λe w'=>e=.returned (.bool (decide (r=0)))/\Below w.heap.size w w'
 isInt:∀(r:Rat) (b:Bool) (A:ze) (n c:Nat) (E:ze) (k f:Nat) (w:World),T w->zp w r b A n c E k f->zV n k->Calls prog 48 #[.agg #[.bool b,.slice A n c,.slice E k f]] w λe w'=>e=.returned (.bool (decide (r.den=1)))/\Below w.heap.size w w'
 bits:∀(r:Rat) (b:Bool) (A:ze) (n c:Nat) (E:ze) (k f:Nat) (w:World),T w->zp w r b A n c E k f->zV n k->Calls prog 49 #[.agg #[.bool b,.slice A n c,.slice E k f]] w (wR w ((bitLen r.num.natAbs+bitLen r.den:Nat):Int))
 neg:∀(r:Rat) (b:Bool) (A:ze) (n c:Nat) (E:ze) (k f:Nat) (w:World),T w->zp w r b A n c E k f->zV n k->Calls prog 20 #[.agg #[.bool b,.slice A n c,.slice E k f]] w (yp w (-r))
 inv:∀(r:Rat) (b:Bool) (A:ze) (n c:Nat) (E:ze) (k f:Nat) (w:World),T w->zp w r b A n c E k f->zV n k->r≠0->Calls prog 55 #[.agg #[.bool b,.slice A n c,.slice E k f]] w (uK w r⁻¹ true)
 invNo:∀(r:Rat) (b:Bool) (A:ze) (n c:Nat) (E:ze) (k f:Nat) (w:World),T w->zp w r b A n c E k f->zV n k->r=0->Calls prog 55 #[.agg #[.bool b,.slice A n c,.slice E k f]] w (uK w 0 false)
 add:∀(r s:Rat) (b b':Bool) (A A':ze) (n n' c c':Nat) (E E':ze) (k k' f f':Nat) (w:World),T w->zp w r b A n c E k f->zp w s b' A' n' c' E' k' f'->zV n k->zV n' k'->Calls prog 59 #[.agg #[.bool b,.slice A n c,.slice E k f],.agg #[.bool b',.slice A' n' c',.slice E' k' f']] w (yp w (r+s))
 sub:∀(r s:Rat) (b b':Bool) (A A':ze) (n n' c c':Nat) (E E':ze) (k k' f f':Nat) (w:World),T w->zp w r b A n c E k f->zp w s b' A' n' c' E' k' f'->zV n k->zV n' k'->Calls prog 125 #[.agg #[.bool b,.slice A n c,.slice E k f],.agg #[.bool b',.slice A' n' c',.slice E' k' f']] w (yp w (r - s))
 cmp:∀(r s:Rat) (b b':Bool) (A A':ze) (n n' c c':Nat) (E E':ze) (k k' f f':Nat) (w:World),T w->zp w r b A n c E k f->zp w s b' A' n' c' E' k' f'->zV n k->zV n' k'->Calls prog 121 #[.agg #[.bool b,.slice A n c,.slice E k f],.agg #[.bool b',.slice A' n' c',.slice E' k' f']] w (wR w (tp r s))
 same:∀(r s:Rat) (b b':Bool) (A A':ze) (n n' c c':Nat) (E E':ze) (k k' f f':Nat) (w:World),T w->zp w r b A n c E k f->zp w s b' A' n' c' E' k' f'->zV n k->zV n' k'->Calls prog 79 #[.agg #[.bool b,.slice A n c,.slice E k f],.agg #[.bool b',.slice A' n' c',.slice E' k' f']] w λe w'=>e=.returned (.bool (decide (r=s)))/\Below w.heap.size w w'
def x4 (w:World)(t:TypeId)(g cap n:Nat)(L:List Nat):Prop:=
 ∃cur,zh w g t cur/\n<=cap/\cap<=maxLen/\cur.size=cap/\L.length=n/\cur.toList.take n=zt .u8 L
section
variable {w w':World}{t:TypeId}{g cap n:Nat}{L:List Nat}
theorem x4.len (h:x4 w t g cap n L):L.length=n:=by obtain⟨_,_,_,_,_,h,_⟩:=h;exact h
theorem x4.room (h:x4 w t g cap n L):n<=cap/\cap<=maxLen:=by obtain⟨_,_,h,h2,_⟩:=h;exact⟨h,h2⟩
theorem x4.lt (h:x4 w t g cap n L):g<w.heap.size:=by obtain⟨_,h,_⟩:=h;exact h.lt
theorem x4.cell (h:x4 w t g cap n L)(k:Nat)(hk:k<n):w.cell? ⟨g,k,none⟩=some (.int .u8 (L.getD k 0:Nat)):=by
 obtain⟨cur,hb,h1,h2,h3,h4,h5⟩:=h;rw [hb.cell k,<-QR,<-kj .u8 L k za,<-h5,xI,if_pos hk]
theorem x4.frozen (h:x4 w t g cap n L)(k:Nat):w.frozen? ⟨g,k,none⟩=false:=by
 obtain⟨cur,hb,_⟩:=h;exact hb.frozen k
theorem x4.set_ (h:x4 w t g cap n L)(k d:Nat)(hk:k<n):x4 (w.setCell ⟨g,k,none⟩ (.int .u8 (d:Int))) t g cap n (L.set k d):=by
 obtain⟨cur,hb,h1,h2,h3,h4,h5⟩:=h;refine⟨_,hb.set_ k _,h1,h2,by simpa using h3,by simpa using h4,?_⟩;rw [QL,YR,h5];unfold zt;rw [List.map_set]
theorem x4.below {B:Nat}(h:x4 w t g cap n L)(hb:Below B w w')(hg:g<B):x4 w' t g cap n L:=by
 obtain⟨a,h0,h1⟩:=h;exact⟨a,h0.below hb hg,h1⟩
theorem x4.keep (h:x4 w t g cap n L)(hb:Below w.heap.size w w'):x4 w' t g cap n L:=h.below hb h.lt
theorem x4.drew (h:x4 w t g cap n L):x4 w.drew t g cap n L:=h
theorem x4.alloc (h:x4 w t g cap n L)(o:Obj):x4 (w.alloc o) t g cap n L:=by
 obtain⟨a,h0,h1⟩:=h;exact⟨a,h0.alloc o,h1⟩
theorem x4.far (h:x4 w t g cap n L){p:Addr}(hp:g≠p.block)(u:Value):x4 (w.setCell p u) t g cap n L:=by
 obtain⟨a,h0,h1⟩:=h;exact⟨a,h0.far hp u,h1⟩
theorem x4.reads (h:x4 w t g cap n L):zL w w.heap.size 1 (some ⟨g,0,none⟩) n (zt .u8 L):=by
 have hl:=h.lt;have hc:=h.cell;have hn:=h.len;refine⟨by rw [wL];omega,λ_=>⟨_,rfl,hl,λj u hu=>?_⟩⟩;have hj:j<L.length:=by
  rcases xW j L.length with hj|hj
  ·exact hj
  ·rw [QE (by rw [wL];exact hj)] at hu;cases hu
 have e:(⟨g,0,none⟩:Addr).add j=⟨g,j,none⟩:=by unfold Addr.add;split<;>simp_all
 rw [e,hc j za,<-kj .u8 L j hj,hu]
theorem x4.own (h:x4 w t g cap n L){a:Nat}(hb:a<=g):w.ownsRow a t 1 (.slice (some ⟨g,0,none⟩) n cap) n (zt .u8 L):=by
 obtain⟨c,h0,h1,h2,h3,h4,h5⟩:=h;exact⟨by rw [wL];omega,.inr ⟨g,cap,c,rfl,hb,h0,h1,h2,za,by rw [xS];exact h5⟩⟩
theorem x4.made (w:World)(t:TypeId)(N:Nat)(hN:N<=maxLen):x4 (w.alloc (.cells (madeCells (Value.cells (.int .u8 0)) N) t)) t w.heap.size N N (List.replicate N 0):=by
 refine⟨_,zh.new w t _,qX _,hN,size_madeCells _ _,zG,?_⟩;show(madeCells #[Value.int .u8 0] N).toList.take N=_;rw [toList_madeCells_one,qV zG];simp [zt]
theorem x4.of_own {l:List Nat}(h:w.ownsRow j t 1 v n (zt .u8 l))(hn:0<n):∃g i,v=.slice (some ⟨g,0,none⟩) n i/\j<=g/\x4 w t g i n l:=by
 obtain⟨h1,h2⟩:=h;rcases h2 with⟨_,h⟩|⟨g,i,cur,e,hb,hk,a,b,c,d⟩
 ·omega
 ·refine⟨g,i,e,hb,cur,hk,a,b,za,by rw [wL] at h1;omega,?_⟩;rw [xS] at d;exact d
end
structure sJ (w:World)(v:Value)(w':World)(v':Value):Prop where
 grown:w.grownBy w' v.ownBlock
 at_:v'.ownBlock=v.ownBlock\/∀g,v'.ownBlock=some g->w.heap.size<=g
theorem sJ.refl (w:World)(v:Value):sJ w v w v:=⟨World.grownBy.refl _ _,.inl rfl⟩
theorem sJ.alloc (w:World)(v:Value)(o:Obj):sJ w v (w.alloc o) v:=⟨jQ w o _,.inl rfl⟩
theorem sJ.trans {w1 w2:World}{v1 v2:Value}(h:sJ w v w1 v1)(k:sJ w1 v1 w2 v2):sJ w v w2 v2:=by
 refine⟨⟨k.grown.os.trans h.grown.os,k.grown.tape.trans h.grown.tape,k.grown.output.trans h.grown.output,qD h.grown.size k.grown.size,λi hi a=>?_⟩,?_⟩
 ·refine(k.grown.block i (qJ hi h.grown.size) (λe=>?_)).trans (h.grown.block i hi a);rcases h.at_ with h1|h1
  ·exact a (by rw [e,h1])
  ·have:=h1 i e.symm;omega
 ·rcases k.at_ with k1|k1
  ·rw [k1];exact h.at_
  ·exact .inr λg hg=>qD h.grown.size (k1 g hg)
theorem sJ.below (hb:Below w.heap.size w w'):sJ w v w' v:=⟨⟨hb.os,hb.tape,hb.output,hb.size,λi hi _=>hb.block i hi⟩,.inl rfl⟩
def ug (n p:Nat):List Nat:=(List.range n).map λk=>p / 10^k%10
theorem Tm (n p:Nat):(ug n p).length=n:=by simp [ug]
theorem NI (n p:Nat):ug (n+1) p=ug n p++[p / 10^n%10]:=by simp [ug,YK]
theorem pp (n p:Nat):zH 10 (ug n p):=by
 intro d hd;obtain⟨j,_,rfl⟩:=List.mem_map.1 hd;exact QA _ zf
theorem SB (p:Nat):∀n,dv 10 (ug n p)=p%10^n
 |0=>by simp [ug,dv,XU]
 |n+1=>by rw [NI,vR,SB p n,Tm,uh 10 p n]
theorem Th (l:List Nat)(i k a:Nat):(l.set i a).getD k 0=if i=k/\k<l.length then a else l.getD k 0:=by
 simp only [qQ,List.getElem?_set];by_cases h:i=k
 ·subst h;by_cases h2:i<l.length
  ·simp [h2]
  ·simp [h2]
 ·simp [h]
def gC (L:List Nat)(i:Nat)(M:List Nat):Prop:=M.length=L.length/\∀j,j<L.length->M.getD j 0=if j<i\/L.length<=j+i then L.getD (L.length - 1 - j) 0 else L.getD j 0
theorem gC.start (L:List Nat):gC L 0 L:=⟨rfl,λj hj=>by rw [if_neg za]⟩
theorem gC.step {L:List Nat}(h:gC L i M)(hij:i+j+1=L.length)(hlt:i<j):gC L (i+1) ((M.set i (M.getD j 0)).set j (M.getD i 0)):=by
 obtain⟨h1,h2⟩:=h;refine⟨by simpa using h1,λk hk=>?_⟩;rw [Th,Th,QV,h1];by_cases hkj:j=k
 ·subst hkj;rw [if_pos ⟨rfl,hk⟩,if_pos za,h2 i za,if_neg za];congr 1;omega
 ·rw [if_neg za];by_cases hki:i=k
  ·subst hki;rw [if_pos ⟨rfl,hk⟩,if_pos za,h2 j za,if_neg za];congr 1;omega
  ·rw [if_neg za,h2 k hk];by_cases hc:k<i\/L.length<=k+i
   ·rw [if_pos hc,if_pos za]
   ·rw [if_neg hc,if_neg za]
theorem gC.done {L:List Nat}(h:gC L i M)(hij:i+j+1=L.length)(hle:j<=i):M=L.reverse:=by
 obtain⟨h1,h2⟩:=h;refine YX (by simpa using h1) λk hk hk2=>?_;have h3:=h2 k za;rw [qQ,qY hk] at h3;rw [List.getElem_reverse];have e1:L[L.length - 1 - k]' za=L.getD (L.length - 1 - k) 0:=by rw [qQ,qY za];rfl
 rw [e1];refine Eq.trans h3 ?_;by_cases hc:k<i\/L.length<=k+i
 ·rw [if_pos hc]
 ·rw [if_neg hc];congr 1;omega
theorem y6.drew (h:y6 g w w'):y6 g w w'.drew:=⟨h.os,h.tape,h.output,h.size,h.block⟩
