/- What this claim leans on. -/
import Derived.Test.YtipmllfnpldbdaaGreatDoorFBunF
import Derived.Deep.RegionHeld
set_option linter.unusedVariables false
set_option linter.unusedSimpArgs false
namespace Go.Proofs.YtipmllfnpldbdaaGreatDoor
open Go Go.RowKit Go.Proofs.Tryz
set_option maxHeartbeats 16000000
variable {a0:Act}{cs:Array Value}{b:Bool}{x y z:Int}{K K' c g i n:Nat}{t:TypeId}{v:Value}{w:World}{A:zf}
def zN (w:World)(z:Int)(b:Bool)(A:zf)(n c:Nat):Prop:=b=decide (z<0)/\zo w z.natAbs A n c
theorem zN.below {w':World}(h:zN w z b A n c)(hb:Below w.heap.size w w'):zN w' z b A n c:=⟨h.1,h.2.below hb⟩
theorem zN.words (h:zN w z b A n c):zo w z.natAbs A n c:=h.2
def yu (w:World)(z:Int)(e:Ending)(w':World):Prop:=∃(b:Bool) (A:zf) (n c:Nat),e=.returned (.agg #[.bool b,.slice A n c])/\zN w' z b A n c/\Below w.heap.size w w'
def nB (w:World)(x:Nat)(e:Ending)(w':World):Prop:=∃(A:zf) (n c:Nat),e=.returned (.agg #[.slice A n c])/\zo w' x A n c/\Below w.heap.size w w'
structure oI (T:World->Prop):Prop where
 new:∀(s:Bool) (x:Nat) (A:zf) (n c:Nat) (w:World),T w->zo w x A n c->n<=268435456->Calls prog 99 #[.bool s,.agg #[.slice A n c]] w (yu w (if s then -(x:Int) else(x:Int)))
 of:∀(z:Int) (w:World),T w-> -9223372036854775808<=z->z<=9223372036854775807->Calls prog 76 #[.int .i64 z] w (yu w z)
 belowI:∀(z:Int) (b:Bool) (A:zf) (n c:Nat) (w:World),T w->zN w z b A n c->n<=268435456->Calls prog 97 #[.agg #[.bool b,.slice A n c]] w λe w'=>e=.returned (.bool (decide (z<0)))/\Below w.heap.size w w'
 abs:∀(z:Int) (b:Bool) (A:zf) (n c:Nat) (w:World),T w->zN w z b A n c->n<=268435456->Calls prog 95 #[.agg #[.bool b,.slice A n c]] w (nB w z.natAbs)
 sign:∀(z:Int) (b:Bool) (A:zf) (n c:Nat) (w:World),T w->zN w z b A n c->n<=268435456->Calls prog 92 #[.agg #[.bool b,.slice A n c]] w (wI w (vA z))
 cmp:∀(x y:Int) (b b':Bool) (A D:zf) (n m c d:Nat) (w:World),T w->zN w x b A n c->zN w y b' D m d->n<=268435456->m<=268435456->Calls prog 49 #[.agg #[.bool b,.slice A n c],.agg #[.bool b',.slice D m d]] w (wI w (ur x y))
 add:∀(x y:Int) (b b':Bool) (A D:zf) (n m c d:Nat) (w:World),T w->zN w x b A n c->zN w y b' D m d->n<=268435456->m<=268435456->Calls prog 69 #[.agg #[.bool b,.slice A n c],.agg #[.bool b',.slice D m d]] w (yu w (x+y))
 mul:∀(x y:Int) (b b':Bool) (A D:zf) (n m c d:Nat) (w:World),T w->zN w x b A n c->zN w y b' D m d->n<=268435456->m<=268435456->Calls prog 93 #[.agg #[.bool b,.slice A n c],.agg #[.bool b',.slice D m d]] w (yu w (x*y))
set_option maxRecDepth 100000
theorem es {x:Nat}(h:zo w x A n c)(hk:zi w g t cs)(a:∀v ∈ cs.toList,∀z,v≠.int .u64 z):0<n->∀ad,A=some ad->ad.block≠g:=λhn ad e hg=>by
 obtain⟨ad',e',_,hc⟩:=h.1.2 hn;rw [e] at e';injection e' with e';subst e';have hl:=h.len;have h0:=hc 0 (.int .u64 ((dg 18446744073709551616 x).getD 0 0:Nat)) (ot .u64 _ 0 za);have e0:ad.add 0=ad:=by unfold Addr.add;rw [if_pos rfl]
 rw [e0] at h0;obtain⟨bk,off,pr⟩:=ad;simp only at hg;subst hg;unfold zi at hk;cases pr with
 |none=>
   rw [show w.cell? ⟨bk,off,none⟩=cs[off]? from cell_of_row w bk off _ t (0,0) hk,<-QL] at h0;exact a _ (QA h0) _ rfl
 |some q=>simp [World.cell?,hk] at h0
theorem wX {p:Bool}{q:zf}{r s:Nat}(h:zN w z b A n c)(hk:zi w g t #[.bool p,.slice q r s])(p':Bool)(q':zf)(r' s':Nat):
  zN ((w.setCell ⟨g,0,none⟩ (.bool p')).setCell ⟨g,1,none⟩ (.slice q' r' s')) z b A n c:=by
 have h1:=kR (p:=⟨g,0,none⟩) h.2 (es h.2 hk (by intro v hv;simp at hv;rcases hv with rfl|rfl<;>intro z e<;>cases e)) (.bool p');exact⟨h.1,kR (p:=⟨g,1,none⟩) h1 (es h1 (hk.set_ 0 (.bool p')) (by intro v hv;simp at hv;rcases hv with rfl|rfl<;>intro z e<;>cases e)) _⟩
def qb (l:Array Bool):Nat:=l.toList.countP λb=> !b
section
variable {P:Program}{ops:Array Oper}{Q:Exit->Act->World->Prop}{md:Region.Mode}{S:World->Prop}
theorem kY {l:Array Bool}(hi:i ∈ Region.ready md ops l):l.getD i true=false:=(mem_ready.1 hi).1
theorem dH {l:Array Bool}(hi:i ∈ Region.ready md ops l):i<ops.size:=by
 obtain⟨_,o,ho,_⟩:=mem_ready.1 hi;exact(Array.getElem?_eq_some_iff.1 ho).1
theorem bI {l:Array Bool}(h:l.getD i true=false):qb (l.setIfInBounds i true)+1=qb l:=by
 obtain⟨l⟩:=l;unfold qb;have hi:i<l.length:=by
  rcases xB i l.length with h'|h'
  ·exact h'
  ·simp [xP h'] at h
 have hv:l[i]=false:=by simpa [hi] using h
 simp only [qK];clear h
 induction l generalizing i with
 |nil=>simp at hi
 |cons b t ih=>
   cases i with
   |zero=>
     have hb:b=false:=hv;subst hb;simp
   |succ j=>
     have:=ih (i:=j) (by simpa using hi) (by simpa using hv);simp only [qH,List.countP_cons];omega
theorem WG {l:Array Bool}(h:qb l=0):Region.ready md ops l=[]:=by
 refine List.eq_nil_iff_forall_not_mem.2 λi hi=>?_;have:=bI (kY hi);omega
theorem Zi {J:Act->Array Bool->Act->World->Prop}{L:Array Bool}(g:∀l a w,J a0 l a w->Region.ready md ops l=[]->l=L)
  (m:∀l a w i,J a0 l a w->l≠L->i ∈ Region.ready md ops l->wpOp P ops Q i (λa' w'=>S w'/\J a0 (l.setIfInBounds i true) a' w') a w)
  (j:∀a w,J a0 L a w->wpAnyH P md ops Q S (qb L) L a w):∀(d:Nat) (l:Array Bool) (a:Act) (w:World),qb l=d->J a0 l a w->wpAnyH P md ops Q S d l a w:=by
 intro d
 induction d with
 |zero=>
   intro l a w hd hJ;have e:=g l a w hJ (WG hd);subst e;have:=j a w hJ;rwa [hd] at this
 |succ n ih=>
   intro l a w hd hJ;by_cases hl:l=L
   ·subst hl;have:=j a w hJ;rwa [hd] at this
   ·refine⟨λh=>absurd (g l a w hJ h) hl,λi hi=>?_⟩;exact wpOp_mono (λa' w' ⟨h1,h2⟩=>⟨h1,ih _ a' w' (by have:=bI (kY hi);omega) h2⟩) (m l a w i hJ hl hi)
theorem ZV {J:Act->Array Bool->Act->World->Prop}{L:Array Bool}{l0:Array Bool}{w0:World}{d:Nat}(hd:qb l0=d)(h0:J a0 l0 a0 w0)
  (g:∀l a w,J a0 l a w->Region.ready md ops l=[]->l=L)
  (j:∀l a w i,J a0 l a w->l≠L->i ∈ Region.ready md ops l->wpOp P ops Q i (λa' w'=>S w'/\J a0 (l.setIfInBounds i true) a' w') a w)
  (h:∀a w,J a0 L a w->wpAnyH P md ops Q S (qb L) L a w):wpAnyH P md ops Q S d l0 a0 w0:=
 Zi g j h d l0 a0 w0 hd h0
end
def Gd (f:Bool)(p:Prop):Prop:=f=true->p
theorem Gd.no {p:Prop}:Gd false p:=λh=>by cases h
theorem Gd.get {p:Prop}(h:Gd true p):p:=h rfl
theorem Gd.mono {f:Bool}{p q:Prop}(h:Gd f p)(k:p->q):Gd f q:=λe=>k (h e)
def vl (b:Nat)(w:World)(g:Nat)(t:TypeId)(cs:Array Value)(v:Value):Prop:=v=.pointer (some ⟨g,0,none⟩)/\b<=g/\w.heap[g]?=some (.cells cs t (0,0))
theorem vl.lt {b:Nat}{t:TypeId}{cs:Array Value}(h:vl b w g t cs v):g<w.heap.size:=(Array.getElem?_eq_some_iff.1 h.2.2).1
theorem vl.keep {b:Nat}{w':World}(h:vl b w g t cs v)(hb:Below w.heap.size w w'):vl b w' g t cs v:=⟨h.1,h.2.1,(hb.block g h.lt).trans h.2.2⟩
theorem vl.new (b:Nat)(w:World)(t:TypeId)(cs:Array Value)(hb:b<=w.heap.size):vl b (w.alloc (.cells cs t)) w.heap.size t cs (.pointer (some ⟨w.heap.size,0,none⟩)):=⟨rfl,hb,heap_alloc_new w _⟩
theorem SzI.add (h:Sz K x.natAbs)(h':Sz K' y.natAbs):Sz (K+K'+1) (x+y).natAbs:=
 Sz.of_le (Sz.add (h.up (by omega:K<=K+K')) (h'.up (by omega:K'<=K+K'))) (Int.natAbs_add_le x y)
theorem SzI.sub (h:Sz K x.natAbs)(h':Sz K' y.natAbs):Sz (K+K'+1) (x - y).natAbs:=by
 rw [Int.sub_eq_add_neg];exact SzI.add h (by rw [Int.natAbs_neg];exact h')
theorem SzI.mul (h:Sz K x.natAbs)(h':Sz K' y.natAbs):Sz (K+K') (x*y).natAbs:=by
 rw [xA];exact Sz.mul h h'
theorem SzI.neg (h:Sz K x.natAbs):Sz K (-x).natAbs:=by rw [Int.natAbs_neg];exact h
theorem li (x y:Int):(qI x y).natAbs<=x.natAbs:=by
 by_cases hy:y=0
 ·subst hy;unfold qI;simp
 ·have h1:=lj x y;have h2:=sh (x:=x) hy;have h3:=pc (x:=x) hy;generalize rI x y=r at*;generalize qI x y=q at*;by_cases hq:q=0
  ·subst hq;simp
  ·have e:x.natAbs+r.natAbs>=q.natAbs*y.natAbs:=by
    rw [<-xA];have:=Int.natAbs_sub_le x r;rw [show x - r=q*y by omega] at this;exact this
   have hq1:1<=q.natAbs:=za;have a:1<=y.natAbs:=za;rcases h3 with h3|h3
   ·subst h3;have:q.natAbs*1<=q.natAbs*y.natAbs:=QV _ a;simp at e;omega
   ·-- what is left has the divisor's side:the quotient is not farther out than the number
    have e2:(x - r).natAbs=q.natAbs*y.natAbs:=by rw [<-xA];congr 1;omega
    rcases Int.lt_trichotomy q 0 with hq0|hq0|hq0
    ·-- below 0:x and y lie on two sides
     have:(q.natAbs - 1)*y.natAbs+y.natAbs=q.natAbs*y.natAbs:=by
      obtain⟨k,hk⟩:∃k,q.natAbs=k+1:=⟨q.natAbs - 1,za⟩;rw [hk,Nat.add_sub_cancel,QD,XK]
     have hm:(q.natAbs - 1)*1<=(q.natAbs - 1)*y.natAbs:=QV _ a;by_cases hy2:y.natAbs=1
     ·omega
     ·by_cases hk:q.natAbs=1
      ·have hx0:x≠0:=by
        intro hx;subst hx;rw [hk,XK] at e2;omega
       omega
      ·have hm2:(q.natAbs - 1)*2<=(q.natAbs - 1)*y.natAbs:=QV _ za;omega
    ·omega
    ·have hxr:x.natAbs=q.natAbs*y.natAbs+r.natAbs:=by
      rcases h3 with⟨ha,hb⟩|⟨ha,hb⟩
      ·have:0<q*y:=Int.mul_pos hq0 hb;have e3:(q*y).natAbs=q.natAbs*y.natAbs:=xA _ _;omega
      ·have:q*y<0:=Int.mul_neg_of_pos_of_neg hq0 hb;have e3:(q*y).natAbs=q.natAbs*y.natAbs:=xA _ _;omega
     have:q.natAbs*1<=q.natAbs*y.natAbs:=QV _ a;omega
theorem SzI.q (y:Int)(h:Sz K x.natAbs):Sz K (qI x y).natAbs:=Sz.of_le h (li x y)
theorem SzI.r (x:Int)(hy:y≠0)(h:Sz K y.natAbs):Sz K (rI x y).natAbs:=Sz.of_le h (YX (sh hy))
section
variable {P:Program}{f:FuncId}{args:Array Value}{w:World}
theorem qg (h:x=y)(hc:Calls P f args w (wI w (ur x y))):Calls P f args w (wI w 0):=by rw [(jc x y).2 h] at hc;exact hc
end
