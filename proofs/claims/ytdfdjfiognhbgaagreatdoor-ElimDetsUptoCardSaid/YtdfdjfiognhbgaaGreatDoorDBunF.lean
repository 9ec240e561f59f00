/- What this claim leans on. -/
import Derived.Test.YtdfdjfiognhbgaaGreatDoorDBunQ
import Derived.Deep.RegionHeld
import Derived.Deep.RegionLaw
import Derived.Laws.BytesArg
import Derived.LoopIn
import Derived.LoopNIn
import Derived.OrdersHeld
import Derived.OrdersIn
import Derived.OwnWalkIn
import Derived.RangeFuncBound
import Derived.RangeFuncCalls
import Derived.RangeFuncLeaves
import Derived.RangeFuncNested
import Derived.Shelf.Abstract
import Derived.Shelf.RegionOpen
import Derived.TacticsInMore
set_option linter.unusedVariables false
set_option linter.unusedSimpArgs false
namespace Go.Proofs.YtdfdjfiognhbgaaGreatDoor
open Go Go.RowKit Go.Proofs.Tryz
set_option maxHeartbeats 16000000
variable {a0:Act}{cs:Array Value}{x y z:Int}{D M:List Nat}{K K' b b' c g i j n:Nat}{s:Rat}{t:TypeId}{v v':Value}{w w':World}{A:ze}
def tT (x y:Int):Int:=if x<y then -1 else if x=y then 0 else 1
theorem eV (x y:Int):tT x y=0↔x=y:=by unfold tT;split<;>(try split)<;>omega
def vD (x:Int):Int:=if x<0 then -1 else if x=0 then 0 else 1
theorem mw (x:Int):vD x=0↔x=0:=by unfold vD;split<;>(try split)<;>omega
def qI (x y:Int):Int:=if 0<=y then x / y else(-x) / (-y)
def rI (x y:Int):Int:=if 0<=y then x%y else -((-x)%(-y))
theorem gG (x y:Int):qI x y*y+rI x y=x:=by
 unfold qI rI
 split
 ·rw [yP];exact yQ x y
 ·have h:=yQ (-x) (-y);rw [Int.neg_mul] at h;rw [yP];omega
theorem qv {x:Int}(hy:y≠0):(rI x y).natAbs<y.natAbs:=by
 unfold rI
 split
 ·have h1:=YA x hy;have h2:=YL x (show 0<y by omega);omega
 ·have h1:=YA (-x) (show -y≠0 by omega);have h2:=YL (-x) (show 0< -y by omega);omega
theorem mi {x:Int}(hy:y≠0):rI x y=0\/(0<rI x y/\0<y\/rI x y<0/\y<0):=by
 unfold rI
 split
 ·have h1:=YA x hy;omega
 ·have h1:=YA (-x) (show -y≠0 by omega);omega
def zZ (w:World)(z:Int)(b:Bool)(A:ze)(n c:Nat):Prop:=b=decide (z<0)/\zn w z.natAbs A n c
theorem zZ.below {b:Bool}(h:zZ w z b A n c)(hb:Below w.heap.size w w'):zZ w' z b A n c:=⟨h.1,h.2.below hb⟩
theorem zZ.words {b:Bool}(h:zZ w z b A n c):zn w z.natAbs A n c:=h.2
def xF (w:World)(z:Int)(e:Ending)(w':World):Prop:=∃(b:Bool) (A:ze) (n c:Nat),e=.returned (.agg #[.bool b,.slice A n c])/\zZ w' z b A n c/\Below w.heap.size w w'
def jH (w:World)(x:Nat)(e:Ending)(w':World):Prop:=∃(A:ze) (n c:Nat),e=.returned (.agg #[.slice A n c])/\zn w' x A n c/\Below w.heap.size w w'
structure wQ (T:World->Prop):Prop where
 new:∀(s:Bool) (x:Nat) (A:ze) (n c:Nat) (w:World),T w->zn w x A n c->n<=268435456->Calls prog 146 #[.bool s,.agg #[.slice A n c]] w (xF w (if s then -(x:Int) else(x:Int)))
 of:∀(z:Int) (w:World),T w-> -9223372036854775808<=z->z<=9223372036854775807->Calls prog 120 #[.int .i64 z] w (xF w z)
 belowI:∀(z:Int) (b:Bool) (A:ze) (n c:Nat) (w:World),T w->zZ w z b A n c->n<=268435456->Calls prog 97 #[.agg #[.bool b,.slice A n c]] w λe w'=>e=.returned (.bool (decide (z<0)))/\Below w.heap.size w w'
 abs:∀(z:Int) (b:Bool) (A:ze) (n c:Nat) (w:World),T w->zZ w z b A n c->n<=268435456->Calls prog 98 #[.agg #[.bool b,.slice A n c]] w (jH w z.natAbs)
 sign:∀(z:Int) (b:Bool) (A:ze) (n c:Nat) (w:World),T w->zZ w z b A n c->n<=268435456->Calls prog 86 #[.agg #[.bool b,.slice A n c]] w (wC w (vD z))
 cmp:∀(x y:Int) (b b':Bool) (A D:ze) (n m c d:Nat) (w:World),T w->zZ w x b A n c->zZ w y b' D m d->n<=268435456->m<=268435456->Calls prog 76 #[.agg #[.bool b,.slice A n c],.agg #[.bool b',.slice D m d]] w (wC w (tT x y))
 add:∀(x y:Int) (b b':Bool) (A D:ze) (n m c d:Nat) (w:World),T w->zZ w x b A n c->zZ w y b' D m d->n<=268435456->m<=268435456->Calls prog 174 #[.agg #[.bool b,.slice A n c],.agg #[.bool b',.slice D m d]] w (xF w (x+y))
 mul:∀(x y:Int) (b b':Bool) (A D:ze) (n m c d:Nat) (w:World),T w->zZ w x b A n c->zZ w y b' D m d->n<=268435456->m<=268435456->Calls prog 132 #[.agg #[.bool b,.slice A n c],.agg #[.bool b',.slice D m d]] w (xF w (x*y))
set_option maxRecDepth 100000
theorem WS {x:Nat}(h:zn w x A n c)(hk:zh w g t cs)(a:∀v ∈ cs.toList,∀z,v≠.int .u64 z):0<n->∀ad,A=some ad->ad.block≠g:=λhn ad e hg=>by
 obtain⟨ad',e',_,hc⟩:=h.1.2 hn;rw [e] at e';injection e' with e';subst e';have hl:=h.len;have h0:=hc 0 (.int .u64 ((dg 18446744073709551616 x).getD 0 0:Nat)) (mQ .u64 _ 0 zb);have e0:ad.add 0=ad:=by unfold Addr.add;rw [if_pos rfl]
 rw [e0] at h0;obtain⟨bk,off,pr⟩:=ad;simp only at hg;subst hg;unfold zh at hk;cases pr with
 |none=>
   rw [show w.cell? ⟨bk,off,none⟩=cs[off]? from cell_of_row w bk off _ t (0,0) hk,<-QM] at h0;exact a _ (QJ h0) _ rfl
 |some q=>simp [World.cell?,hk] at h0
theorem ug {b p:Bool}{q:ze}{r s:Nat}(h:zZ w z b A n c)(hk:zh w g t #[.bool p,.slice q r s])(p':Bool)(q':ze)(r' s':Nat):
  zZ ((w.setCell ⟨g,0,none⟩ (.bool p')).setCell ⟨g,1,none⟩ (.slice q' r' s')) z b A n c:=by
 have h1:=ep (p:=⟨g,0,none⟩) h.2 (WS h.2 hk (by intro v hv;simp at hv;rcases hv with rfl|rfl<;>intro z e<;>cases e)) (.bool p');exact⟨h.1,ep (p:=⟨g,1,none⟩) h1 (WS h1 (hk.set_ 0 (.bool p')) (by intro v hv;simp at hv;rcases hv with rfl|rfl<;>intro z e<;>cases e)) _⟩
def uJ (l:Array Bool):Nat:=l.toList.countP λb=> !b
section
variable {P:Program}{ops:Array Oper}{Q:Exit->Act->World->Prop}{md:Region.Mode}{S:World->Prop}
theorem yy {l:Array Bool}(hi:i ∈ Region.ready md ops l):l.getD i true=false:=(mem_ready.1 hi).1
theorem iI {l:Array Bool}(hi:i ∈ Region.ready md ops l):i<ops.size:=by
 obtain⟨_,o,ho,_⟩:=mem_ready.1 hi;exact(Array.getElem?_eq_some_iff.1 ho).1
theorem Pp {k:Nat}{l:Array Bool}{o:Oper}{e:Edge}(hi:i ∈ Region.ready md ops l)(ho:ops[i]?=some o)(he:o.after[k]?=some e)(hb:Region.binds md e=true):l.getD e.on false=true:=by
 obtain⟨_,o',a,h⟩:=mem_ready.1 hi;rw [ho] at a;cases a;exact h e (Array.mem_of_getElem? he) hb
theorem Rv {l:Array Bool}{o:Oper}(h:Region.ready md ops l=[])(ho:ops[i]?=some o)(hr:(o.after.toList.all λe=> !Region.binds md e||l.getD e.on false)=true):l.getD i true=true:=by
 cases hl:l.getD i true
 ·have:i ∈ Region.ready md ops l:=mem_ready.2 ⟨hl,o,ho,λe he hb=>by
   have:=List.all_eq_true.1 hr e (by simpa using he);rw [hb] at this;simpa using this⟩
  rw [h] at this;cases this
 ·rfl
theorem UF {l:Array Bool}(h:l.getD i true=false):uJ (l.setIfInBounds i true)+1=uJ l:=by
 obtain⟨l⟩:=l;unfold uJ;have hi:i<l.length:=by
  rcases xY i l.length with h'|h'
  ·exact h'
  ·simp [QG h'] at h
 have hv:l[i]=false:=by simpa [hi] using h
 simp only [qK];clear h
 induction l generalizing i with
 |nil=>simp at hi
 |cons b t ih=>
   cases i with
   |zero=>
     have hb:b=false:=hv;subst hb;simp
   |succ j=>
     have:=ih (i:=j) (by simpa using hi) (by simpa using hv);simp only [qH,List.countP_cons];omega
theorem Pb {l:Array Bool}(h:uJ l=0):Region.ready md ops l=[]:=by
 refine List.eq_nil_iff_forall_not_mem.2 λi hi=>?_;have:=UF (yy hi);omega
theorem Ym {J:Act->Array Bool->Act->World->Prop}{L:Array Bool}(d:∀l a w,J a0 l a w->Region.ready md ops l=[]->l=L)
  (j:∀l a w i,J a0 l a w->l≠L->i ∈ Region.ready md ops l->wpOp P ops Q i (λa' w'=>S w'/\J a0 (l.setIfInBounds i true) a' w') a w)
  (g:∀a w,J a0 L a w->wpAnyH P md ops Q S (uJ L) L a w):∀(c:Nat) (l:Array Bool) (a:Act) (w:World),uJ l=c->J a0 l a w->wpAnyH P md ops Q S c l a w:=by
 intro c
 induction c with
 |zero=>
   intro l a w hd hJ;have e:=d l a w hJ (Pb hd);subst e;have:=g a w hJ;rwa [hd] at this
 |succ n ih=>
   intro l a w hd hJ;by_cases hl:l=L
   ·subst hl;have:=g a w hJ;rwa [hd] at this
   ·refine⟨λh=>absurd (d l a w hJ h) hl,λi hi=>?_⟩;exact wpOp_mono (λa' w' ⟨h1,h2⟩=>⟨h1,ih _ a' w' (by have:=UF (yy hi);omega) h2⟩) (j l a w i hJ hl hi)
theorem Rt {J:Act->Array Bool->Act->World->Prop}{L:Array Bool}{l0:Array Bool}{w0:World}(hd:uJ l0=c)(h0:J a0 l0 a0 w0)
  (d:∀l a w,J a0 l a w->Region.ready md ops l=[]->l=L)
  (j:∀l a w i,J a0 l a w->l≠L->i ∈ Region.ready md ops l->wpOp P ops Q i (λa' w'=>S w'/\J a0 (l.setIfInBounds i true) a' w') a w)
  (g:∀a w,J a0 L a w->wpAnyH P md ops Q S (uJ L) L a w):wpAnyH P md ops Q S c l0 a0 w0:=
 Ym d j g c l0 a0 w0 hd h0
end
def Gd (f:Bool)(p:Prop):Prop:=f=true->p
theorem Gd.no {p:Prop}:Gd false p:=λh=>by cases h
theorem Gd.yes {p:Prop}(h:p):Gd true p:=λ_=>h
theorem Gd.get {p:Prop}(h:Gd true p):p:=h rfl
theorem Gd.mono {f:Bool}{p q:Prop}(h:Gd f p)(k:p->q):Gd f q:=λe=>k (h e)
def uF (b:Nat)(w:World)(g:Nat)(t:TypeId)(cs:Array Value)(v:Value):Prop:=v=.pointer (some ⟨g,0,none⟩)/\b<=g/\w.heap[g]?=some (.cells cs t (0,0))
theorem uF.lt {t:TypeId}{cs:Array Value}(h:uF b w g t cs v):g<w.heap.size:=(Array.getElem?_eq_some_iff.1 h.2.2).1
theorem uF.keep {w':World}(h:uF b w g t cs v)(hb:Below w.heap.size w w'):uF b w' g t cs v:=⟨h.1,h.2.1,(hb.block g h.lt).trans h.2.2⟩
theorem uF.new (b:Nat)(w:World)(t:TypeId)(cs:Array Value)(hb:b<=w.heap.size):uF b (w.alloc (.cells cs t)) w.heap.size t cs (.pointer (some ⟨w.heap.size,0,none⟩)):=⟨rfl,hb,heap_alloc_new w _⟩
theorem SzI.add (h:Sz K x.natAbs)(h':Sz K' y.natAbs):Sz (K+K'+1) (x+y).natAbs:=
 Sz.of_le (Sz.add (h.up (by omega:K<=K+K')) (h'.up (by omega:K'<=K+K'))) (Int.natAbs_add_le x y)
theorem SzI.sub (h:Sz K x.natAbs)(h':Sz K' y.natAbs):Sz (K+K'+1) (x - y).natAbs:=by
 rw [Int.sub_eq_add_neg];exact SzI.add h (by rw [Int.natAbs_neg];exact h')
theorem SzI.mul (h:Sz K x.natAbs)(h':Sz K' y.natAbs):Sz (K+K') (x*y).natAbs:=by
 rw [xO];exact Sz.mul h h'
theorem SzI.neg (h:Sz K x.natAbs):Sz K (-x).natAbs:=by rw [Int.natAbs_neg];exact h
theorem gF (x y:Int):(qI x y).natAbs<=x.natAbs:=by
 by_cases hy:y=0
 ·subst hy;unfold qI;simp
 ·have h1:=gG x y;have h2:=qv (x:=x) hy;have h3:=mi (x:=x) hy;generalize rI x y=r at*;generalize qI x y=q at*;by_cases hq:q=0
  ·subst hq;simp
  ·have e:x.natAbs+r.natAbs>=q.natAbs*y.natAbs:=by
    rw [<-xO];have:=Int.natAbs_sub_le x r;rw [show x - r=q*y by omega] at this;exact this
   have hq1:1<=q.natAbs:=zb;have a:1<=y.natAbs:=zb;rcases h3 with h3|h3
   ·subst h3;have:q.natAbs*1<=q.natAbs*y.natAbs:=QB _ a;simp at e;omega
   ·-- what is left has the divisor's side:the quotient is not farther out than the number
    have e2:(x - r).natAbs=q.natAbs*y.natAbs:=by rw [<-xO];congr 1;omega
    rcases Int.lt_trichotomy q 0 with hq0|hq0|hq0
    ·-- below 0:x and y lie on two sides
     have:(q.natAbs - 1)*y.natAbs+y.natAbs=q.natAbs*y.natAbs:=by
      obtain⟨k,hk⟩:∃k,q.natAbs=k+1:=⟨q.natAbs - 1,zb⟩;rw [hk,Nat.add_sub_cancel,QE,yD]
     have hm:(q.natAbs - 1)*1<=(q.natAbs - 1)*y.natAbs:=QB _ a;by_cases hy2:y.natAbs=1
     ·omega
     ·by_cases hk:q.natAbs=1
      ·have hx0:x≠0:=by
        intro hx;subst hx;rw [hk,yD] at e2;omega
       omega
      ·have hm2:(q.natAbs - 1)*2<=(q.natAbs - 1)*y.natAbs:=QB _ zb;omega
    ·omega
    ·have hxr:x.natAbs=q.natAbs*y.natAbs+r.natAbs:=by
      rcases h3 with⟨ha,hb⟩|⟨ha,hb⟩
      ·have:0<q*y:=Int.mul_pos hq0 hb;have e3:(q*y).natAbs=q.natAbs*y.natAbs:=xO _ _;omega
      ·have:q*y<0:=Int.mul_neg_of_pos_of_neg hq0 hb;have e3:(q*y).natAbs=q.natAbs*y.natAbs:=xO _ _;omega
     have:q.natAbs*1<=q.natAbs*y.natAbs:=QB _ a;omega
theorem SzI.q (y:Int)(h:Sz K x.natAbs):Sz K (qI x y).natAbs:=Sz.of_le h (gF x y)
theorem SzI.r (x:Int)(hy:y≠0)(h:Sz K y.natAbs):Sz K (rI x y).natAbs:=Sz.of_le h (QD (qv hy))
theorem aJ {x:Nat}(h:zB w x A n c)(hx:x=0):n=0:=by rw [h.len,hx];rfl
theorem ZF {x:Nat}(h:zB w x A n c)(hx:x≠0):0<n:=by
 rw [h.len];exact(kE (b:=65536) zg x hx).1
theorem mC (h:0<x):vD x=1:=by unfold vD;rw [if_neg zb,if_neg zb]
theorem mz (h:x<0):vD x= -1:=by unfold vD;rw [if_pos h]
section
variable {P:Program}{f:FuncId}{args:Array Value}{w:World}
theorem nA (h:x=y)(hc:Calls P f args w (wC w (tT x y))):Calls P f args w (wC w 0):=by rw [(eV x y).2 h] at hc;exact hc
theorem bR {b:Bool}(h:decide (z<0)=b)(hc:Calls P f args w λe w'=>e=.returned (.bool (decide (z<0)))/\Below w.heap.size w w'):Calls P f args w λe w'=>e=.returned (.bool b)/\Below w.heap.size w w':=by rw [h] at hc;exact hc
theorem ZJ {v:Int}(h:vD x=v)(hc:Calls P f args w (wC w (vD x))):Calls P f args w (wC w v):=by rw [h] at hc;exact hc
end
theorem cY (a:Int)(g:Nat):(a / (g:Int)).natAbs<=a.natAbs:=by
 rcases QT g with rfl|hg
 ·simp
 ·exact Int.natAbs_ediv_le_natAbs a g
theorem Rq (a b:Rat):(a+b).num.natAbs<=a.num.natAbs*b.den+b.num.natAbs*a.den:=by
 rw [Rat.num_add];refine qL (cY _ _) (qL (Int.natAbs_add_le _ _) ?_);rw [xO,xO,XZ,XZ];exact qY _
theorem RK (a b:Rat):(a+b).den<=a.den*b.den:=by rw [Rat.den_add];exact QS _ _
theorem RY (a b:Rat):(a*b).num.natAbs<=a.num.natAbs*b.num.natAbs:=by
 rw [Rat.num_mul];refine qL (cY _ _) ?_;rw [xO];exact qY _
theorem RL (a b:Rat):(a*b).den<=a.den*b.den:=by rw [Rat.den_mul];exact QS _ _
theorem Rr (a:Rat):(a⁻¹).num.natAbs<=a.den:=by
 rw [Rat.num_inv,xO,XZ];by_cases h:a.num=0
 ·simp [h]
 ·rw [Int.natAbs_sign_of_ne_zero h,yD];exact qY _
theorem TI (p q:Int):(Rat.divInt p q).num.natAbs<=p.natAbs:=by
 rw [Rat.num_divInt];refine qL (cY _ _) ?_;rw [xO];by_cases h:q=0
 ·simp [h]
 ·rw [Int.natAbs_sign_of_ne_zero h,yD];exact qY _
def xh (b:Nat)(r:Rat):Prop:=r.num.natAbs<b/\r.den<b
theorem xh.up {r:Rat}(h:xh b r)(hb:b<=b'):xh b' r:=⟨qJ h.1 hb,qJ h.2 hb⟩
theorem xh.pos {r:Rat}(h:xh b r):1<b:=QU (xR r.den_nz) h.2
theorem xh.add {r:Rat}(h:xh b r)(h':xh b' s):xh (2*(b*b')) (r+s):=by
 have h1:r.num.natAbs*s.den<b*b':=XU h.1 h'.2;have h2:s.num.natAbs*r.den<b*b':=by rw [qS b b'];exact XU h'.1 h.2
 have h3:r.den*s.den<b*b':=XU h.2 h'.2;have h4:=Rq r s;have h5:=RK r s;exact⟨zb,zb⟩
theorem xh.mul {r:Rat}(h:xh b r)(h':xh b' s):xh (b*b') (r*s):=
 ⟨QU (RY r s) (XU h.1 h'.1),QU (RL r s) (XU h.2 h'.2)⟩
theorem xh.neg {r:Rat}(h:xh b r):xh b (-r):=⟨by rw [Rat.neg_num,Int.natAbs_neg];exact h.1,h.2⟩
theorem xh.sub {r:Rat}(h:xh b r)(h':xh b' s):xh (2*(b*b')) (r - s):=by rw [Rat.sub_eq_add_neg];exact h.add h'.neg
theorem xh.inv {r:Rat}(h:xh b r):xh b r⁻¹:=by
 refine⟨QU (Rr r) h.2,?_⟩;rw [Rat.den_inv]
 split
 ·exact h.pos
 ·exact h.1
theorem xh.made {p q:Int}(hp:p.natAbs<b)(hq:q.natAbs<b)(hb:1<b):xh b (Rat.divInt p q):=by
 refine⟨QU (TI p q) hp,?_⟩;rw [Rat.den_divInt]
 split
 ·exact hb
 ·exact QU (QS _ _) hq
theorem xh.whole (hz:z.natAbs<b)(hb:1<b):xh b (z:Rat):=⟨by rw [yU];exact hz,by rw [yW];exact hb⟩
def uW (r s:Rat):Int:=if r<s then -1 else if r=s then 0 else 1
theorem RH (r s:Rat):uW r s=tT (r.num*s.den) (s.num*r.den):=by
 unfold uW tT;by_cases h1:r<s
 ·rw [if_pos h1,if_pos ((Rat.lt_iff r s).1 h1)]
 ·rw [if_neg h1,if_neg (λh=>h1 ((Rat.lt_iff r s).2 h))];by_cases h2:r=s
  ·rw [if_pos h2,if_pos (Rat.eq_iff_mul_eq_mul.1 h2)]
  ·rw [if_neg h2,if_neg (λh=>h2 (Rat.eq_iff_mul_eq_mul.2 h))]
theorem o9 (r s:Rat):uW r s=0↔r=s:=by
 unfold uW;by_cases h1:r<s
 ·rw [if_pos h1];constructor
  ·intro h;omega
  ·intro h;exact absurd h (Rat.ne_of_lt h1)
 ·rw [if_neg h1];by_cases h2:r=s<;>simp [h2]
def tE (r:Rat):Int:=vD r.num
theorem gZ (r:Rat):r*(r.den:Rat)=(r.num:Rat):=by
 have h0:(r.den:Rat)≠0:=λh=>r.den_nz (by
  have:=congrArg Rat.num h;rw [Rat.num_natCast] at this;exact Int.ofNat.inj this)
 have h1:r=(r.num:Rat) / ((r.den:Int):Rat):=by
  have:=Rat.num_divInt_den r;rw [Rat.divInt_eq_div] at this;exact this.symm
 have h2:((r.den:Int):Rat)=(r.den:Rat):=rfl;rw [h2] at h1;generalize r.num=p at*;generalize r.den=q at*;rw [h1,Rat.div_mul_cancel h0]
theorem Ui (p q:Int)(hq:q≠0):(Rat.divInt p q).num.natAbs=p.natAbs / Nat.gcd p.natAbs q.natAbs:=by
 rw [Rat.num_divInt,Int.gcd];have hd:(Nat.gcd q.natAbs p.natAbs:Int)∣ q.sign*p:=Int.dvd_trans (Int.ofNat_dvd_left.2 (XW ..)) (Int.dvd_mul_left ..);rw [Int.natAbs_ediv_of_dvd hd,xO,Int.natAbs_sign_of_ne_zero hq,yD,XZ,XC]
theorem Uh (p q:Int)(hq:q≠0):(Rat.divInt p q).den=q.natAbs / Nat.gcd p.natAbs q.natAbs:=by
 rw [Rat.den_divInt,if_neg hq,Int.gcd,XC]
theorem Vm (p q:Int)(hq:q≠0):(Rat.divInt p q).num<0↔(p<0/\0<q\/0<p/\q<0):=by
 rw [Rat.num_divInt];have a:0<(q.gcd p:Int):=by
  have:0<q.gcd p:=Int.gcd_pos_of_ne_zero_left p hq;omega
 have e:q.sign*p / (q.gcd p:Int)<0↔q.sign*p<0:=by
  constructor
  ·intro h;refine Int.not_le.1 λh1=>?_;have:=YS h1 (Int.le_of_lt a);omega
  ·intro h;exact Int.ediv_neg_of_neg_of_pos h a
 rw [e];rcases Int.lt_or_gt_of_ne hq with h|h
 ·rw [Int.sign_eq_neg_one_of_neg h];omega
 ·rw [Int.sign_eq_one_of_pos h];omega
def xm (w:World)(t:TypeId)(g cap n:Nat)(L:List Nat):Prop:=
 ∃cur,zh w g t cur/\n<=cap/\cap<=maxLen/\cur.size=cap/\L.length=n/\cur.toList.take n=zq .u8 L
section
variable {w w':World}{t:TypeId}{g cap n:Nat}{L:List Nat}
theorem xm.len (h:xm w t g cap n L):L.length=n:=by obtain⟨_,_,_,_,_,h,_⟩:=h;exact h
theorem xm.room (h:xm w t g cap n L):n<=cap/\cap<=maxLen:=by obtain⟨_,_,h,h2,_⟩:=h;exact⟨h,h2⟩
theorem xm.lt (h:xm w t g cap n L):g<w.heap.size:=by obtain⟨_,h,_⟩:=h;exact h.lt
theorem xm.cell (h:xm w t g cap n L)(k:Nat)(hk:k<n):w.cell? ⟨g,k,none⟩=some (.int .u8 (L.getD k 0:Nat)):=by
 obtain⟨cur,hb,h1,h2,h3,h4,h5⟩:=h;rw [hb.cell k,<-QM,<-mQ .u8 L k zb,<-h5,XO,if_pos hk]
theorem xm.frozen (h:xm w t g cap n L)(k:Nat):w.frozen? ⟨g,k,none⟩=false:=by
 obtain⟨cur,hb,_⟩:=h;exact hb.frozen k
theorem xm.set_ (h:xm w t g cap n L)(k d:Nat)(hk:k<n):xm (w.setCell ⟨g,k,none⟩ (.int .u8 (d:Int))) t g cap n (L.set k d):=by
 obtain⟨cur,hb,h1,h2,h3,h4,h5⟩:=h;refine⟨_,hb.set_ k _,h1,h2,by simpa using h3,by simpa using h4,?_⟩;rw [xH,jZ,h5];unfold zq;rw [List.map_set]
theorem xm.below {B:Nat}(h:xm w t g cap n L)(hb:Below B w w')(hg:g<B):xm w' t g cap n L:=by
 obtain⟨a,h0,h1⟩:=h;exact⟨a,h0.below hb hg,h1⟩
theorem xm.keep (h:xm w t g cap n L)(hb:Below w.heap.size w w'):xm w' t g cap n L:=h.below hb h.lt
theorem xm.drew (h:xm w t g cap n L):xm w.drew t g cap n L:=h
theorem xm.alloc (h:xm w t g cap n L)(o:Obj):xm (w.alloc o) t g cap n L:=by
 obtain⟨a,h0,h1⟩:=h;exact⟨a,h0.alloc o,h1⟩
theorem xm.far (h:xm w t g cap n L){p:Addr}(hp:g≠p.block)(u:Value):xm (w.setCell p u) t g cap n L:=by
 obtain⟨a,h0,h1⟩:=h;exact⟨a,h0.far hp u,h1⟩
theorem xm.reads (h:xm w t g cap n L):zH w w.heap.size 1 (some ⟨g,0,none⟩) n (zq .u8 L):=by
 have hl:=h.lt;have hc:=h.cell;have hn:=h.len;refine⟨by rw [wt];omega,λ_=>⟨_,rfl,hl,λj u hu=>?_⟩⟩;have hj:j<L.length:=by
  rcases xY j L.length with hj|hj
  ·exact hj
  ·rw [QG (by rw [wt];exact hj)] at hu;cases hu
 have e:(⟨g,0,none⟩:Addr).add j=⟨g,j,none⟩:=by unfold Addr.add;split<;>simp_all
 rw [e,hc j zb,<-mQ .u8 L j hj,hu]
theorem xm.own (h:xm w t g cap n L){a:Nat}(hb:a<=g):w.ownsRow a t 1 (.slice (some ⟨g,0,none⟩) n cap) n (zq .u8 L):=by
 obtain⟨c,h0,h1,h2,h3,h4,h5⟩:=h;exact⟨by rw [wt];omega,.inr ⟨g,cap,c,rfl,hb,h0,h1,h2,zb,by rw [xC];exact h5⟩⟩
theorem xm.made (w:World)(t:TypeId)(N:Nat)(hN:N<=maxLen):xm (w.alloc (.cells (madeCells (Value.cells (.int .u8 0)) N) t)) t w.heap.size N N (List.replicate N 0):=by
 refine⟨_,zh.new w t _,qY _,hN,size_madeCells _ _,zE,?_⟩;show(madeCells #[Value.int .u8 0] N).toList.take N=_;rw [toList_madeCells_one,qU zE];simp [zq]
theorem xm.of_own {l:List Nat}(h:w.ownsRow i t 1 v n (zq .u8 l))(hn:0<n):∃g cap,v=.slice (some ⟨g,0,none⟩) n cap/\i<=g/\xm w t g cap n l:=by
 obtain⟨h1,h2⟩:=h;rcases h2 with⟨_,h⟩|⟨g,cap,cur,e,hb,hk,a,b,c,d⟩
 ·omega
 ·refine⟨g,cap,e,hb,cur,hk,a,b,zb,by rw [wt] at h1;omega,?_⟩;rw [xC] at d;exact d
end
structure tQ (w:World)(v:Value)(w':World)(v':Value):Prop where
 grown:w.grownBy w' v.ownBlock
 at_:v'.ownBlock=v.ownBlock\/∀g,v'.ownBlock=some g->w.heap.size<=g
theorem tQ.refl (w:World)(v:Value):tQ w v w v:=⟨World.grownBy.refl _ _,.inl rfl⟩
theorem tQ.alloc (w:World)(v:Value)(o:Obj):tQ w v (w.alloc o) v:=⟨YI w o _,.inl rfl⟩
theorem tQ.trans {w1 w2:World}{v1 v2:Value}(h:tQ w v w1 v1)(k:tQ w1 v1 w2 v2):tQ w v w2 v2:=by
 refine⟨⟨k.grown.os.trans h.grown.os,k.grown.tape.trans h.grown.tape,k.grown.output.trans h.grown.output,qL h.grown.size k.grown.size,λi hi a=>?_⟩,?_⟩
 ·refine(k.grown.block i (qJ hi h.grown.size) (λe=>?_)).trans (h.grown.block i hi a);rcases h.at_ with h1|h1
  ·exact a (by rw [e,h1])
  ·have:=h1 i e.symm;omega
 ·rcases k.at_ with k1|k1
  ·rw [k1];exact h.at_
  ·exact .inr λg hg=>qL h.grown.size (k1 g hg)
theorem tQ.below (hb:Below w.heap.size w w'):tQ w v w' v:=⟨⟨hb.os,hb.tape,hb.output,hb.size,λi hi _=>hb.block i hi⟩,.inl rfl⟩
def vL (n p:Nat):List Nat:=(List.range n).map λk=>p / 10^k%10
theorem Ug (n p:Nat):(vL n p).length=n:=by simp [vL]
theorem PU (n p:Nat):vL (n+1) p=vL n p++[p / 10^n%10]:=by simp [vL,yA]
theorem rP (n p:Nat):zD 10 (vL n p):=by
 intro d hd;obtain⟨j,_,rfl⟩:=List.mem_map.1 hd;exact QH _ zg
theorem UL (p:Nat):∀n,dv 10 (vL n p)=p%10^n
 |0=>by simp [vL,dv,xT]
 |n+1=>by rw [PU,vA,UL p n,Ug,vO 10 p n]
theorem VB (l:List Nat)(i k a:Nat):(l.set i a).getD k 0=if i=k/\k<l.length then a else l.getD k 0:=by
 simp only [qQ,List.getElem?_set];by_cases h:i=k
 ·subst h;by_cases h2:i<l.length
  ·simp [h2]
  ·simp [h2]
 ·simp [h]
def ic (L:List Nat)(i:Nat)(M:List Nat):Prop:=M.length=L.length/\∀j,j<L.length->M.getD j 0=if j<i\/L.length<=j+i then L.getD (L.length - 1 - j) 0 else L.getD j 0
theorem ic.start (L:List Nat):ic L 0 L:=⟨rfl,λj hj=>by rw [if_neg zb]⟩
theorem ic.step {L:List Nat}(h:ic L i M)(hij:i+j+1=L.length)(hlt:i<j):ic L (i+1) ((M.set i (M.getD j 0)).set j (M.getD i 0)):=by
 obtain⟨h1,h2⟩:=h;refine⟨by simpa using h1,λk hk=>?_⟩;rw [VB,VB,xB,h1];by_cases hkj:j=k
 ·subst hkj;rw [if_pos ⟨rfl,hk⟩,if_pos zb,h2 i zb,if_neg zb];congr 1;omega
 ·rw [if_neg zb];by_cases hki:i=k
  ·subst hki;rw [if_pos ⟨rfl,hk⟩,if_pos zb,h2 j zb,if_neg zb];congr 1;omega
  ·rw [if_neg zb,h2 k hk];by_cases hc:k<i\/L.length<=k+i
   ·rw [if_pos hc,if_pos zb]
   ·rw [if_neg hc,if_neg zb]
theorem ic.done {L:List Nat}(h:ic L i M)(hij:i+j+1=L.length)(hle:j<=i):M=L.reverse:=by
 obtain⟨h1,h2⟩:=h;refine jQ (by simpa using h1) λk hk hk2=>?_;have h3:=h2 k zb;rw [qQ,qX hk] at h3;rw [List.getElem_reverse];have e1:L[L.length - 1 - k]' zb=L.getD (L.length - 1 - k) 0:=by rw [qQ,qX zb];rfl
 rw [e1];refine Eq.trans h3 ?_;by_cases hc:k<i\/L.length<=k+i
 ·rw [if_pos hc]
 ·rw [if_neg hc];congr 1;omega
theorem yu.drew (h:yu g w w'):yu g w w'.drew:=⟨h.os,h.tape,h.output,h.size,h.block⟩
def sA (v:Value)(B:ze)(m:Nat):Prop:=0<m->∀ad,B=some ad->v.ownBlock≠some ad.block
theorem sA.words {x m d:Nat}{B:ze}(h:sA v B m)(hx:zn w x B m d)(hg:tQ w v w' v'):zn w' x B m d/\sA v' B m:=by
 refine⟨Yx hx hg.grown (λhm ad e=>(h hm ad e).symm),λhm ad e=>?_⟩;rcases hg.at_ with h1|h1
 ·rw [h1];exact h hm ad e
 ·intro h2;have:=h1 _ h2;obtain⟨ad',e',hb,_⟩:=hx.1.2 hm;rw [e] at e';injection e' with e';subst e';omega
theorem tQ.blk {a:Nat}{e:TypeId}{vs:List Value}(h:tQ w v w' v')(hv:w.ownsRow a e 1 v n vs)(hk:zh w g t cs)(hg:g<a):zh w' g t cs:=
 hk.grown h.grown (λe=>by have:=(hv.lt g e.symm).1;omega)
def lr (x y:Nat)(D:List Nat):Prop:=zD 10 D/\dv 10 D+10^D.length*y=x
theorem lr.start (x:Nat):lr x x []:=⟨λd hd=>by simp at hd,by simp [dv]⟩
theorem lr.step {x y:Nat}(h:lr x y D):lr x (y / 10000000000000000000) (D++vL 19 (y%10000000000000000000)):=by
 refine⟨h.1.append (rP _ _),?_⟩;rw [uO,QV,Ug,UL,xX,show(10:Nat)^19=10000000000000000000 from rfl,Nat.mod_mod,qG,xE,<-qC,XS];exact h.2
theorem lr.done {x:Nat}(h:lr x 0 D):dv 10 D=x:=by have:=h.2;simpa using this
theorem lr.len {x y:Nat}(h:lr x y D)(hy:y≠0):10^D.length<=x:=by
 have:=h.2;have h1:10^D.length*1<=10^D.length*y:=QB _ zb;omega
