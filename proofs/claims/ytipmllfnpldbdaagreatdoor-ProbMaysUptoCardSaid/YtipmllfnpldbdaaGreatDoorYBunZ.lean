/- What this claim leans on. -/
import Derived.Test.YtipmllfnpldbdaaGreatDoorYBunQ
import Derived.Deep.RegionHeld
import Derived.Deep.RegionLaw
import Derived.Laws.BytesArg
import Derived.LoopIn
import Derived.LoopNIn
import Derived.OrdersHeld
import Derived.OrdersIn
import Derived.OwnWalkIn
import Derived.RangeFuncBound
import Derived.RangeFuncCalls
import Derived.RangeFuncLeaves
import Derived.RangeFuncNested
import Derived.Shelf.Abstract
import Derived.Shelf.RegionOpen
import Derived.TacticsInMore
set_option linter.unusedVariables false
set_option linter.unusedSimpArgs false
namespace Go.Proofs.YtipmllfnpldbdaaGreatDoor
open Go Go.RowKit Go.Proofs.Tryz
open Go.ChangeShapes Go.WideShapes Go.ChangeAt
set_option maxHeartbeats 16000000
namespace UA
set_option maxHeartbeats 16000000
theorem nD {H:Type}(d:DataW H):1<=Rows.uptoBulk d:=by
 cases d with
 |lit l=>cases l<;>simp [Rows.uptoBulk]
 |nil=>simp [Rows.uptoBulk]
 |ptr d=>simp [Rows.uptoBulk]
 |slice elems spare=>simp [Rows.uptoBulk]
 |agg parts=>simp [Rows.uptoBulk]
 |iface t d=>simp [Rows.uptoBulk]
 |map entries=>simp [Rows.uptoBulk]
 |held h=>simp [Rows.uptoBulk]
theorem dR {H:Type}(l:List (DataW H)):l.length<=Rows.uptoBulkAll l:=by
 induction l with
 |nil=>simp [Rows.uptoBulkAll]
 |cons x r ih=>have:=nD x;simp only [Rows.uptoBulkAll,xY];omega
theorem slice_le {H:Type}(a d:List (DataW H)):a.length+d.length+1<=Rows.uptoBulk (.slice a d):=by
 have h1:=dR a;have h2:=dR d;simp only [Rows.uptoBulk];omega
end UA
open Go Go.RowKit Go.Proofs.Tryz
open Go.ChangeShapes Go.WideShapes Go.ChangeAt Go.Deep
set_option maxHeartbeats 16000000
open Go Go.RowKit Go.Proofs.Tryz
open Go.ChangeShapes Go.WideShapes Go.ChangeAt Go.Deep
set_option maxHeartbeats 16000000
open Go Go.RowKit Go.Proofs.Tryz
set_option maxHeartbeats 16000000
open Go Go.RowKit Go.Proofs.Tryz
set_option maxHeartbeats 16000000
open Go Go.RowKit Go.Proofs.Tryz
set_option maxHeartbeats 16000000
open Go Go.RowKit Go.Proofs.Tryz
set_option maxHeartbeats 16000000
variable {a0:Act}{cs:Array Value}{b:Bool}{y z:Int}{D M:List Nat}{K K' c d g i j x:Nat}{t:TypeId}{v v':Value}{w w':World}{A:zf}
def un (x y:Int):Int:=if x<y then -1 else if x=y then 0 else 1
theorem jt (x y:Int):un x y=0↔x=y:=by unfold un;split<;>(try split)<;>omega
def vR (x:Int):Int:=if x<0 then -1 else if x=0 then 0 else 1
def qI (x y:Int):Int:=if 0<=y then x / y else(-x) / (-y)
def rI (x y:Int):Int:=if 0<=y then x%y else -((-x)%(-y))
theorem lA (x y:Int):qI x y*y+rI x y=x:=by
 unfold qI rI
 split
 ·rw [XG];exact XZ x y
 ·have h:=XZ (-x) (-y);rw [Int.neg_mul] at h;rw [XG];omega
theorem sx {x:Int}(hy:y≠0):(rI x y).natAbs<y.natAbs:=by
 unfold rI
 split
 ·have h1:=yO x hy;have h2:=yU x (show 0<y by omega);omega
 ·have h1:=yO (-x) (show -y≠0 by omega);have h2:=yU (-x) (show 0< -y by omega);omega
theorem pw {x:Int}(hy:y≠0):rI x y=0\/(0<rI x y/\0<y\/rI x y<0/\y<0):=by
 unfold rI
 split
 ·have h1:=yO x hy;omega
 ·have h1:=yO (-x) (show -y≠0 by omega);omega
open Go Go.RowKit Go.Proofs.Tryz
set_option maxHeartbeats 16000000
def zO (w:World)(z:Int)(b:Bool)(A:zf)(n c:Nat):Prop:=b=decide (z<0)/\zp w z.natAbs A n c
theorem zO.below {n:Nat}(h:zO w z b A n c)(hb:Below w.heap.size w w'):zO w' z b A n c:=⟨h.1,h.2.below hb⟩
theorem zO.words {n:Nat}(h:zO w z b A n c):zp w z.natAbs A n c:=h.2
def yu (w:World)(z:Int)(e:Ending)(w':World):Prop:=∃(b:Bool) (A:zf) (n c:Nat),e=.returned (.agg #[.bool b,.slice A n c])/\zO w' z b A n c/\Below w.heap.size w w'
def nO (w:World)(x:Nat)(e:Ending)(w':World):Prop:=∃(A:zf) (n c:Nat),e=.returned (.agg #[.slice A n c])/\zp w' x A n c/\Below w.heap.size w w'
structure oQ (T:World->Prop):Prop where
 new:∀(s:Bool) (x:Nat) (A:zf) (n c:Nat) (w:World),T w->zp w x A n c->n<=268435456->Calls prog 99 #[.bool s,.agg #[.slice A n c]] w (yu w (if s then -(x:Int) else(x:Int)))
 of:∀(z:Int) (w:World),T w-> -9223372036854775808<=z->z<=9223372036854775807->Calls prog 76 #[.int .i64 z] w (yu w z)
 belowI:∀(z:Int) (b:Bool) (A:zf) (n c:Nat) (w:World),T w->zO w z b A n c->n<=268435456->Calls prog 97 #[.agg #[.bool b,.slice A n c]] w λe w'=>e=.returned (.bool (decide (z<0)))/\Below w.heap.size w w'
 abs:∀(z:Int) (b:Bool) (A:zf) (n c:Nat) (w:World),T w->zO w z b A n c->n<=268435456->Calls prog 95 #[.agg #[.bool b,.slice A n c]] w (nO w z.natAbs)
 sign:∀(z:Int) (b:Bool) (A:zf) (n c:Nat) (w:World),T w->zO w z b A n c->n<=268435456->Calls prog 92 #[.agg #[.bool b,.slice A n c]] w (wF w (vR z))
 cmp:∀(x y:Int) (b b':Bool) (A D:zf) (n m c d:Nat) (w:World),T w->zO w x b A n c->zO w y b' D m d->n<=268435456->m<=268435456->Calls prog 49 #[.agg #[.bool b,.slice A n c],.agg #[.bool b',.slice D m d]] w (wF w (un x y))
 add:∀(x y:Int) (b b':Bool) (A D:zf) (n m c d:Nat) (w:World),T w->zO w x b A n c->zO w y b' D m d->n<=268435456->m<=268435456->Calls prog 69 #[.agg #[.bool b,.slice A n c],.agg #[.bool b',.slice D m d]] w (yu w (x+y))
 mul:∀(x y:Int) (b b':Bool) (A D:zf) (n m c d:Nat) (w:World),T w->zO w x b A n c->zO w y b' D m d->n<=268435456->m<=268435456->Calls prog 93 #[.agg #[.bool b,.slice A n c],.agg #[.bool b',.slice D m d]] w (yu w (x*y))
open Go Go.RowKit Go.Proofs.Tryz
set_option maxHeartbeats 16000000
set_option maxRecDepth 100000
theorem cT {n:Nat}(h:zp w x A n c)(hk:zi w g t cs)(a:∀v ∈ cs.toList,∀z,v≠.int .u64 z):0<n->∀ad,A=some ad->ad.block≠g:=λhn ad e hg=>by
 obtain⟨ad',e',_,hc⟩:=h.1.2 hn;rw [e] at e';injection e' with e';subst e';have hl:=h.len;have h0:=hc 0 (.int .u64 ((dg 18446744073709551616 x).getD 0 0:Nat)) (oD .u64 _ 0 za);have e0:ad.add 0=ad:=by unfold Addr.add;rw [if_pos rfl]
 rw [e0] at h0;obtain⟨bk,off,pr⟩:=ad;simp only at hg;subst hg;unfold zi at hk;cases pr with
 |none=>
   rw [show w.cell? ⟨bk,off,none⟩=cs[off]? from cell_of_row w bk off _ t (0,0) hk,<-QP] at h0;exact a _ (QN h0) _ rfl
 |some q=>simp [World.cell?,hk] at h0
theorem wU {p:Bool}{q:zf}{n r s:Nat}(h:zO w z b A n c)(hk:zi w g t #[.bool p,.slice q r s])(p':Bool)(q':zf)(r' s':Nat):
  zO ((w.setCell ⟨g,0,none⟩ (.bool p')).setCell ⟨g,1,none⟩ (.slice q' r' s')) z b A n c:=by
 have h1:=jf (p:=⟨g,0,none⟩) h.2 (cT h.2 hk (by intro v hv;simp at hv;rcases hv with rfl|rfl<;>intro z e<;>cases e)) (.bool p');exact⟨h.1,jf (p:=⟨g,1,none⟩) h1 (cT h1 (hk.set_ 0 (.bool p')) (by intro v hv;simp at hv;rcases hv with rfl|rfl<;>intro z e<;>cases e)) _⟩
open Go Go.RowKit Go.Proofs.Tryz
set_option maxHeartbeats 16000000
def ql (l:Array Bool):Nat:=l.toList.countP λb=> !b
section
variable {P:Program}{ops:Array Oper}{Q:Exit->Act->World->Prop}{md:Region.Mode}{S:World->Prop}
theorem jo {l:Array Bool}(hi:i ∈ Region.ready md ops l):l.getD i true=false:=(mem_ready.1 hi).1
theorem bU {l:Array Bool}(hi:i ∈ Region.ready md ops l):i<ops.size:=by
 obtain⟨_,o,ho,_⟩:=mem_ready.1 hi;exact(Array.getElem?_eq_some_iff.1 ho).1
theorem aX {l:Array Bool}(h:l.getD i true=false):ql (l.setIfInBounds i true)+1=ql l:=by
 obtain⟨l⟩:=l;unfold ql;have hi:i<l.length:=by
  rcases xC i l.length with h'|h'
  ·exact h'
  ·simp [xP h'] at h
 have hv:l[i]=false:=by simpa [hi] using h
 simp only [qK];clear h
 induction l generalizing i with
 |nil=>simp at hi
 |cons b t ih=>
   cases i with
   |zero=>
     have hb:b=false:=hv;subst hb;simp
   |succ j=>
     have:=ih (i:=j) (by simpa using hi) (by simpa using hv);simp only [qH,List.countP_cons];omega
theorem V3 {l:Array Bool}(h:ql l=0):Region.ready md ops l=[]:=by
 refine List.eq_nil_iff_forall_not_mem.2 λi hi=>?_;have:=aX (jo hi);omega
theorem Y5 {J:Act->Array Bool->Act->World->Prop}{L:Array Bool}(g:∀l a w,J a0 l a w->Region.ready md ops l=[]->l=L)
  (m:∀l a w i,J a0 l a w->l≠L->i ∈ Region.ready md ops l->wpOp P ops Q i (λa' w'=>S w'/\J a0 (l.setIfInBounds i true) a' w') a w)
  (j:∀a w,J a0 L a w->wpAnyH P md ops Q S (ql L) L a w):∀(d:Nat) (l:Array Bool) (a:Act) (w:World),ql l=d->J a0 l a w->wpAnyH P md ops Q S d l a w:=by
 intro d
 induction d with
 |zero=>
   intro l a w hd hJ;have e:=g l a w hJ (V3 hd);subst e;have:=j a w hJ;rwa [hd] at this
 |succ n ih=>
   intro l a w hd hJ;by_cases hl:l=L
   ·subst hl;have:=j a w hJ;rwa [hd] at this
   ·refine⟨λh=>absurd (g l a w hJ h) hl,λi hi=>?_⟩;exact wpOp_mono (λa' w' ⟨h1,h2⟩=>⟨h1,ih _ a' w' (by have:=aX (jo hi);omega) h2⟩) (m l a w i hJ hl hi)
theorem Xm {J:Act->Array Bool->Act->World->Prop}{L:Array Bool}{l0:Array Bool}{w0:World}(hd:ql l0=d)(h0:J a0 l0 a0 w0)
  (g:∀l a w,J a0 l a w->Region.ready md ops l=[]->l=L)
  (j:∀l a w i,J a0 l a w->l≠L->i ∈ Region.ready md ops l->wpOp P ops Q i (λa' w'=>S w'/\J a0 (l.setIfInBounds i true) a' w') a w)
  (h:∀a w,J a0 L a w->wpAnyH P md ops Q S (ql L) L a w):wpAnyH P md ops Q S d l0 a0 w0:=
 Y5 g j h d l0 a0 w0 hd h0
end
def Gd (f:Bool)(p:Prop):Prop:=f=true->p
theorem Gd.no {p:Prop}:Gd false p:=λh=>by cases h
theorem Gd.get {p:Prop}(h:Gd true p):p:=h rfl
theorem Gd.mono {f:Bool}{p q:Prop}(h:Gd f p)(k:p->q):Gd f q:=λe=>k (h e)
def vj (b:Nat)(w:World)(g:Nat)(t:TypeId)(cs:Array Value)(v:Value):Prop:=v=.pointer (some ⟨g,0,none⟩)/\b<=g/\w.heap[g]?=some (.cells cs t (0,0))
theorem vj.lt {b:Nat}{t:TypeId}{cs:Array Value}(h:vj b w g t cs v):g<w.heap.size:=(Array.getElem?_eq_some_iff.1 h.2.2).1
theorem vj.keep {b:Nat}{w':World}(h:vj b w g t cs v)(hb:Below w.heap.size w w'):vj b w' g t cs v:=⟨h.1,h.2.1,(hb.block g h.lt).trans h.2.2⟩
theorem vj.new (b:Nat)(w:World)(t:TypeId)(cs:Array Value)(hb:b<=w.heap.size):vj b (w.alloc (.cells cs t)) w.heap.size t cs (.pointer (some ⟨w.heap.size,0,none⟩)):=⟨rfl,hb,heap_alloc_new w _⟩
open Go Go.RowKit Go.Proofs.Tryz
set_option maxHeartbeats 16000000
theorem SzI.add {x:Int}(h:Sz K x.natAbs)(h':Sz K' y.natAbs):Sz (K+K'+1) (x+y).natAbs:=
 Sz.of_le (Sz.add (h.up (by omega:K<=K+K')) (h'.up (by omega:K'<=K+K'))) (Int.natAbs_add_le x y)
theorem SzI.sub {x:Int}(h:Sz K x.natAbs)(h':Sz K' y.natAbs):Sz (K+K'+1) (x - y).natAbs:=by
 rw [Int.sub_eq_add_neg];exact SzI.add h (by rw [Int.natAbs_neg];exact h')
theorem SzI.mul {x:Int}(h:Sz K x.natAbs)(h':Sz K' y.natAbs):Sz (K+K') (x*y).natAbs:=by
 rw [xB];exact Sz.mul h h'
theorem SzI.neg {x:Int}(h:Sz K x.natAbs):Sz K (-x).natAbs:=by rw [Int.natAbs_neg];exact h
theorem lz (x y:Int):(qI x y).natAbs<=x.natAbs:=by
 by_cases hy:y=0
 ·subst hy;unfold qI;simp
 ·have h1:=lA x y;have h2:=sx (x:=x) hy;have h3:=pw (x:=x) hy;generalize rI x y=r at*;generalize qI x y=q at*;by_cases hq:q=0
  ·subst hq;simp
  ·have e:x.natAbs+r.natAbs>=q.natAbs*y.natAbs:=by
    rw [<-xB];have:=Int.natAbs_sub_le x r;rw [show x - r=q*y by omega] at this;exact this
   have hq1:1<=q.natAbs:=za;have a:1<=y.natAbs:=za;rcases h3 with h3|h3
   ·subst h3;have:q.natAbs*1<=q.natAbs*y.natAbs:=QG _ a;simp at e;omega
   ·-- what is left has the divisor's side:the quotient is not farther out than the number
    have e2:(x - r).natAbs=q.natAbs*y.natAbs:=by rw [<-xB];congr 1;omega
    rcases Int.lt_trichotomy q 0 with hq0|hq0|hq0
    ·-- below 0:x and y lie on two sides
     have:(q.natAbs - 1)*y.natAbs+y.natAbs=q.natAbs*y.natAbs:=by
      obtain⟨k,hk⟩:∃k,q.natAbs=k+1:=⟨q.natAbs - 1,za⟩;rw [hk,Nat.add_sub_cancel,QH,XU]
     have hm:(q.natAbs - 1)*1<=(q.natAbs - 1)*y.natAbs:=QG _ a;by_cases hy2:y.natAbs=1
     ·omega
     ·by_cases hk:q.natAbs=1
      ·have hx0:x≠0:=by
        intro hx;subst hx;rw [hk,XU] at e2;omega
       omega
      ·have hm2:(q.natAbs - 1)*2<=(q.natAbs - 1)*y.natAbs:=QG _ za;omega
    ·omega
    ·have hxr:x.natAbs=q.natAbs*y.natAbs+r.natAbs:=by
      rcases h3 with⟨ha,hb⟩|⟨ha,hb⟩
      ·have:0<q*y:=Int.mul_pos hq0 hb;have e3:(q*y).natAbs=q.natAbs*y.natAbs:=xB _ _;omega
      ·have:q*y<0:=Int.mul_neg_of_pos_of_neg hq0 hb;have e3:(q*y).natAbs=q.natAbs*y.natAbs:=xB _ _;omega
     have:q.natAbs*1<=q.natAbs*y.natAbs:=QG _ a;omega
theorem SzI.q {x:Int}(y:Int)(h:Sz K x.natAbs):Sz K (qI x y).natAbs:=Sz.of_le h (lz x y)
theorem SzI.r (x:Int)(hy:y≠0)(h:Sz K y.natAbs):Sz K (rI x y).natAbs:=Sz.of_le h (yY (sx hy))
section
variable {P:Program}{f:FuncId}{args:Array Value}{w:World}
theorem qq {x:Int}(h:x=y)(hc:Calls P f args w (wF w (un x y))):Calls P f args w (wF w 0):=by rw [(jt x y).2 h] at hc;exact hc
end
open Go Go.RowKit Go.Proofs.Tryz
set_option maxHeartbeats 16000000
set_option maxRecDepth 100000
open Go Go.RowKit Go.Proofs.Tryz
set_option maxHeartbeats 16000000
def yn (w:World)(t:TypeId)(g cap n:Nat)(L:List Nat):Prop:=
 ∃cur,zi w g t cur/\n<=cap/\cap<=maxLen/\cur.size=cap/\L.length=n/\cur.toList.take n=zw .u8 L
section
variable {w w':World}{t:TypeId}{g cap n:Nat}{L:List Nat}
theorem yn.len (h:yn w t g cap n L):L.length=n:=by obtain⟨_,_,_,_,_,h,_⟩:=h;exact h
theorem yn.room (h:yn w t g cap n L):n<=cap/\cap<=maxLen:=by obtain⟨_,_,h,h2,_⟩:=h;exact⟨h,h2⟩
theorem yn.lt (h:yn w t g cap n L):g<w.heap.size:=by obtain⟨_,h,_⟩:=h;exact h.lt
theorem yn.cell (h:yn w t g cap n L)(k:Nat)(hk:k<n):w.cell? ⟨g,k,none⟩=some (.int .u8 (L.getD k 0:Nat)):=by
 obtain⟨cur,hb,h1,h2,h3,h4,h5⟩:=h;rw [hb.cell k,<-QP,<-oD .u8 L k za,<-h5,yV,if_pos hk]
theorem yn.frozen (h:yn w t g cap n L)(k:Nat):w.frozen? ⟨g,k,none⟩=false:=by
 obtain⟨cur,hb,_⟩:=h;exact hb.frozen k
theorem yn.set_ (h:yn w t g cap n L)(k d:Nat)(hk:k<n):yn (w.setCell ⟨g,k,none⟩ (.int .u8 (d:Int))) t g cap n (L.set k d):=by
 obtain⟨cur,hb,h1,h2,h3,h4,h5⟩:=h;refine⟨_,hb.set_ k _,h1,h2,by simpa using h3,by simpa using h4,?_⟩;rw [xV,YS,h5];unfold zw;rw [List.map_set]
theorem yn.below {B:Nat}(h:yn w t g cap n L)(hb:Below B w w')(hg:g<B):yn w' t g cap n L:=by
 obtain⟨a,h0,h1⟩:=h;exact⟨a,h0.below hb hg,h1⟩
theorem yn.keep (h:yn w t g cap n L)(hb:Below w.heap.size w w'):yn w' t g cap n L:=h.below hb h.lt
theorem yn.drew (h:yn w t g cap n L):yn w.drew t g cap n L:=h
theorem yn.alloc (h:yn w t g cap n L)(o:Obj):yn (w.alloc o) t g cap n L:=by
 obtain⟨a,h0,h1⟩:=h;exact⟨a,h0.alloc o,h1⟩
theorem yn.far (h:yn w t g cap n L){p:Addr}(hp:g≠p.block)(u:Value):yn (w.setCell p u) t g cap n L:=by
 obtain⟨a,h0,h1⟩:=h;exact⟨a,h0.far hp u,h1⟩
theorem yn.reads (h:yn w t g cap n L):zE w w.heap.size 1 (some ⟨g,0,none⟩) n (zw .u8 L):=by
 have hl:=h.lt;have hc:=h.cell;have hn:=h.len;refine⟨by rw [xt];omega,λ_=>⟨_,rfl,hl,λj u hu=>?_⟩⟩;have hj:j<L.length:=by
  rcases xC j L.length with hj|hj
  ·exact hj
  ·rw [xP (by rw [xt];exact hj)] at hu;cases hu
 have e:(⟨g,0,none⟩:Addr).add j=⟨g,j,none⟩:=by unfold Addr.add;split<;>simp_all
 rw [e,hc j za,<-oD .u8 L j hj,hu]
theorem yn.own (h:yn w t g cap n L){a:Nat}(hb:a<=g):w.ownsRow a t 1 (.slice (some ⟨g,0,none⟩) n cap) n (zw .u8 L):=by
 obtain⟨d,h0,h1,h2,h3,h4,h5⟩:=h;exact⟨by rw [xt];omega,.inr ⟨g,cap,d,rfl,hb,h0,h1,h2,za,by rw [xO];exact h5⟩⟩
theorem yn.made (w:World)(t:TypeId)(N:Nat)(hN:N<=maxLen):yn (w.alloc (.cells (madeCells (Value.cells (.int .u8 0)) N) t)) t w.heap.size N N (List.replicate N 0):=by
 refine⟨_,zi.new w t _,qX _,hN,size_madeCells _ _,zD,?_⟩;show(madeCells #[Value.int .u8 0] N).toList.take N=_;rw [toList_madeCells_one,qV zD];simp [zw]
theorem yn.of_own {l:List Nat}(h:w.ownsRow j t 1 v n (zw .u8 l))(hn:0<n):∃g i,v=.slice (some ⟨g,0,none⟩) n i/\j<=g/\yn w t g i n l:=by
 obtain⟨h1,h2⟩:=h;rcases h2 with⟨_,h⟩|⟨g,i,cur,e,hb,hk,a,b,c,d⟩
 ·omega
 ·refine⟨g,i,e,hb,cur,hk,a,b,za,by rw [xt] at h1;omega,?_⟩;rw [xO] at d;exact d
end
open Go Go.RowKit Go.Proofs.Tryz
set_option maxHeartbeats 16000000
set_option maxRecDepth 100000
open Go Go.RowKit Go.Proofs.Tryz
set_option maxHeartbeats 16000000
set_option maxRecDepth 100000
structure ul (w:World)(v:Value)(w':World)(v':Value):Prop where
 grown:w.grownBy w' v.ownBlock
 at_:v'.ownBlock=v.ownBlock\/∀g,v'.ownBlock=some g->w.heap.size<=g
theorem ul.refl (w:World)(v:Value):ul w v w v:=⟨World.grownBy.refl _ _,.inl rfl⟩
theorem ul.alloc (w:World)(v:Value)(o:Obj):ul w v (w.alloc o) v:=⟨yI w o _,.inl rfl⟩
theorem ul.trans {w1 w2:World}{v1 v2:Value}(h:ul w v w1 v1)(k:ul w1 v1 w2 v2):ul w v w2 v2:=by
 refine⟨⟨k.grown.os.trans h.grown.os,k.grown.tape.trans h.grown.tape,k.grown.output.trans h.grown.output,qC h.grown.size k.grown.size,λi hi a=>?_⟩,?_⟩
 ·refine(k.grown.block i (qJ hi h.grown.size) (λe=>?_)).trans (h.grown.block i hi a);rcases h.at_ with h1|h1
  ·exact a (by rw [e,h1])
  ·have:=h1 i e.symm;omega
 ·rcases k.at_ with k1|k1
  ·rw [k1];exact h.at_
  ·exact .inr λg hg=>qC h.grown.size (k1 g hg)
theorem ul.below (hb:Below w.heap.size w w'):ul w v w' v:=⟨⟨hb.os,hb.tape,hb.output,hb.size,λi hi _=>hb.block i hi⟩,.inl rfl⟩
def wy (n p:Nat):List Nat:=(List.range n).map λk=>p / 10^k%10
theorem bE (n p:Nat):(wy n p).length=n:=by simp [wy]
theorem Ue (n p:Nat):wy (n+1) p=wy n p++[p / 10^n%10]:=by simp [wy,YM]
theorem tR (n p:Nat):zC 10 (wy n p):=by
 intro d hd;obtain⟨j,_,rfl⟩:=List.mem_map.1 hd;exact QI _ zh
theorem Zd (p:Nat):∀n,dv 10 (wy n p)=p%10^n
 |0=>by simp [wy,dv,xD]
 |n+1=>by rw [Ue,wB,Zd p n,bE,wM 10 p n]
open Go Go.RowKit Go.Proofs.Tryz
set_option maxHeartbeats 16000000
set_option maxRecDepth 100000
theorem bB (l:List Nat)(i k a:Nat):(l.set i a).getD k 0=if i=k/\k<l.length then a else l.getD k 0:=by
 simp only [qQ,List.getElem?_set];by_cases h:i=k
 ·subst h;by_cases h2:i<l.length
  ·simp [h2]
  ·simp [h2]
 ·simp [h]
def kv (L:List Nat)(i:Nat)(M:List Nat):Prop:=M.length=L.length/\∀j,j<L.length->M.getD j 0=if j<i\/L.length<=j+i then L.getD (L.length - 1 - j) 0 else L.getD j 0
theorem kv.step {L:List Nat}(h:kv L i M)(hij:i+j+1=L.length)(hlt:i<j):kv L (i+1) ((M.set i (M.getD j 0)).set j (M.getD i 0)):=by
 obtain⟨h1,h2⟩:=h;refine⟨by simpa using h1,λk hk=>?_⟩;rw [bB,bB,YL,h1];by_cases hkj:j=k
 ·subst hkj;rw [if_pos ⟨rfl,hk⟩,if_pos za,h2 i za,if_neg za];congr 1;omega
 ·rw [if_neg za];by_cases hki:i=k
  ·subst hki;rw [if_pos ⟨rfl,hk⟩,if_pos za,h2 j za,if_neg za];congr 1;omega
  ·rw [if_neg za,h2 k hk];by_cases hc:k<i\/L.length<=k+i
   ·rw [if_pos hc,if_pos za]
   ·rw [if_neg hc,if_neg za]
theorem kv.done {L:List Nat}(h:kv L i M)(hij:i+j+1=L.length)(hle:j<=i):M=L.reverse:=by
 obtain⟨h1,h2⟩:=h;refine YH (by simpa using h1) λk hk hk2=>?_;have h3:=h2 k za;rw [qQ,qZ hk] at h3;rw [List.getElem_reverse];have e1:L[L.length - 1 - k]' za=L.getD (L.length - 1 - k) 0:=by rw [qQ,qZ za];rfl
 rw [e1];refine Eq.trans h3 ?_;by_cases hc:k<i\/L.length<=k+i
 ·rw [if_pos hc]
 ·rw [if_neg hc];congr 1;omega
theorem zW.drew (h:zW g w w'):zW g w w'.drew:=⟨h.os,h.tape,h.output,h.size,h.block⟩
open Go Go.RowKit Go.Proofs.Tryz
set_option maxHeartbeats 16000000
set_option maxRecDepth 100000
def uN (v:Value)(B:zf)(m:Nat):Prop:=0<m->∀ad,B=some ad->v.ownBlock≠some ad.block
theorem uN.words {m:Nat}{B:zf}(h:uN v B m)(hx:zp w x B m d)(hg:ul w v w' v'):zp w' x B m d/\uN v' B m:=by
 refine⟨ee hx hg.grown (λhm ad e=>(h hm ad e).symm),λhm ad e=>?_⟩;rcases hg.at_ with h1|h1
 ·rw [h1];exact h hm ad e
 ·intro h2;have:=h1 _ h2;obtain⟨ad',e',hb,_⟩:=hx.1.2 hm;rw [e] at e';injection e' with e';subst e';omega
theorem ul.blk {a n:Nat}{e:TypeId}{vs:List Value}(h:ul w v w' v')(hv:w.ownsRow a e 1 v n vs)(hk:zi w g t cs)(hg:g<a):zi w' g t cs:=
 hk.grown h.grown (λe=>by have:=(hv.lt g e.symm).1;omega)
def mq (x y:Nat)(D:List Nat):Prop:=zC 10 D/\dv 10 D+10^D.length*y=x
theorem mq.step {y:Nat}(h:mq x y D):mq x (y / 10000000000000000000) (D++wy 19 (y%10000000000000000000)):=by
 refine⟨h.1.append (tR _ _),?_⟩;rw [vJ,qA,bE,Zd,xU,show(10:Nat)^19=10000000000000000000 from rfl,Nat.mod_mod,qU,xR,<-qS,xA];exact h.2
theorem mq.done (h:mq x 0 D):dv 10 D=x:=by have:=h.2;simpa using this
theorem mq.len {y:Nat}(h:mq x y D)(hy:y≠0):10^D.length<=x:=by
 have:=h.2;have h1:10^D.length*1<=10^D.length*y:=QG _ za;omega
open Go Go.RowKit Go.Proofs.Tryz
set_option maxHeartbeats 16000000
set_option maxRecDepth 100000
open Go Go.RowKit Go.Proofs.Tryz
set_option maxHeartbeats 16000000
set_option maxRecDepth 100000
open Go Go.RowKit Go.Proofs.Tryz
set_option maxHeartbeats 16000000
set_option maxRecDepth 100000
def vy (b x y:Nat)(D:List Nat):Prop:=D++dg b y=dg b x
theorem vy.step {b y:Nat}(h:vy b x y D)(hb:2<=b)(hy:y≠0):vy b x (y / b) (D++[y%b]):=by
 unfold vy at h⊢;rw [<-h,mO hb hy,xX];rfl
open Go Go.RowKit Go.Proofs.Tryz
set_option maxHeartbeats 16000000
set_option maxRecDepth 100000
open Go Go.RowKit Go.Proofs.Tryz
set_option maxHeartbeats 16000000
set_option maxRecDepth 100000
open Go Go.RowKit Go.Proofs.Tryz
set_option maxHeartbeats 16000000
set_option maxRecDepth 100000
theorem jJ {q:Nat}(h:q%2≠0):Nat.gcd 2 q=1:=by
 have h1:Nat.gcd 2 q ∣ 2:=XV 2 q;have h2:=Nat.le_of_dvd zh h1;have h3:Nat.gcd 2 q≠0:=λe=>by rw [e] at h1;exact absurd (Nat.eq_zero_of_zero_dvd h1) zh
 have h4:Nat.gcd 2 q≠2:=λe=>h (Nat.mod_eq_zero_of_dvd (by rw [<-e];exact XY 2 q));omega
theorem it {p q:Nat}(hp:p%2=0)(hq:q%2≠0):Nat.gcd (p / 2) q=Nat.gcd p q:=by
 have e:p=2*(p / 2):=za;have h:Nat.Coprime 2 q:=jJ hq;rw [show Nat.gcd p q=Nat.gcd (2*(p / 2)) q from by rw [<-e]];exact(h.gcd_mul_left_cancel (p / 2)).symm
theorem tE {p q:Nat}(h:q<=p):Nat.gcd (p - q) q=Nat.gcd p q:=by
 obtain⟨s,rfl⟩:∃s,p=q+s:=⟨p - q,za⟩;rw [QW,Nat.gcd_self_add_left]
