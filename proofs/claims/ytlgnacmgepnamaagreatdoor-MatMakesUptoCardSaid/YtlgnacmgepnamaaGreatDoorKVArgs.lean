/- What this claim leans on. -/
import Derived.Test.YtlgnacmgepnamaaGreatDoorKBunZ
import Derived.Deep.RegionHeld
import Derived.Deep.Slices
import Derived.IntWalk
import Derived.OrdersHeld
namespace Go.Proofs.YtlgnacmgepnamaaGreatDoor
open Go Go.RowKit
open Go.ChangeShapes Go.WideShapes Go.ChangeAt Go.Deep
set_option maxHeartbeats 16000000
set_option linter.unusedVariables false
def zbg (z:Int):Prop:=-9223372036854775808<=z/\z<=9223372036854775807
theorem zmN {H:Type}{enc:TypeId×Value->H}{P:Program}{W:World}{fuel:Nat}{t:TypeId}{f0 f1:Field}{c0 c1:Value}{x:DataW H×List MemPlace}
  (hs:P.underlying t=some (.struct #[f0,f1])) (hf:(f0.offset,P.cellsOf f0.type,f1.offset,P.cellsOf f1.type)=(0,1,1,1)) (h0:P.underlying f0.type=some (.int .i64)) (h1:P.underlying f1.type=some (.int .i64))
  (h:DataW.trod enc P W 0 (λ_=>true) true fuel t [c0,c1]=some x):∃p q:Int,c0=.int .i64 p/\c1=.int .i64 q/\zbg p/\zbg q:=by
 simp only [Prod.mk.injEq] at hf
 obtain⟨y0,y1,n,rfl,_,k0,k1⟩:=trod_struct2 hs h
 rw [hf.1,hf.2.1] at k0
 rw [hf.2.2.1,hf.2.2.2] at k1
 simp only [List.drop_zero,List.take_succ_cons,List.take_zero,List.drop_succ_cons] at k0 k1
 obtain⟨p,hp,_,wp⟩:=DataW.trod_int h0 k0
 obtain⟨q,hq,_,wq⟩:=DataW.trod_int h1 k1
 simp only [List.cons.injEq,and_true] at hp hq
 have bp:=bounds_i64 wp
 have bq:=bounds_i64 wq
 exact⟨p,q,hp,hq,⟨by omega,by omega⟩,⟨by omega,by omega⟩⟩
structure zaY (W:World)(A:oA9)(n c:Nat)(L:List (Int×Int)):Prop where
 len:L.length=n
 fits:n<=c
 small:c<=1048576
 ints:∀q ∈ L,zbg q.1/\zbg q.2
 row:∀r q,L[r]?=some q->∃ad,A=some ad/\ad.block<W.heap.size/\W.cell? (ad.add (r*2))=some (.int .i64 q.1)/\W.cell? (ad.add (r*2+1))=some (.int .i64 q.2)
theorem zaY.below {W W':World}{A:oA9}{n c:Nat}{L:List (Int×Int)}(h:zaY W A n c L)(hb:Below W.heap.size W W'):zaY W' A n c L:=
 ⟨h.len,h.fits,h.small,h.ints,λr q hr=>by
  obtain⟨ad,e,h1,h2,h3⟩:=h.row r q hr
  exact⟨ad,e,Nat.lt_of_lt_of_le h1 hb.size,(hb.cell (by rw [zao];exact h1)).trans h2,(hb.cell (by rw [zao];exact h1)).trans h3⟩⟩
theorem zoF {H:Type}{enc:TypeId×Value->H}{P:Program}{W:World}{fuel:Nat}{t0 t:TypeId}{f0 f1:Field}{A:oA9}{n c:Nat}{x:DataW H×List MemPlace}
  (ht:P.underlying t0=some (.slice t)) (hs:P.underlying t=some (.struct #[f0,f1])) (hf:(f0.offset,P.cellsOf f0.type,f1.offset,P.cellsOf f1.type)=(0,1,1,1)) (hC:P.cellsOf t=2) (h0:P.underlying f0.type=some (.int .i64)) (h1:P.underlying f1.type=some (.int .i64))
  (h:DataW.trod enc P W 0 (λ_=>true) true fuel t0 (Value.slice A n c).cells.toList=some x) (hb:Rows.uptoBulk x.1<=1048576):∃L,zaY W A n c L:=by
 rcases open_slice ht h with⟨hcs,_⟩|⟨a,len,cap,m,k,D,Pl,hcs,_,hl,hm,hmm,hx,hi⟩
 ·simp [Value.cells] at hcs
  obtain⟨rfl,rfl,rfl⟩:=hcs
  exact⟨[],rfl,Nat.le_refl _,by omega,λq hq=>(by cases hq),λr q hr=>by simp at hr⟩
 ·simp [Value.cells] at hcs
  obtain⟨rfl,rfl,rfl⟩:=hcs
  rw [if_pos rfl] at hmm
  rw [hmm] at hx hi
  subst hx
  have hss:=UA.slice_le (H:=H) ((List.range n).map D) ((List.range (c - n)).map λj=>D (n+j))
  have hb':Rows.uptoBulk (DataW.slice (H:=H) ((List.range n).map D) ((List.range (c - n)).map λj=>D (n+j)))<=1048576:=hb
  have hcc:c<=1048576:=by
   simp only [List.length_map,List.length_range] at hss
   omega
  have each:∀r,r<n->∃q:Int×Int,W.cell? (a.add (r*2))=some (.int .i64 q.1)/\W.cell? (a.add (r*2+1))=some (.int .i64 q.2)/\zbg q.1/\zbg q.2:=λr hr=>by
   obtain⟨cs,hcl,htr⟩:=hi r (by omega)
   rw [hC] at hcl
   obtain⟨_,hlen,hat⟩:=World.cells?_some hcl
   obtain⟨c0,c1,rfl⟩:∃c0 c1,cs=[c0,c1]:=by
    match cs,hlen with
    |[c0,c1],_=>exact⟨c0,c1,rfl⟩
   obtain⟨p,q,rfl,rfl,hp,hq⟩:=zmN (x:=(D r,Pl r)) hs hf h0 h1 htr
   have h0:=hat 0 (by decide)
   have h1:=hat 1 (by decide)
   rw [Go.Deep.add_add] at h0 h1
   exact⟨(p,q),h0,h1,hp,hq⟩
  obtain ⟨f,hf2⟩ : ∃ f : Nat → Int × Int,∀ r,r < n → W.cell? (a.add (r * 2)) = some (.int .i64 (f r).1) ∧ W.cell? (a.add (r * 2 + 1)) = some (.int .i64 (f r).2) ∧ zbg (f r).1 ∧ zbg (f r).2 :=
   ⟨λr=>if hr:r<n then(each r hr).choose else(0,0),λr hr=>by simp only [dif_pos hr];exact(each r hr).choose_spec⟩
  refine⟨(List.range n).map f,by simp,hl,hcc,λq hq=>?_,λr q hr=>?_⟩
  ·obtain⟨r,hr,rfl⟩:=List.mem_map.1 hq
   exact(hf2 r (List.mem_range.1 hr)).2.2
  ·have hlt:r<n:=by
    have:=(List.getElem?_eq_some_iff.1 hr).1
    simpa using this
   obtain rfl:f r=q:=by
    rw [List.getElem?_map,List.getElem?_range hlt] at hr
    simpa using hr
   obtain⟨c0,c1,_⟩:=hf2 r hlt
   refine⟨a,rfl,?_,c0,c1⟩
   have:=World.block_lt_of_cell? W _ c0
   rw [zao] at this
   exact this
theorem zhK {H:Type}{enc:TypeId×Value->H}{P:Program}{W:World}{fuel:Nat}{t0 t:TypeId}{f0 f1:Field}{v:Value}{x:DataW H×List MemPlace}
  (ht:P.underlying t0=some (.slice t)) (hs:P.underlying t=some (.struct #[f0,f1])) (hf:(f0.offset,P.cellsOf f0.type,f1.offset,P.cellsOf f1.type)=(0,1,1,1)) (hC:P.cellsOf t=2) (h0:P.underlying f0.type=some (.int .i64)) (h1:P.underlying f1.type=some (.int .i64))
  (h:DataW.trod enc P W 0 (λ_=>true) true fuel t0 [v]=some x) (hb:Rows.uptoBulk x.1<=1048576):∃A n c L,v=.slice A n c/\zaY W A n c L:=by
 have go:∀A n c,[v]=[Value.slice A n c]->∃A n c L,v=.slice A n c/\zaY W A n c L:=λA n c e=>by
  simp only [List.cons.injEq,and_true] at e
  subst e
  obtain⟨L,hL⟩:=zoF ht hs hf hC h0 h1 (A:=A) (n:=n) (c:=c) (by simpa [Value.cells] using h) hb
  exact⟨A,n,c,L,rfl,hL⟩
 rcases open_slice ht h with⟨hcs,_⟩|⟨a,len,cap,m,k,D,Pl,hcs,_⟩
 ·exact go _ _ _ hcs
 ·exact go _ _ _ hcs
structure zaV (W:World)(A:oA9)(n c:Nat)(R:Nat->oA9×Nat×Nat×List (Int×Int)):Prop where
 fits:n<=c
 small:c<=1048576
 row:∀r,r<n->∃ad,A=some ad/\ad.block<W.heap.size/\W.cell? (ad.add r)=some (.slice (R r).1 (R r).2.1 (R r).2.2.1)/\zaY W (R r).1 (R r).2.1 (R r).2.2.1 (R r).2.2.2
theorem ziQ {H:Type}{enc:TypeId×Value->H}{P:Program}{W:World}{fuel:Nat}{t9 t0 t:TypeId}{f0 f1:Field}{A:oA9}{n c:Nat}{x:DataW H×List MemPlace}
  (ht9:P.underlying t9=some (.slice t0)) (hC9:P.cellsOf t0=1) (ht:P.underlying t0=some (.slice t)) (hs:P.underlying t=some (.struct #[f0,f1])) (hf:(f0.offset,P.cellsOf f0.type,f1.offset,P.cellsOf f1.type)=(0,1,1,1)) (hC:P.cellsOf t=2) (h0:P.underlying f0.type=some (.int .i64)) (h1:P.underlying f1.type=some (.int .i64))
  (h:DataW.trod enc P W 0 (λ_=>true) true fuel t9 (Value.slice A n c).cells.toList=some x) (hb:Rows.uptoBulk x.1<=1048576):∃R,zaV W A n c R:=by
 rcases open_slice ht9 h with⟨hcs,_⟩|⟨a,len,cap,m,k,D,Pl,hcs,_,hl,hm,hmm,hx,hi⟩
 ·simp [Value.cells] at hcs
  obtain⟨rfl,rfl,rfl⟩:=hcs
  exact⟨λ_=>(none,0,0,[]),Nat.le_refl _,by omega,λr hr=>by omega⟩
 ·simp [Value.cells] at hcs
  obtain⟨rfl,rfl,rfl⟩:=hcs
  rw [if_pos rfl] at hmm
  rw [hmm] at hx hi
  subst hx
  have hss:=UA.slice_le (H:=H) ((List.range n).map D) ((List.range (c - n)).map λj=>D (n+j))
  have hb':Rows.uptoBulk (DataW.slice (H:=H) ((List.range n).map D) ((List.range (c - n)).map λj=>D (n+j)))<=1048576:=hb
  have hcc:c<=1048576:=by
   simp only [List.length_map,List.length_range] at hss
   omega
  have each:∀r,r<n->∃q:oA9×Nat×Nat×List (Int×Int),W.cell? (a.add r)=some (.slice q.1 q.2.1 q.2.2.1)/\zaY W q.1 q.2.1 q.2.2.1 q.2.2.2:=λr hr=>by
   obtain⟨cs,hcl,htr⟩:=hi r (by omega)
   rw [hC9] at hcl
   obtain⟨_,hlen,hat⟩:=World.cells?_some hcl
   obtain⟨c0,rfl⟩:∃c0,cs=[c0]:=by
    match cs,hlen with
    |[c0],_=>exact⟨c0,rfl⟩
   have hD:Rows.uptoBulk (D r)<=1048576:=by
    have hm1:D r ∈(List.range n).map D:=List.mem_map.2 ⟨r,List.mem_range.2 hr,rfl⟩
    have hm2:=UA.mem_le hm1
    simp only [Rows.uptoBulk] at hb'
    omega
   obtain⟨A',n',c',L,rfl,hL⟩:=zhK (x:=(D r,Pl r)) ht hs hf hC h0 h1 htr hD
   have h0:=hat 0 (by decide)
   rw [Go.Deep.add_add,Nat.mul_one,Nat.add_zero] at h0
   exact⟨(A',n',c',L),h0,hL⟩
  refine⟨λr=>if hr:r<n then(each r hr).choose else(none,0,0,[]),hl,hcc,λr hr=>⟨a,rfl,?_,?_⟩⟩
  ·have:=World.block_lt_of_cell? W _ (each r hr).choose_spec.1
   rw [zao] at this
   exact this
  ·simp only [dif_pos hr]
   exact(each r hr).choose_spec
theorem zaY.take {W:World}{A:oA9}{n c N:Nat}{L:List (Int×Int)}(h:zaY W A n c L)(hN:N<=n):zaY W A N c (L.take N):=by
 have hl:=h.len
 have hf:=h.fits
 refine⟨by rw [List.length_take];omega,by omega,h.small,λq hq=>h.ints q (List.mem_of_mem_take hq),λr q hr=>?_⟩
 rw [List.getElem?_take] at hr
 split at hr
 ·exact h.row r q hr
 ·cases hr
open Go Go.RowKit
set_option maxHeartbeats 16000000
set_option linter.unusedVariables false
def zaC (w:World)(z:Int)(b:Bool)(A:oA9)(n c:Nat):Prop:=b=decide (z<0)/\zaf w z.natAbs A n c
theorem zaC.below {w w':World}{z:Int}{b:Bool}{A:oA9}{n c:Nat}(h:zaC w z b A n c)(hb:Below w.heap.size w w'):zaC w' z b A n c:=⟨h.1,h.2.below hb⟩
theorem zaC.words {w:World}{z:Int}{b:Bool}{A:oA9}{n c:Nat}(h:zaC w z b A n c):zaf w z.natAbs A n c:=h.2
def zaT (w:World)(z:Int)(e:Ending)(w':World):Prop:=∃(b:Bool) (A:oA9) (n c:Nat),e=.returned (.agg #[.bool b,.slice A n c])/\zaC w' z b A n c/\Below w.heap.size w w'
def zeo (w:World)(x:Nat)(e:Ending)(w':World):Prop:=∃(A:oA9) (n c:Nat),e=.returned (.agg #[.slice A n c])/\zaf w' x A n c/\Below w.heap.size w w'
structure IntC (T:World->Prop):Prop where
 new:∀(s:Bool) (x:Nat) (A:oA9) (n c:Nat) (w:World),T w->zaf w x A n c->n<=268435456->Calls Tryz.prog 129 #[.bool s,.agg #[.slice A n c]] w (zaT w (if s then -(x:Int) else(x:Int)))
 of:∀(z:Int) (w:World),T w-> -9223372036854775808<=z->z<=9223372036854775807->Calls Tryz.prog 68 #[.int .i64 z] w (zaT w z)
 belowI:∀(z:Int) (b:Bool) (A:oA9) (n c:Nat) (w:World),T w->zaC w z b A n c->n<=268435456->Calls Tryz.prog 123 #[.agg #[.bool b,.slice A n c]] w λe w'=>e=.returned (.bool (decide (z<0)))/\Below w.heap.size w w'
 abs:∀(z:Int) (b:Bool) (A:oA9) (n c:Nat) (w:World),T w->zaC w z b A n c->n<=268435456->Calls Tryz.prog 117 #[.agg #[.bool b,.slice A n c]] w (zeo w z.natAbs)
 sign:∀(z:Int) (b:Bool) (A:oA9) (n c:Nat) (w:World),T w->zaC w z b A n c->n<=268435456->Calls Tryz.prog 108 #[.agg #[.bool b,.slice A n c]] w (zbK w (zej z))
 cmp:∀(x y:Int) (b b':Bool) (A D:oA9) (n m c d:Nat) (w:World),T w->zaC w x b A n c->zaC w y b' D m d->n<=268435456->m<=268435456->Calls Tryz.prog 58 #[.agg #[.bool b,.slice A n c],.agg #[.bool b',.slice D m d]] w (zbK w (zgI x y))
 add:∀(x y:Int) (b b':Bool) (A D:oA9) (n m c d:Nat) (w:World),T w->zaC w x b A n c->zaC w y b' D m d->n<=268435456->m<=268435456->Calls Tryz.prog 135 #[.agg #[.bool b,.slice A n c],.agg #[.bool b',.slice D m d]] w (zaT w (x+y))
 mul:∀(x y:Int) (b b':Bool) (A D:oA9) (n m c d:Nat) (w:World),T w->zaC w x b A n c->zaC w y b' D m d->n<=268435456->m<=268435456->Calls Tryz.prog 155 #[.agg #[.bool b,.slice A n c],.agg #[.bool b',.slice D m d]] w (zaT w (x*y))
open Go Go.RowKit
set_option maxHeartbeats 16000000
set_option maxRecDepth 100000
set_option linter.unusedVariables false
set_option linter.unusedSimpArgs false
theorem zjQ {w:World}{A:oA9}{n c x g:Nat}{t:TypeId}{cs:Array Value}(h:zaf w x A n c)(hk:Blk w g t cs)(hcs:∀v ∈ cs.toList,∀z,v≠.int .u64 z):0<n->∀ad,A=some ad->ad.block≠g:=λhn ad e hg=>by
 obtain⟨ad',e',_,hc⟩:=h.1.2 hn
 rw [e] at e'
 injection e' with e'
 subst e'
 have hl:=h.len
 have h0:=hc 0 (.int .u64 ((dg 18446744073709551616 x).getD 0 0:Nat)) (zcl .u64 _ 0 (by omega))
 have e0:ad.add 0=ad:=by unfold Addr.add;rw [if_pos rfl]
 rw [e0] at h0
 obtain⟨bk,off,pr⟩:=ad
 simp only at hg
 subst hg
 unfold Blk at hk
 cases pr with
 |none=>
   rw [show w.cell? ⟨bk,off,none⟩=cs[off]? from cell_of_row w bk off _ t (0,0) hk,<-Array.getElem?_toList] at h0
   exact hcs _ (List.mem_of_getElem? h0) _ rfl
 |some q=>simp [World.cell?,hk] at h0
theorem zbi {w:World}{z:Int}{b p:Bool}{A q:oA9}{n c r s g:Nat}{t:TypeId}(h:zaC w z b A n c)(hk:Blk w g t #[.bool p,.slice q r s])(p':Bool)(q':oA9)(r' s':Nat):
  zaC ((w.setCell ⟨g,0,none⟩ (.bool p')).setCell ⟨g,1,none⟩ (.slice q' r' s')) z b A n c:=by
 have h1:=zeD (p:=⟨g,0,none⟩) h.2 (zjQ h.2 hk (by intro v hv;simp at hv;rcases hv with rfl|rfl<;>intro z e<;>cases e)) (.bool p')
 exact⟨h.1,zeD (p:=⟨g,1,none⟩) h1 (zjQ h1 (hk.set_ 0 (.bool p')) (by intro v hv;simp at hv;rcases hv with rfl|rfl<;>intro z e<;>cases e)) _⟩
open Go Go.RowKit
set_option maxHeartbeats 16000000
set_option linter.unusedVariables false
def due (l:Array Bool):Nat:=l.toList.countP λb=> !b
section
variable {P:Program}{ops:Array Oper}{Q:Exit->Act->World->Prop}{md:Region.Mode}{S:World->Prop}
theorem zai {i:Nat}{l:Array Bool}(hi:i ∈ Region.ready md ops l):l.getD i true=false:=(mem_ready.1 hi).1
theorem zdn {i:Nat}{l:Array Bool}(hi:i ∈ Region.ready md ops l):i<ops.size:=by
 obtain⟨_,o,ho,_⟩:=mem_ready.1 hi
 exact(Array.getElem?_eq_some_iff.1 ho).1
theorem zpA {i k:Nat}{l:Array Bool}{o:Oper}{e:Edge}(hi:i ∈ Region.ready md ops l)(ho:ops[i]?=some o)(he:o.after[k]?=some e)(hb:Region.binds md e=true):l.getD e.on false=true:=by
 obtain⟨_,o',ho',h⟩:=mem_ready.1 hi
 rw [ho] at ho'
 cases ho'
 exact h e (Array.mem_of_getElem? he) hb
theorem zmz {i:Nat}{l:Array Bool}{o:Oper}(h:Region.ready md ops l=[])(ho:ops[i]?=some o)(hr:(o.after.toList.all λe=> !Region.binds md e||l.getD e.on false)=true):l.getD i true=true:=by
 cases hl:l.getD i true
 ·have:i ∈ Region.ready md ops l:=mem_ready.2 ⟨hl,o,ho,λe he hb=>by
   have:=List.all_eq_true.1 hr e (by simpa using he)
   rw [hb] at this
   simpa using this⟩
  rw [h] at this
  cases this
 ·rfl
theorem znW {i:Nat}{l:Array Bool}(h:l.getD i true=false):due (l.setIfInBounds i true)+1=due l:=by
 obtain⟨l⟩:=l
 unfold due
 have hi:i<l.length:=by
  rcases Nat.lt_or_ge i l.length with h'|h'
  ·exact h'
  ·simp [List.getElem?_eq_none h'] at h
 have hv:l[i]=false:=by simpa [hi] using h
 simp only [List.setIfInBounds_toArray]
 clear h
 induction l generalizing i with
 |nil=>simp at hi
 |cons b t ih=>
   cases i with
   |zero=>
     have hb:b=false:=hv
     subst hb
     simp
   |succ j=>
     have:=ih (i:=j) (by simpa using hi) (by simpa using hv)
     simp only [List.set_cons_succ,List.countP_cons]
     omega
theorem zoT {l:Array Bool}(h:due l=0):Region.ready md ops l=[]:=by
 refine List.eq_nil_iff_forall_not_mem.2 λi hi=>?_
 have:=znW (zai hi)
 omega
theorem zkQ {J:Act->Array Bool->Act->World->Prop}{L:Array Bool}{a0:Act}(hfull:∀l a w,J a0 l a w->Region.ready md ops l=[]->l=L)
  (hstep:∀l a w i,J a0 l a w->l≠L->i ∈ Region.ready md ops l->wpOp P ops Q i (λa' w'=>S w'/\J a0 (l.setIfInBounds i true) a' w') a w)
  (hgoal:∀a w,J a0 L a w->wpAnyH P md ops Q S (due L) L a w):∀(fuel:Nat) (l:Array Bool) (a:Act) (w:World),due l=fuel->J a0 l a w->wpAnyH P md ops Q S fuel l a w:=by
 intro fuel
 induction fuel with
 |zero=>
   intro l a w hd hJ
   have e:=hfull l a w hJ (zoT hd)
   subst e
   have:=hgoal a w hJ
   rwa [hd] at this
 |succ n ih=>
   intro l a w hd hJ
   by_cases hl:l=L
   ·subst hl
    have:=hgoal a w hJ
    rwa [hd] at this
   ·refine⟨λh=>absurd (hfull l a w hJ h) hl,λi hi=>?_⟩
    exact wpOp_mono (λa' w' ⟨h1,h2⟩=>⟨h1,ih _ a' w' (by have:=znW (zai hi);omega) h2⟩) (hstep l a w i hJ hl hi)
end
def Gd (f:Bool)(p:Prop):Prop:=f=true->p
theorem Gd.no {p:Prop}:Gd false p:=λh=>by cases h
theorem Gd.yes {p:Prop}(h:p):Gd true p:=λ_=>h
theorem Gd.get {p:Prop}(h:Gd true p):p:=h rfl
theorem Gd.mono {f:Bool}{p q:Prop}(h:Gd f p)(k:p->q):Gd f q:=λe=>k (h e)
def Made (b:Nat)(w:World)(g:Nat)(t:TypeId)(cs:Array Value)(v:Value):Prop:=v=.pointer (some ⟨g,0,none⟩)/\b<=g/\w.heap[g]?=some (.cells cs t (0,0))
theorem Made.lt {b g:Nat}{w:World}{t:TypeId}{cs:Array Value}{v:Value}(h:Made b w g t cs v):g<w.heap.size:=(Array.getElem?_eq_some_iff.1 h.2.2).1
theorem Made.keep {b g:Nat}{w w':World}{t:TypeId}{cs:Array Value}{v:Value}(h:Made b w g t cs v)(hb:Below w.heap.size w w'):Made b w' g t cs v:=⟨h.1,h.2.1,(hb.block g h.lt).trans h.2.2⟩
theorem Made.new (b:Nat)(w:World)(t:TypeId)(cs:Array Value)(hb:b<=w.heap.size):Made b (w.alloc (.cells cs t)) w.heap.size t cs (.pointer (some ⟨w.heap.size,0,none⟩)):=⟨rfl,hb,heap_alloc_new w _⟩
open Go Go.RowKit
set_option maxHeartbeats 16000000
set_option linter.unusedVariables false
theorem SzI.add {K K':Nat}{x y:Int}(h:Sz K x.natAbs)(h':Sz K' y.natAbs):Sz (K+K'+1) (x+y).natAbs:=
 Sz.of_le (Sz.add (h.up (by omega:K<=K+K')) (h'.up (by omega:K'<=K+K'))) (Int.natAbs_add_le x y)
theorem SzI.mul {K K':Nat}{x y:Int}(h:Sz K x.natAbs)(h':Sz K' y.natAbs):Sz (K+K') (x*y).natAbs:=by
 rw [Int.natAbs_mul];exact Sz.mul h h'
theorem SzI.neg {K:Nat}{x:Int}(h:Sz K x.natAbs):Sz K (-x).natAbs:=by rw [Int.natAbs_neg];exact h
theorem zhX {w:World}{x:Nat}{A:oA9}{n c:Nat}(h:zak w x A n c)(hx:x=0):n=0:=by rw [h.len,hx];rfl
theorem zkf {w:World}{x:Nat}{A:oA9}{n c:Nat}(h:zak w x A n c)(hx:x≠0):0<n:=by
 rw [h.len]
 exact(zha (b:=65536) (by decide) x hx).1
theorem sgn_pos {x:Int}(h:0<x):zej x=1:=by unfold zej;rw [if_neg (by omega),if_neg (by omega)]
theorem sgn_neg {x:Int}(h:x<0):zej x= -1:=by unfold zej;rw [if_pos h]
section
variable {P:Program}{f:FuncId}{args:Array Value}{w:World}
theorem icmp_eq {x y:Int}(h:x=y)(hc:Calls P f args w (zbK w (zgI x y))):Calls P f args w (zbK w 0):=by rw [(zhu x y).2 h] at hc;exact hc
theorem zgL {z:Int}{b:Bool}(h:decide (z<0)=b)(hc:Calls P f args w λe w'=>e=.returned (.bool (decide (z<0)))/\Below w.heap.size w w'):Calls P f args w λe w'=>e=.returned (.bool b)/\Below w.heap.size w w':=by rw [h] at hc;exact hc
theorem zkj {x v:Int}(h:zej x=v)(hc:Calls P f args w (zbK w (zej x))):Calls P f args w (zbK w v):=by rw [h] at hc;exact hc
end
open Go Go.RowKit
set_option maxHeartbeats 16000000
set_option maxRecDepth 100000
set_option linter.unusedVariables false
set_option linter.unusedSimpArgs false
