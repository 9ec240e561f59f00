/- What this claim leans on. -/
import Derived.Test.YtghpdeciaaagnaaGreatDoorIW8Far
import Derived.Deep.Matrix
import Derived.Deep.Slices
import Derived.Laws.Concat
namespace Go.Proofs.YtghpdeciaaagnaaGreatDoor
open Go Go.RowKit
open Go.ChangeShapes Go.WideShapes Go.ChangeAt
set_option maxHeartbeats 16000000
set_option linter.unusedVariables false
namespace UA
set_option maxHeartbeats 16000000
theorem one_le {H:Type}(d:DataW H):1<=Rows.uptoBulk d:=by
 cases d with
 |lit l=>cases l<;>simp [Rows.uptoBulk]
 |nil=>simp [Rows.uptoBulk]
 |ptr d=>simp [Rows.uptoBulk]
 |slice elems spare=>simp [Rows.uptoBulk]
 |agg parts=>simp [Rows.uptoBulk]
 |iface t d=>simp [Rows.uptoBulk]
 |map entries=>simp [Rows.uptoBulk]
 |held h=>simp [Rows.uptoBulk]
theorem zkS {H:Type}(l:List (DataW H)):l.length<=Rows.uptoBulkAll l:=by
 induction l with
 |nil=>simp [Rows.uptoBulkAll]
 |cons x r ih=>have:=one_le x;simp only [Rows.uptoBulkAll,List.length_cons];omega
theorem slice_le {H:Type}(elems spare:List (DataW H)):elems.length+spare.length+1<=Rows.uptoBulk (.slice elems spare):=by
 have h1:=zkS elems
 have h2:=zkS spare
 simp only [Rows.uptoBulk]
 omega
end UA
open Go Go.RowKit
open Go.ChangeShapes Go.WideShapes Go.ChangeAt Go.Deep
set_option maxHeartbeats 16000000
set_option linter.unusedVariables false
open Go Go.RowKit
open Go.ChangeShapes Go.WideShapes Go.ChangeAt Go.Deep
set_option maxHeartbeats 16000000
set_option linter.unusedVariables false
open Go Go.RowKit
open Go.ChangeShapes Go.WideShapes Go.ChangeAt Go.Deep
set_option maxHeartbeats 16000000
set_option linter.unusedVariables false
namespace UA
set_option maxHeartbeats 16000000
theorem mem_le {H:Type}{d:DataW H}{l:List (DataW H)}(h:d ∈ l):Rows.uptoBulk d<=Rows.uptoBulkAll l:=by
 induction l with
 |nil=>cases h
 |cons x r ih=>
   simp only [Rows.uptoBulkAll]
   rcases List.mem_cons.1 h with rfl|h
   ·omega
   ·have:=ih h;omega
end UA
open Go Go.RowKit
open Go.ChangeShapes Go.WideShapes Go.ChangeAt Go.Deep
set_option maxHeartbeats 16000000
set_option linter.unusedVariables false
def zcG (z:Int):Prop:=-9223372036854775808<=z/\z<=9223372036854775807
theorem zoj {H:Type}{enc:TypeId×Value->H}{P:Program}{W:World}{fuel:Nat}{t:TypeId}{f0 f1:Field}{c0 c1:Value}{x:DataW H×List MemPlace}
  (hs:P.underlying t=some (.struct #[f0,f1])) (hf:(f0.offset,P.cellsOf f0.type,f1.offset,P.cellsOf f1.type)=(0,1,1,1)) (h0:P.underlying f0.type=some (.int .i64)) (h1:P.underlying f1.type=some (.int .i64))
  (h:DataW.trod enc P W 0 (λ_=>true) true fuel t [c0,c1]=some x):∃p q:Int,c0=.int .i64 p/\c1=.int .i64 q/\zcG p/\zcG q:=by
 simp only [Prod.mk.injEq] at hf
 obtain⟨y0,y1,n,rfl,_,k0,k1⟩:=trod_struct2 hs h
 rw [hf.1,hf.2.1] at k0
 rw [hf.2.2.1,hf.2.2.2] at k1
 simp only [List.drop_zero,List.take_succ_cons,List.take_zero,List.drop_succ_cons] at k0 k1
 obtain⟨p,hp,_,wp⟩:=DataW.trod_int h0 k0
 obtain⟨q,hq,_,wq⟩:=DataW.trod_int h1 k1
 simp only [List.cons.injEq,and_true] at hp hq
 have bp:=bounds_i64 wp
 have bq:=bounds_i64 wq
 exact⟨p,q,hp,hq,⟨by omega,by omega⟩,⟨by omega,by omega⟩⟩
structure zbq (W:World)(A:oA9)(n c:Nat)(L:List (Int×Int)):Prop where
 len:L.length=n
 fits:n<=c
 small:c<=1048576
 ints:∀q ∈ L,zcG q.1/\zcG q.2
 row:∀r q,L[r]?=some q->∃ad,A=some ad/\ad.block<W.heap.size/\W.cell? (ad.add (r*2))=some (.int .i64 q.1)/\W.cell? (ad.add (r*2+1))=some (.int .i64 q.2)
theorem zbq.below {W W':World}{A:oA9}{n c:Nat}{L:List (Int×Int)}(h:zbq W A n c L)(hb:Below W.heap.size W W'):zbq W' A n c L:=
 ⟨h.len,h.fits,h.small,h.ints,λr q hr=>by
  obtain⟨ad,e,h1,h2,h3⟩:=h.row r q hr
  exact⟨ad,e,Nat.lt_of_lt_of_le h1 hb.size,(hb.cell (by rw [zap];exact h1)).trans h2,(hb.cell (by rw [zap];exact h1)).trans h3⟩⟩
theorem zpW {H:Type}{enc:TypeId×Value->H}{P:Program}{W:World}{fuel:Nat}{t0 t:TypeId}{f0 f1:Field}{A:oA9}{n c:Nat}{x:DataW H×List MemPlace}
  (ht:P.underlying t0=some (.slice t)) (hs:P.underlying t=some (.struct #[f0,f1])) (hf:(f0.offset,P.cellsOf f0.type,f1.offset,P.cellsOf f1.type)=(0,1,1,1)) (hC:P.cellsOf t=2) (h0:P.underlying f0.type=some (.int .i64)) (h1:P.underlying f1.type=some (.int .i64))
  (h:DataW.trod enc P W 0 (λ_=>true) true fuel t0 (Value.slice A n c).cells.toList=some x) (hb:Rows.uptoBulk x.1<=1048576):∃L,zbq W A n c L:=by
 rcases open_slice ht h with⟨hcs,_⟩|⟨a,len,cap,m,k,D,Pl,hcs,_,hl,hm,hmm,hx,hi⟩
 ·simp [Value.cells] at hcs
  obtain⟨rfl,rfl,rfl⟩:=hcs
  exact⟨[],rfl,Nat.le_refl _,by omega,λq hq=>(by cases hq),λr q hr=>by simp at hr⟩
 ·simp [Value.cells] at hcs
  obtain⟨rfl,rfl,rfl⟩:=hcs
  rw [if_pos rfl] at hmm
  rw [hmm] at hx hi
  subst hx
  have hss:=UA.slice_le (H:=H) ((List.range n).map D) ((List.range (c - n)).map λj=>D (n+j))
  have hb':Rows.uptoBulk (DataW.slice (H:=H) ((List.range n).map D) ((List.range (c - n)).map λj=>D (n+j)))<=1048576:=hb
  have hcc:c<=1048576:=by
   simp only [List.length_map,List.length_range] at hss
   omega
  have each:∀r,r<n->∃q:Int×Int,W.cell? (a.add (r*2))=some (.int .i64 q.1)/\W.cell? (a.add (r*2+1))=some (.int .i64 q.2)/\zcG q.1/\zcG q.2:=λr hr=>by
   obtain⟨cs,hcl,htr⟩:=hi r (by omega)
   rw [hC] at hcl
   obtain⟨_,hlen,hat⟩:=World.cells?_some hcl
   obtain⟨c0,c1,rfl⟩:∃c0 c1,cs=[c0,c1]:=by
    match cs,hlen with
    |[c0,c1],_=>exact⟨c0,c1,rfl⟩
   obtain⟨p,q,rfl,rfl,hp,hq⟩:=zoj (x:=(D r,Pl r)) hs hf h0 h1 htr
   have h0:=hat 0 (by decide)
   have h1:=hat 1 (by decide)
   rw [Go.Deep.add_add] at h0 h1
   exact⟨(p,q),h0,h1,hp,hq⟩
  obtain ⟨f,hf2⟩ : ∃ f : Nat → Int × Int,∀ r,r < n → W.cell? (a.add (r * 2)) = some (.int .i64 (f r).1) ∧ W.cell? (a.add (r * 2 + 1)) = some (.int .i64 (f r).2) ∧ zcG (f r).1 ∧ zcG (f r).2 :=
   ⟨λr=>if hr:r<n then(each r hr).choose else(0,0),λr hr=>by simp only [dif_pos hr];exact(each r hr).choose_spec⟩
  refine⟨(List.range n).map f,by simp,hl,hcc,λq hq=>?_,λr q hr=>?_⟩
  ·obtain⟨r,hr,rfl⟩:=List.mem_map.1 hq
   exact(hf2 r (List.mem_range.1 hr)).2.2
  ·have hlt:r<n:=by
    have:=(List.getElem?_eq_some_iff.1 hr).1
    simpa using this
   obtain rfl:f r=q:=by
    rw [List.getElem?_map,List.getElem?_range hlt] at hr
    simpa using hr
   obtain⟨c0,c1,_⟩:=hf2 r hlt
   refine⟨a,rfl,?_,c0,c1⟩
   have:=World.block_lt_of_cell? W _ c0
   rw [zap] at this
   exact this
theorem zjc {H:Type}{enc:TypeId×Value->H}{P:Program}{W:World}{fuel:Nat}{t0 t:TypeId}{f0 f1:Field}{v:Value}{x:DataW H×List MemPlace}
  (ht:P.underlying t0=some (.slice t)) (hs:P.underlying t=some (.struct #[f0,f1])) (hf:(f0.offset,P.cellsOf f0.type,f1.offset,P.cellsOf f1.type)=(0,1,1,1)) (hC:P.cellsOf t=2) (h0:P.underlying f0.type=some (.int .i64)) (h1:P.underlying f1.type=some (.int .i64))
  (h:DataW.trod enc P W 0 (λ_=>true) true fuel t0 [v]=some x) (hb:Rows.uptoBulk x.1<=1048576):∃A n c L,v=.slice A n c/\zbq W A n c L:=by
 have go:∀A n c,[v]=[Value.slice A n c]->∃A n c L,v=.slice A n c/\zbq W A n c L:=λA n c e=>by
  simp only [List.cons.injEq,and_true] at e
  subst e
  obtain⟨L,hL⟩:=zpW ht hs hf hC h0 h1 (A:=A) (n:=n) (c:=c) (by simpa [Value.cells] using h) hb
  exact⟨A,n,c,L,rfl,hL⟩
 rcases open_slice ht h with⟨hcs,_⟩|⟨a,len,cap,m,k,D,Pl,hcs,_⟩
 ·exact go _ _ _ hcs
 ·exact go _ _ _ hcs
structure zbf (W:World)(A:oA9)(n c:Nat)(R:Nat->oA9×Nat×Nat×List (Int×Int)):Prop where
 fits:n<=c
 small:c<=1048576
 row:∀r,r<n->∃ad,A=some ad/\ad.block<W.heap.size/\W.cell? (ad.add r)=some (.slice (R r).1 (R r).2.1 (R r).2.2.1)/\zbq W (R r).1 (R r).2.1 (R r).2.2.1 (R r).2.2.2
theorem zkq {H:Type}{enc:TypeId×Value->H}{P:Program}{W:World}{fuel:Nat}{t9 t0 t:TypeId}{f0 f1:Field}{A:oA9}{n c:Nat}{x:DataW H×List MemPlace}
  (ht9:P.underlying t9=some (.slice t0)) (hC9:P.cellsOf t0=1) (ht:P.underlying t0=some (.slice t)) (hs:P.underlying t=some (.struct #[f0,f1])) (hf:(f0.offset,P.cellsOf f0.type,f1.offset,P.cellsOf f1.type)=(0,1,1,1)) (hC:P.cellsOf t=2) (h0:P.underlying f0.type=some (.int .i64)) (h1:P.underlying f1.type=some (.int .i64))
  (h:DataW.trod enc P W 0 (λ_=>true) true fuel t9 (Value.slice A n c).cells.toList=some x) (hb:Rows.uptoBulk x.1<=1048576):∃R,zbf W A n c R:=by
 rcases open_slice ht9 h with⟨hcs,_⟩|⟨a,len,cap,m,k,D,Pl,hcs,_,hl,hm,hmm,hx,hi⟩
 ·simp [Value.cells] at hcs
  obtain⟨rfl,rfl,rfl⟩:=hcs
  exact⟨λ_=>(none,0,0,[]),Nat.le_refl _,by omega,λr hr=>by omega⟩
 ·simp [Value.cells] at hcs
  obtain⟨rfl,rfl,rfl⟩:=hcs
  rw [if_pos rfl] at hmm
  rw [hmm] at hx hi
  subst hx
  have hss:=UA.slice_le (H:=H) ((List.range n).map D) ((List.range (c - n)).map λj=>D (n+j))
  have hb':Rows.uptoBulk (DataW.slice (H:=H) ((List.range n).map D) ((List.range (c - n)).map λj=>D (n+j)))<=1048576:=hb
  have hcc:c<=1048576:=by
   simp only [List.length_map,List.length_range] at hss
   omega
  have each:∀r,r<n->∃q:oA9×Nat×Nat×List (Int×Int),W.cell? (a.add r)=some (.slice q.1 q.2.1 q.2.2.1)/\zbq W q.1 q.2.1 q.2.2.1 q.2.2.2:=λr hr=>by
   obtain⟨cs,hcl,htr⟩:=hi r (by omega)
   rw [hC9] at hcl
   obtain⟨_,hlen,hat⟩:=World.cells?_some hcl
   obtain⟨c0,rfl⟩:∃c0,cs=[c0]:=by
    match cs,hlen with
    |[c0],_=>exact⟨c0,rfl⟩
   have hD:Rows.uptoBulk (D r)<=1048576:=by
    have hm1:D r ∈(List.range n).map D:=List.mem_map.2 ⟨r,List.mem_range.2 hr,rfl⟩
    have hm2:=UA.mem_le hm1
    simp only [Rows.uptoBulk] at hb'
    omega
   obtain⟨A',n',c',L,rfl,hL⟩:=zjc (x:=(D r,Pl r)) ht hs hf hC h0 h1 htr hD
   have h0:=hat 0 (by decide)
   rw [Go.Deep.add_add,Nat.mul_one,Nat.add_zero] at h0
   exact⟨(A',n',c',L),h0,hL⟩
  refine⟨λr=>if hr:r<n then(each r hr).choose else(none,0,0,[]),hl,hcc,λr hr=>⟨a,rfl,?_,?_⟩⟩
  ·have:=World.block_lt_of_cell? W _ (each r hr).choose_spec.1
   rw [zap] at this
   exact this
  ·simp only [dif_pos hr]
   exact(each r hr).choose_spec
theorem zbq.take {W:World}{A:oA9}{n c N:Nat}{L:List (Int×Int)}(h:zbq W A n c L)(hN:N<=n):zbq W A N c (L.take N):=by
 have hl:=h.len
 have hf:=h.fits
 refine⟨by rw [List.length_take];omega,by omega,h.small,λq hq=>h.ints q (List.mem_of_mem_take hq),λr q hr=>?_⟩
 rw [List.getElem?_take] at hr
 split at hr
 ·exact h.row r q hr
 ·cases hr
open Go Go.RowKit
set_option maxHeartbeats 16000000
set_option linter.unusedVariables false
def zcP (w:World)(q r:Nat)(b:Bool)(e:Ending)(w':World):Prop:=∃(A:oA9) (n c:Nat) (B:oA9) (m d:Nat),e=.returned (.tuple #[.agg #[.slice A n c],.agg #[.slice B m d],.bool b])/\zad w' q A n c/\zad w' r B m d/\Below w.heap.size w w'
def zeR (w:World)(x:Nat)(b:Bool)(e:Ending)(w':World):Prop:=∃(A:oA9) (n c:Nat),e=.returned (.tuple #[.agg #[.slice A n c],.bool b])/\zad w' x A n c/\Below w.heap.size w w'
def zgX (w:World)(q x:Nat)(b:Bool)(e:Ending)(w':World):Prop:=∃(A:oA9) (n c:Nat),e=.returned (.tuple #[.agg #[.slice A n c],.int .u64 (x:Int),.bool b])/\zad w' q A n c/\Below w.heap.size w w'
structure QuotC:Prop where
 divMod:∀(x y:Nat) (A D:oA9) (n m c d:Nat) (w:World),zad w x A n c->zad w y D m d->n<=1073741824->m<=1073741824->y≠0->Calls Tryz.prog 200 #[.agg #[.slice A n c],.agg #[.slice D m d]] w (zcP w (x / y) (x%y) true)
 divModNo:∀(x y:Nat) (A D:oA9) (n m c d:Nat) (w:World),zad w x A n c->zad w y D m d->n<=1073741824->m<=1073741824->y=0->Calls Tryz.prog 200 #[.agg #[.slice A n c],.agg #[.slice D m d]] w (zcP w 0 0 false)
 div:∀(x y:Nat) (A D:oA9) (n m c d:Nat) (w:World),zad w x A n c->zad w y D m d->n<=1073741824->m<=1073741824->y≠0->Calls Tryz.prog 160 #[.agg #[.slice A n c],.agg #[.slice D m d]] w (zeR w (x / y) true)
 mod:∀(x y:Nat) (A D:oA9) (n m c d:Nat) (w:World),zad w x A n c->zad w y D m d->n<=1073741824->m<=1073741824->y≠0->Calls Tryz.prog 211 #[.agg #[.slice A n c],.agg #[.slice D m d]] w (zeR w (x%y) true)
 byWord:∀(x a:Nat) (A:oA9) (n c:Nat) (w:World),zad w x A n c->n<=1073741824->a<18446744073709551616->a≠0->Calls Tryz.prog 215 #[.agg #[.slice A n c],.int .u64 a] w (zgX w (x / a) (x%a) true)
 byWordNo:∀(x:Nat) (A:oA9) (n c:Nat) (w:World),zad w x A n c->n<=1073741824->Calls Tryz.prog 215 #[.agg #[.slice A n c],.int .u64 0] w (zgX w 0 0 false)
open Go Go.RowKit
set_option maxHeartbeats 16000000
set_option linter.unusedVariables false
def zdb (w:World)(x:Nat)(e:Ending)(w':World):Prop:=∃(A:oA9) (n c:Nat),e=.returned (.agg #[.slice A n c])/\zad w' x A n c/\Below w.heap.size w w'
def zlw (w:World)(x y:Nat)(e:Ending)(w':World):Prop:=∃(A:oA9) (n c:Nat) (B:oA9) (m d:Nat),e=.returned (.tuple #[.agg #[.slice A n c],.agg #[.slice B m d]])/\zad w' x A n c/\zad w' y B m d/\Below w.heap.size w w'
theorem Sz.gcd {K K' x y:Nat}(h:Sz K x)(h':Sz K' y):Sz (K+K') (Nat.gcd x y):=by
 rcases Nat.eq_zero_or_pos x with e|e
 ·rw [e,Nat.gcd_zero_left];exact h'.up (by omega)
 ·exact(h.of_le (Nat.gcd_le_left y e)).up (by omega)
structure GcdC:Prop where
 of:∀(x y:Nat) (A D:oA9) (n m c d:Nat) (w:World),zad w x A n c->zad w y D m d->n<=1073741824->m<=1073741824->zai w->Calls Tryz.prog 159 #[.agg #[.slice A n c],.agg #[.slice D m d]] w (zdb w (Nat.gcd x y))
 reduce:∀(x y:Nat) (A D:oA9) (n m c d:Nat) (w:World),zad w x A n c->zad w y D m d->n<=1073741824->m<=1073741824->zai w->Calls Tryz.prog 103 #[.agg #[.slice A n c],.agg #[.slice D m d]] w (zlw w (x / Nat.gcd x y) (y / Nat.gcd x y))
open Go Go.RowKit
set_option maxHeartbeats 16000000
set_option linter.unusedVariables false
theorem zct {P:Program}{f:FuncId}{args:Array Value}{w:World}{z v:Int}(e:z=v)(h:Calls P f args w (zcH w z)):Calls P f args w λe w'=>e=.returned (.int .i64 v)/\Below w.heap.size w w':=by
 subst e;exact h
theorem zay {P:Program}{f:FuncId}{args:Array Value}{w:World}{b t:Bool}(e:b=t)(h:Calls P f args w λe w'=>e=.returned (.bool b)/\Below w.heap.size w w'):Calls P f args w λe w'=>e=.returned (.bool t)/\Below w.heap.size w w':=by
 subst e;exact h
theorem inew_pos {T:World->Prop}(IC:IntC T)(x:Nat)(A:oA9)(n c:Nat)(w:World)(hT:T w)(h:zad w x A n c)(hn:n<=268435456):Calls Tryz.prog 163 #[.bool false,.agg #[.slice A n c]] w (zbc w (x:Int)):=
 IC.new false x A n c w hT h hn
open Go Go.RowKit
set_option maxHeartbeats 16000000
set_option maxRecDepth 100000
set_option linter.unusedVariables false
set_option linter.unusedSimpArgs false
open Go Go.RowKit
set_option maxHeartbeats 16000000
set_option maxRecDepth 100000
set_option linter.unusedVariables false
set_option linter.unusedSimpArgs false
open Go Go.RowKit
set_option maxHeartbeats 16000000
set_option linter.unusedVariables false
theorem zbV {T:World->Prop}:IntC T where
 new s x A n c w _ hA hn:=zmU s x A n c w hA (by omega)
 of z w _ h1 h2:=zor z w h1 h2
 belowI z b A n c w _ hA hn:=zkt z b A n c w hA
 abs z b A n c w _ hA hn:=(zmQ z b A n c w hA (by omega)).mono λ_ _ ⟨A',n',c',he,hw,hb,_⟩=>⟨A',n',c',he,hw,hb⟩
 sign z b A n c w _ hA hn:=zlM z b A n c w hA
 cmp x y b b' A D n m c d w _ hA hD hn hm:=zmS x y b b' A D n m c d w hA hD (by omega) (by omega)
 add x y b b' A D n m c d w _ hA hD hn hm:=zmR x y b b' A D n m c d w hA hD (by omega) (by omega)
 mul x y b b' A D n m c d w _ hA hD hn hm:=zmT x y b b' A D n m c d w hA hD (by omega) (by omega)
open Go Go.RowKit
set_option maxHeartbeats 16000000
set_option maxRecDepth 100000
set_option linter.unusedVariables false
theorem cop2 {q:Nat}(h:q%2≠0):Nat.gcd 2 q=1:=by
 have h1:Nat.gcd 2 q ∣ 2:=Nat.gcd_dvd_left 2 q
 have h2:=Nat.le_of_dvd (by decide) h1
 have h3:Nat.gcd 2 q≠0:=λe=>by rw [e] at h1;exact absurd (Nat.eq_zero_of_zero_dvd h1) (by decide)
 have h4:Nat.gcd 2 q≠2:=λe=>h (Nat.mod_eq_zero_of_dvd (by rw [<-e];exact Nat.gcd_dvd_right 2 q))
 omega
theorem zgJ {p q:Nat}(hp:p%2=0)(hq:q%2≠0):Nat.gcd (p / 2) q=Nat.gcd p q:=by
 have e:p=2*(p / 2):=by omega
 have h:Nat.Coprime 2 q:=cop2 hq
 rw [show Nat.gcd p q=Nat.gcd (2*(p / 2)) q from by rw [<-e]]
 exact(h.gcd_mul_left_cancel (p / 2)).symm
theorem gcd_take {p q:Nat}(h:q<=p):Nat.gcd (p - q) q=Nat.gcd p q:=by
 obtain⟨s,rfl⟩:∃s,p=q+s:=⟨p - q,by omega⟩
 rw [Nat.add_sub_cancel_left,Nat.gcd_self_add_left]
open Go Go.RowKit
set_option maxHeartbeats 16000000
set_option maxRecDepth 100000
set_option linter.unusedVariables false
set_option linter.unusedSimpArgs false
def RefIn (w:World)(z:Int)(b:Bool)(A:oA9)(n c:Nat):Prop:=b=decide (z<0)/\zdw w z.natAbs A n c
theorem RefIn.below {w w':World}{z:Int}{b:Bool}{A:oA9}{n c:Nat}(h:RefIn w z b A n c)(hb:Below w.heap.size w w'):RefIn w' z b A n c:=⟨h.1,h.2.below hb⟩
open Go Go.RowKit
set_option maxHeartbeats 16000000
set_option maxRecDepth 100000
set_option linter.unusedVariables false
set_option linter.unusedSimpArgs false
def RefQ (w:World)(r:Rat)(b:Bool)(A:oA9)(n c:Nat)(E:oA9)(k f:Nat):Prop:=RefIn w r.num b A n c/\zdw w r.den E k f
theorem RefQ.below {w w':World}{r:Rat}{b:Bool}{A:oA9}{n c:Nat}{E:oA9}{k f:Nat}(h:RefQ w r b A n c E k f)(hb:Below w.heap.size w w'):RefQ w' r b A n c E k f:=⟨h.1.below hb,h.2.below hb⟩
