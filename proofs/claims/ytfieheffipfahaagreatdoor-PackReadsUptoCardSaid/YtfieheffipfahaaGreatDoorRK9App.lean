/- What this claim leans on. -/
import Derived.Test.YtfieheffipfahaaGreatDoorRBun6
import Derived.Deep.RegionLaw
import Derived.LoopIn
import Derived.LoopNIn
import Derived.OrdersIn
import Derived.OwnWalkIn
import Derived.RangeFuncBound
import Derived.RangeFuncCalls
import Derived.RangeFuncLeaves
import Derived.RangeFuncNested
import Derived.Shelf.Abstract
import Derived.Shelf.RegionOpen
import Derived.TacticsInMore
namespace Go.Proofs.YtfieheffipfahaaGreatDoor
open Go Go.RowKit
set_option maxHeartbeats 16000000
set_option linter.unusedVariables false
theorem info9 : (Tryz.prog.info? 5).map (fun i => (i.zero,i.size,i.bytes)) = some (some (.int .u8 0),1,1):=by kernel_rfl
def zdz (B : Nat) (w : World) (v : Value) (L : List Nat) : Prop:=w.ownsRow B 5 1 v L.length (zaq .u8 L)
theorem zdz.below {B : Nat} {w w' : World} {v : Value} {L : List Nat} (h : zdz B w v L) (hb : Below w.heap.size w w') : zdz B w' v L:=zdI h hb
theorem zdz.nil (B : Nat) (w : World) : zdz B w (.slice none 0 0) []:=World.ownsRow_nil _ _ _ _
theorem zdz.reads {B : Nat} {w : World} {v : Value} {L : List Nat} (h : zdz B w v L) : ∃ A c,v = .slice A L.length c ∧ L.length ≤ c ∧ c ≤ maxLen ∧ zas w w.heap.size 1 A L.length (zaq .u8 L):=zas.of_grown_own h
theorem app8 {o : Oper} {a : Act} {w : World} {K : Act → World → Prop} {Q : Exit → Act → World → Prop} (s x : Operand) (B : Nat) (v : Value) (L : List Nat) (A : oA9) (m c : Nat) (M : List Nat) (hown : zdz B w v L) (hr : zas w w.heap.size 1 A m (zaq .u8 M))
  (hn : L.length + m ≤ 1099511627776) (hb : B ≤ w.heap.size) (h : ∀ v' w',zdz B w' v' (L ++ M) → zck w v w' v' → K (a.put o.dst v') w')
  (ho : o.op = .call { callee:=.builtin .append,args:=#[s,x],argTypes:=#[42,42] }:=by rfl) (hs : a.eval s = v:=by rfl) (hx : a.eval x = .slice A m c:=by rfl) : Oper.wp Tryz.prog o a w K Q:=by
 obtain ⟨i0,hi0,hz0,hz1,hz2⟩:=info_parts info9
 have hl : M.length = m:=by have:=hr.1; rw [zaC] at this; omega
 exact zeh w s x _ ho B 5 i0 (.int .u8 0) 1 1 Tryz.underlying42 hi0 hz0 hz1 hz2 rfl (by decide) v L.length (zaq .u8 L) hs hown w.heap.size A m c (zaq .u8 M) hx hr (zds .u8 M) (by unfold maxLen; omega) (by omega) hb
  fun v' w' h2 h3 h4 => h v' w' (by unfold zdz; rw [List.length_append,hl,zaY]; exact h2) ⟨h3,h4.imp id fun e g hg => by rw [e] at hg; cases hg; exact Nat.le_refl _⟩
theorem lit8 {B : Nat} (w : World) (d : Nat) (hB : B ≤ w.heap.size) : zdz B (w.alloc (.cells #[.int .u8 (d : Int)] 5)) (.slice (some ⟨w.heap.size,0,none⟩) 1 1) [d]:=World.ownsRow_lit w #[.int .u8 (d : Int)] 1 hB (by unfold maxLen; decide) rfl
theorem lit8z {B : Nat} (w : World) (d : Nat) (z : Int) (hz : z = (d : Int)) (hB : B ≤ w.heap.size) : zdz B (w.alloc (.cells #[.int .u8 z] 5)) (.slice (some ⟨w.heap.size,0,none⟩) 1 1) [d]:=by subst hz; exact lit8 w d hB
theorem zck.cell {w w' : World} {v v' : Value} {B : Nat} {L : List Nat} {p : Addr} {u : Value} (h : zck w v w' v') (hv : zdz B w v L) (hc : w.cell? p = some u) (hp : p.block < B) : w'.cell? p = some u :=
 (World.cell?_of_block (h.grown.block _ (World.block_lt_of_cell? w p hc) (fun e => by have:=(hv.lt _ e.symm).1; omega))).trans hc
end Go.Proofs.YtfieheffipfahaaGreatDoor
