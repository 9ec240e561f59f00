/- What this claim leans on. -/
import Derived.Test.YtfieheffipfahaaGreatDoorTBun6b
namespace Go.Proofs.YtfieheffipfahaaGreatDoor
open Go Go.RowKit
set_option maxHeartbeats 16000000
set_option linter.unusedVariables false
theorem info9 : (Tryz.prog.info? 5).map (fun i => (i.zero,i.size,i.bytes)) = some (some (.int .u8 0),1,1) := by kernel_rfl
def zbR (B : Nat) (w : World) (v : Value) (L : List Nat) : Prop := w.ownsRow B 5 1 v L.length (zam .u8 L)
theorem zbR.below {B : Nat} {w w' : World} {v : Value} {L : List Nat} (h : zbR B w v L) (hb : Below w.heap.size w w') : zbR B w' v L := zdd h hb
theorem zbR.set_ {B : Nat} {w : World} {v : Value} {L : List Nat} (h : zbR B w v L) {p : Addr} (hp : p.block < B) (u : Value) : zbR B (w.setCell p u) v L := znk h hp u
theorem zbR.nil (B : Nat) (w : World) : zbR B w (.slice none 0 0) [] := World.ownsRow_nil _ _ _ _
theorem zbR.reads {B : Nat} {w : World} {v : Value} {L : List Nat} (h : zbR B w v L) : ∃ A c,v = .slice A L.length c ∧ L.length ≤ c ∧ c ≤ maxLen ∧ zan w w.heap.size 1 A L.length (zam .u8 L) := zan.of_grown_own h
theorem app8 {o : Oper} {a : Act} {w : World} {K : Act → World → Prop} {Q : Exit → Act → World → Prop} (s x : Operand) (B : Nat) (v : Value) (L : List Nat) (A : oA9) (m c : Nat) (M : List Nat) (hown : zbR B w v L) (hr : zan w w.heap.size 1 A m (zam .u8 M))
  (hn : L.length + m ≤ 1099511627776) (hb : B ≤ w.heap.size) (h : ∀ v' w',zbR B w' v' (L ++ M) → zbx w v w' v' → K (a.put o.dst v') w')
  (ho : o.op = .call { callee := .builtin .append,args := #[s,x],argTypes := #[42,42] } := by rfl) (hs : a.eval s = v := by rfl) (hx : a.eval x = .slice A m c := by rfl) : Oper.wp Tryz.prog o a w K Q := by
 obtain ⟨i0,hi0,hz0,hz1,hz2⟩ := info_parts info9
 have hl : M.length = m := by have := hr.1; rw [zat] at this; omega
 exact zdB w s x _ ho B 5 i0 (.int .u8 0) 1 1 Tryz.underlying42 hi0 hz0 hz1 hz2 rfl (by decide) v L.length (zam .u8 L) hs hown w.heap.size A m c (zam .u8 M) hx hr (zcO .u8 M) (by unfold maxLen; omega) (by omega) hb
  fun v' w' h2 h3 h4 => h v' w' (by unfold zbR; rw [List.length_append,hl,zaC]; exact h2) ⟨h3,h4.imp id fun e g hg => by rw [e] at hg; cases hg; exact Nat.le_refl _⟩
theorem app8L {ops : Array Oper} {rest : List Oper} {o : Oper} {a : Act} {w : World} {Q : Exit → Act → World → Prop} (s x : Operand) (B : Nat) (v : Value) (L : List Nat) (A : oA9) (m c : Nat) (M : List Nat) (hown : zbR B w v L) (hr : zan w w.heap.size 1 A m (zam .u8 M))
  (hn : L.length + m ≤ 1099511627776) (hb : B ≤ w.heap.size) (h : ∀ v' w',zbR B w' v' (L ++ M) → zbx w v w' v' → wpList Tryz.prog ops Q rest (a.put o.dst v') w')
  (ho : o.op = .call { callee := .builtin .append,args := #[s,x],argTypes := #[42,42] } := by rfl) (hs : a.eval s = v := by rfl) (hx : a.eval x = .slice A m c := by rfl) (hgd : o.guard = none := by rfl) : wpList Tryz.prog ops Q (o :: rest) a w :=
 wpList_plain hgd fun _ hK => app8 s x B v L A m c M hown hr hn hb (fun v' w' h2 h3 => hK _ _ (h v' w' h2 h3)) ho hs hx
theorem lit8 {B : Nat} (w : World) (d : Nat) (hB : B ≤ w.heap.size) : zbR B (w.alloc (.cells #[.int .u8 (d : Int)] 5)) (.slice (some ⟨w.heap.size,0,none⟩) 1 1) [d] := World.ownsRow_lit w #[.int .u8 (d : Int)] 1 hB (by unfold maxLen; decide) rfl
theorem lit8z {B : Nat} (w : World) (d : Nat) (z : Int) (hz : z = (d : Int)) (hB : B ≤ w.heap.size) : zbR B (w.alloc (.cells #[.int .u8 z] 5)) (.slice (some ⟨w.heap.size,0,none⟩) 1 1) [d] := by subst hz; exact lit8 w d hB
theorem zbx.cell {w w' : World} {v v' : Value} {B : Nat} {L : List Nat} {p : Addr} {u : Value} (h : zbx w v w' v') (hv : zbR B w v L) (hc : w.cell? p = some u) (hp : p.block < B) : w'.cell? p = some u :=
 (World.cell?_of_block (h.grown.block _ (World.block_lt_of_cell? w p hc) (fun e => by have := (hv.lt _ e.symm).1; omega))).trans hc
end Go.Proofs.YtfieheffipfahaaGreatDoor
