/- What this claim leans on. -/
import Derived.Test.YtgigccjiblaefaaDoorSNNums
import Derived.Laws.AppendOwn
namespace Go.Proofs.YtgigccjiblaefaaDoor
open Go Go.RowKit
set_option linter.unusedVariables false
set_option linter.unusedSimpArgs false
def NoUV (u : Value) : Prop := ∀ x, u ≠ .int .u64 x
def zaV (w : World) (v : Value) : Prop := ∀ g, v.ownBlock = some g → ∃ (cur : Array Value) (e : TypeId), w.heap[g]? = some (.cells cur e (0, 0)) ∧ ∀ u ∈ cur.toList, NoUV u
theorem zaV.nil (w : World) (c : Nat) : zaV w (.slice none 0 c) := fun g h => by simp [Value.ownBlock] at h
theorem zaV.block {w w' : World} {v : Value} (h : zaV w v) (hg : ∀ g, v.ownBlock = some g → w'.heap[g]? = w.heap[g]?) : zaV w' v := fun g e => by
 obtain ⟨cur, t, h1, h2⟩ := h g e
 exact ⟨cur, t, (hg g e).trans h1, h2⟩
theorem zaV.below {w w' : World} {v : Value} (h : zaV w v) (hb : Below w.heap.size w w') : zaV w' v := fun g e => by
 obtain ⟨cur, t, h1, h2⟩ := h g e
 exact ⟨cur, t, (hb.block g (Array.getElem?_eq_some_iff.1 h1).1).trans h1, h2⟩
theorem zaV.words {w : World} {v : Value} {x : Nat} {A : Option Addr} {n c : Nat} (h : zaV w v) (hw : zae w x A n c) : 0 < n → ∀ ad, A = some ad → v.ownBlock ≠ some ad.block := fun hn ad e hv => by
 obtain ⟨cur, t, h1, h2⟩ := h _ hv
 obtain ⟨ad', e', _, hc⟩ := hw.1.2 hn
 rw [e] at e'
 injection e' with e'
 subst e'
 have hl := hw.len
 have h0 := hc 0 (.int .u64 ((dg 18446744073709551616 x).getD 0 0 : Nat)) (zby .u64 _ 0 (by omega))
 have e0 : ad.add 0 = ad := by unfold Addr.add; rw [if_pos rfl]
 rw [e0] at h0
 obtain ⟨bk, off, pr⟩ := ad
 simp only at h1 h0
 cases pr with
 | none =>
   rw [show w.cell? ⟨bk, off, none⟩ = cur[off]? from cell_of_row w bk off cur t (0, 0) h1] at h0
   have hm := Array.mem_of_getElem? h0
   exact h2 _ (by simpa using hm) _ rfl
 | some q => simp [World.cell?, h1] at h0
theorem zfs {z : Array Value} {k : Nat} {u : Value} (hz : 0 < z.size) (hu : u ∈ (Builtin.zeroCells z k).toList) : u ∈ z.toList := by
 unfold Builtin.zeroCells at hu
 rw [Array.mem_toList_iff, Array.mem_map] at hu
 obtain ⟨i, _, rfl⟩ := hu
 have hlt : i % z.size < z.size := Nat.mod_lt _ hz
 rw [getElem!_pos z (i % z.size) hlt, Array.mem_toList_iff]
 exact Array.getElem_mem hlt
section
variable {P : Program} (w : World)
theorem zfe (base : Nat) (t ty e : TypeId) (i : TypeInfo) (z : Value) (size bytes : Nat) (ht : P.underlying t = some (.slice e)) (hi : P.info? e = some i) (hz : i.zero = some z)
  (hsize : i.size = size) (hby : i.bytes = bytes) (hzs : z.cells.size = size) (hsz : 0 < size)
  (v : Value) (n : Nat) (xs : List Value) (hown : w.ownsRow base e size v n xs)
  (a : Addr) (m c : Nat) (news : List Value) (hl : news.length = m * size) (hnews : ∀ j u, news[j]? = some u → w.cell? (a.add j) = some u) (h1 : ∀ u ∈ news, u.oneCell' = true)
  (h63 : n + m ≤ maxLen) (hbytes : (n + m) * bytes ≤ 140737488355328) (hbase : base ≤ w.heap.size)
  (hv : zaV w v) (hzn : ∀ u ∈ z.cells.toList, NoUV u) (hnn : ∀ u ∈ news, NoUV u) :
  ∃ v' w', (Builtin.append_ #[t, t] ty #[v, .slice (some a) m c]).run P w = .ok v' w' ∧ w'.ownsRow base e size v' (n + m) (xs ++ news) ∧ w.grownBy w' v.ownBlock ∧
   (v'.ownBlock = v.ownBlock ∨ v'.ownBlock = some w.heap.size) ∧ zaV w' v' := by
 subst hsize
 subst hby
 have hsmall : n + m ≤ 9223372036854775807 := by simp only [maxLen] at h63; omega
 have hlen : (xs ++ news).length = (n + m) * i.size := by rw [List.length_append, hown.1, hl, Nat.add_mul]
 have grown : ∀ (old : Nat), old < n + m → (∀ u ∈ xs, NoUV u) → ∀ (row : Option Nat),
   (w.drew.alloc (.cells (xs.toArray ++ news.toArray ++ Builtin.zeroCells z.cells (grownCap w (n + m) old e - (n + m))) e)).ownsRow base e i.size
     (.slice (some ⟨w.heap.size, 0, none⟩) (n + m) (grownCap w (n + m) old e)) (n + m) (xs ++ news) ∧
   w.grownBy (w.drew.alloc (.cells (xs.toArray ++ news.toArray ++ Builtin.zeroCells z.cells (grownCap w (n + m) old e - (n + m))) e)) row ∧
   zaV (w.drew.alloc (.cells (xs.toArray ++ news.toArray ++ Builtin.zeroCells z.cells (grownCap w (n + m) old e - (n + m))) e)) (.slice (some ⟨w.heap.size, 0, none⟩) (n + m) (grownCap w (n + m) old e)) := by
  intro old ho hxs row
  have hge := grownCap_ge w (n + m) old e
  have hcm : grownCap w (n + m) old e ≤ maxLen := grownCap_le_maxLen w (n + m) old e h63
  refine ⟨⟨hlen, .inr ⟨w.heap.size, _, _, rfl, hbase, heap_alloc_new w.drew _, hge, hcm, ?_, ?_⟩⟩, ⟨rfl, rfl, rfl, by simp, fun k hk _ => heap_alloc_old w.drew _ hk⟩, ?_⟩
  ·simp only [Array.size_append, List.size_toArray, size_zeroCells, hzs, hown.1, hl, ← Nat.add_mul]
   congr 1
   omega
  ·simp only [Array.toList_append, List.append_assoc]
   rw [← List.append_assoc, ← hlen]
   exact List.take_left
  ·intro g hg
   simp [Value.ownBlock] at hg
   subst hg
   refine ⟨_, _, heap_alloc_new w.drew _, fun u hu => ?_⟩
   simp only [Array.toList_append, List.mem_append] at hu
   rcases hu with (hu | hu) | hu
   ·exact hxs u hu
   ·exact hnn u hu
   ·exact hzn u (zfs (by omega) hu)
 rcases hown.2 with ⟨rfl, rfl⟩ | ⟨g, cap, cur, rfl, hbg, hg, hnc, hcm, hcs, htake⟩
 ·have hx : xs = [] := List.eq_nil_of_length_eq_zero (by simpa using hown.1)
  subst hx
  by_cases hm : m = 0
  ·subst hm
   have hn : news = [] := List.eq_nil_of_length_eq_zero (by simpa using hl)
   subst hn
   refine ⟨.slice none 0 0, w, ?_, World.ownsRow_nil w base e i.size, ⟨rfl, rfl, rfl, Nat.le_refl _, fun _ _ _ => rfl⟩, Or.inl rfl, zaV.nil _ _⟩
   simp [Builtin.append_, run_underlying ht, sizeOf, typeInfo, hi, Builtin.lenOf, Builtin.firstCells, loadCells, loadCellsFrom]
  ·have hr := run_append_nil (P := P) w t ty e i z ht hi hz a m c news hl hnews (by omega) (by omega) (by have hb := hbytes; simp only [Nat.zero_add] at hb; omega)
   have hgr := grown 0 (by omega) (fun u hu => by cases hu) (Value.ownBlock (.slice none 0 0))
   simp only [Nat.zero_add, List.nil_append, Array.empty_append] at hgr ⊢
   exact ⟨_, _, hr, hgr.1, hgr.2.1, Or.inr rfl, hgr.2.2⟩
 ·obtain ⟨cur2, e2, hg2, hcn⟩ := hv g rfl
  have hcur : cur2 = cur := by
   rw [hg] at hg2
   injection hg2 with hg2
   injection hg2 with hg2
   exact hg2.symm
  subst hcur
  by_cases hroom : n + m ≤ cap
  ·have hfit : n * i.size + news.length ≤ cur2.size := by rw [hl, hcs, ← Nat.add_mul]; exact Nat.mul_le_mul_right _ hroom
   have hr := run_append_room (P := P) w t ty e i ht hi g n cap cur2 hg a m c news hl hnews h1 hroom hfit
   refine ⟨_, _, hr, ⟨hlen, .inr ⟨g, cap, _, rfl, hbg, setRow_heap w g cur2 _ e _ hg, hroom, hcm, ?_, ?_⟩⟩, ⟨rfl, rfl, rfl, by simp, fun k _ hk => setRow_other w g k _ (fun e => hk (by simp [Value.ownBlock, e]))⟩, Or.inl rfl, ?_⟩
   ·simp only [List.size_toArray, List.length_append, List.length_take, List.length_drop, Array.length_toList]
    omega
   ·rw [htake, ← hlen]
    exact List.take_left
   ·intro g' hg'
    simp [Value.ownBlock] at hg'
    subst hg'
    refine ⟨_, _, setRow_heap w g cur2 _ e _ hg, fun u hu => ?_⟩
    rw [List.mem_append, List.mem_append] at hu
    rcases hu with (hu | hu) | hu
    ·exact hcn u (List.mem_of_mem_take hu)
    ·exact hnn u hu
    ·exact hcn u (List.mem_of_mem_drop hu)
  ·have holds : ∀ j u, xs[j]? = some u → w.cell? ((⟨g, 0, none⟩ : Addr).add j) = some u := hown.cells (g := g) rfl
   have hr := run_append_grow (P := P) w t ty e i z ht hi hz ⟨g, 0, none⟩ n cap xs hown.1 holds a m c news hl hnews (by omega) (by omega) (growslice_fits (by omega) hbytes)
   have hxs : ∀ u ∈ xs, NoUV u := fun u hu => hcn u (List.mem_of_mem_take (by rw [htake]; exact hu))
   have hgr := grown cap (by omega) hxs (Value.ownBlock (.slice (some ⟨g, 0, none⟩) n cap))
   exact ⟨_, _, hr, hgr.1, hgr.2.1, Or.inr rfl, hgr.2.2⟩
theorem zdJ {ops : Array Oper} {rest : List Oper} {o : Oper} {a : Act} {Q : Exit → Act → World → Prop} (hgd : o.guard = none) (s x : Operand) (t : TypeId)
  (ho : o.op = .call { callee := .builtin .append, args := #[s, x], argTypes := #[t, t] })
  (base : Nat) (e : TypeId) (i : TypeInfo) (z : Value) (size bytes : Nat) (ht : P.underlying t = some (.slice e)) (hi : P.info? e = some i) (hz : i.zero = some z)
  (hsize : i.size = size) (hby : i.bytes = bytes) (hzs : z.cells.size = size) (hsz : 0 < size)
  (v : Value) (n : Nat) (xs : List Value) (hs : a.eval s = v) (hown : w.ownsRow base e size v n xs)
  (ad : Addr) (m c : Nat) (news : List Value) (hx : a.eval x = .slice (some ad) m c) (hl : news.length = m * size) (hnews : ∀ j u, news[j]? = some u → w.cell? (ad.add j) = some u) (h1 : ∀ u ∈ news, u.oneCell' = true)
  (h63 : n + m ≤ maxLen) (hbytes : (n + m) * bytes ≤ 140737488355328) (hbase : base ≤ w.heap.size)
  (hv : zaV w v) (hzn : ∀ u ∈ z.cells.toList, NoUV u) (hnn : ∀ u ∈ news, NoUV u)
  (h : ∀ v' w', w'.ownsRow base e size v' (n + m) (xs ++ news) → w.grownBy w' v.ownBlock → (v'.ownBlock = v.ownBlock ∨ v'.ownBlock = some w.heap.size) → zaV w' v' → wpList P ops Q rest (a.put o.dst v') w') :
  wpList P ops Q (o :: rest) a w := by
 refine wpList_plain hgd fun K hK => ?_
 obtain ⟨v', w', hr, h2, h3, h4, h5⟩ := zfe (P := P) w base t o.type e i z size bytes ht hi hz hsize hby hzs hsz v n xs hown ad m c news hl hnews h1 h63 hbytes hbase hv hzn hnn
 unfold Oper.wp execOp
 simp only [ho, resolve, invoke, builtin, Sem.run_bind, Sem.run_pure, Result.andThen_ok, List.map_toArray, List.map_cons, List.map_nil, hs, hx, hr]
 exact hK _ _ (h v' w' h2 h3 h4 h5)
end
end Go.Proofs.YtgigccjiblaefaaDoor
