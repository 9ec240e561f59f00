/-
  Words for memory: a slice that reads as a list; a block known whole; append onto a row of the call's own. Conditions: none beyond each lemma's own.
  Plain arithmetic of digits to a base, the lowest first. Conditions: none beyond each lemma's own.
  Slices that read as digits: what a call that gives back digits gives back. Conditions: none beyond each lemma's own.
  A natural number as a value: a struct of one slice, the words, without noughts above. Conditions: none beyond each lemma's own.
-/
import Derived.Test.YtakpmlblfdecbaaBunW
import Derived.Below
import Derived.Laws.OwnMore
import Derived.Deep.AppendLies
import Derived.Deep.Draws
import Derived.Laws.Rows
import Derived.Maps.AppendAt
import Derived.RegionTactic
import Derived.OwnWalk
import Derived.WalkKit
import Derived.Deep.QuietTactic
import Derived.Laws.MakeOwn
namespace Go.Proofs.Ytakpmlblfdecbaa
open Go Go.RowKit
theorem block_of_add (a : Addr) (n : Nat) : (a.add n).block = a.block := by unfold Addr.add; split <;> rfl
theorem add_of_add (a : Addr) (i j : Nat) : (a.add i).add j = a.add (i + j) := by
  unfold Addr.add
  by_cases hi : i = 0 <;> by_cases hj : j = 0 <;> simp [hi, hj, Nat.add_assoc]
def Reads (w : World) (B size : Nat) (A : Option Addr) (n : Nat) (xs : List Value) : Prop :=
  xs.length = n * size ∧ (0 < n → ∃ ad, A = some ad ∧ ad.block < B ∧ ∀ j u, xs[j]? = some u → w.cell? (ad.add j) = some u)
section
variable {w w' : World} {B B' size n : Nat} {A : Option Addr} {xs : List Value}
theorem Reads.none_ : Reads w B size A 0 [] := ⟨by simp, fun h => absurd h (by omega)⟩
theorem Reads.at_ {k : Nat} (h : Reads w B 1 A n xs) (hk : k < n) : ∃ ad u, A = some ad ∧ ad.block < B ∧ xs[k]? = some u ∧ w.cell? (ad.add k) = some u := by
  obtain ⟨ad, e, hb, hc⟩ := h.2 (by omega)
  have hl : k < xs.length := by have := h.1; omega
  exact ⟨ad, xs[k], e, hb, List.getElem?_eq_getElem hl, hc k _ (List.getElem?_eq_getElem hl)⟩
theorem Reads.keep (h : Reads w B size A n xs) (hk : ∀ p : Addr, p.block < B → w'.cell? p = w.cell? p) : Reads w' B size A n xs :=
  ⟨h.1, fun hn => by
    obtain ⟨ad, e, hb, hc⟩ := h.2 hn
    exact ⟨ad, e, hb, fun j u hu => (hk _ (by rw [block_of_add]; exact hb)).trans (hc j u hu)⟩⟩
theorem Reads.more (h : Reads w B size A n xs) (hB : B ≤ B') : Reads w B' size A n xs :=
  ⟨h.1, fun hn => by
    obtain ⟨ad, e, hb, hc⟩ := h.2 hn
    exact ⟨ad, e, by omega, hc⟩⟩
theorem Reads.below (h : Reads w B size A n xs) (hb : Below B w w') : Reads w' B size A n xs := h.keep fun _ hp => hb.cell hp
theorem Reads.drew (h : Reads w B size A n xs) : Reads w.drew B size A n xs := h
theorem Reads.drewN (h : Reads w B size A n xs) (k : Nat) : Reads (w.drewN k) B size A n xs := h
theorem Reads.alloc (h : Reads w B size A n xs) (hB : B ≤ w.heap.size) (o : Obj) : Reads (w.alloc o) B size A n xs := h.keep fun p hp => World.cell?_alloc_lt w o p (by omega)
theorem Reads.setCell (h : Reads w B size A n xs) {p : Addr} (hB : B ≤ p.block) (u : Value) : Reads (w.setCell p u) B size A n xs :=
  h.keep fun q hq => World.cell?_setCell_other w p q u (fun e => by subst e; omega)
theorem Reads.grown (h : Reads w B size A n xs) {row : Option Nat} (hg : w.grownBy w' row) (hB : B ≤ w.heap.size) (hr : ∀ g, row = some g → B ≤ g) : Reads w' B size A n xs :=
  h.keep fun p hp => World.cell?_of_block (hg.block p.block (by omega) (fun e => by have := hr _ e.symm; omega))
theorem Reads.cut (h : Reads w B size A n xs) {k cap : Nat} (hk : k ≤ n) (hc : n ≤ cap) :
    Reads w B size (if cap = k then A else A.map (·.add (k * size))) (n - k) (xs.drop (k * size)) := by
  refine ⟨by rw [List.length_drop, h.1, Nat.sub_mul], fun hn => ?_⟩
  obtain ⟨ad, rfl, hb, hcell⟩ := h.2 (by omega)
  rw [if_neg (by omega)]
  refine ⟨ad.add (k * size), rfl, by rw [block_of_add]; exact hb, fun j u hu => ?_⟩
  rw [add_of_add]
  exact hcell _ u (by rw [← hu, List.getElem?_drop])
theorem Reads.of_own {base : Nat} {e : TypeId} {c : Nat} (h : w.ownsRow base e size (.slice A n c) n xs) : Reads w w.heap.size size A n xs := by
  refine ⟨h.1, fun hn => ?_⟩
  obtain ⟨g, cap, hv, _, hlt⟩ := h.form hn
  have hA : A = some ⟨g, 0, none⟩ := by injection hv
  subst hA
  exact ⟨_, rfl, hlt, h.cells (g := g) rfl⟩
end
def Blk (w : World) (g : Nat) (t : TypeId) (cs : Array Value) : Prop := w.heap[g]? = some (.cells cs t (0, 0))
section
variable {w w' : World} {g : Nat} {t : TypeId} {cs : Array Value}
theorem Blk.lt (h : Blk w g t cs) : g < w.heap.size := by
  rcases Nat.lt_or_ge g w.heap.size with hlt | hge
  · exact hlt
  · unfold Blk at h; rw [Array.getElem?_eq_none hge] at h; cases h
theorem Blk.cell (h : Blk w g t cs) (i : Nat) : w.cell? ⟨g, i, none⟩ = cs[i]? := cell_of_row w g i cs t (0, 0) h
theorem Blk.frozen (h : Blk w g t cs) (i : Nat) : w.frozen? ⟨g, i, none⟩ = false := by
  unfold Blk at h
  simp [World.frozen?, h]
theorem Blk.new (w : World) (t : TypeId) (cs : Array Value) : Blk (w.alloc (.cells cs t)) w.heap.size t cs := heap_alloc_new w _
theorem Blk.drew (h : Blk w g t cs) : Blk w.drew g t cs := h
theorem Blk.drewN (h : Blk w g t cs) (n : Nat) : Blk (w.drewN n) g t cs := h
theorem Blk.alloc (h : Blk w g t cs) (o : Obj) : Blk (w.alloc o) g t cs := (Below.heap_alloc w o g h.lt).trans h
theorem Blk.set_ (h : Blk w g t cs) (i : Nat) (u : Value) : Blk (w.setCell ⟨g, i, none⟩ u) g t (cs.setIfInBounds i u) := by
  unfold Blk at h ⊢
  simp [World.setCell, Array.getElem?_modify, h]
theorem Blk.far (h : Blk w g t cs) {p : Addr} (hp : g ≠ p.block) (u : Value) : Blk (w.setCell p u) g t cs := (Below.heap_setCell w p u g hp).trans h
theorem Blk.below {B : Nat} (h : Blk w g t cs) (hb : Below B w w') (hg : g < B) : Blk w' g t cs := (hb.block g hg).trans h
theorem Blk.grown {row : Option Nat} (h : Blk w g t cs) (hb : w.grownBy w' row) (hg : some g ≠ row) : Blk w' g t cs := (hb.block g h.lt hg).trans h
theorem Blk.ne_ {g' : Nat} {t' : TypeId} {cs' : Array Value} (h : Blk w g t cs) (h' : Blk w g' t' cs') (hne : t ≠ t') : g ≠ g' := by
  rintro rfl
  unfold Blk at h h'
  rw [h] at h'
  injection h' with h'
  injection h' with _ ht
  exact hne ht
theorem own_blk_ne {base : Nat} {e : TypeId} {size n : Nat} {v : Value} {xs : List Value} (h : w.ownsRow base e size v n xs) (hg : Blk w g t cs) (hne : e ≠ t) : v.ownBlock ≠ some g := by
  rcases h.2 with ⟨rfl, _⟩ | ⟨g', cap, cur, rfl, _, hh, _⟩
  · simp [Value.ownBlock]
  · intro he
    have : g' = g := by simpa [Value.ownBlock] using he
    subst this
    exact Blk.ne_ (t := e) hh hg hne rfl
end
section
variable {P : Program} (w : World)
theorem run_append_of_nil (base : Nat) (t ty e : TypeId) (i : TypeInfo) (size : Nat) (ht : P.underlying t = some (.slice e)) (hi : P.info? e = some i)
    (v : Value) (n : Nat) (xs : List Value) (hown : w.ownsRow base e size v n xs) (c : Nat) : (Builtin.append_ #[t, t] ty #[v, .slice none 0 c]).run P w = .ok v w := by
  rcases hown.2 with ⟨rfl, rfl⟩ | ⟨g, cap, cur, rfl, _, _, hnc, _⟩
  · simp [Builtin.append_, run_underlying ht, sizeOf, typeInfo, hi, Builtin.lenOf, Builtin.firstCells]
  · simp [Builtin.append_, run_underlying ht, sizeOf, typeInfo, hi, Builtin.lenOf, Builtin.firstCells, hnc, storeCells]
theorem run_append_any (base : Nat) (t ty e : TypeId) (i : TypeInfo) (z : Value) (size bytes : Nat) (ht : P.underlying t = some (.slice e)) (hi : P.info? e = some i) (hz : i.zero = some z)
    (hsize : i.size = size) (hby : i.bytes = bytes) (hzs : z.cells.size = size) (hsz : 0 < size)
    (v : Value) (n : Nat) (xs : List Value) (hown : w.ownsRow base e size v n xs)
    (B : Nat) (A : Option Addr) (m c : Nat) (news : List Value) (hr : Reads w B size A m news) (h1 : ∀ u ∈ news, u.oneCell' = true)
    (h63 : n + m ≤ maxLen) (hbytes : (n + m) * bytes ≤ 140737488355328) (hbase : base ≤ w.heap.size) :
    ∃ v' w', (Builtin.append_ #[t, t] ty #[v, .slice A m c]).run P w = .ok v' w' ∧ w'.ownsRow base e size v' (n + m) (xs ++ news) ∧ w.grownBy w' v.ownBlock ∧
      (v'.ownBlock = v.ownBlock ∨ v'.ownBlock = some w.heap.size) := by
  rcases A with _ | ad
  · have hm : m = 0 := by
      rcases Nat.eq_zero_or_pos m with h0 | h0
      · exact h0
      · obtain ⟨ad, h, _⟩ := hr.2 h0
        cases h
    subst hm
    have hn : news = [] := List.eq_nil_of_length_eq_zero (by simpa using hr.1)
    subst hn
    exact ⟨v, w, run_append_of_nil w base t ty e i size ht hi v n xs hown c, by simpa using hown, World.grownBy.refl w _, .inl rfl⟩
  · have hcells : ∀ j u, news[j]? = some u → w.cell? (ad.add j) = some u := by
      intro j u hu
      rcases Nat.eq_zero_or_pos m with h0 | h0
      · subst h0
        have hn : news = [] := List.eq_nil_of_length_eq_zero (by simpa using hr.1)
        subst hn
        simp at hu
      · obtain ⟨ad', h, _, hc⟩ := hr.2 h0
        injection h with h
        subst h
        exact hc j u hu
    obtain ⟨v', w', hrun, h2, h3, _, h5⟩ := run_append_own_at (P := P) w base t ty e i z size bytes ht hi hz hsize hby hzs hsz v n xs hown ad m c news hr.1 hcells h1 h63 hbytes hbase
    exact ⟨v', w', hrun, h2, h3, h5⟩
theorem wp_append_any {o : Oper} {a : Act} {K : Act → World → Prop} {Q : Exit → Act → World → Prop} (s x : Operand) (t : TypeId)
    (ho : o.op = .call { callee := .builtin .append, args := #[s, x], argTypes := #[t, t] })
    (base : Nat) (e : TypeId) (i : TypeInfo) (z : Value) (size bytes : Nat) (ht : P.underlying t = some (.slice e)) (hi : P.info? e = some i) (hz : i.zero = some z)
    (hsize : i.size = size) (hby : i.bytes = bytes) (hzs : z.cells.size = size) (hsz : 0 < size)
    (v : Value) (n : Nat) (xs : List Value) (hs : a.eval s = v) (hown : w.ownsRow base e size v n xs)
    (B : Nat) (A : Option Addr) (m c : Nat) (news : List Value) (hx : a.eval x = .slice A m c) (hr : Reads w B size A m news) (h1 : ∀ u ∈ news, u.oneCell' = true)
    (h63 : n + m ≤ maxLen) (hbytes : (n + m) * bytes ≤ 140737488355328) (hbase : base ≤ w.heap.size)
    (h : ∀ v' w', w'.ownsRow base e size v' (n + m) (xs ++ news) → w.grownBy w' v.ownBlock → (v'.ownBlock = v.ownBlock ∨ v'.ownBlock = some w.heap.size) → K (a.put o.dst v') w') : o.wp P a w K Q := by
  obtain ⟨v', w', hrun, h2, h3, h4⟩ := run_append_any (P := P) w base t o.type e i z size bytes ht hi hz hsize hby hzs hsz v n xs hown B A m c news hr h1 h63 hbytes hbase
  unfold Oper.wp execOp
  simp only [ho, resolve, invoke, builtin, Sem.run_bind, Sem.run_pure, Result.andThen_ok, List.map_toArray, List.map_cons, List.map_nil, hs, hx, hrun]
  exact h v' w' h2 h3 h4
theorem wpList_append_any {ops : Array Oper} {rest : List Oper} {o : Oper} {a : Act} {Q : Exit → Act → World → Prop} (hgd : o.guard = none) (s x : Operand) (t : TypeId)
    (ho : o.op = .call { callee := .builtin .append, args := #[s, x], argTypes := #[t, t] })
    (base : Nat) (e : TypeId) (i : TypeInfo) (z : Value) (size bytes : Nat) (ht : P.underlying t = some (.slice e)) (hi : P.info? e = some i) (hz : i.zero = some z)
    (hsize : i.size = size) (hby : i.bytes = bytes) (hzs : z.cells.size = size) (hsz : 0 < size)
    (v : Value) (n : Nat) (xs : List Value) (hs : a.eval s = v) (hown : w.ownsRow base e size v n xs)
    (B : Nat) (A : Option Addr) (m c : Nat) (news : List Value) (hx : a.eval x = .slice A m c) (hr : Reads w B size A m news) (h1 : ∀ u ∈ news, u.oneCell' = true)
    (h63 : n + m ≤ maxLen) (hbytes : (n + m) * bytes ≤ 140737488355328) (hbase : base ≤ w.heap.size)
    (h : ∀ v' w', w'.ownsRow base e size v' (n + m) (xs ++ news) → w.grownBy w' v.ownBlock → (v'.ownBlock = v.ownBlock ∨ v'.ownBlock = some w.heap.size) → wpList P ops Q rest (a.put o.dst v') w') : wpList P ops Q (o :: rest) a w :=
  wpList_plain hgd fun _ hK => wp_append_any w s x t ho base e i z size bytes ht hi hz hsize hby hzs hsz v n xs hs hown B A m c news hx hr h1 h63 hbytes hbase fun v' w' h2 h3 h4 => hK _ _ (h v' w' h2 h3 h4)
theorem step_append_any {ops : Array Oper} {o : Oper} {a : Act} {K : Act → World → Prop} {Q : Exit → Act → World → Prop} {E : Prop} (hgd : o.guard = none) (s x : Operand) (t : TypeId)
    (ho : o.op = .call { callee := .builtin .append, args := #[s, x], argTypes := #[t, t] })
    (base : Nat) (e : TypeId) (i : TypeInfo) (z : Value) (size bytes : Nat) (ht : P.underlying t = some (.slice e)) (hi : P.info? e = some i) (hz : i.zero = some z)
    (hsize : i.size = size) (hby : i.bytes = bytes) (hzs : z.cells.size = size) (hsz : 0 < size)
    (v : Value) (n : Nat) (xs : List Value) (hs : a.eval s = v) (hown : w.ownsRow base e size v n xs)
    (B : Nat) (A : Option Addr) (m c : Nat) (news : List Value) (hx : a.eval x = .slice A m c) (hr : Reads w B size A m news) (h1 : ∀ u ∈ news, u.oneCell' = true)
    (h63 : n + m ≤ maxLen) (hbytes : (n + m) * bytes ≤ 140737488355328) (hbase : base ≤ w.heap.size)
    (h : ∀ v' w', w'.ownsRow base e size v' (n + m) (xs ++ news) → w.grownBy w' v.ownBlock → (v'.ownBlock = v.ownBlock ∨ v'.ownBlock = some w.heap.size) → K (a.put o.dst v') w') :
    if Region.wanted o (yielded ops a.tmps) = true then Oper.wp P o a w K Q else E := by
  have hw : Region.wanted o (yielded ops a.tmps) = true := by simp [Region.wanted, hgd]
  rw [if_pos hw]
  exact wp_append_any w s x t ho base e i z size bytes ht hi hz hsize hby hzs hsz v n xs hs hown B A m c news hx hr h1 h63 hbytes hbase h
end
theorem push_cells (w : World) (u : Value) (t : TypeId) : ∀ (j : Nat) (u' : Value), [u][j]? = some u' → (w.alloc (.cells #[u] t)).cell? ((⟨w.heap.size, 0, none⟩ : Addr).add j) = some u' := by
  intro j u' hj
  match j, hj with
  | 0, hj => simp at hj; subst hj; simp [Addr.add]
theorem push_one (k : IntKind) (z : Int) : ∀ u ∈ [Value.int k z], u.oneCell' = true := by intro u hu; simp at hu; subst hu; rfl
theorem ret_u64 {a b : Int} (h : a = b) : Ending.returned (.int .u64 a) = .returned (.int .u64 b) := by rw [h]
theorem ret_i64 {a b : Int} (h : a = b) : Ending.returned (.int .i64 a) = .returned (.int .i64 b) := by rw [h]
theorem quiet_add {P : Program} {f : FuncId} {args : Array Value} {w : World} {a n : Nat} {v : Value}
    (h : Calls P f args (w.drewN (a + n)) fun e w' => e = .returned v ∧ ∃ m, w' = (w.drewN (a + n)).drewN m) :
    Calls P f args (w.drewN (a + n)) fun e w'' => e = .returned v ∧ ∃ m, w'' = w.drewN (a + m) :=
  h.mono fun _ _ ⟨he, m, hm⟩ => ⟨he, n + m, by rw [hm, World.drewN_drewN, Nat.add_assoc]⟩
theorem quiet_add_same {P : Program} {f : FuncId} {args : Array Value} {w : World} {a n : Nat} {v : Value}
    (h : Calls P f args (w.drewN (a + n)) fun e w' => e = .returned v ∧ w' = w.drewN (a + n)) :
    Calls P f args (w.drewN (a + n)) fun e w'' => e = .returned v ∧ ∃ m, w'' = w.drewN (a + m) :=
  h.mono fun _ _ ⟨he, hm⟩ => ⟨he, n, hm⟩
theorem quiet_add_left {P : Program} {f : FuncId} {args : Array Value} {w : World} {a n : Nat} {v : Value}
    (h : Calls P f args (w.drewN (a + n)) fun e w' => e = .returned v ∧ w.drewN (a + n) = w') :
    Calls P f args (w.drewN (a + n)) fun e w'' => e = .returned v ∧ ∃ m, w'' = w.drewN (a + m) :=
  h.mono fun _ _ ⟨he, hm⟩ => ⟨he, n, hm.symm⟩
theorem quiet_left {P : Program} {f : FuncId} {args : Array Value} {w : World} {n : Nat} {v : Value}
    (h : Calls P f args (w.drewN n) fun e w' => e = .returned v ∧ w.drewN n = w') : Calls P f args (w.drewN n) fun e w'' => e = .returned v ∧ ∃ m, w'' = w.drewN m :=
  h.mono fun _ _ ⟨he, hm⟩ => ⟨he, n, hm.symm⟩
/-- What a call gives back that makes a slice of one-cell elements in new memory: the slice reads as xs; nothing that was there has turned. -/
def Gives (w : World) (n : Nat) (xs : List Value) (e : Ending) (w' : World) : Prop :=
  ∃ (A : Option Addr) (c : Nat), e = .returned (.slice A n c) ∧ Reads w' w'.heap.size 1 A n xs ∧ n ≤ c ∧ (c ≤ 9223372036854775807 ∧ ∀ ad, A = some ad → w.heap.size ≤ ad.block) ∧ Below w.heap.size w w'
theorem own_form {w : World} {base n : Nat} {e : TypeId} {v : Value} {xs : List Value} (h : w.ownsRow base e 1 v n xs) :
    ∃ (A : Option Addr) (c : Nat), v = .slice A n c ∧ Reads w w.heap.size 1 A n xs ∧ n ≤ c ∧ c ≤ 9223372036854775807 ∧ ∀ ad, A = some ad → base ≤ ad.block := by
  have h2 := h.2
  rcases h2 with ⟨rfl, rfl⟩ | ⟨g, cap, cur, rfl, hbg, _, hnc, hcm, _⟩
  · exact ⟨none, 0, rfl, Reads.of_own h, Nat.le_refl _, by omega, by intro ad e; cases e⟩
  · exact ⟨some ⟨g, 0, none⟩, cap, rfl, Reads.of_own h, hnc, by unfold maxLen at hcm; omega, by intro ad e; cases e; exact hbg⟩
theorem gives_of_own {w w' : World} {n : Nat} {t : TypeId} {v : Value} {xs : List Value} (h : w'.ownsRow w.heap.size t 1 v n xs) (hb : Below w.heap.size w w') : Gives w n xs (.returned v) w' := by
  obtain ⟨A, c, rfl, hr, h1, h2, h3⟩ := own_form h
  exact ⟨A, c, rfl, hr, h1, ⟨h2, h3⟩, hb⟩
/-- Seen from an earlier world. -/
theorem Gives.from_ {w w1 w' : World} {n : Nat} {xs : List Value} {e : Ending} (h : Gives w1 n xs e w') (hb : Below w.heap.size w w1) : Gives w n xs e w' := by
  obtain ⟨A, c, rfl, hr, h1, ⟨h2, h3⟩, h4⟩ := h
  exact ⟨A, c, rfl, hr, h1, ⟨h2, fun ad e => Nat.le_trans hb.size (h3 ad e)⟩, hb.trans (h4.mono hb.size)⟩
theorem _root_.Go.World.ownsRow.drewN_ {w : World} {base : Nat} {e : TypeId} {size : Nat} {v : Value} {n : Nat} {xs : List Value} (h : w.ownsRow base e size v n xs) (k : Nat) : (w.drewN k).ownsRow base e size v n xs := h
/-- What the call owns stays owned behind a step that leaves what was there. -/
theorem own_below {w w' : World} {base : Nat} {e : TypeId} {size : Nat} {v : Value} {n : Nat} {xs : List Value} (h : w.ownsRow base e size v n xs) (hb : Below w.heap.size w w') : w'.ownsRow base e size v n xs := by
  refine ⟨h.1, ?_⟩
  rcases h.2 with hn | ⟨g, cap, cur, rfl, hbg, hg, rest⟩
  · exact .inl hn
  · refine .inr ⟨g, cap, cur, rfl, hbg, ?_, rest⟩
    rw [hb.block g (Array.getElem?_eq_some_iff.1 hg).1]
    exact hg
theorem below_drewN_ {B : Nat} {a w : World} (h : Below B a w) (n : Nat) : Below B a (w.drewN n) := ⟨h.os, h.tape, h.output, h.size, h.block⟩
theorem append_types {P : Program} (t t2 ty e e2 : TypeId) (ht : P.underlying t = some (.slice e)) (ht2 : P.underlying t2 = some (.slice e2)) (args : Array Value) (w : World) :
    (Builtin.append_ #[t, t2] ty args).run P w = (Builtin.append_ #[t, t] ty args).run P w := by
  unfold Builtin.append_
  rcases h0 : args[0]? with _ | s
  · simp
  · rcases h1 : args[1]? with _ | x
    · simp
    · cases s <;> simp [run_underlying ht, run_underlying ht2]
theorem wpList_append_any2 {P : Program} (w : World) {ops : Array Oper} {rest : List Oper} {o : Oper} {a : Act} {Q : Exit → Act → World → Prop} (hgd : o.guard = none) (s x : Operand) (t t2 : TypeId)
    (ho : o.op = .call { callee := .builtin .append, args := #[s, x], argTypes := #[t, t2] })
    (base : Nat) (e e2 : TypeId) (i : TypeInfo) (z : Value) (size bytes : Nat) (ht : P.underlying t = some (.slice e)) (ht2 : P.underlying t2 = some (.slice e2)) (hi : P.info? e = some i) (hz : i.zero = some z)
    (hsize : i.size = size) (hby : i.bytes = bytes) (hzs : z.cells.size = size) (hsz : 0 < size)
    (v : Value) (n : Nat) (xs : List Value) (hs : a.eval s = v) (hown : w.ownsRow base e size v n xs)
    (B : Nat) (A : Option Addr) (m c : Nat) (news : List Value) (hx : a.eval x = .slice A m c) (hr : Reads w B size A m news) (h1 : ∀ u ∈ news, u.oneCell' = true)
    (h63 : n + m ≤ maxLen) (hbytes : (n + m) * bytes ≤ 140737488355328) (hbase : base ≤ w.heap.size)
    (h : ∀ v' w', w'.ownsRow base e size v' (n + m) (xs ++ news) → w.grownBy w' v.ownBlock → (v'.ownBlock = v.ownBlock ∨ v'.ownBlock = some w.heap.size) → wpList P ops Q rest (a.put o.dst v') w') : wpList P ops Q (o :: rest) a w :=
  wpList_plain hgd fun K hK => by
    obtain ⟨v', w', hrun, h2, h3, h4⟩ := run_append_any (P := P) w base t o.type e i z size bytes ht hi hz hsize hby hzs hsz v n xs hown B A m c news hr h1 h63 hbytes hbase
    unfold Oper.wp execOp
    simp only [ho, resolve, invoke, builtin, Sem.run_bind, Sem.run_pure, Result.andThen_ok, List.map_toArray, List.map_cons, List.map_nil, hs, hx, append_types t t2 o.type e e2 ht ht2, hrun]
    exact hK _ _ (h v' w' h2 h3 h4)
theorem push_cells2 (w : World) (u u2 : Value) (t : TypeId) : ∀ (j : Nat) (u' : Value), [u, u2][j]? = some u' → (w.alloc (.cells #[u, u2] t)).cell? ((⟨w.heap.size, 0, none⟩ : Addr).add j) = some u' := by
  intro j u' hj
  match j, hj with
  | 0, hj => simp at hj; subst hj; simp [Addr.add]
  | 1, hj => simp at hj; subst hj; simp [Addr.add]
theorem push_one2 (k : IntKind) (y z : Int) : ∀ u ∈ [Value.int k y, Value.int k z], u.oneCell' = true := by
  intro u hu
  simp at hu
  rcases hu with rfl | rfl <;> rfl
theorem run_make_rowN {P : Program} (t e : TypeId) (i : TypeInfo) (z : Value) (ht : P.underlying t = some (.slice e)) (hi : P.info? e = some i) (hz : i.zero = some z)
    (kl kc : IntKind) (n c : Nat) (hnc : n ≤ c) (hbytes : i.bytes * c ≤ 281474976710656) (h63 : c ≤ 9223372036854775807) (w : World) :
    (Instr.makeSlice t (.int kl (n : Int)) (.int kc (c : Int))).run P w = .ok (.slice (some ⟨w.heap.size, 0, none⟩) n c) (w.alloc (.cells (madeCells z.cells (c * i.size)) e)) := by
  have hb : (i.bytes : Int) * (c : Int) ≤ 281474976710656 := by
    have h : ((i.bytes * c : Nat) : Int) ≤ 281474976710656 := by omega
    rwa [Int.natCast_mul] at h
  have hr := run_make (P := P) w t e i z ht hi hz kl kc n c (by omega) (by omega) hb (by omega)
  simp only [Int.toNat_natCast] at hr
  exact hr
end Go.Proofs.Ytakpmlblfdecbaa
namespace Go.Proofs.Ytakpmlblfdecbaa
open Go Go.RowKit
/-- The number that digits stand for. -/
def dv (b : Nat) : List Nat → Nat
  | [] => 0
  | d :: l => d + b * dv b l
/-- Digits to the base b. -/
def Dgs (b : Nat) (l : List Nat) : Prop := ∀ d ∈ l, d < b
/-- A number's digits, without noughts above. -/
def dgAux (b : Nat) : Nat → Nat → List Nat
  | 0, _ => []
  | f + 1, x => if x = 0 then [] else x % b :: dgAux b f (x / b)
def dg (b x : Nat) : List Nat := dgAux b x x
theorem dgAux_more : ∀ (b f g x : Nat), 2 ≤ b → x ≤ f → x ≤ g → dgAux b f x = dgAux b g x
  | b, 0, g, x, _, h, _ => by
    have : x = 0 := by omega
    subst this
    cases g <;> simp [dgAux]
  | b, f + 1, 0, x, _, _, h => by
    have : x = 0 := by omega
    subst this
    simp [dgAux]
  | b, f + 1, g + 1, x, hb, h1, h2 => by
    unfold dgAux
    split
    · rfl
    · rename_i hx
      have : x / b < x := Nat.div_lt_self (by omega) (by omega)
      rw [dgAux_more b f g (x / b) hb (by omega) (by omega)]
theorem dg_zero (b : Nat) : dg b 0 = [] := rfl
theorem dg_step {b x : Nat} (hb : 2 ≤ b) (hx : x ≠ 0) : dg b x = x % b :: dg b (x / b) := by
  obtain ⟨y, rfl⟩ : ∃ y, x = y + 1 := ⟨x - 1, by omega⟩
  unfold dg
  rw [dgAux, if_neg hx]
  have : (y + 1) / b < y + 1 := Nat.div_lt_self (by omega) (by omega)
  rw [dgAux_more b y ((y + 1) / b) _ hb (by omega) (Nat.le_refl _)]
theorem dg_ind {b : Nat} (hb : 2 ≤ b) {P : Nat → Prop} (h0 : P 0) (hs : ∀ x, x ≠ 0 → P (x / b) → P x) (x : Nat) : P x := by
  induction x using Nat.strongRecOn with
  | ind x ih =>
    by_cases hx : x = 0
    · subst hx; exact h0
    · exact hs x hx (ih _ (Nat.div_lt_self (by omega) (by omega)))
theorem dv_dg {b : Nat} (hb : 2 ≤ b) (x : Nat) : dv b (dg b x) = x := by
  refine dg_ind hb (P := fun x => dv b (dg b x) = x) rfl (fun x hx ih => ?_) x
  rw [dg_step hb hx, dv, ih]
  exact Nat.mod_add_div x b
theorem dg_dgs {b : Nat} (hb : 2 ≤ b) (x : Nat) : Dgs b (dg b x) := by
  refine dg_ind hb (P := fun x => Dgs b (dg b x)) (by intro d hd; simp [dg_zero] at hd) (fun x hx ih => ?_) x
  rw [dg_step hb hx]
  intro d hd
  rcases List.mem_cons.1 hd with rfl | hd
  · exact Nat.mod_lt _ (by omega)
  · exact ih d hd
theorem dv_append (b : Nat) : ∀ (l m : List Nat), dv b (l ++ m) = dv b l + b ^ l.length * dv b m
  | [], m => by simp [dv]
  | d :: l, m => by
    rw [List.cons_append, dv, dv, dv_append b l m, List.length_cons, Nat.pow_succ, Nat.mul_add, Nat.add_assoc, Nat.mul_comm (b ^ l.length) b, Nat.mul_assoc]
theorem Dgs.append {b : Nat} {l m : List Nat} (hl : Dgs b l) (hm : Dgs b m) : Dgs b (l ++ m) := by
  intro d hd
  rcases List.mem_append.1 hd with h | h
  · exact hl d h
  · exact hm d h
theorem Dgs.take {b : Nat} {l : List Nat} (hl : Dgs b l) (k : Nat) : Dgs b (l.take k) := fun d hd => hl d (List.mem_of_mem_take hd)
theorem Dgs.drop {b : Nat} {l : List Nat} (hl : Dgs b l) (k : Nat) : Dgs b (l.drop k) := fun d hd => hl d (List.mem_of_mem_drop hd)
theorem Dgs.getD {b : Nat} {l : List Nat} (hl : Dgs b l) (hb : 0 < b) (k : Nat) : l.getD k 0 < b := by
  by_cases hk : k < l.length
  · exact hl _ (by rw [List.getD_eq_getElem?_getD, List.getElem?_eq_getElem hk]; exact List.getElem_mem hk)
  · rw [List.getD_eq_getElem?_getD, List.getElem?_eq_none (by omega)]; exact hb
theorem Dgs.zeros {b : Nat} (hb : 0 < b) (n : Nat) : Dgs b (List.replicate n 0) := by
  intro d hd
  rw [List.eq_of_mem_replicate hd]; exact hb
theorem dv_zeros (b : Nat) : ∀ n, dv b (List.replicate n 0) = 0
  | 0 => rfl
  | n + 1 => by rw [List.replicate_succ, dv, dv_zeros b n]; simp
theorem dv_lt {b : Nat} : ∀ {l : List Nat}, Dgs b l → dv b l < b ^ l.length
  | [], _ => by simp [dv]
  | d :: l, h => by
    have h1 := h d (by simp)
    have h2 := dv_lt (l := l) (fun e he => h e (by simp [he]))
    rw [dv, List.length_cons, Nat.pow_succ, Nat.mul_comm (b ^ l.length) b]
    have : b * (dv b l + 1) ≤ b * b ^ l.length := Nat.mul_le_mul_left b h2
    rw [Nat.mul_add] at this
    omega
theorem dv_snoc (b : Nat) (l : List Nat) (d : Nat) : dv b (l ++ [d]) = dv b l + b ^ l.length * d := by rw [dv_append]; simp [dv]
theorem dv_take_succ (b : Nat) (l : List Nat) (k : Nat) : dv b (l.take (k + 1)) = dv b (l.take k) + b ^ k * l.getD k 0 := by
  by_cases h : k < l.length
  · rw [List.take_succ_eq_append_getElem h, dv_snoc, List.length_take, Nat.min_eq_left (by omega)]
    simp [List.getD, List.getElem?_eq_getElem h]
  · rw [List.take_of_length_le (by omega), List.take_of_length_le (by omega), List.getD_eq_getElem?_getD, List.getElem?_eq_none (by omega)]
    simp
theorem dv_split (b : Nat) (l : List Nat) (k : Nat) (hk : k ≤ l.length) : dv b l = dv b (l.take k) + b ^ k * dv b (l.drop k) := by
  have h := dv_append b (l.take k) (l.drop k)
  rw [List.take_append_drop, List.length_take, Nat.min_eq_left hk] at h
  exact h
theorem dv_take {b : Nat} (hb : 0 < b) {l : List Nat} (h : Dgs b l) (k : Nat) : dv b (l.take k) = dv b l % b ^ k := by
  by_cases hk : k ≤ l.length
  · have h2 := dv_lt (h.take k)
    rw [List.length_take, Nat.min_eq_left hk] at h2
    rw [dv_split b l k hk, Nat.add_mul_mod_self_left]
    exact (Nat.mod_eq_of_lt h2).symm
  · rw [List.take_of_length_le (by omega)]
    have h2 := dv_lt h
    exact (Nat.mod_eq_of_lt (Nat.lt_of_lt_of_le h2 (Nat.pow_le_pow_right hb (by omega)))).symm
theorem dv_drop {b : Nat} (hb : 0 < b) {l : List Nat} (h : Dgs b l) (k : Nat) : dv b (l.drop k) = dv b l / b ^ k := by
  by_cases hk : k ≤ l.length
  · have h2 := dv_lt (h.take k)
    rw [List.length_take, Nat.min_eq_left hk] at h2
    rw [dv_split b l k hk, Nat.add_mul_div_left _ _ (Nat.pow_pos hb), Nat.div_eq_of_lt h2, Nat.zero_add]
  · rw [List.drop_of_length_le (by omega)]
    have h2 := dv_lt h
    exact (Nat.div_eq_of_lt (Nat.lt_of_lt_of_le h2 (Nat.pow_le_pow_right hb (by omega)))).symm
theorem dv_getD {b : Nat} (hb : 0 < b) {l : List Nat} (h : Dgs b l) (k : Nat) : l.getD k 0 = dv b l / b ^ k % b := by
  have h1 := dv_drop hb h k
  rw [← h1]
  by_cases hk : k < l.length
  · rw [List.drop_eq_getElem_cons hk, dv, Nat.add_mul_mod_self_left, List.getD_eq_getElem?_getD, List.getElem?_eq_getElem hk]
    exact (Nat.mod_eq_of_lt (h _ (List.getElem_mem hk))).symm
  · rw [List.drop_of_length_le (by omega), List.getD_eq_getElem?_getD, List.getElem?_eq_none (by omega)]
    simp [dv]
/-- No nought above. -/
def Nrm (l : List Nat) : Prop := l ≠ [] → l.getD (l.length - 1) 0 ≠ 0
theorem Nrm.nil : Nrm [] := fun h => absurd rfl h
theorem Nrm.tail {d : Nat} {l : List Nat} (h : Nrm (d :: l)) : Nrm l := by
  intro hl
  have h2 := h (by simp)
  have hp : 0 < l.length := List.length_pos_iff.2 hl
  rw [List.length_cons, show l.length + 1 - 1 = (l.length - 1) + 1 from by omega] at h2
  simpa using h2
theorem nrm_dg {b : Nat} (hb : 2 ≤ b) (x : Nat) : Nrm (dg b x) := by
  refine dg_ind hb (P := fun x => Nrm (dg b x)) Nrm.nil (fun x hx ih => ?_) x
  rw [dg_step hb hx]
  intro _
  by_cases h : dg b (x / b) = []
  · rw [h]
    have h0 := dv_dg hb (x / b)
    rw [h] at h0
    have hlt : x < b := by
      rcases Nat.lt_or_ge x b with h2 | h2
      · exact h2
      · have := Nat.div_pos h2 (by omega)
        simp [dv] at h0
        omega
    simp [Nat.mod_eq_of_lt hlt]
    exact hx
  · have hp : 0 < (dg b (x / b)).length := List.length_pos_iff.2 h
    rw [List.length_cons, show (dg b (x / b)).length + 1 - 1 = ((dg b (x / b)).length - 1) + 1 from by omega]
    simpa using ih h
theorem dg_of {b : Nat} (hb : 2 ≤ b) : ∀ {l : List Nat}, Dgs b l → Nrm l → l = dg b (dv b l)
  | [], _, _ => rfl
  | d :: l, h, hn => by
    have h1 := h d (by simp)
    have h0 : Dgs b l := fun e he => h e (by simp [he])
    have e := dg_of hb h0 hn.tail
    have hne : dv b (d :: l) ≠ 0 := by
      rw [dv]
      intro hz
      have hd : d = 0 := by omega
      have hl : b * dv b l = 0 := by omega
      have hl2 : dv b l = 0 := by
        rcases Nat.mul_eq_zero.1 hl with h | h
        · omega
        · exact h
      rw [hl2, dg_zero] at e
      subst e
      subst hd
      exact hn (by simp) (by simp)
    rw [dg_step hb hne, dv, Nat.add_mul_mod_self_left, Nat.mod_eq_of_lt h1, Nat.add_mul_div_left _ _ (by omega), Nat.div_eq_of_lt h1, Nat.zero_add, ← e]
/-- The least number of so many digits. -/
theorem dg_ge {b : Nat} (hb : 2 ≤ b) (x : Nat) (hx : x ≠ 0) : 1 ≤ (dg b x).length ∧ b ^ ((dg b x).length - 1) ≤ x := by
  have hne : dg b x ≠ [] := by rw [dg_step hb hx]; simp
  have hp := List.length_pos_iff.2 hne
  refine ⟨hp, ?_⟩
  have hn := nrm_dg hb x hne
  rw [dv_getD (by omega) (dg_dgs hb x), dv_dg hb] at hn
  rcases Nat.lt_or_ge x (b ^ ((dg b x).length - 1)) with h | h
  · rw [Nat.div_eq_of_lt h] at hn; simp at hn
  · exact h
theorem dg_lt {b : Nat} (hb : 2 ≤ b) (x : Nat) : x < b ^ (dg b x).length := by
  have := dv_lt (dg_dgs hb x)
  rwa [dv_dg hb] at this
theorem dg_len_le {b : Nat} (hb : 2 ≤ b) (x n : Nat) (h : x < b ^ n) : (dg b x).length ≤ n := by
  by_cases hx : x = 0
  · subst hx; simp [dg_zero]
  · have h2 := dg_ge hb x hx
    have : b ^ ((dg b x).length - 1) < b ^ n := Nat.lt_of_le_of_lt h2.2 h
    have := (Nat.pow_lt_pow_iff_right (by omega)).1 this
    omega
theorem dg_len_mono {b : Nat} (hb : 2 ≤ b) {x y : Nat} (h : x ≤ y) : (dg b x).length ≤ (dg b y).length := dg_len_le hb _ _ (Nat.lt_of_le_of_lt h (dg_lt hb y))
theorem dg_inj {b : Nat} (hb : 2 ≤ b) {x y : Nat} (h : dg b x = dg b y) : x = y := by rw [← dv_dg hb x, h, dv_dg hb]
/-- Trimmed digits: behind so many noughts above struck, the number is the same. -/
theorem dv_strike (b : Nat) {l : List Nat} {n : Nat} (hn : n < l.length) (h : l.getD n 0 = 0) : dv b (l.take (n + 1)) = dv b (l.take n) := by
  have _ := hn
  rw [dv_take_succ, h]; simp
theorem dg_trim {b : Nat} (hb : 2 ≤ b) {l : List Nat} {n : Nat} (h : Dgs b l) (hn : n ≤ l.length) (hv : dv b (l.take n) = dv b l) (hz : n = 0 ∨ l.getD (n - 1) 0 ≠ 0) : l.take n = dg b (dv b l) := by
  rw [← hv]
  refine dg_of hb (h.take n) ?_
  intro hne
  rw [List.length_take, Nat.min_eq_left hn]
  rcases hz with rfl | hz
  · simp at hne
  · by_cases h0 : n = 0
    · subst h0; simp at hne
    · rw [List.getD_eq_getElem?_getD, List.getElem?_take, if_pos (by omega), ← List.getD_eq_getElem?_getD]
      exact hz
/-! ### Comparing from above -/
theorem dig_up (b x j : Nat) : x / b ^ j = b * (x / b ^ (j + 1)) + x / b ^ j % b := by
  rw [Nat.pow_succ, ← Nat.div_div_eq_div_mul]
  exact (Nat.div_add_mod _ _).symm
theorem cmp_eq {b x y j : Nat} (h : x / b ^ (j + 1) = y / b ^ (j + 1)) (hd : x / b ^ j % b = y / b ^ j % b) : x / b ^ j = y / b ^ j := by
  rw [dig_up b x j, dig_up b y j, h, hd]
theorem cmp_lt {b x y j : Nat} (h : x / b ^ (j + 1) = y / b ^ (j + 1)) (hd : x / b ^ j % b < y / b ^ j % b) : x < y := by
  have h1 := dig_up b x j
  have h2 := dig_up b y j
  rw [h] at h1
  rcases Nat.lt_or_ge x y with hl | hl
  · exact hl
  · have := Nat.div_le_div_right (c := b ^ j) hl
    omega
theorem len_lt {b : Nat} (hb : 2 ≤ b) {x y : Nat} (h : (dg b x).length < (dg b y).length) : x < y := by
  rcases Nat.lt_or_ge x y with hl | hl
  · exact hl
  · have := dg_len_mono hb hl
    omega
/-! ### Four digits to a word -/
theorem pow_four (i : Nat) : (65536 : Nat) ^ (4 * i) = 18446744073709551616 ^ i := by rw [Nat.pow_mul]
theorem mod_up (b y s : Nat) : y % b ^ (s + 1) = y % b + b * (y / b % b ^ s) := by rw [Nat.pow_succ, Nat.mul_comm (b ^ s) b, Nat.mod_mul]
theorem mod_step_b (b x k : Nat) : x % b ^ (k + 1) = x % b ^ k + b ^ k * (x / b ^ k % b) := by rw [Nat.pow_succ, Nat.mod_mul]
/-- One digit more of a word, on top of the digits of the words ahead. -/
theorem of_step {D : List Nat} {v w i k : Nat} (hlen : D.length = 4 * i + k) (hv : dv 65536 D = v + 18446744073709551616 ^ i * (w % 65536 ^ k)) :
    dv 65536 (D ++ [w / 65536 ^ k % 65536]) = v + 18446744073709551616 ^ i * (w % 65536 ^ (k + 1)) := by
  rw [dv_snoc, hv, hlen, mod_step_b 65536 w k, Nat.mul_add, Nat.pow_add, pow_four, Nat.mul_assoc, Nat.add_assoc]
/-- A word, from its four digits: one digit lower. -/
theorem word_step (x t s : Nat) : x / 65536 ^ (t + 1) % 65536 ^ s * 65536 + x / 65536 ^ t % 65536 = x / 65536 ^ t % 65536 ^ (s + 1) := by
  rw [mod_up 65536 (x / 65536 ^ t) s, Nat.div_div_eq_div_mul, ← Nat.pow_succ, Nat.mul_comm, Nat.add_comm]
/-- Where the words stand: j of them. -/
structure WordsAt (x j : Nat) (L : List Nat) : Prop where
  len : L.length = j
  dgs : Dgs 18446744073709551616 L
  val : dv 18446744073709551616 L = x % 18446744073709551616 ^ j
theorem WordsAt.start (x : Nat) : WordsAt x 0 [] := ⟨rfl, by intro d hd; simp at hd, by simp [dv, Nat.mod_one]⟩
theorem WordsAt.step {x j : Nat} {L : List Nat} (h : WordsAt x j L) : WordsAt x (j + 1) (L ++ [x / 65536 ^ (4 * j) % 65536 ^ 4]) := by
  refine ⟨by simp [h.len], h.dgs.append (by intro d hd; simp at hd; subst hd; exact Nat.mod_lt _ (by decide)), ?_⟩
  rw [dv_snoc, h.val, h.len, pow_four, show (65536 : Nat) ^ 4 = 18446744073709551616 from by decide, ← mod_step_b]
theorem WordsAt.done {x j : Nat} {L : List Nat} (h : WordsAt x j L) (hlo : j = 0 ∨ 4 * (j - 1) < (dg 65536 x).length) (hhi : (dg 65536 x).length ≤ 4 * j) : L = dg 18446744073709551616 x := by
  have hx : x < 18446744073709551616 ^ j := by
    rw [← pow_four]
    exact Nat.lt_of_lt_of_le (dg_lt (by decide) x) (Nat.pow_le_pow_right (by decide) hhi)
  have hv : dv 18446744073709551616 L = x := by rw [h.val, Nat.mod_eq_of_lt hx]
  conv => rhs; rw [← hv]
  refine dg_of (by decide) h.dgs ?_
  intro hne
  have hj : j ≠ 0 := by
    rintro rfl
    exact hne (List.length_eq_zero_iff.1 h.len)
  obtain ⟨i, rfl⟩ : ∃ i, j = i + 1 := ⟨j - 1, by omega⟩
  rw [dv_getD (by decide) h.dgs, hv, h.len]
  have hlo' : 4 * i < (dg 65536 x).length := by omega
  have hx0 : x ≠ 0 := by rintro rfl; simp [dg_zero] at hlo'
  have hge : 18446744073709551616 ^ i ≤ x := by
    rw [← pow_four]
    exact Nat.le_trans (Nat.pow_le_pow_right (by decide) (by omega)) (dg_ge (by decide) x hx0).2
  have h1 : 0 < x / 18446744073709551616 ^ (i + 1 - 1) := Nat.div_pos (by simpa using hge) (Nat.pow_pos (by decide))
  have h2 : x / 18446744073709551616 ^ (i + 1 - 1) < 18446744073709551616 := by
    rw [Nat.add_sub_cancel]
    refine (Nat.div_lt_iff_lt_mul (Nat.pow_pos (by decide))).2 ?_
    rw [Nat.mul_comm, ← Nat.pow_succ]; exact hx
  rw [Nat.mod_eq_of_lt h2]
  omega
end Go.Proofs.Ytakpmlblfdecbaa
namespace Go.Proofs.Ytakpmlblfdecbaa
open Go Go.RowKit
/-- Digits as values of one kind. -/
def vals (k : IntKind) (l : List Nat) : List Value := l.map fun d : Nat => Value.int k (d : Int)
theorem vals_length (k : IntKind) (l : List Nat) : (vals k l).length = l.length := by simp [vals]
theorem vals_append (k : IntKind) (l m : List Nat) : vals k (l ++ m) = vals k l ++ vals k m := by simp [vals]
theorem vals_take (k : IntKind) (l : List Nat) (n : Nat) : (vals k l).take n = vals k (l.take n) := by simp [vals]
theorem vals_drop (k : IntKind) (l : List Nat) (n : Nat) : (vals k l).drop n = vals k (l.drop n) := by simp [vals]
theorem vals_one (k : IntKind) (l : List Nat) : ∀ u ∈ vals k l, u.oneCell' = true := by
  intro u hu
  obtain ⟨d, _, rfl⟩ := List.mem_map.1 hu
  rfl
theorem val_at {w : World} {B n : Nat} {A : Option Addr} {K : IntKind} {l : List Nat} (hr : Reads w B 1 A n (vals K l)) {k : Nat} (hk : k < n) : ∃ ad : Addr, A = some ad ∧ ad.block < B ∧ w.cell? (ad.add k) = some (.int K (l.getD k 0 : Nat)) := by
  have hlen : l.length = n := by have := hr.1; rw [vals_length] at this; omega
  obtain ⟨ad, u, e, hb, hu, hc⟩ := hr.at_ hk
  refine ⟨ad, e, hb, hc.trans ?_⟩
  rw [List.getD_eq_getElem?_getD, List.getElem?_eq_getElem (by omega)]
  simp only [vals, List.getElem?_map, List.getElem?_eq_getElem (show k < l.length by omega), Option.map_some, Option.some.injEq] at hu
  rw [← hu]; rfl
theorem Reads.len_ {w : World} {B n : Nat} {A : Option Addr} {K : IntKind} {l : List Nat} (hr : Reads w B 1 A n (vals K l)) : l.length = n := by
  have := hr.1; rw [vals_length] at this; omega
theorem Reads.take_ {w : World} {B n k : Nat} {A : Option Addr} {xs : List Value} (hr : Reads w B 1 A n xs) (hk : k ≤ n) : Reads w B 1 A k (xs.take k) := by
  have h1 := hr.1
  refine ⟨by rw [List.length_take]; omega, fun h => ?_⟩
  obtain ⟨ad, e, hb, hc⟩ := hr.2 (by omega)
  refine ⟨ad, e, hb, fun j u hu => hc j u ?_⟩
  rw [List.getElem?_take] at hu
  split at hu
  · exact hu
  · cases hu
/-- A slice that holds the digits of x. -/
def Holds16 (w : World) (x : Nat) (A : Option Addr) (n c : Nat) : Prop :=
  Reads w w.heap.size 1 A n (vals .i64 (dg 65536 x)) ∧ n ≤ c ∧ c ≤ 9223372036854775807
/-- What a call gives back that makes a number's digits. -/
def Gives16 (w : World) (x : Nat) : Ending → World → Prop := Gives w (dg 65536 x).length (vals .i64 (dg 65536 x))
theorem Holds16.len {w : World} {x : Nat} {A : Option Addr} {n c : Nat} (h : Holds16 w x A n c) : n = (dg 65536 x).length := h.1.len_.symm
theorem Holds16.below {w w' : World} {x : Nat} {A : Option Addr} {n c : Nat} (h : Holds16 w x A n c) (hb : Below w.heap.size w w') : Holds16 w' x A n c :=
  ⟨(h.1.below hb).more hb.size, h.2⟩
theorem Gives16.elim {w w' : World} {x : Nat} {e : Ending} (h : Gives16 w x e w') : ∃ (A : Option Addr) (n c : Nat), e = .returned (.slice A n c) ∧ Holds16 w' x A n c ∧ Below w.heap.size w w' := by
  obtain ⟨A, c, rfl, hr, h1, ⟨h2, _⟩, h3⟩ := h
  exact ⟨A, _, c, rfl, ⟨hr, h1, h2⟩, h3⟩
/-- Behind a step that leaves what was there, the same is given, seen from before the step. -/
theorem Gives16.from_ {w w1 w' : World} {x : Nat} {e : Ending} (h : Gives16 w1 x e w') (hb : Below w.heap.size w w1) : Gives16 w x e w' := Gives.from_ h hb
/-- Which of two numbers is greater: -1, 0, 1. -/
def cmpI (x y : Nat) : Int := if x < y then -1 else if x = y then 0 else 1
theorem cmpI_lt {x y : Nat} (h : x < y) : cmpI x y = -1 := if_pos h
theorem cmpI_gt {x y : Nat} (h : y < x) : cmpI x y = 1 := by unfold cmpI; rw [if_neg (by omega), if_neg (by omega)]
theorem cmpI_eq {x y : Nat} (h : x = y) : cmpI x y = 0 := by unfold cmpI; rw [if_neg (by omega), if_pos h]
theorem dig16 (x j : Nat) : (dg 65536 x).getD j 0 = x / 65536 ^ j % 65536 := by rw [dv_getD (by decide) (dg_dgs (by decide) x), dv_dg (by decide)]
/-- What a call gives back that makes a number's words. -/
def GivesW (w : World) (x : Nat) : Ending → World → Prop := Gives w (dg 18446744073709551616 x).length (vals .u64 (dg 18446744073709551616 x))
/-! ### Adding up, digit by digit -/
structure Add16 (x y k : Nat) (out : List Nat) (c : Nat) : Prop where
  len : out.length = k
  dgs : Dgs 65536 out
  carry : c ≤ 1
  sum : x % 65536 ^ k + y % 65536 ^ k = dv 65536 out + 65536 ^ k * c
theorem Add16.start (x y : Nat) : Add16 x y 0 [] 0 := ⟨rfl, by intro d hd; simp at hd, by omega, by simp [dv, Nat.mod_one]⟩
theorem Add16.step {x y k c s : Nat} {out : List Nat} (h : Add16 x y k out c) (hs : s = x / 65536 ^ k % 65536 + y / 65536 ^ k % 65536 + c) : Add16 x y (k + 1) (out ++ [s % 65536]) (s / 65536) := by
  have h1 : x / 65536 ^ k % 65536 < 65536 := Nat.mod_lt _ (by decide)
  have h2 : y / 65536 ^ k % 65536 < 65536 := Nat.mod_lt _ (by decide)
  have h3 := h.carry
  refine ⟨by simp [h.len], h.dgs.append (by intro d hd; simp at hd; subst hd; omega), by omega, ?_⟩
  have e := h.sum
  rw [mod_step_b 65536 x k, mod_step_b 65536 y k, dv_snoc, h.len, Nat.pow_succ, Nat.mul_assoc, Nat.add_assoc (dv 65536 out), ← Nat.mul_add, Nat.mod_add_div, hs, Nat.mul_add, Nat.mul_add]
  omega
theorem Add16.done {x y k : Nat} {out : List Nat} (h : Add16 x y k out 0) (hx : (dg 65536 x).length ≤ k) (hy : (dg 65536 y).length ≤ k) : dv 65536 out = x + y := by
  have e := h.sum
  have h1 : x < 65536 ^ k := Nat.lt_of_lt_of_le (dg_lt (by decide) x) (Nat.pow_le_pow_right (by decide) hx)
  have h2 : y < 65536 ^ k := Nat.lt_of_lt_of_le (dg_lt (by decide) y) (Nat.pow_le_pow_right (by decide) hy)
  rw [Nat.mod_eq_of_lt h1, Nat.mod_eq_of_lt h2] at e
  omega
/-! ### Taking away, digit by digit -/
structure Sub16 (x y k : Nat) (out : List Nat) (c : Nat) : Prop where
  len : out.length = k
  dgs : Dgs 65536 out
  lack : c ≤ 1
  sum : dv 65536 out + y % 65536 ^ k = x % 65536 ^ k + 65536 ^ k * c
theorem Sub16.start (x y : Nat) : Sub16 x y 0 [] 0 := ⟨rfl, by intro d hd; simp at hd, by omega, by simp [dv, Nat.mod_one]⟩
theorem Sub16.step {x y k c d c' : Nat} {out : List Nat} (h : Sub16 x y k out c) (hd : d < 65536) (hc : c' ≤ 1) (hs : d + y / 65536 ^ k % 65536 + c = x / 65536 ^ k % 65536 + 65536 * c') : Sub16 x y (k + 1) (out ++ [d]) c' := by
  refine ⟨by simp [h.len], h.dgs.append (by intro e he; simp at he; subst he; exact hd), hc, ?_⟩
  have e := h.sum
  have e2 : 65536 ^ k * d + 65536 ^ k * (y / 65536 ^ k % 65536) + 65536 ^ k * c = 65536 ^ k * (x / 65536 ^ k % 65536) + 65536 ^ k * (65536 * c') := by
    rw [← Nat.mul_add, ← Nat.mul_add, hs, Nat.mul_add]
  rw [mod_step_b 65536 x k, mod_step_b 65536 y k, dv_snoc, h.len, Nat.pow_succ, Nat.mul_assoc (65536 ^ k) 65536 c']
  omega
theorem Sub16.done {x y k c : Nat} {out : List Nat} (h : Sub16 x y k out c) (hyx : y ≤ x) (hx : (dg 65536 x).length ≤ k) : dv 65536 out = x - y := by
  have e := h.sum
  have h1 : x < 65536 ^ k := Nat.lt_of_lt_of_le (dg_lt (by decide) x) (Nat.pow_le_pow_right (by decide) hx)
  have h3 := dv_lt h.dgs
  rw [h.len] at h3
  rw [Nat.mod_eq_of_lt h1, Nat.mod_eq_of_lt (Nat.lt_of_le_of_lt hyx h1)] at e
  have h4 := h.lack
  have : c = 0 ∨ c = 1 := by omega
  rcases this with rfl | rfl <;> omega
/-! ### A number times a small one, and another one -/
structure Small16 (x m a k : Nat) (out : List Nat) (c : Nat) : Prop where
  len : out.length = k
  dgs : Dgs 65536 out
  carry : c < 65536
  sum : dv 65536 out + 65536 ^ k * c = x % 65536 ^ k * m + a
theorem Small16.start (x m a : Nat) (ha : a < 65536) : Small16 x m a 0 [] a := ⟨rfl, by intro d hd; simp at hd, ha, by simp [dv, Nat.mod_one]⟩
theorem Small16.step {x m a k c s : Nat} {out : List Nat} (h : Small16 x m a k out c) (hm : m < 65536) (hs : s = x / 65536 ^ k % 65536 * m + c) : Small16 x m a (k + 1) (out ++ [s % 65536]) (s / 65536) := by
  have h1 : x / 65536 ^ k % 65536 < 65536 := Nat.mod_lt _ (by decide)
  have h2 : x / 65536 ^ k % 65536 * m ≤ 65535 * 65535 := Nat.mul_le_mul (by omega) (by omega)
  have h3 := h.carry
  refine ⟨by simp [h.len], h.dgs.append (by intro d hd; simp at hd; subst hd; omega), by omega, ?_⟩
  have e := h.sum
  have e2 : 65536 ^ k * (s % 65536) + 65536 ^ k * (65536 * (s / 65536)) = 65536 ^ k * s := by rw [← Nat.mul_add, Nat.mod_add_div]
  have e3 : 65536 ^ k * s = 65536 ^ k * (x / 65536 ^ k % 65536) * m + 65536 ^ k * c := by rw [hs, Nat.mul_add, Nat.mul_assoc]
  rw [dv_snoc, h.len, Nat.pow_succ, Nat.mul_assoc (65536 ^ k) 65536, ← Nat.pow_succ, mod_step_b 65536 x k, Nat.add_mul]
  omega
theorem Small16.done {x m a k c : Nat} {out : List Nat} (h : Small16 x m a k out c) (hx : (dg 65536 x).length ≤ k) : dv 65536 (out ++ [c % 65536, c / 65536]) = x * m + a ∧ Dgs 65536 (out ++ [c % 65536, c / 65536]) := by
  have e := h.sum
  have h1 : x < 65536 ^ k := Nat.lt_of_lt_of_le (dg_lt (by decide) x) (Nat.pow_le_pow_right (by decide) hx)
  rw [Nat.mod_eq_of_lt h1] at e
  have h3 := h.carry
  refine ⟨?_, h.dgs.append (by intro d hd; simp at hd; rcases hd with rfl | rfl <;> omega)⟩
  rw [dv_append, h.len]
  simp only [dv, Nat.mul_zero, Nat.add_zero]
  rw [Nat.mod_add_div]
  exact e
/-! ### A number by a small one, from above -/
structure Half16 (x m n k : Nat) (out : List Nat) (left : Nat) : Prop where
  len : out.length = n - k
  dgs : Dgs 65536 out
  rest : left < m
  sum : dv 65536 out * m + left = x / 65536 ^ k
theorem Half16.start {x m n : Nat} (hm : 0 < m) (hn : (dg 65536 x).length ≤ n) : Half16 x m n n [] 0 := by
  have h1 : x < 65536 ^ n := Nat.lt_of_lt_of_le (dg_lt (by decide) x) (Nat.pow_le_pow_right (by decide) hn)
  exact ⟨by simp, by intro d hd; simp at hd, hm, by simp [dv, Nat.div_eq_of_lt h1]⟩
theorem Half16.step {x m n k left s : Nat} {out : List Nat} (h : Half16 x m n (k + 1) out left) (hk : k + 1 ≤ n) (hs : s = left * 65536 + x / 65536 ^ k % 65536) : Half16 x m n k (s / m :: out) (s % m) := by
  have h1 : x / 65536 ^ k % 65536 < 65536 := Nat.mod_lt _ (by decide)
  have h3 := h.rest
  have hm : 0 < m := by omega
  refine ⟨by simp [h.len]; omega, ?_, Nat.mod_lt _ hm, ?_⟩
  · intro d hd
    rcases List.mem_cons.1 hd with rfl | hd
    · refine (Nat.div_lt_iff_lt_mul hm).2 ?_
      have : (left + 1) * 65536 ≤ m * 65536 := Nat.mul_le_mul_right _ h3
      omega
    · exact h.dgs d hd
  · have e := h.sum
    have e2 := dig_up 65536 x k
    have e3 := Nat.div_add_mod s m
    rw [dv, Nat.add_mul, e2, ← e, Nat.mul_add, Nat.mul_assoc 65536, Nat.mul_comm (s / m) m]
    omega
theorem Half16.done {x m n left : Nat} {out : List Nat} (h : Half16 x m n 0 out left) : dv 65536 out = x / m ∧ left = x % m := by
  have e := h.sum
  have h3 := h.rest
  rw [Nat.pow_zero, Nat.div_one] at e
  have hm : 0 < m := by omega
  refine ⟨?_, ?_⟩
  · rw [← e, Nat.add_comm, Nat.add_mul_div_right _ _ hm, Nat.div_eq_of_lt h3, Nat.zero_add]
  · rw [← e, Nat.add_comm, Nat.add_mul_mod_self_right, Nat.mod_eq_of_lt h3]
theorem pow_split (k : Nat) : 65536 ^ (k / 16) * 2 ^ (k % 16) = 2 ^ k := by
  rw [show (65536 : Nat) = 2 ^ 16 from rfl, ← Nat.pow_mul, ← Nat.pow_add, Nat.div_add_mod]
theorem pow_lt16 (k : Nat) : 2 ^ (k % 16) ≤ 32768 := by
  have := Nat.pow_le_pow_right (n := 2) (by decide) (show k % 16 ≤ 15 by omega)
  simpa using this
/-- What Half gives back: the quotient's digits, and what is left. -/
def GivesHalf (w : World) (x m : Nat) (e : Ending) (w' : World) : Prop :=
  ∃ v : Value, e = .returned (.tuple #[v, .int .i64 ((x % m : Nat) : Int)]) ∧ Gives16 w (x / m) (.returned v) w'
theorem drop_set (cs : Array Value) (k : Nat) (u : Value) (h : k < cs.size) : (cs.setIfInBounds k u).toList.drop k = u :: cs.toList.drop (k + 1) := by
  rw [Array.toList_setIfInBounds, List.drop_eq_getElem_cons (by simpa using h)]
  simp [List.drop_set]
/-- Half, seen from an earlier world. -/
theorem gives_nil (w : World) : Gives16 w 0 (.returned (.slice none 0 0)) w := ⟨none, 0, rfl, Reads.none_, Nat.le_refl _, ⟨by omega, by intro ad e; cases e⟩, Below.refl _ _⟩
theorem shr_zero {x k n : Nat} (hx : (dg 65536 x).length = n) (h : n ≤ k / 16) : x / 2 ^ k = 0 := by
  refine Nat.div_eq_of_lt ?_
  have h1 := dg_lt (b := 65536) (by decide) x
  rw [hx] at h1
  have h2 : 65536 ^ n ≤ 65536 ^ (k / 16) := Nat.pow_le_pow_right (by decide) h
  have h3 := pow_split k
  have h4 : 65536 ^ (k / 16) ≤ 65536 ^ (k / 16) * 2 ^ (k % 16) := Nat.le_mul_of_pos_right _ (Nat.two_pow_pos _)
  omega
theorem shr_two (x k : Nat) : x / 65536 ^ (k / 16) / 2 ^ (k % 16) = x / 2 ^ k := by rw [Nat.div_div_eq_div_mul, pow_split]
theorem low_all {x k n : Nat} (hx : (dg 65536 x).length = n) (h : n ≤ k / 16) : x % 2 ^ k = x := by
  refine Nat.mod_eq_of_lt ?_
  have h1 := dg_lt (b := 65536) (by decide) x
  rw [hx] at h1
  have h2 : 65536 ^ n ≤ 65536 ^ (k / 16) := Nat.pow_le_pow_right (by decide) h
  have h3 := pow_split k
  have h4 : 65536 ^ (k / 16) ≤ 65536 ^ (k / 16) * 2 ^ (k % 16) := Nat.le_mul_of_pos_right _ (Nat.two_pow_pos _)
  omega
theorem low_two (x k : Nat) : x % 65536 ^ (k / 16) + 65536 ^ (k / 16) * (x / 65536 ^ (k / 16) % 65536 % 2 ^ (k % 16)) = x % 2 ^ k := by
  have h2 : x / 65536 ^ (k / 16) % 65536 % 2 ^ (k % 16) = x / 65536 ^ (k / 16) % 2 ^ (k % 16) := by
    refine Nat.mod_mod_of_dvd _ ?_
    rw [show (65536 : Nat) = 2 ^ 16 from rfl]
    exact Nat.pow_dvd_pow 2 (by omega)
  rw [h2, ← pow_split k, Nat.mod_mul]
end Go.Proofs.Ytakpmlblfdecbaa
namespace Go.Proofs.Ytakpmlblfdecbaa
open Go Go.RowKit
/-- The value v is the number x in the world w. -/
def NatIs (w : World) (x : Nat) (v : Value) : Prop :=
  ∃ (A : Option Addr) (n c : Nat), v = .agg #[.slice A n c] ∧ Reads w w.heap.size 1 A n (vals .u64 (dg 18446744073709551616 x)) ∧ n ≤ c ∧ c ≤ 9223372036854775807
theorem NatIs.below {w w' : World} {x : Nat} {v : Value} (h : NatIs w x v) (hb : Below w.heap.size w w') : NatIs w' x v := by
  obtain ⟨A, n, c, e, hr, h1, h2⟩ := h
  exact ⟨A, n, c, e, (hr.below hb).more hb.size, h1, h2⟩
theorem NatIs.drewN {w : World} {x : Nat} {v : Value} (h : NatIs w x v) (k : Nat) : NatIs (w.drewN k) x v := h
/-- What a call gives back that makes a number. -/
def GivesN (w : World) (x : Nat) (e : Ending) (w' : World) : Prop := ∃ v, e = .returned v ∧ NatIs w' x v ∧ Below w.heap.size w w'
theorem GivesN.from_ {w w1 w' : World} {x : Nat} {e : Ending} (h : GivesN w1 x e w') (hb : Below w.heap.size w w1) : GivesN w x e w' := by
  obtain ⟨v, he, hn, h3⟩ := h
  exact ⟨v, he, hn, hb.trans (h3.mono hb.size)⟩
end Go.Proofs.Ytakpmlblfdecbaa
