/-
  Plain arithmetic of bytes and of decimal texts: digits as characters, their order, reading them back. Conditions: none beyond each lemma's own.
-/
import Derived.Test.YtnnhcicdildfaaaBunD
import Derived.WalkKit
namespace Go.Proofs.Ytnnhcicdildfaaa
open Go Go.RowKit
set_option linter.unusedVariables false
/-- Digits as characters, the highest first. -/
def chB (o : Nat) (l : List Nat) : List UInt8 := l.reverse.map fun d => UInt8.ofNat (o + d)
theorem chB_len (o : Nat) (l : List Nat) : (chB o l).length = l.length := by simp [chB]
theorem chB_cons (o d : Nat) (l : List Nat) : chB o (d :: l) = chB o l ++ [UInt8.ofNat (o + d)] := by simp [chB]
theorem ch_nat {o b d : Nat} (ho : o + b ≤ 256) (hd : d < b) : (UInt8.ofNat (o + d)).toNat = o + d := by
  rw [UInt8.toNat_ofNat']
  exact Nat.mod_eq_of_lt (by omega)
theorem ch_lt {o b d e : Nat} (ho : o + b ≤ 256) (hd : d < b) (he : e < b) : (UInt8.ofNat (o + d) < UInt8.ofNat (o + e)) ↔ d < e := by
  rw [UInt8.lt_iff_toNat_lt, ch_nat ho hd, ch_nat ho he]; omega
theorem ch_eq {o b d e : Nat} (ho : o + b ≤ 256) (hd : d < b) (he : e < b) : (UInt8.ofNat (o + d) = UInt8.ofNat (o + e)) ↔ d = e := by
  rw [← UInt8.toNat_inj, ch_nat ho hd, ch_nat ho he]; omega
theorem dv_rev_cons (b a : Nat) (l : List Nat) : dv b (a :: l).reverse = dv b l.reverse + b ^ l.length * a := by
  rw [List.reverse_cons, dv_snoc, List.length_reverse]
/-- Of digits as many the order is the characters'. -/
theorem less_be {o b : Nat} (ho : o + b ≤ 256) : ∀ l m : List Nat, l.length = m.length → Dgs b l → Dgs b m →
    Op.bytesLess (l.map fun d => UInt8.ofNat (o + d)) (m.map fun d => UInt8.ofNat (o + d)) = decide (dv b l.reverse < dv b m.reverse)
  | [], [], _, _, _ => by simp [Op.bytesLess]
  | [], _ :: _, h, _, _ => by simp at h
  | _ :: _, [], h, _, _ => by simp at h
  | a :: l, c :: m, h, hl, hm => by
    have ha := hl a (by simp)
    have hc := hm c (by simp)
    have h' : l.length = m.length := by simpa using h
    have ih := less_be ho l m h' (fun d hd => hl d (by simp [hd])) (fun d hd => hm d (by simp [hd]))
    have l1 := dv_lt (b := b) (l := l.reverse) (fun d hd => hl d (by simp at hd; simp [hd]))
    have l2 := dv_lt (b := b) (l := m.reverse) (fun d hd => hm d (by simp at hd; simp [hd]))
    rw [List.length_reverse] at l1 l2
    rw [List.map_cons, List.map_cons, Op.bytesLess, ih, dv_rev_cons, dv_rev_cons, ← h']
    rw [← h'] at l2
    obtain ⟨B, hB⟩ : ∃ B, b ^ l.length = B := ⟨_, rfl⟩
    rw [hB] at l1 l2 ⊢
    rcases Nat.lt_trichotomy a c with hac | hac | hac
    · have e1 : decide (UInt8.ofNat (o + a) < UInt8.ofNat (o + c)) = true := decide_eq_true ((ch_lt ho ha hc).2 hac)
      rw [e1, Bool.true_or]
      have := Nat.mul_le_mul_left B (show a + 1 ≤ c from hac)
      rw [Nat.mul_add] at this
      exact (decide_eq_true (by omega)).symm
    · subst hac
      have e1 : decide (UInt8.ofNat (o + a) < UInt8.ofNat (o + a)) = false := decide_eq_false (fun h => by have := (ch_lt ho ha ha).1 h; omega)
      rw [e1, Bool.false_or, beq_self_eq_true, Bool.true_and, decide_eq_decide]
      omega
    · have e1 : decide (UInt8.ofNat (o + a) < UInt8.ofNat (o + c)) = false := decide_eq_false (fun h => by have := (ch_lt ho ha hc).1 h; omega)
      have e2 : (UInt8.ofNat (o + a) == UInt8.ofNat (o + c)) = false := by rw [beq_eq_false_iff_ne]; exact fun h => by have := (ch_eq ho ha hc).1 h; omega
      rw [e1, e2, Bool.false_and, Bool.or_false]
      have := Nat.mul_le_mul_left B (show c + 1 ≤ a from hac)
      rw [Nat.mul_add] at this
      exact (decide_eq_false (by omega)).symm
theorem less_ch {o b : Nat} (ho : o + b ≤ 256) {l m : List Nat} (h : l.length = m.length) (hl : Dgs b l) (hm : Dgs b m) : Op.bytesLess (chB o l) (chB o m) = decide (dv b l < dv b m) := by
  have := less_be ho l.reverse m.reverse (by simpa using h) (fun d hd => hl d (by simpa using hd)) (fun d hd => hm d (by simpa using hd))
  rw [List.reverse_reverse, List.reverse_reverse] at this
  exact this
theorem ch_inj {o b : Nat} (ho : o + b ≤ 256) {l m : List Nat} (hl : Dgs b l) (hm : Dgs b m) (h : chB o l = chB o m) : dv b l = dv b m := by
  have hn : l.length = m.length := by rw [← chB_len o l, h, chB_len]
  have e1 := less_ch ho hn hl hm
  have e2 := less_ch ho hn.symm hm hl
  have e3 := less_ch ho rfl hm hm
  rw [h] at e1 e2
  rw [e3] at e1 e2
  simp at e1 e2
  omega
/-! ### Bytes -/
def bytesL (x : Nat) : List Nat := (dg 256 x).reverse
def plainL (l : List Nat) : Bool := l.head? != some 0
def valP (l : List Nat) : Nat := dv 256 l.reverse
theorem bytesL_val (x : Nat) : valP (bytesL x) = x := by unfold valP bytesL; rw [List.reverse_reverse, dv_dg (by decide)]
theorem bytesL_dgs (x : Nat) : Dgs 256 (bytesL x) := fun d hd => dg_dgs (by decide) x d (by unfold bytesL at hd; simpa using hd)
theorem nrm_head {l : List Nat} : Nrm l ↔ plainL l.reverse = true := by
  unfold Nrm plainL
  rw [List.head?_reverse, bne_iff_ne]
  constructor
  · intro h e
    have hne : l ≠ [] := fun hh => by rw [hh] at e; cases e
    have h2 := h hne
    rw [List.getLast?_eq_getElem?] at e
    rw [List.getD_eq_getElem?_getD, e] at h2
    exact h2 rfl
  · intro h hne e
    refine h ?_
    rw [List.getLast?_eq_getElem?]
    have hl : l.length - 1 < l.length := by have := List.length_pos_iff.2 hne; omega
    rw [List.getD_eq_getElem?_getD, List.getElem?_eq_getElem hl] at e
    rw [List.getElem?_eq_getElem hl]
    simpa using e
theorem bytesL_plain (x : Nat) : plainL (bytesL x) = true := nrm_head.1 (nrm_dg (by decide) x)
theorem bytesL_back {l : List Nat} (hd : Dgs 256 l) (h : plainL l = true) : bytesL (valP l) = l := by
  unfold bytesL valP
  rw [← dg_of (b := 256) (by decide) (fun d hd' => hd d (by simpa using hd')) (nrm_head.2 (by rw [List.reverse_reverse]; exact h)), List.reverse_reverse]
theorem bytesL_tens {x : Nat} (h : x ≠ 0) : bytesL (256 * x) = bytesL x ++ [0] := by
  unfold bytesL
  rw [dg_step (by decide) (by omega), Nat.mul_mod_right, Nat.mul_div_cancel_left _ (by decide), List.reverse_cons]
theorem bytesL_len (x : Nat) : (bytesL x).length = (dg 256 x).length := by simp [bytesL]
/-! ### Texts -/
def tdg (x : Nat) : List Nat := if x = 0 then [0] else dg 10 x
def textS (x : Nat) : List UInt8 := chB 48 (tdg x)
theorem tdg_val (x : Nat) : dv 10 (tdg x) = x := by
  unfold tdg
  split
  · rename_i h; rw [h]; rfl
  · exact dv_dg (by decide) x
theorem tdg_dgs (x : Nat) : Dgs 10 (tdg x) := by
  unfold tdg
  split
  · intro d hd; simp at hd; omega
  · exact dg_dgs (by decide) x
theorem tdg_pos (x : Nat) : 1 ≤ (tdg x).length := by
  unfold tdg
  split
  · exact Nat.le_refl _
  · rename_i h; exact (dg_ge (b := 10) (by decide) x h).1
theorem tdg_mono {x y : Nat} (h : x ≤ y) : (tdg x).length ≤ (tdg y).length := by
  by_cases hx : x = 0
  · have := tdg_pos y
    unfold tdg at this ⊢
    rw [if_pos hx]
    exact this
  · unfold tdg
    rw [if_neg hx, if_neg (by omega)]
    exact dg_len_mono (by decide) h
theorem text_len (x : Nat) : (textS x).length = (tdg x).length := chB_len _ _
theorem order_of {X Y u v : Nat} {c : Bool} (h1 : X ≤ Y → u ≤ v) (h2 : Y ≤ X → v ≤ u) (h3 : u = v → c = decide (X < Y)) : decide (X < Y) = (decide (u < v) || (decide (u = v) && c)) := by
  rcases Nat.lt_trichotomy u v with h | h | h
  · have : X < Y := by
      rcases Nat.lt_or_ge X Y with h' | h'
      · exact h'
      · have := h2 h'; omega
    simp [h, this]
  · rw [h3 h]
    simp [h]
  · have : ¬ X < Y := fun h' => by have := h1 (by omega); omega
    have e1 : ¬ u < v := by omega
    have e2 : ¬ u = v := by omega
    simp [e1, e2, this]
theorem text_order (x y : Nat) : decide (x < y) = (decide ((textS x).length < (textS y).length) || (decide ((textS x).length = (textS y).length) && Op.bytesLess (textS x) (textS y))) := by
  refine order_of (fun h => ?_) (fun h => ?_) (fun h => ?_)
  · rw [text_len, text_len]; exact tdg_mono h
  · rw [text_len, text_len]; exact tdg_mono h
  · rw [text_len, text_len] at h
    unfold textS
    rw [less_ch (by decide) h (tdg_dgs x) (tdg_dgs y), tdg_val, tdg_val]
theorem text_inj (x y : Nat) : textS x = textS y ↔ x = y := by
  constructor
  · intro h
    have := ch_inj (o := 48) (b := 10) (by decide) (tdg_dgs x) (tdg_dgs y) h
    rwa [tdg_val, tdg_val] at this
  · intro h; rw [h]
def bytesS (x : Nat) : List UInt8 := chB 0 (dg 256 x)
theorem bytes_order (x y : Nat) : decide (x < y) = (decide ((bytesS x).length < (bytesS y).length) || (decide ((bytesS x).length = (bytesS y).length) && Op.bytesLess (bytesS x) (bytesS y))) := by
  unfold bytesS
  refine order_of (fun h => ?_) (fun h => ?_) (fun h => ?_)
  · rw [chB_len, chB_len]; exact dg_len_mono (by decide) h
  · rw [chB_len, chB_len]; exact dg_len_mono (by decide) h
  · rw [chB_len, chB_len] at h
    rw [less_ch (by decide) h (dg_dgs (by decide) x) (dg_dgs (by decide) y), dv_dg (by decide), dv_dg (by decide)]
theorem bytes_inj (x y : Nat) : bytesS x = bytesS y ↔ x = y := by
  constructor
  · intro h
    have := ch_inj (o := 0) (b := 256) (by decide) (dg_dgs (by decide) x) (dg_dgs (by decide) y) h
    rwa [dv_dg (by decide), dv_dg (by decide)] at this
  · intro h; rw [h]
/-! ### Reading a text -/
def isDig (c : UInt8) : Bool := decide (48 ≤ c.toNat) && decide (c.toNat ≤ 57)
def okR (s : List UInt8) : Bool := decide (s ≠ []) && (s.head? != some 48 || decide (s = [48])) && s.all isDig
def digB (s : List UInt8) : List Nat := (s.map fun c => c.toNat - 48).reverse
def valR (s : List UInt8) : Nat := dv 10 (digB s)
theorem digB_dgs {s : List UInt8} (h : s.all isDig = true) : Dgs 10 (digB s) := fun d hd => by
  unfold digB at hd
  simp only [List.mem_reverse, List.mem_map] at hd
  obtain ⟨c, hc, rfl⟩ := hd
  have := List.all_eq_true.1 h c hc
  unfold isDig at this
  simp at this
  omega
theorem ch_digB {s : List UInt8} (h : s.all isDig = true) : chB 48 (digB s) = s := by
  unfold chB digB
  rw [List.reverse_reverse, List.map_map]
  refine (List.map_congr_left (g := id) fun c hc => ?_).trans (List.map_id _)
  have := List.all_eq_true.1 h c hc
  unfold isDig at this
  simp at this
  show UInt8.ofNat (48 + (c.toNat - 48)) = c
  rw [show 48 + (c.toNat - 48) = c.toNat by omega]
  exact UInt8.ofNat_toNat
theorem digB_ch {l : List Nat} (h : Dgs 10 l) : digB (chB 48 l) = l := by
  unfold chB digB
  rw [List.map_map, ← List.map_reverse, List.reverse_reverse]
  refine (List.map_congr_left (g := id) fun d hd => ?_).trans (List.map_id _)
  show (UInt8.ofNat (48 + d)).toNat - 48 = d
  rw [ch_nat (b := 10) (by decide) (h d hd)]
  omega
theorem ch_all {l : List Nat} (h : Dgs 10 l) : (chB 48 l).all isDig = true := by
  refine List.all_eq_true.2 fun c hc => ?_
  unfold chB at hc
  simp only [List.mem_map, List.mem_reverse] at hc
  obtain ⟨d, hd, rfl⟩ := hc
  have := h d hd
  unfold isDig
  rw [ch_nat (b := 10) (by decide) this]
  simp; omega
theorem tdg_digB {s : List UInt8} (h : okR s = true) : tdg (valR s) = digB s := by
  unfold okR at h
  simp only [Bool.and_eq_true, Bool.or_eq_true, decide_eq_true_eq, bne_iff_ne, ne_eq] at h
  obtain ⟨⟨hne, hh⟩, ha⟩ := h
  rcases hh with hh | rfl
  · match s, hne, hh, ha with
    | c :: t, _, hh, ha =>
      have hc : c.toNat ≠ 48 := fun e => hh (by
        show some c = some 48
        rw [← UInt8.ofNat_toNat (x := c), e]; rfl)
      have hd := digB_dgs ha
      have hcd := List.all_eq_true.1 ha c (by simp)
      unfold isDig at hcd
      simp at hcd
      have hn : Nrm (digB (c :: t)) := fun _ => by
        unfold digB
        rw [List.map_cons, List.reverse_cons, List.length_append, List.length_reverse, List.getD_eq_getElem?_getD]
        rw [List.getElem?_append_right (by simp)]
        simp; omega
      have e := dg_of (b := 10) (by decide) hd hn
      unfold valR
      unfold tdg
      rw [if_neg, ← e]
      intro h0
      rw [h0] at e
      have : (digB (c :: t)).length = 0 := by rw [e]; rfl
      simp [digB] at this
  · rfl
theorem text_back {s : List UInt8} (h : okR s = true) : textS (valR s) = s := by
  have ha : s.all isDig = true := by
    unfold okR at h
    simp only [Bool.and_eq_true] at h
    exact h.2
  unfold textS
  rw [tdg_digB h, ch_digB ha]
theorem text_val (x : Nat) : valR (textS x) = x := by unfold valR textS; rw [digB_ch (tdg_dgs x), tdg_val]
theorem text_ok (x : Nat) : okR (textS x) = true := by
  unfold okR
  have hp := tdg_pos x
  rw [← text_len] at hp
  have hne : textS x ≠ [] := fun e => by rw [e] at hp; simp at hp
  have ha : (textS x).all isDig = true := ch_all (tdg_dgs x)
  simp only [Bool.and_eq_true, Bool.or_eq_true, decide_eq_true_eq, bne_iff_ne, ne_eq]
  refine ⟨⟨hne, ?_⟩, ha⟩
  by_cases hx : x = 0
  · right; subst hx; rfl
  · left
    have hn := nrm_head.1 (nrm_dg (b := 10) (by decide) x)
    unfold plainL at hn
    rw [bne_iff_ne] at hn
    intro e
    refine hn ?_
    unfold textS tdg chB at e
    rw [if_neg hx, List.head?_map] at e
    cases hq : (dg 10 x).reverse.head? with
    | none => rw [hq] at e; cases e
    | some d =>
      rw [hq] at e
      have hd : d < 10 := dg_dgs (by decide) x d (by have := List.mem_of_mem_head? hq; simpa using this)
      have e2 : UInt8.ofNat (48 + d) = UInt8.ofNat (48 + 0) := Option.some.inj e
      have := (ch_eq (o := 48) (b := 10) (by decide) hd (by decide)).1 e2
      rw [this]
theorem text_tens {x : Nat} (h : x ≠ 0) : textS (10 * x) = textS x ++ [48] := by
  unfold textS tdg
  rw [if_neg (by omega), if_neg h, dg_step (b := 10) (by decide) (by omega), Nat.mul_mod_right, Nat.mul_div_cancel_left _ (by decide), chB_cons]
  rfl
end Go.Proofs.Ytnnhcicdildfaaa
