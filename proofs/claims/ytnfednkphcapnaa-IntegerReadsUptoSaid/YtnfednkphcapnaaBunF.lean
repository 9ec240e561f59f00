/-
  Plain arithmetic of bytes and of decimal texts: digits as characters, their order, reading them back. Conditions: none beyond each lemma's own.
  A string of a slice of bytes that reads; what bytes and texts are as strings. Conditions: as each says.
  How long texts and bytes of a number are, and how many words what is read of them has. Conditions: as each says.
  Plain arithmetic of whole numbers: their texts, their order, quotients rounded down. Conditions: as each says.
-/
import Derived.Test.YtnfednkphcapnaaBunD
import Derived.Test.YtnfednkphcapnaaBunN
import Derived.WalkKit
import Derived.Lib.Hide
import Derived.Laws.BytesArg
namespace Go.Proofs.Ytnfednkphcapnaa
open Go Go.RowKit
set_option linter.unusedVariables false
/-- Digits as characters, the highest first. -/
def chB (o : Nat) (l : List Nat) : List UInt8 := l.reverse.map fun d => UInt8.ofNat (o + d)
theorem chB_len (o : Nat) (l : List Nat) : (chB o l).length = l.length := by simp [chB]
theorem chB_cons (o d : Nat) (l : List Nat) : chB o (d :: l) = chB o l ++ [UInt8.ofNat (o + d)] := by simp [chB]
theorem ch_nat {o b d : Nat} (ho : o + b ≤ 256) (hd : d < b) : (UInt8.ofNat (o + d)).toNat = o + d := by
  rw [UInt8.toNat_ofNat']
  exact Nat.mod_eq_of_lt (by omega)
theorem ch_lt {o b d e : Nat} (ho : o + b ≤ 256) (hd : d < b) (he : e < b) : (UInt8.ofNat (o + d) < UInt8.ofNat (o + e)) ↔ d < e := by
  rw [UInt8.lt_iff_toNat_lt, ch_nat ho hd, ch_nat ho he]; omega
theorem ch_eq {o b d e : Nat} (ho : o + b ≤ 256) (hd : d < b) (he : e < b) : (UInt8.ofNat (o + d) = UInt8.ofNat (o + e)) ↔ d = e := by
  rw [← UInt8.toNat_inj, ch_nat ho hd, ch_nat ho he]; omega
theorem dv_rev_cons (b a : Nat) (l : List Nat) : dv b (a :: l).reverse = dv b l.reverse + b ^ l.length * a := by
  rw [List.reverse_cons, dv_snoc, List.length_reverse]
/-- Of digits as many the order is the characters'. -/
theorem less_be {o b : Nat} (ho : o + b ≤ 256) : ∀ l m : List Nat, l.length = m.length → Dgs b l → Dgs b m →
    Op.bytesLess (l.map fun d => UInt8.ofNat (o + d)) (m.map fun d => UInt8.ofNat (o + d)) = decide (dv b l.reverse < dv b m.reverse)
  | [], [], _, _, _ => by simp [Op.bytesLess]
  | [], _ :: _, h, _, _ => by simp at h
  | _ :: _, [], h, _, _ => by simp at h
  | a :: l, c :: m, h, hl, hm => by
    have ha := hl a (by simp)
    have hc := hm c (by simp)
    have h' : l.length = m.length := by simpa using h
    have ih := less_be ho l m h' (fun d hd => hl d (by simp [hd])) (fun d hd => hm d (by simp [hd]))
    have l1 := dv_lt (b := b) (l := l.reverse) (fun d hd => hl d (by simp at hd; simp [hd]))
    have l2 := dv_lt (b := b) (l := m.reverse) (fun d hd => hm d (by simp at hd; simp [hd]))
    rw [List.length_reverse] at l1 l2
    rw [List.map_cons, List.map_cons, Op.bytesLess, ih, dv_rev_cons, dv_rev_cons, ← h']
    rw [← h'] at l2
    obtain ⟨B, hB⟩ : ∃ B, b ^ l.length = B := ⟨_, rfl⟩
    rw [hB] at l1 l2 ⊢
    rcases Nat.lt_trichotomy a c with hac | hac | hac
    · have e1 : decide (UInt8.ofNat (o + a) < UInt8.ofNat (o + c)) = true := decide_eq_true ((ch_lt ho ha hc).2 hac)
      rw [e1, Bool.true_or]
      have := Nat.mul_le_mul_left B (show a + 1 ≤ c from hac)
      rw [Nat.mul_add] at this
      exact (decide_eq_true (by omega)).symm
    · subst hac
      have e1 : decide (UInt8.ofNat (o + a) < UInt8.ofNat (o + a)) = false := decide_eq_false (fun h => by have := (ch_lt ho ha ha).1 h; omega)
      rw [e1, Bool.false_or, beq_self_eq_true, Bool.true_and, decide_eq_decide]
      omega
    · have e1 : decide (UInt8.ofNat (o + a) < UInt8.ofNat (o + c)) = false := decide_eq_false (fun h => by have := (ch_lt ho ha hc).1 h; omega)
      have e2 : (UInt8.ofNat (o + a) == UInt8.ofNat (o + c)) = false := by rw [beq_eq_false_iff_ne]; exact fun h => by have := (ch_eq ho ha hc).1 h; omega
      rw [e1, e2, Bool.false_and, Bool.or_false]
      have := Nat.mul_le_mul_left B (show c + 1 ≤ a from hac)
      rw [Nat.mul_add] at this
      exact (decide_eq_false (by omega)).symm
theorem less_ch {o b : Nat} (ho : o + b ≤ 256) {l m : List Nat} (h : l.length = m.length) (hl : Dgs b l) (hm : Dgs b m) : Op.bytesLess (chB o l) (chB o m) = decide (dv b l < dv b m) := by
  have := less_be ho l.reverse m.reverse (by simpa using h) (fun d hd => hl d (by simpa using hd)) (fun d hd => hm d (by simpa using hd))
  rw [List.reverse_reverse, List.reverse_reverse] at this
  exact this
theorem ch_inj {o b : Nat} (ho : o + b ≤ 256) {l m : List Nat} (hl : Dgs b l) (hm : Dgs b m) (h : chB o l = chB o m) : dv b l = dv b m := by
  have hn : l.length = m.length := by rw [← chB_len o l, h, chB_len]
  have e1 := less_ch ho hn hl hm
  have e2 := less_ch ho hn.symm hm hl
  have e3 := less_ch ho rfl hm hm
  rw [h] at e1 e2
  rw [e3] at e1 e2
  simp at e1 e2
  omega
/-! ### Bytes -/
def bytesL (x : Nat) : List Nat := (dg 256 x).reverse
def plainL (l : List Nat) : Bool := l.head? != some 0
def valP (l : List Nat) : Nat := dv 256 l.reverse
theorem bytesL_val (x : Nat) : valP (bytesL x) = x := by unfold valP bytesL; rw [List.reverse_reverse, dv_dg (by decide)]
theorem bytesL_dgs (x : Nat) : Dgs 256 (bytesL x) := fun d hd => dg_dgs (by decide) x d (by unfold bytesL at hd; simpa using hd)
theorem nrm_head {l : List Nat} : Nrm l ↔ plainL l.reverse = true := by
  unfold Nrm plainL
  rw [List.head?_reverse, bne_iff_ne]
  constructor
  · intro h e
    have hne : l ≠ [] := fun hh => by rw [hh] at e; cases e
    have h2 := h hne
    rw [List.getLast?_eq_getElem?] at e
    rw [List.getD_eq_getElem?_getD, e] at h2
    exact h2 rfl
  · intro h hne e
    refine h ?_
    rw [List.getLast?_eq_getElem?]
    have hl : l.length - 1 < l.length := by have := List.length_pos_iff.2 hne; omega
    rw [List.getD_eq_getElem?_getD, List.getElem?_eq_getElem hl] at e
    rw [List.getElem?_eq_getElem hl]
    simpa using e
theorem bytesL_plain (x : Nat) : plainL (bytesL x) = true := nrm_head.1 (nrm_dg (by decide) x)
theorem bytesL_back {l : List Nat} (hd : Dgs 256 l) (h : plainL l = true) : bytesL (valP l) = l := by
  unfold bytesL valP
  rw [← dg_of (b := 256) (by decide) (fun d hd' => hd d (by simpa using hd')) (nrm_head.2 (by rw [List.reverse_reverse]; exact h)), List.reverse_reverse]
theorem bytesL_tens {x : Nat} (h : x ≠ 0) : bytesL (256 * x) = bytesL x ++ [0] := by
  unfold bytesL
  rw [dg_step (by decide) (by omega), Nat.mul_mod_right, Nat.mul_div_cancel_left _ (by decide), List.reverse_cons]
theorem bytesL_len (x : Nat) : (bytesL x).length = (dg 256 x).length := by simp [bytesL]
/-! ### Texts -/
def tdg (x : Nat) : List Nat := if x = 0 then [0] else dg 10 x
def textS (x : Nat) : List UInt8 := chB 48 (tdg x)
theorem tdg_val (x : Nat) : dv 10 (tdg x) = x := by
  unfold tdg
  split
  · rename_i h; rw [h]; rfl
  · exact dv_dg (by decide) x
theorem tdg_dgs (x : Nat) : Dgs 10 (tdg x) := by
  unfold tdg
  split
  · intro d hd; simp at hd; omega
  · exact dg_dgs (by decide) x
theorem tdg_pos (x : Nat) : 1 ≤ (tdg x).length := by
  unfold tdg
  split
  · exact Nat.le_refl _
  · rename_i h; exact (dg_ge (b := 10) (by decide) x h).1
theorem tdg_mono {x y : Nat} (h : x ≤ y) : (tdg x).length ≤ (tdg y).length := by
  by_cases hx : x = 0
  · have := tdg_pos y
    unfold tdg at this ⊢
    rw [if_pos hx]
    exact this
  · unfold tdg
    rw [if_neg hx, if_neg (by omega)]
    exact dg_len_mono (by decide) h
theorem text_len (x : Nat) : (textS x).length = (tdg x).length := chB_len _ _
theorem order_of {X Y u v : Nat} {c : Bool} (h1 : X ≤ Y → u ≤ v) (h2 : Y ≤ X → v ≤ u) (h3 : u = v → c = decide (X < Y)) : decide (X < Y) = (decide (u < v) || (decide (u = v) && c)) := by
  rcases Nat.lt_trichotomy u v with h | h | h
  · have : X < Y := by
      rcases Nat.lt_or_ge X Y with h' | h'
      · exact h'
      · have := h2 h'; omega
    simp [h, this]
  · rw [h3 h]
    simp [h]
  · have : ¬ X < Y := fun h' => by have := h1 (by omega); omega
    have e1 : ¬ u < v := by omega
    have e2 : ¬ u = v := by omega
    simp [e1, e2, this]
theorem text_order (x y : Nat) : decide (x < y) = (decide ((textS x).length < (textS y).length) || (decide ((textS x).length = (textS y).length) && Op.bytesLess (textS x) (textS y))) := by
  refine order_of (fun h => ?_) (fun h => ?_) (fun h => ?_)
  · rw [text_len, text_len]; exact tdg_mono h
  · rw [text_len, text_len]; exact tdg_mono h
  · rw [text_len, text_len] at h
    unfold textS
    rw [less_ch (by decide) h (tdg_dgs x) (tdg_dgs y), tdg_val, tdg_val]
theorem text_inj (x y : Nat) : textS x = textS y ↔ x = y := by
  constructor
  · intro h
    have := ch_inj (o := 48) (b := 10) (by decide) (tdg_dgs x) (tdg_dgs y) h
    rwa [tdg_val, tdg_val] at this
  · intro h; rw [h]
def bytesS (x : Nat) : List UInt8 := chB 0 (dg 256 x)
theorem bytes_order (x y : Nat) : decide (x < y) = (decide ((bytesS x).length < (bytesS y).length) || (decide ((bytesS x).length = (bytesS y).length) && Op.bytesLess (bytesS x) (bytesS y))) := by
  unfold bytesS
  refine order_of (fun h => ?_) (fun h => ?_) (fun h => ?_)
  · rw [chB_len, chB_len]; exact dg_len_mono (by decide) h
  · rw [chB_len, chB_len]; exact dg_len_mono (by decide) h
  · rw [chB_len, chB_len] at h
    rw [less_ch (by decide) h (dg_dgs (by decide) x) (dg_dgs (by decide) y), dv_dg (by decide), dv_dg (by decide)]
theorem bytes_inj (x y : Nat) : bytesS x = bytesS y ↔ x = y := by
  constructor
  · intro h
    have := ch_inj (o := 0) (b := 256) (by decide) (dg_dgs (by decide) x) (dg_dgs (by decide) y) h
    rwa [dv_dg (by decide), dv_dg (by decide)] at this
  · intro h; rw [h]
/-! ### Reading a text -/
def isDig (c : UInt8) : Bool := decide (48 ≤ c.toNat) && decide (c.toNat ≤ 57)
def okR (s : List UInt8) : Bool := decide (s ≠ []) && (s.head? != some 48 || decide (s = [48])) && s.all isDig
def digB (s : List UInt8) : List Nat := (s.map fun c => c.toNat - 48).reverse
def valR (s : List UInt8) : Nat := dv 10 (digB s)
theorem digB_dgs {s : List UInt8} (h : s.all isDig = true) : Dgs 10 (digB s) := fun d hd => by
  unfold digB at hd
  simp only [List.mem_reverse, List.mem_map] at hd
  obtain ⟨c, hc, rfl⟩ := hd
  have := List.all_eq_true.1 h c hc
  unfold isDig at this
  simp at this
  omega
theorem ch_digB {s : List UInt8} (h : s.all isDig = true) : chB 48 (digB s) = s := by
  unfold chB digB
  rw [List.reverse_reverse, List.map_map]
  refine (List.map_congr_left (g := id) fun c hc => ?_).trans (List.map_id _)
  have := List.all_eq_true.1 h c hc
  unfold isDig at this
  simp at this
  show UInt8.ofNat (48 + (c.toNat - 48)) = c
  rw [show 48 + (c.toNat - 48) = c.toNat by omega]
  exact UInt8.ofNat_toNat
theorem digB_ch {l : List Nat} (h : Dgs 10 l) : digB (chB 48 l) = l := by
  unfold chB digB
  rw [List.map_map, ← List.map_reverse, List.reverse_reverse]
  refine (List.map_congr_left (g := id) fun d hd => ?_).trans (List.map_id _)
  show (UInt8.ofNat (48 + d)).toNat - 48 = d
  rw [ch_nat (b := 10) (by decide) (h d hd)]
  omega
theorem ch_all {l : List Nat} (h : Dgs 10 l) : (chB 48 l).all isDig = true := by
  refine List.all_eq_true.2 fun c hc => ?_
  unfold chB at hc
  simp only [List.mem_map, List.mem_reverse] at hc
  obtain ⟨d, hd, rfl⟩ := hc
  have := h d hd
  unfold isDig
  rw [ch_nat (b := 10) (by decide) this]
  simp; omega
theorem tdg_digB {s : List UInt8} (h : okR s = true) : tdg (valR s) = digB s := by
  unfold okR at h
  simp only [Bool.and_eq_true, Bool.or_eq_true, decide_eq_true_eq, bne_iff_ne, ne_eq] at h
  obtain ⟨⟨hne, hh⟩, ha⟩ := h
  rcases hh with hh | rfl
  · match s, hne, hh, ha with
    | c :: t, _, hh, ha =>
      have hc : c.toNat ≠ 48 := fun e => hh (by
        show some c = some 48
        rw [← UInt8.ofNat_toNat (x := c), e]; rfl)
      have hd := digB_dgs ha
      have hcd := List.all_eq_true.1 ha c (by simp)
      unfold isDig at hcd
      simp at hcd
      have hn : Nrm (digB (c :: t)) := fun _ => by
        unfold digB
        rw [List.map_cons, List.reverse_cons, List.length_append, List.length_reverse, List.getD_eq_getElem?_getD]
        rw [List.getElem?_append_right (by simp)]
        simp; omega
      have e := dg_of (b := 10) (by decide) hd hn
      unfold valR
      unfold tdg
      rw [if_neg, ← e]
      intro h0
      rw [h0] at e
      have : (digB (c :: t)).length = 0 := by rw [e]; rfl
      simp [digB] at this
  · rfl
theorem text_back {s : List UInt8} (h : okR s = true) : textS (valR s) = s := by
  have ha : s.all isDig = true := by
    unfold okR at h
    simp only [Bool.and_eq_true] at h
    exact h.2
  unfold textS
  rw [tdg_digB h, ch_digB ha]
theorem text_val (x : Nat) : valR (textS x) = x := by unfold valR textS; rw [digB_ch (tdg_dgs x), tdg_val]
theorem text_ok (x : Nat) : okR (textS x) = true := by
  unfold okR
  have hp := tdg_pos x
  rw [← text_len] at hp
  have hne : textS x ≠ [] := fun e => by rw [e] at hp; simp at hp
  have ha : (textS x).all isDig = true := ch_all (tdg_dgs x)
  simp only [Bool.and_eq_true, Bool.or_eq_true, decide_eq_true_eq, bne_iff_ne, ne_eq]
  refine ⟨⟨hne, ?_⟩, ha⟩
  by_cases hx : x = 0
  · right; subst hx; rfl
  · left
    have hn := nrm_head.1 (nrm_dg (b := 10) (by decide) x)
    unfold plainL at hn
    rw [bne_iff_ne] at hn
    intro e
    refine hn ?_
    unfold textS tdg chB at e
    rw [if_neg hx, List.head?_map] at e
    cases hq : (dg 10 x).reverse.head? with
    | none => rw [hq] at e; cases e
    | some d =>
      rw [hq] at e
      have hd : d < 10 := dg_dgs (by decide) x d (by have := List.mem_of_mem_head? hq; simpa using this)
      have e2 : UInt8.ofNat (48 + d) = UInt8.ofNat (48 + 0) := Option.some.inj e
      have := (ch_eq (o := 48) (b := 10) (by decide) hd (by decide)).1 e2
      rw [this]
theorem text_tens {x : Nat} (h : x ≠ 0) : textS (10 * x) = textS x ++ [48] := by
  unfold textS tdg
  rw [if_neg (by omega), if_neg h, dg_step (b := 10) (by decide) (by omega), Nat.mul_mod_right, Nat.mul_div_cancel_left _ (by decide), chB_cons]
  rfl
end Go.Proofs.Ytnfednkphcapnaa
namespace Go.Proofs.Ytnfednkphcapnaa
open Go Go.RowKit
set_option linter.unusedVariables false
/-- Bytes, as a string. -/
def strL (l : List Nat) : ByteArray := ⟨(l.map UInt8.ofNat).toArray⟩
theorem strL_data (l : List Nat) : (strL l).data.toList = l.map UInt8.ofNat := rfl
theorem strL_size (l : List Nat) : (strL l).size = l.length := by simp [strL, ByteArray.size]
theorem reads_string {P : Program} (src dst e : TypeId) (hs : P.underlying src = some (.slice e)) (he : P.underlying e = some (.int .u8)) (hd : P.underlying dst = some .string) {w : World} {B n c : Nat} {A : Option Addr} {l : List Nat} (h : Reads w B 1 A n (vals .u8 l)) :
    (convert src dst (.slice A n c)).run P w = .ok (.string (strL l)) w := by
  have hl := h.len_
  rcases A with _ | ad
  · have hn : n = 0 := by
      rcases Nat.eq_zero_or_pos n with h0 | h0
      · exact h0
      · obtain ⟨ad, e1, _⟩ := h.2 h0
        cases e1
    rw [hn] at hl
    rw [List.eq_nil_of_length_eq_zero hl]
    exact run_convert_bytes_nil w src e hs he n c dst hd
  · rw [run_convert_bytes_string w src dst e _ n c hs he hd]
    have hc : ∀ j v, (vals .u8 l)[j]? = some v → w.cell? (ad.add j) = some v := by
      intro j v hv
      rcases Nat.eq_zero_or_pos n with h0 | h0
      · rw [h0] at hl
        rw [List.eq_nil_of_length_eq_zero hl] at hv
        simp [vals] at hv
      · obtain ⟨ad', e1, _, hc⟩ := h.2 h0
        injection e1 with e1
        subst e1
        exact hc j v hv
    have hld := run_loadCells_list (P := P) w ad (vals .u8 l) hc
    rw [vals_length, hl] at hld
    have e1 : (vals .u8 l).toArray = ((l.map fun d => ((d : Nat) : Int)).map (Value.int .u8)).toArray := by
      unfold vals
      rw [List.map_map]
      rfl
    rw [e1] at hld
    rw [run_bytesToString w ad n c _ hld, foldl_push_bytes]
    refine congrArg (fun s => Result.ok (Value.string s) w) ?_
    unfold strL
    rw [List.map_map]
    simp [ByteArray.empty, ByteArray.emptyWithCapacity]
    rfl
theorem bytes_ch (x : Nat) : (strL (bytesL x)).data.toList = bytesS x := by
  unfold bytesL bytesS chB
  rw [strL_data]
  exact List.map_congr_left fun d _ => by rw [Nat.zero_add]
/-- A text, as a string. -/
def strS (s : List UInt8) : ByteArray := ⟨s.toArray⟩
theorem strS_data (s : List UInt8) : (strS s).data.toList = s := rfl
theorem strS_size (s : List UInt8) : (strS s).size = s.length := by simp [strS, ByteArray.size]
theorem strS_of (s : ByteArray) : strS s.data.toList = s := rfl
theorem str_eql (s t : ByteArray) (b : Bool) (h : decide (s.data.toList = t.data.toList) = b) : (s.toList == t.toList) = b := by
  rw [ByteArray.toList_eq, ByteArray.toList_eq, ← h]
  by_cases e : s.data.toList = t.data.toList
  · rw [e, beq_self_eq_true]; simp
  · rw [beq_eq_false_iff_ne.2 e]; simp [e]
theorem str_lit (s : ByteArray) (l : List UInt8) (b : Bool) (h : decide (s.data.toList = l) = b) : (s.toList == l) = b := by
  rw [ByteArray.toList_eq, ← h]
  by_cases e : s.data.toList = l
  · rw [e, beq_self_eq_true]; simp
  · rw [beq_eq_false_iff_ne.2 e]; simp [e]
theorem addr_zero (ad : Addr) : ad.add 0 = ad := by
  obtain ⟨b, o, s⟩ := ad
  cases s <;> simp [Addr.add]
end Go.Proofs.Ytnfednkphcapnaa
namespace Go.Proofs.Ytnfednkphcapnaa
open Go Go.RowKit
set_option linter.unusedVariables false
theorem pow64 (K : Nat) : (18446744073709551616 : Nat) ^ K = 2 ^ (64 * K) := by rw [show (18446744073709551616 : Nat) = 2 ^ 64 from rfl, ← Nat.pow_mul]
theorem bytes_small {K x : Nat} (h : Sz K x) : (bytesL x).length ≤ 8 * K := by
  rw [bytesL_len]
  refine dg_len_le (by decide) _ _ (Nat.lt_of_lt_of_le h ?_)
  rw [pow64, show (256 : Nat) = 2 ^ 8 from rfl, ← Nat.pow_mul, ← Nat.mul_assoc]
  exact Nat.le_refl _
theorem text_small {K x : Nat} (h : Sz K x) : (textS x).length ≤ 64 * K + 1 := by
  rw [text_len]
  unfold tdg
  split
  · simp
  · refine Nat.le_succ_of_le (dg_len_le (by decide) _ _ (Nat.lt_of_lt_of_le h ?_))
    rw [pow64]
    exact Nat.pow_le_pow_left (by decide) _
theorem valP_sz {l : List Nat} {n : Nat} (hd : Dgs 256 l) (h : l.length ≤ n) : Sz n (valP l) := by
  have h1 := dv_lt (b := 256) (l := l.reverse) (fun d hd' => hd d (by simpa using hd'))
  rw [List.length_reverse] at h1
  exact Nat.lt_of_lt_of_le h1 (Nat.le_trans (Nat.pow_le_pow_left (by decide) _) (Nat.pow_le_pow_right (by decide) h))
theorem valR_sz {s : List UInt8} {n : Nat} (hok : okR s = true) (h : s.length ≤ n) : Sz n (valR s) := by
  have ha : s.all isDig = true := by
    unfold okR at hok
    simp only [Bool.and_eq_true] at hok
    exact hok.2
  have h1 := dv_lt (digB_dgs ha)
  have e : (digB s).length = s.length := by simp [digB]
  rw [e] at h1
  exact Nat.lt_of_lt_of_le h1 (Nat.le_trans (Nat.pow_le_pow_left (by decide) _) (Nat.pow_le_pow_right (by decide) h))
theorem zero_sz (n : Nat) : Sz n 0 := Nat.pow_pos (by decide)
theorem str_len (s : ByteArray) : s.data.toList.length = s.size := by rw [Array.length_toList]; rfl
/-- What the law asks of a text's beginning. -/
def headOk (s : List UInt8) : Bool := decide (s ≠ []) && (s.head? != some 48 || decide (s = [48]))
def plainTo (s : List UInt8) (k : Nat) : Bool := headOk s && (s.take k).all isDig
theorem plain_all (s : List UInt8) {k : Nat} (h : s.length ≤ k) : plainTo s k = okR s := by
  unfold plainTo okR headOk
  rw [List.take_of_length_le h]
theorem plain_none (s : List UInt8) : plainTo s 0 = headOk s := by unfold plainTo; simp
theorem plain_step (s : List UInt8) {k : Nat} (h : k < s.length) : plainTo s (k + 1) = (plainTo s k && isDig (s.getD k 0)) := by
  unfold plainTo
  rw [List.take_succ_eq_append_getElem h, List.all_append, Bool.and_assoc]
  simp [List.getD_eq_getElem?_getD, List.getElem?_eq_getElem h]
theorem str_idx {P : Program} {t : TypeId} (ht : P.underlying t = some .string) (s : ByteArray) (k : Nat) (h : k < s.size) (w : World) : (Instr.index t (.string s) (.int .i64 (k : Int))).run P w = .ok (.int .u8 (((s.data.toList.getD k 0).toNat : Nat) : Int)) w := by
  rw [run_index_string w t s .i64 k ht, dif_pos ⟨by omega, by omega⟩]
  have e : (s[(k : Int).toNat]'(by omega)) = s.data.toList.getD k 0 := by
    have hk : k < s.data.toList.length := by rw [str_len]; exact h
    rw [List.getD_eq_getElem?_getD, List.getElem?_eq_getElem hk]
    rfl
  rw [e]
theorem bytes_bits (x : Nat) : (dg 256 x).length = (bitLen x + 7) / 8 := by
  by_cases hx : x = 0
  · subst hx; rfl
  · obtain ⟨h1, h2⟩ := dg_ge (b := 256) (by decide) x hx
    have h3 := dg_lt (b := 256) (by decide) x
    have h4 := Nat.log2_self_le hx
    have h5 := Nat.lt_log2_self (n := x)
    have e : ∀ k, (256 : Nat) ^ k = 2 ^ (8 * k) := fun k => by rw [show (256 : Nat) = 2 ^ 8 from rfl, ← Nat.pow_mul]
    rw [e] at h2 h3
    have h6 := (Nat.pow_lt_pow_iff_right (a := 2) (by decide)).1 (Nat.lt_of_le_of_lt h2 h5)
    have h7 := (Nat.pow_lt_pow_iff_right (a := 2) (by decide)).1 (Nat.lt_of_le_of_lt h4 h3)
    unfold bitLen
    rw [if_neg hx]
    omega
theorem valR_step (l : List UInt8) {k : Nat} (h : k < l.length) : valR (l.take (k + 1)) = valR (l.take k) * 10 + ((l.getD k 0).toNat - 48) := by
  unfold valR digB
  rw [List.take_succ_eq_append_getElem h, List.map_append, List.reverse_append, List.map_singleton, List.reverse_singleton, List.singleton_append]
  show (l[k].toNat - 48) + 10 * _ = _
  rw [List.getD_eq_getElem?_getD, List.getElem?_eq_getElem h, Nat.add_comm, Nat.mul_comm]
  rfl
theorem valR_len {l : List UInt8} (hd : l.all isDig = true) : (dg 65536 (valR l)).length ≤ l.length := by
  have h1 := dv_lt (digB_dgs hd)
  have e : (digB l).length = l.length := by simp [digB]
  rw [e] at h1
  exact dg_len_le (by decide) _ _ (Nat.lt_of_lt_of_le h1 (Nat.pow_le_pow_left (by decide) _))
theorem okR_head (l : List UInt8) : okR l = (headOk l && l.all isDig) := rfl
theorem all_bad {l : List UInt8} {k : Nat} (h : k < l.length) (hb : isDig (l.getD k 0) = false) : l.all isDig = false := by
  cases ha : l.all isDig
  · rfl
  · have := List.all_eq_true.1 ha (l[k]) (List.getElem_mem h)
    rw [List.getD_eq_getElem?_getD, List.getElem?_eq_getElem h] at hb
    have hb' : isDig l[k] = false := hb
    rw [this] at hb'
    cases hb'
theorem all_step {l : List UInt8} {k : Nat} (h : k < l.length) (ha : (l.take k).all isDig = true) (hb : isDig (l.getD k 0) = true) : (l.take (k + 1)).all isDig = true := by
  rw [List.take_succ_eq_append_getElem h, List.all_append, ha]
  rw [List.getD_eq_getElem?_getD, List.getElem?_eq_getElem h] at hb
  have hb' : isDig l[k] = true := hb
  simp [hb']
end Go.Proofs.Ytnfednkphcapnaa
namespace Go.Proofs.Ytnfednkphcapnaa
open Go Go.RowKit
set_option linter.unusedVariables false
/-! ### Texts -/
def textI (z : Int) : List UInt8 := if z < 0 then 45 :: textS z.natAbs else textS z.natAbs
/-- A text without the sign ahead of it. -/
def bodyI (s : List UInt8) : List UInt8 := if s.head? = some 45 then s.drop 1 else s
def negI (s : List UInt8) : Bool := decide (s.head? = some 45)
def okI (s : List UInt8) : Bool := okR (bodyI s) && !(negI s && decide (valR (bodyI s) = 0))
def valI (s : List UInt8) : Int := if negI s then -(valR (bodyI s) : Int) else (valR (bodyI s) : Int)
theorem text_head (x : Nat) : (textS x).head? ≠ some 45 := by
  have h := text_ok x
  unfold okR at h
  simp only [Bool.and_eq_true] at h
  intro e
  cases hs : textS x with
  | nil => rw [hs] at e; cases e
  | cons c t =>
    rw [hs] at e
    have hc : c = 45 := Option.some.inj e
    have h2 := List.all_eq_true.1 h.2 c (by rw [hs]; simp)
    rw [hc] at h2
    exact absurd h2 (by decide)
theorem bodyI_text (z : Int) : bodyI (textI z) = textS z.natAbs := by
  unfold bodyI textI
  by_cases h : z < 0
  · rw [if_pos h]; rfl
  · rw [if_neg h, if_neg (text_head _)]
theorem negI_text (z : Int) : negI (textI z) = decide (z < 0) := by
  unfold negI textI
  by_cases h : z < 0
  · rw [if_pos h]; simp [h]
  · rw [if_neg h]; simp [h, text_head]
theorem okI_text (z : Int) : okI (textI z) = true := by
  unfold okI
  rw [bodyI_text, negI_text, text_ok, text_val]
  simp; omega
theorem valI_text (z : Int) : valI (textI z) = z := by
  unfold valI
  rw [negI_text, bodyI_text, text_val]
  by_cases h : z < 0
  · simp [h]; omega
  · simp [h]; omega
theorem textI_back {s : List UInt8} (h : okI s = true) : textI (valI s) = s := by
  unfold okI at h
  simp only [Bool.and_eq_true] at h
  obtain ⟨h1, h2⟩ := h
  unfold valI
  cases hn : negI s
  · have hb : bodyI s = s := by
      unfold bodyI; unfold negI at hn
      rw [if_neg (of_decide_eq_false hn)]
    rw [hb] at h1
    unfold textI
    simp only [Bool.false_eq_true, if_false]
    rw [if_neg (by omega), hb, Int.natAbs_natCast]
    exact text_back h1
  · have hs : s = 45 :: bodyI s := by
      unfold negI at hn
      have hn' := of_decide_eq_true hn
      unfold bodyI
      rw [if_pos hn']
      cases s with
      | nil => cases hn'
      | cons c t => rw [Option.some.inj hn']; rfl
    rw [hn] at h2
    simp at h2
    unfold textI
    simp only [if_true]
    rw [if_pos (by omega), Int.natAbs_neg, Int.natAbs_natCast, text_back h1]
    exact hs.symm
theorem valI_abs (s : List UInt8) : (valI s).natAbs = valR (bodyI s) := by
  unfold valI; split <;> omega
/-! ### The order -/
def cmpZ (x y : Int) : Int := if x < y then -1 else if x = y then 0 else 1
theorem cmpZ_eq (x y : Int) : cmpZ x y = 0 ↔ x = y := by unfold cmpZ; split <;> (try split) <;> omega
theorem cmpZ_lt (x y : Int) : cmpZ x y < 0 ↔ x < y := by unfold cmpZ; split <;> (try split) <;> omega
theorem cmpZ_gt (x y : Int) : 0 < cmpZ x y ↔ y < x := by unfold cmpZ; split <;> (try split) <;> omega
theorem cmpZ_neg (x y : Int) : cmpZ y x = -cmpZ x y := by unfold cmpZ; split <;> split <;> (try split) <;> omega
theorem cmpZ_bd (x y : Int) : -1 ≤ cmpZ x y ∧ cmpZ x y ≤ 1 := by unfold cmpZ; split <;> (try split) <;> omega
def sgnZ (x : Int) : Int := if x < 0 then -1 else if x = 0 then 0 else 1
theorem sgnZ_eq (x : Int) : sgnZ x = 0 ↔ x = 0 := by unfold sgnZ; split <;> (try split) <;> omega
theorem sgnZ_bd (x : Int) : -1 ≤ sgnZ x ∧ sgnZ x ≤ 1 := by unfold sgnZ; split <;> (try split) <;> omega
/-! ### Quotients, rounded down -/
def qI (x y : Int) : Int := if 0 ≤ y then x / y else (-x) / (-y)
def rI (x y : Int) : Int := if 0 ≤ y then x % y else -((-x) % (-y))
theorem qI_rI (x y : Int) : qI x y * y + rI x y = x := by
  unfold qI rI
  split
  · rw [Int.mul_comm]; exact Int.mul_ediv_add_emod x y
  · have h := Int.mul_ediv_add_emod (-x) (-y)
    rw [Int.neg_mul] at h
    rw [Int.mul_comm]
    omega
theorem rI_abs {x y : Int} (hy : y ≠ 0) : (rI x y).natAbs < y.natAbs := by
  unfold rI
  split
  · have h1 := Int.emod_nonneg x hy
    have h2 := Int.emod_lt_of_pos x (show 0 < y by omega)
    omega
  · have h1 := Int.emod_nonneg (-x) (show -y ≠ 0 by omega)
    have h2 := Int.emod_lt_of_pos (-x) (show 0 < -y by omega)
    omega
theorem rI_side {x y : Int} (hy : y ≠ 0) : rI x y = 0 ∨ (0 < rI x y ∧ 0 < y ∨ rI x y < 0 ∧ y < 0) := by
  unfold rI
  split
  · have h1 := Int.emod_nonneg x hy
    omega
  · have h1 := Int.emod_nonneg (-x) (show -y ≠ 0 by omega)
    omega
theorem rI_sgn {x y : Int} (hy : y ≠ 0) : rI x y = 0 ∨ sgnZ (rI x y) = sgnZ y := by
  have h := rI_side (x := x) hy
  generalize rI x y = r at *
  rcases h with h | h | h
  · exact .inl h
  · right; unfold sgnZ; rw [if_neg (by omega), if_neg (by omega), if_neg (by omega), if_neg (by omega)]
  · right; unfold sgnZ; rw [if_pos (by omega), if_pos (by omega)]
/-- One quotient alone. -/
theorem qI_one {x y q r : Int} (hy : y ≠ 0) (h : q * y + r = x) (hr : r = 0 ∨ (0 < r ∧ 0 < y ∨ r < 0 ∧ y < 0)) (hl : r.natAbs < y.natAbs) : q = qI x y ∧ r = rI x y := by
  have h1 := qI_rI x y
  have h2 := rI_abs (x := x) hy
  have h3 := rI_side (x := x) hy
  have hd : (q - qI x y) * y = rI x y - r := by rw [Int.sub_mul]; omega
  have hq : q - qI x y = 0 := by
    generalize q - qI x y = t at *
    generalize rI x y = r' at *
    rcases Int.lt_trichotomy t 0 with h0 | h0 | h0
    · exfalso
      rcases Int.lt_trichotomy y 0 with hy0 | hy0 | hy0
      · have : (-t - 1) * (-y) ≥ 0 := Int.mul_nonneg (by omega) (by omega)
        rw [Int.sub_mul, Int.neg_mul_neg] at this
        omega
      · omega
      · have : (-t - 1) * y ≥ 0 := Int.mul_nonneg (by omega) (by omega)
        rw [Int.sub_mul, Int.neg_mul] at this
        omega
    · exact h0
    · exfalso
      rcases Int.lt_trichotomy y 0 with hy0 | hy0 | hy0
      · have : (t - 1) * (-y) ≥ 0 := Int.mul_nonneg (by omega) (by omega)
        rw [Int.sub_mul, Int.mul_neg] at this
        omega
      · omega
      · have : (t - 1) * y ≥ 0 := Int.mul_nonneg (by omega) (by omega)
        rw [Int.sub_mul] at this
        omega
  rw [hq, Int.zero_mul] at hd
  omega
end Go.Proofs.Ytnfednkphcapnaa
