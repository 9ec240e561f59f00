/- What this claim leans on. -/
import Derived.Test.YtfieheffipfahaaGreatDoorXE9Miss
namespace Go.Proofs.YtfieheffipfahaaGreatDoor
open Go Go.RowKit
set_option maxHeartbeats 16000000
set_option linter.unusedVariables false
def zbk (x : Nat) : Nat := (dg 256 x).length
theorem zcf (x : Nat) : (zbe x).length = zbk x := zec x
def zaR (x : Nat) : List Nat := zbk x :: zbe x
def zaV (r : Rat) : Nat := if r = 0 then 0 else (if r.den = 1 then 0 else 2) + (if 0 < r.num then 1 else 2)
def zds (r : Rat) : List Nat := if r.den = 1 then [] else zaR r.den
def numL (r : Rat) : List Nat := if r = 0 then [] else zaR r.num.natAbs
def zaB (r : Rat) : List Nat := zaV r :: (zds r ++ numL r)
def Fit9 (r : Rat) : Prop := zbk r.den ≤ 255 ∧ zbk r.num.natAbs ≤ 255
inductive Er where
 | no : Er
 | bare : Int → Er
 | spot : Int → ByteArray → Int → Er
def Er.n : Er → Int | .no => 0 | .bare n => n | .spot n _ _ => n
def Er.s : Er → ByteArray | .spot _ s _ => s | _ => { data := #[] }
def Er.k : Er → Int | .spot _ _ k => k | _ => 0
def zdq : ByteArray := { data := #[110,117,109,98,101,114] }
def zeh : ByteArray := { data := #[100,105,118,105,115,111,114] }
def sg9 (s : Bool) (x : Nat) : Int := if s then -(x : Int) else (x : Int)
theorem zbI (s : Bool) (x : Nat) : (sg9 s x).natAbs = x := by unfold sg9; split <;> omega
def zcS (l : List Nat) (k : Nat) : List Nat := (l.drop (k + 1)).take (l.getD k 0)
def zaD (l : List Nat) (k : Nat) : Int := if l.length ≤ k + l.getD k 0 then 90 else if zbE (zcS l k) = true ∧ zdu (zcS l k) ≠ 0 then 0 else 91
def zai (l : List Nat) (k : Nat) : Nat := zdu (zcS l k)
def zap (l : List Nat) (k : Nat) : Nat := k + 1 + l.getD k 0
theorem zlq (l : List Nat) (k : Nat) : zcS (l.drop k) 0 = zcS l k := by
 unfold zcS
 rw [List.drop_drop,List.getD_eq_getElem?_getD,List.getElem?_drop,← List.getD_eq_getElem?_getD]; rfl
theorem zhU (l : List Nat) (k : Nat) : (l.drop k).getD 0 0 = l.getD k 0 := by
 rw [List.getD_eq_getElem?_getD,List.getElem?_drop,← List.getD_eq_getElem?_getD]; rfl
theorem zfz {l : List Nat} {k : Nat} (hk : k ≤ l.length) : zaD (l.drop k) 0 = zaD l k := by
 unfold zaD
 rw [zlq,zhU,List.length_drop]
 by_cases h : l.length ≤ k + l.getD k 0
 ·rw [if_pos h,if_pos (by omega)]
 ·rw [if_neg h,if_neg (by omega)]
theorem zna (l : List Nat) (k : Nat) : zai (l.drop k) 0 = zai l k := by unfold zai; rw [zlq]
theorem zlV (l : List Nat) (k : Nat) : zaD l k = 0 ∨ zaD l k = 90 ∨ zaD l k = 91 := by
 unfold zaD
 split
 ·exact .inr (.inl rfl)
 ·split
  ·exact .inl rfl
  ·exact .inr (.inr rfl)
theorem zln {r : Rat} (h1 : r.den ≠ 1) : ¬ (r.den = 1 ∨ Nat.gcd r.num.natAbs r.den ≠ 1) := by
 rintro (h | h)
 ·exact h1 h
 ·exact h (show Nat.gcd r.num.natAbs r.den = 1 from r.reduced)
theorem zhi (a : List Nat) (x : Nat) (hx : x ≠ 0) (c : List Nat) : zaD (a ++ (zaR x ++ c)) a.length = 0 ∧ zai (a ++ (zaR x ++ c)) a.length = x ∧ zap (a ++ (zaR x ++ c)) a.length = a.length + (zaR x).length := by
 have hg : (a ++ (zaR x ++ c)).getD a.length 0 = zbk x := by
  rw [List.getD_eq_getElem?_getD,List.getElem?_append_right (Nat.le_refl _),Nat.sub_self]; rfl
 have hm : zcS (a ++ (zaR x ++ c)) a.length = zbe x := by
  unfold zcS
  rw [hg,List.drop_append,List.drop_of_length_le (by omega),Nat.add_sub_cancel_left]
  show ([] ++ (zbe x ++ c)).take (zbk x) = zbe x
  rw [List.nil_append,← zcf,List.take_left]
 have hl : (zaR x).length = zbk x + 1 := by show (zbe x).length + 1 = _; rw [zcf]
 refine ⟨?_,?_,?_⟩
 ·unfold zaD
  rw [hm,hg,if_neg (by rw [List.length_append,List.length_append,hl]; omega),if_pos ⟨zjP x,by rw [zhE]; exact hx⟩]
 ·unfold zai; rw [hm,zhE]
 ·unfold zap; rw [hg,hl]; omega
theorem ziu (a : List Nat) (x : Nat) (c : List Nat) (k : Nat) (h1 : a.length ≤ k) (h2 : k < a.length + (zaR x).length) : zaD ((a ++ (zaR x ++ c)).take k) a.length = 90 := by
 have hl : (zaR x).length = zbk x + 1 := by show (zbe x).length + 1 = _; rw [zcf]
 unfold zaD
 refine if_pos ?_
 rw [List.length_take]
 by_cases hk : k = a.length
 ·omega
 ·have hg : ((a ++ (zaR x ++ c)).take k).getD a.length 0 = zbk x := by
   rw [List.getD_eq_getElem?_getD,List.getElem?_take,if_pos (by omega),List.getElem?_append_right (Nat.le_refl _),Nat.sub_self]; rfl
  rw [hg]; omega
theorem zgv {l : List Nat} {k : Nat} (hd : Dgs 256 l) (h : zaD l k = 0) : zai l k ≠ 0 ∧ zbk (zai l k) ≤ 255 ∧ zap l k ≤ l.length ∧ l.take (zap l k) = l.take k ++ zaR (zai l k) ∧ zap l k = k + (zaR (zai l k)).length := by
 unfold zaD at h
 by_cases h1 : l.length ≤ k + l.getD k 0
 ·rw [if_pos h1] at h; exact absurd h (by decide)
 ·rw [if_neg h1] at h
  by_cases h2 : zbE (zcS l k) = true ∧ zdu (zcS l k) ≠ 0
  ·have hdm : Dgs 256 (zcS l k) := fun d hd' => hd d (List.mem_of_mem_drop (List.mem_of_mem_take hd'))
   have hb : zbe (zai l k) = zcS l k := zkR hdm h2.1
   have hn : zbk (zai l k) = l.getD k 0 := by rw [← zcf,hb]; unfold zcS; rw [List.length_take,List.length_drop]; omega
   have hk : k < l.length := by omega
   have hlt : l.getD k 0 < 256 := by rw [List.getD_eq_getElem?_getD,List.getElem?_eq_getElem hk]; exact hd _ (List.getElem_mem hk)
   refine ⟨h2.2,by omega,by unfold zap; omega,?_,?_⟩
   ·unfold zap
    have e1 : l.take (k + 1 + l.getD k 0) = l.take k ++ ((l.drop k).take (1 + l.getD k 0)) := by rw [Nat.add_assoc,List.take_add]
    rw [e1]
    congr 1
    rw [List.drop_eq_getElem_cons hk,Nat.add_comm 1,List.take_succ_cons]
    unfold zaR
    rw [hb,hn]
    congr 1
    rw [List.getD_eq_getElem?_getD,List.getElem?_eq_getElem hk]; rfl
   ·unfold zap zaR; rw [List.length_cons,zcf,hn]; omega
  ·rw [if_neg h2] at h; exact absurd h (by decide)
def zed (l : List Nat) : Er × Rat × Nat :=
 if l = [] then (.bare 90,0,0)
 else if 4 < l.getD 0 0 then (.bare 91,0,0)
 else if l.getD 0 0 = 0 then (.no,0,1)
 else if l.getD 0 0 ≤ 2 then (if zaD l 1 = 0 then (.no,((sg9 (decide (l.getD 0 0 = 2)) (zai l 1) : Int) : Rat),zap l 1) else (.spot (zaD l 1) zdq 1,0,0))
 else if zaD l 1 ≠ 0 then (.spot (zaD l 1) zeh 1,0,0)
 else if zaD l (zap l 1) ≠ 0 then (.spot (zaD l (zap l 1)) zdq (zap l 1),0,0)
 else if zai l 1 = 1 ∨ Nat.gcd (zai l (zap l 1)) (zai l 1) ≠ 1 then (.bare 91,0,0)
 else (.no,Rat.divInt (sg9 (decide (l.getD 0 0 = 4)) (zai l (zap l 1))) (zai l 1 : Nat),zap l (zap l 1))
theorem zny (r : Rat) (s : Bool) (hs : s = decide (¬ 0 < r.num)) (h0 : r ≠ 0) : sg9 s r.num.natAbs = r.num := by
 have hn : r.num ≠ 0 := fun h => h0 ((Rat.num_eq_zero).1 h)
 unfold sg9
 rw [hs]
 by_cases h : 0 < r.num
 ·simp [h]; omega
 ·simp [h]; omega
theorem zid {r : Rat} (h0 : r ≠ 0) : r.num.natAbs ≠ 0 := fun h => h0 ((Rat.num_eq_zero).1 (by omega))
theorem zhH (r : Rat) (c : List Nat) : zed (zaB r ++ c) = (.no,r,(zaB r).length) := by
 have hg : (zaB r ++ c).getD 0 0 = zaV r := rfl
 unfold zed
 rw [if_neg (by unfold zaB; simp),hg]
 by_cases h0 : r = 0
 ·subst h0
  rw [show zaV 0 = 0 from rfl,if_neg (by decide),if_pos rfl]; rfl
 ·have hk : zaV r = (if r.den = 1 then 0 else 2) + (if 0 < r.num then 1 else 2) := by unfold zaV; rw [if_neg h0]
  have hnl : numL r = zaR r.num.natAbs := by unfold numL; rw [if_neg h0]
  by_cases h1 : r.den = 1
  ·rw [if_pos h1,Nat.zero_add] at hk
   have hdl : zds r = [] := by unfold zds; rw [if_pos h1]
   have hf : zaB r ++ c = [zaV r] ++ (zaR r.num.natAbs ++ c) := by unfold zaB; rw [hdl,hnl]; rfl
   have hp := zhi [zaV r] r.num.natAbs (zid h0) c
   rw [← hf] at hp
   obtain ⟨p1,p2,p3⟩ := hp
   simp only [List.length_cons,List.length_nil,Nat.zero_add] at p1 p2 p3
   have hlen : (zaB r).length = 1 + (zaR r.num.natAbs).length := by unfold zaB; rw [hdl,hnl]; simp; omega
   rw [if_neg (by rw [hk]; split <;> omega),if_neg (by rw [hk]; split <;> omega),if_pos (by rw [hk]; split <;> omega),if_pos p1,p2,p3,hlen,
    zny r _ (by rw [hk]; by_cases h : 0 < r.num <;> simp [h]) h0,(znk r).1 h1]
  ·rw [if_neg h1] at hk
   have hdl : zds r = zaR r.den := by unfold zds; rw [if_neg h1]
   have hf : zaB r ++ c = [zaV r] ++ (zaR r.den ++ (zaR r.num.natAbs ++ c)) := by unfold zaB; rw [hdl,hnl]; simp
   have hf2 : zaB r ++ c = ([zaV r] ++ zaR r.den) ++ (zaR r.num.natAbs ++ c) := by rw [hf]; simp
   have hp := zhi [zaV r] r.den r.den_nz (zaR r.num.natAbs ++ c)
   have hq := zhi ([zaV r] ++ zaR r.den) r.num.natAbs (zid h0) c
   rw [← hf] at hp
   rw [← hf2] at hq
   obtain ⟨p1,p2,p3⟩ := hp
   obtain ⟨q1,q2,q3⟩ := hq
   rw [List.length_append] at q1 q2 q3
   simp only [List.length_cons,List.length_nil,Nat.zero_add] at p1 p2 p3 q1 q2 q3
   have hlen : (zaB r).length = 1 + (zaR r.den).length + (zaR r.num.natAbs).length := by unfold zaB; rw [hdl,hnl]; simp; omega
   rw [if_neg (by rw [hk]; split <;> omega),if_neg (by rw [hk]; split <;> omega),if_neg (by rw [hk]; split <;> omega),if_neg (by rw [p1]; decide),p3,if_neg (by rw [q1]; decide),p2,q2,q3,hlen,
    if_neg (zln h1),
    zny r _ (by rw [hk]; by_cases h : 0 < r.num <;> simp [h]) h0,Rat.num_divInt_den]
theorem zhT (r : Rat) : (zaB r).length = if r = 0 then 1 else if r.den = 1 then 2 + zbk r.num.natAbs else 3 + zbk r.num.natAbs + zbk r.den := by
 have hl : ∀ x,(zaR x).length = zbk x + 1 := fun x => by show (zbe x).length + 1 = _; rw [zcf]
 unfold zaB zds numL
 by_cases h0 : r = 0
 ·subst h0; rfl
 ·rw [if_neg h0,if_neg h0]
  by_cases h1 : r.den = 1
  ·rw [if_pos h1,if_pos h1]; simp [hl]; omega
  ·rw [if_neg h1,if_neg h1]; simp [hl]; omega
theorem zlx {r s : Rat} (n : Nat) (hn : n = min (zaB r).length (zaB s).length) : (zaB r).take n = (zaB s).take n ↔ r = s := by
 refine ⟨fun h => ?_,fun h => by rw [h]⟩
 have key : ∀ {a b : Rat},(zaB a).length ≤ (zaB b).length → (zaB a).take (zaB a).length = (zaB b).take (zaB a).length → a = b := fun {a b} hl e => by
  rw [List.take_of_length_le (Nat.le_refl _)] at e
  have e2 : zaB b = zaB a ++ (zaB b).drop (zaB a).length := by
   conv => lhs; rw [← List.take_append_drop (zaB a).length (zaB b)]
   rw [← e]
  have d1 := zhH b []
  rw [List.append_nil,e2,zhH a] at d1
  exact congrArg (fun t => t.2.1) d1
 rcases Nat.le_total (zaB r).length (zaB s).length with hl | hl
 ·rw [hn,Nat.min_eq_left hl] at h; exact key hl h
 ·rw [hn,Nat.min_eq_right hl] at h; exact (key hl h.symm).symm
theorem form_cut (r : Rat) (k : Nat) (hk : k < (zaB r).length) : ∃ e : Er,zed ((zaB r).take k) = (e,0,0) ∧ (k = 0 ∧ e = .bare 90 ∨ 0 < k ∧ ∃ (s : ByteArray) (j : Nat),(s = zdq ∨ s = zeh) ∧ e = .spot 90 s j ∧ j ≤ k) := by
 by_cases hk0 : k = 0
 ·subst hk0; exact ⟨_,rfl,.inl ⟨rfl,rfl⟩⟩
 have hg : ((zaB r).take k).getD 0 0 = zaV r := by
  rw [List.getD_eq_getElem?_getD,List.getElem?_take,if_pos (by omega)]; rfl
 have hne : (zaB r).take k ≠ [] := fun h => by
  have := congrArg List.length h
  rw [List.length_take,List.length_nil] at this; omega
 have h0 : r ≠ 0 := fun h => by rw [zhT,if_pos h] at hk; omega
 have hkd : zaV r = (if r.den = 1 then 0 else 2) + (if 0 < r.num then 1 else 2) := by unfold zaV; rw [if_neg h0]
 have hnl : numL r = zaR r.num.natAbs := by unfold numL; rw [if_neg h0]
 unfold zed
 rw [if_neg hne,hg]
 by_cases h1 : r.den = 1
 ·rw [if_pos h1,Nat.zero_add] at hkd
  have hdl : zds r = [] := by unfold zds; rw [if_pos h1]
  have hf : zaB r = [zaV r] ++ (zaR r.num.natAbs ++ []) := by unfold zaB; rw [hdl,hnl]; simp
  have hc := ziu [zaV r] r.num.natAbs [] k (by simp; omega) (by rw [hf] at hk; simp at hk ⊢; omega)
  rw [← hf] at hc
  simp only [List.length_cons,List.length_nil,Nat.zero_add] at hc
  rw [if_neg (by rw [hkd]; split <;> omega),if_neg (by rw [hkd]; split <;> omega),if_pos (by rw [hkd]; split <;> omega),if_neg (by rw [hc]; decide),hc]
  exact ⟨_,rfl,.inr ⟨by omega,zdq,1,.inl rfl,rfl,by omega⟩⟩
 ·rw [if_neg h1] at hkd
  have hdl : zds r = zaR r.den := by unfold zds; rw [if_neg h1]
  have hf : zaB r = [zaV r] ++ (zaR r.den ++ zaR r.num.natAbs) := by unfold zaB; rw [hdl,hnl]; simp
  have hf2 : zaB r = ([zaV r] ++ zaR r.den) ++ (zaR r.num.natAbs ++ []) := by rw [hf]; simp
  rw [if_neg (by rw [hkd]; split <;> omega),if_neg (by rw [hkd]; split <;> omega),if_neg (by rw [hkd]; split <;> omega)]
  by_cases hk1 : k < 1 + (zaR r.den).length
  ·have hc := ziu [zaV r] r.den (zaR r.num.natAbs) k (by simp; omega) (by simpa using hk1)
   rw [← hf] at hc
   simp only [List.length_cons,List.length_nil,Nat.zero_add] at hc
   rw [if_pos (by rw [hc]; decide),hc]
   exact ⟨_,rfl,.inr ⟨by omega,zeh,1,.inr rfl,rfl,by omega⟩⟩
  ·have hc := ziu ([zaV r] ++ zaR r.den) r.num.natAbs [] k (by simp; omega) (by rw [hf2] at hk; simp at hk ⊢; omega)
   rw [← hf2] at hc
   have ht : (zaB r).take k = [zaV r] ++ (zaR r.den ++ (zaR r.num.natAbs).take (k - 1 - (zaR r.den).length)) := by
    rw [hf,List.take_append,List.take_append,List.take_of_length_le (by simp; omega),List.take_of_length_le (by simp; omega)]
    simp
   have hp := zhi [zaV r] r.den r.den_nz ((zaR r.num.natAbs).take (k - 1 - (zaR r.den).length))
   rw [← ht] at hp
   obtain ⟨p1,p2,p3⟩ := hp
   rw [List.length_append] at hc
   simp only [List.length_cons,List.length_nil,Nat.zero_add] at p1 p2 p3 hc
   rw [if_neg (by rw [p1]; decide),p3,if_pos (by rw [hc]; decide),hc]
   exact ⟨_,rfl,.inr ⟨by omega,zdq,1 + (zaR r.den).length,.inl rfl,rfl,by omega⟩⟩
theorem znz {s : Bool} {x : Nat} (hx : x ≠ 0) : 0 < sg9 s x ↔ s = false := by unfold sg9; cases s <;> simp <;> omega
theorem dec_back {l : List Nat} (hd : Dgs 256 l) {r : Rat} {n : Nat} (h : zed l = (.no,r,n)) : Fit9 r ∧ 1 ≤ n ∧ n ≤ l.length ∧ zaB r = l.take n := by
 unfold zed at h
 by_cases hl : l = []
 ·rw [if_pos hl] at h; cases h
 obtain ⟨b,t,rfl⟩ : ∃ b t,l = b :: t := by cases l with
  | nil => exact absurd rfl hl
  | cons b t => exact ⟨b,t,rfl⟩
 have hg : (b :: t).getD 0 0 = b := rfl
 rw [if_neg hl,hg] at h
 by_cases h4 : 4 < b
 ·rw [if_pos h4] at h; cases h
 rw [if_neg h4] at h
 by_cases h0 : b = 0
 ·rw [if_pos h0] at h
  cases h
  refine ⟨⟨by decide,by decide⟩,by omega,by simp,?_⟩
  rw [h0]; rfl
 rw [if_neg h0] at h
 by_cases h2 : b ≤ 2
 ·rw [if_pos h2] at h
  by_cases hp : zaD (b :: t) 1 = 0
  ·rw [if_pos hp] at h
   obtain ⟨p1,p2,p3,p4,p5⟩ := zgv hd hp
   generalize hx : zai (b :: t) 1 = x at *
   generalize hn : zap (b :: t) 1 = m at *
   cases h
   have hr0 : ((sg9 (decide (b = 2)) x : Int) : Rat) ≠ 0 := fun h => by
    have := congrArg (fun q : Rat => q.num.natAbs) h
    simp only [Rat.num_intCast] at this
    rw [zbI] at this; exact p1 this
   refine ⟨⟨by rw [Rat.den_intCast]; decide,by rw [Rat.num_intCast,zbI]; exact p2⟩,by omega,p3,?_⟩
   rw [p4]
   unfold zaB zaV zds numL
   rw [if_neg hr0,if_neg hr0,if_pos (Rat.den_intCast _),if_pos (Rat.den_intCast _),Rat.num_intCast,zbI]
   have e : (if 0 < sg9 (decide (b = 2)) x then 1 else 2) = b := by
    by_cases hb : b = 2
    ·rw [if_neg (by rw [znz p1]; simp [hb])]; exact hb.symm
    ·rw [if_pos (by rw [znz p1]; simp [hb])]; omega
   rw [e]; simp
  ·rw [if_neg hp] at h; cases h
 rw [if_neg h2] at h
 by_cases hp : zaD (b :: t) 1 = 0
 ·rw [if_neg (by rw [hp]; decide)] at h
  obtain ⟨p1,p2,p3,p4,p5⟩ := zgv hd hp
  by_cases hq : zaD (b :: t) (zap (b :: t) 1) = 0
  ·rw [if_neg (by rw [hq]; decide)] at h
   obtain ⟨q1,q2,q3,q4,q5⟩ := zgv hd hq
   by_cases hw : zai (b :: t) 1 = 1 ∨ Nat.gcd (zai (b :: t) (zap (b :: t) 1)) (zai (b :: t) 1) ≠ 1
   ·rw [if_pos hw] at h; cases h
   rw [if_neg hw] at h
   generalize hm : zap (b :: t) (zap (b :: t) 1) = m at *
   generalize zai (b :: t) (zap (b :: t) 1) = x at *
   generalize hk : zap (b :: t) 1 = k at *
   generalize zai (b :: t) 1 = d at *
   cases h
   have hd1 : d ≠ 1 := fun h => hw (.inl h)
   have hgc : Nat.gcd x d = 1 := Decidable.not_not.1 fun h => hw (.inr h)
   have hdz : ((d : Nat) : Int) ≠ 0 := by omega
   have e1 := zfV (sg9 (decide (b = 4)) x) (d : Int) hdz
   have e2 := zeB (sg9 (decide (b = 4)) x) (d : Int) hdz
   have e3 := zeZ (sg9 (decide (b = 4)) x) (d : Int) hdz
   rw [zbI,Int.natAbs_natCast,hgc,Nat.div_one] at e1 e2
   generalize Rat.divInt (sg9 (decide (b = 4)) x) (d : Int) = r at *
   have hr0 : r ≠ 0 := fun h => by rw [h] at e1; exact q1 e1.symm
   have hsg : (if 0 < r.num then 1 else 2) = b - 2 := by
    by_cases hb : b = 4
    ·rw [if_neg]
     ·omega
     ·have : sg9 (decide (b = 4)) x < 0 := by unfold sg9; simp [hb]; omega
      have := e3.2 (.inl ⟨this,by omega⟩)
      omega
    ·rw [if_pos]
     ·omega
     ·have : ¬ (sg9 (decide (b = 4)) x < 0) := by unfold sg9; simp [hb]
      have : ¬ (r.num < 0) := fun h => by rcases e3.1 h with h | h <;> omega
      omega
   refine ⟨⟨by rw [e2]; exact p2,by rw [e1]; exact q2⟩,by omega,q3,?_⟩
   rw [q4,p4]
   unfold zaB zaV zds numL
   rw [if_neg hr0,if_neg hr0,e2,if_neg hd1,if_neg hd1,e1,hsg]
   have e5 : 2 + (b - 2) = b := by omega
   rw [e5]; simp
  ·rw [if_pos hq] at h; cases h
 ·rw [if_pos hp] at h; cases h
theorem dec_er (l : List Nat) : (zed l).1 = .no ∨ (∃ n,(n = 90 ∨ n = 91) ∧ ((zed l).1 = .bare n ∨ ∃ (s : ByteArray) (k : Nat),(s = zdq ∨ s = zeh) ∧ (zed l).1 = .spot n s k)) ∧ (zed l).2 = (0,0) := by
 unfold zed
 have hc := fun k => zlV l k
 split
 ·exact .inr ⟨⟨90,.inl rfl,.inl rfl⟩,rfl⟩
 split
 ·exact .inr ⟨⟨91,.inr rfl,.inl rfl⟩,rfl⟩
 split
 ·exact .inl rfl
 split
 ·split
  ·exact .inl rfl
  ·rename_i h
   exact .inr ⟨⟨zaD l 1,(hc 1).resolve_left h,.inr ⟨zdq,1,.inl rfl,rfl⟩⟩,rfl⟩
 split
 ·rename_i h
  exact .inr ⟨⟨zaD l 1,(hc 1).resolve_left h,.inr ⟨zeh,1,.inr rfl,rfl⟩⟩,rfl⟩
 split
 ·rename_i h
  exact .inr ⟨⟨_,(hc _).resolve_left h,.inr ⟨zdq,_,.inl rfl,rfl⟩⟩,rfl⟩
 split
 ·exact .inr ⟨⟨91,.inr rfl,.inl rfl⟩,rfl⟩
 ·exact .inl rfl
def zbX (r : Rat) : List UInt8 := zbp r.num ++ (if r.den = 1 then [] else 47 :: zbq r.den)
def zau (s : List UInt8) : List UInt8 := s.takeWhile (· != 47)
def zbb (s : List UInt8) : List UInt8 := s.dropWhile (· != 47)
def zax (s : List UInt8) : List UInt8 := (zbb s).drop 1
def zcW (s : List UInt8) : Er × Rat :=
 if okI (zau s) = false then (.spot 91 zdq 0,0)
 else if zbb s = [] then (.no,((zcc (zau s) : Int) : Rat))
 else if okR (zax s) = false ∨ zaT (zax s) = 0 then (.spot 91 zeh (((zau s).length + 1 : Nat) : Int),0)
 else if zaT (zax s) = 1 ∨ Nat.gcd (zcc (zau s)).natAbs (zaT (zax s)) ≠ 1 then (.bare 91,0)
 else (.no,Rat.divInt (zcc (zau s)) (zaT (zax s) : Nat))
theorem zaX (s : List UInt8) : zau s ++ zbb s = s := List.takeWhile_append_dropWhile
theorem zju : ∀ (s : List UInt8),zbb s ≠ [] → zbb s = 47 :: zax s
 | [],h => absurd rfl h
 | c :: t,h => by
   unfold zax
   unfold zbb at h ⊢
   rw [List.dropWhile_cons] at h ⊢
   by_cases hc : (c != 47) = true
   ·rw [if_pos hc] at h ⊢; exact zju t h
   ·rw [if_neg hc] at h ⊢
    have : c = 47 := by simpa using hc
    rw [this]; rfl
theorem zjr (x : Nat) : ∀ c ∈ zbq x,(c != 47) = true := fun c hc => by
 have h := zff x
 rw [zie] at h
 simp only [Bool.and_eq_true] at h
 have h2 := List.all_eq_true.1 h.2 c hc
 rw [bne_iff_ne]
 intro e
 rw [e] at h2
 exact absurd h2 (by decide)
theorem zjq (z : Int) : ∀ c ∈ zbp z,(c != 47) = true := fun c hc => by
 unfold zbp at hc
 split at hc
 ·rcases List.mem_cons.1 hc with rfl | hc
  ·decide
  ·exact zjr _ c hc
 ·exact zjr _ c hc
theorem zji (z : Int) (t : List UInt8) : zau (zbp z ++ t) = zbp z ++ zau t := List.takeWhile_append_of_pos (zjq z)
theorem zjv (z : Int) (t : List UInt8) : zbb (zbp z ++ t) = zbb t := List.dropWhile_append_of_pos (zjq z)
theorem zgx (r : Rat) : zcW (zbX r) = (.no,r) := by
 unfold zcW zbX
 by_cases h1 : r.den = 1
 ·rw [if_pos h1,zji,zjv]
  have e1 : zau ([] : List UInt8) = [] := rfl
  have e2 : zbb ([] : List UInt8) = [] := rfl
  rw [e1,e2,List.append_nil,if_neg (by rw [zlw]; decide),if_pos rfl,zjE,(znk r).1 h1]
 ·rw [if_neg h1]
  have hh : zau (zbp r.num ++ 47 :: zbq r.den) = zbp r.num := by
   rw [zji]; show zbp r.num ++ [] = _; rw [List.append_nil]
  have hr : zbb (zbp r.num ++ 47 :: zbq r.den) = 47 :: zbq r.den := by rw [zjv]; rfl
  have ht : zax (zbp r.num ++ 47 :: zbq r.den) = zbq r.den := by unfold zax; rw [hr]; rfl
  rw [hh,hr,ht,if_neg (by rw [zlw]; decide),if_neg (by simp),zff,zeP,zjE,if_neg (fun h => h.elim (fun h => by cases h) r.den_nz),
   if_neg (zln h1),Rat.num_divInt_den]
theorem zoF {s : List UInt8} {r : Rat} (h : zcW s = (.no,r)) : zbX r = s := by
 unfold zcW at h
 by_cases h1 : okI (zau s) = false
 ·rw [if_pos h1] at h; cases h
 rw [if_neg h1] at h
 have hI := znc (s := zau s) (by simpa using h1)
 have hs := zaX s
 by_cases h2 : zbb s = []
 ·rw [if_pos h2] at h
  cases h
  unfold zbX
  rw [Rat.num_intCast,if_pos (Rat.den_intCast _),hI,List.append_nil]
  rw [h2,List.append_nil] at hs
  exact hs
 rw [if_neg h2] at h
 by_cases h3 : okR (zax s) = false ∨ zaT (zax s) = 0
 ·rw [if_pos h3] at h; cases h
 rw [if_neg h3] at h
 have hS := zgA (s := zax s) (by have := fun e => h3 (.inl e); simpa using this)
 by_cases h4 : zaT (zax s) = 1 ∨ Nat.gcd (zcc (zau s)).natAbs (zaT (zax s)) ≠ 1
 ·rw [if_pos h4] at h; cases h
 rw [if_neg h4] at h
 have hrest := zju s h2
 generalize zaT (zax s) = d at *
 generalize zcc (zau s) = z at *
 cases h
 have hg : Nat.gcd z.natAbs d = 1 := Decidable.not_not.1 fun h => h4 (.inr h)
 have hz : ((d : Nat) : Int) ≠ 0 := by have := fun e => h3 (.inr e); omega
 have e2 := zeB z (d : Int) hz
 have e1 : Rat.divInt z (d : Int) = Rat.divInt z (d : Int) := rfl
 rw [Int.natAbs_natCast,hg,Nat.div_one] at e2
 have hn : (Rat.divInt z (d : Int)).num = z := by
  have a1 := zfV z (d : Int) hz
  have a2 := zeZ z (d : Int) hz
  rw [Int.natAbs_natCast,hg,Nat.div_one] at a1
  generalize (Rat.divInt z (d : Int)).num = y at *
  have hd0 : 0 < (d : Int) := by omega
  rcases Int.lt_trichotomy z 0 with h | h | h
  ·have := a2.2 (.inl ⟨h,hd0⟩); omega
  ·omega
  ·have : ¬ (y < 0) := fun h9 => by rcases a2.1 h9 with h8 | h8 <;> omega
   omega
 unfold zbX
 rw [hn,e2,if_neg (fun e => h4 (.inl e)),hI,hS,← hrest]
 exact hs
theorem text_one (r s : Rat) : zbX r = zbX s ↔ r = s := by
 refine ⟨fun h => ?_,fun h => by rw [h]⟩
 have h1 := zgx r
 rw [h,zgx s] at h1
 exact (congrArg Prod.snd h1).symm
theorem read_er (s : List UInt8) : (zcW s).1 = .no ∨ ((zcW s).1 = .bare 91 ∨ ∃ (t : ByteArray) (k : Nat),(t = zdq ∨ t = zeh) ∧ (zcW s).1 = .spot 91 t k) ∧ (zcW s).2 = 0 := by
 unfold zcW
 split
 ·exact .inr ⟨.inr ⟨zdq,0,.inl rfl,rfl⟩,rfl⟩
 split
 ·exact .inl rfl
 split
 ·exact .inr ⟨.inr ⟨zeh,_,.inr rfl,rfl⟩,rfl⟩
 split
 ·exact .inr ⟨.inl rfl,rfl⟩
 ·exact .inl rfl
end Go.Proofs.YtfieheffipfahaaGreatDoor
