/- What this claim leans on. -/
import Derived.Test.YtfieheffipfahaaGreatDoorTBun6b
import Derived.Lib.Bytealg
import Derived.Lib.Slices
import Derived.Lib.Strings
import Derived.Lib.Walk
namespace Go.Proofs.YtfieheffipfahaaGreatDoor
open Go Go.RowKit
set_option maxHeartbeats 16000000
set_option maxRecDepth 100000
set_option linter.unusedVariables false
set_option linter.unusedSimpArgs false
theorem zhH : ∀ (L : List UInt8),Lib.indexByte L 47 = if zcV L = [] then -1 else ((zbh L).length : Int)
 | [] => rfl
 | c :: t => by
   have ih := zhH t
   unfold Lib.indexByte zcV zbh
   rw [List.dropWhile_cons,List.takeWhile_cons]
   by_cases hc : c = 47
   ·subst hc; simp
   ·have h1 : (c == 47) = false := by rw [beq_eq_false_iff_ne]; exact hc
    have h2 : (c != 47) = true := by rw [bne_iff_ne]; exact hc
    rw [h1,h2,if_neg (by decide),if_pos rfl,if_pos rfl]
    have hr : t.dropWhile (· != 47) = zcV t := rfl
    have hh : t.takeWhile (· != 47) = zbh t := rfl
    rw [hr,hh,ih]
    by_cases h3 : zcV t = []
    ·rw [if_pos h3,if_pos h3]; rfl
    ·rw [if_neg h3,if_neg h3,if_neg (by rw [beq_iff_eq]; omega)]; simp
theorem znV (L : List UInt8) : L.take (zbh L).length = zbh L := by
 have h := zdb L
 generalize zbh L = H at *
 rw [← h,List.take_left]
theorem zor (L : List UInt8) : L.drop ((zbh L).length + 1) = zcW L := by
 have h := zdb L
 unfold zcW
 generalize zbh L = H at *
 generalize zcV L = R at *
 rw [← h,← List.drop_drop,List.drop_left]
theorem head_len (L : List UInt8) (h : zcV L ≠ []) : (zbh L).length + 1 ≤ L.length := by
 have e := congrArg List.length (zdb L)
 rw [List.length_append] at e
 have : 0 < (zcV L).length := List.length_pos_iff.2 h
 omega
theorem zkK (L : List UInt8) (w : World) :
  Calls Tryz.prog 145 #[.string (zas L),.int .u8 47] w fun e w' => e = .returned (.int .i64 (Lib.indexByte L 47)) ∧ w' = w := by
 have hx := @run_callFunc_extern Tryz.prog 159 _ Extern.BytealgIndexByte.indexByte Tryz.func159 (by kernel_rfl) (by kernel_rfl) (by kernel_rfl) (by kernel_rfl)
 have hi : ∀ w,(Extern.BytealgIndexByte.indexByte #[.string (zas L),.int .u8 47]).run Tryz.prog w = .ok (.int .i64 (Lib.indexByte L 47)) w := fun w => Lib.run_indexByteString (zas L) 47 w
 obtain ⟨z,hz⟩ : ∃ z,Lib.indexByte L 47 = z := ⟨_,rfl⟩
 rw [hz]
 simp only [hz] at hi
 clear hz
 go_enter Tryz.func145,Tryz.ntmps145
 go_wp2
 go_ret
 exact ⟨rfl,rfl⟩
theorem index9 (L : List UInt8) (w : World) :
  Calls Tryz.prog 129 #[.string (zas L),.string { data := #[47] }] w fun e w' => e = .returned (.int .i64 (Lib.indexByte L 47)) ∧ w' = w := by
 by_cases h : L = [47]
 ·have hz : Lib.indexByte L 47 = 0 := by rw [h]; decide
  have q1 : ([47] == (zas L).toList) = true := by rw [h]; exact zcZ (zas [47]) [47] true (by decide) |> fun e => by rw [beq_iff_eq] at e ⊢; exact e.symm
  rw [hz]
  clear hz h
  go_enter Tryz.func129,Tryz.ntmps129
  go_wp2
  go_ret
  exact ⟨rfl,rfl⟩
 ·have q1 : ([47] == (zas L).toList) = false := by
   have e := zcZ (zas L) [47] false (by simp [zbk,h])
   rw [beq_eq_false_iff_ne] at e ⊢
   exact fun h9 => e h9.symm
  have HI := lh9 (zkK L w)
  obtain ⟨z,hz⟩ : ∃ z,Lib.indexByte L 47 = z := ⟨_,rfl⟩
  rw [hz] at HI ⊢
  clear hz h
  go_enter Tryz.func129,Tryz.ntmps129
  go_wp2_with fail
  refine HI.out.mono ?_
  rintro e w' ⟨rfl,rfl⟩
  clear HI
  go_wp2
  go_ret
  exact ⟨rfl,rfl⟩
theorem znI (b : Bool) (L : List UInt8) (w : World) (hb : decide (zcV L ≠ []) = b) (hn : L.length ≤ 2147483648) :
  Calls Tryz.prog 101 #[.string (zas L),.string { data := #[47] }] w fun e w' => e = .returned (.tuple #[.string (zas (zbh L)),.string (zas (zcW L)),.bool b]) ∧ Below w.heap.size w w' := by
 have HI := lh9 (index9 L w)
 rw [zhH] at HI
 cases b with
 | false =>
   have hr : zcV L = [] := by simpa using hb
   have hh : zbh L = L := by have := zdb L; rw [hr,List.append_nil] at this; exact this
   have ht : Hid (zas (zcW L) = { data := #[] }) := by show _ = _; unfold zcW; rw [hr]; rfl
   rw [if_pos hr] at HI
   rw [hh]
   obtain ⟨T,hT⟩ : ∃ x,zas (zcW L) = x := ⟨_,rfl⟩
   rw [hT] at ht ⊢
   clear hb hr hh hT
   go_enter Tryz.func101,Tryz.ntmps101
   go_wp2_with fail
   refine HI.out.mono ?_
   rintro e w' ⟨rfl,rfl⟩
   clear HI
   go_wp2
   refine bodyPost_ret (v := .tuple #[.string (zas L),.string { data := #[] },.bool false]) (by simp [results,Tryz.results101,go_sem]) rfl ?_
   exact ⟨by rw [ht.out],Below.refl _ _⟩
 | true =>
   have hr : zcV L ≠ [] := by simpa using hb
   have hl := head_len L hr
   have s1 : ∀ w,(Instr.slice 9 (.string (zas L)) none (some (.int .i64 ((zbh L).length : Int))) none).run Tryz.prog w = .ok (.string (zas (zbh L))) w := fun w => by
    have := zjZ (P := Tryz.prog) Tryz.underlying9 L (zbh L).length (by omega) w
    rw [znV] at this; exact this
   have s2 : ∀ w,(Instr.slice 9 (.string (zas L)) (some (.int .i64 (((zbh L).length : Int) + 1))) none none).run Tryz.prog w = .ok (.string (zas (zcW L))) w := fun w => by
    have := zfZ (P := Tryz.prog) Tryz.underlying9 L ((zbh L).length + 1) (by omega) w
    rw [zor] at this; exact this
   rw [if_neg hr] at HI
   obtain ⟨H,hH⟩ : ∃ x,zas (zbh L) = x := ⟨_,rfl⟩
   obtain ⟨T,hT⟩ : ∃ x,zas (zcW L) = x := ⟨_,rfl⟩
   obtain ⟨k,hk⟩ : ∃ x,(zbh L).length = x := ⟨_,rfl⟩
   have hLL : L.length ≤ 9223372036854775806 ∨ True := .inr trivial
   rw [hH,hT]
   simp only [hH,hk] at s1
   simp only [hT,hk] at s2
   rw [hk] at HI hl
   by_cases hlen : L.length ≤ 9223372036854775807
   ·have i1 : IntKind.i64.wrap ((k : Int) + 1) = (k : Int) + 1 := IntWalk.i64_in _ (by omega)
    have i2 : (0 : Int) ≤ (k : Int) := by omega
    clear hb hr hH hT hk hLL
    go_enter Tryz.func101,Tryz.ntmps101
    go_wp2_with fail
    refine HI.out.mono ?_
    rintro e w' ⟨rfl,rfl⟩
    clear HI
    go_wp2_with fail
    go_region
    go_wp2
    refine bodyPost_ret (v := .tuple #[.string H,.string T,.bool true]) (by simp [results,Tryz.results101,go_sem]) rfl ?_
    exact ⟨rfl,(Below.refl _ _).drew⟩
   ·exact absurd hlen (by omega)
theorem zlv (b : Bool) (L : List UInt8) (w : World) (hb : decide (zcV L ≠ []) = b) (hn : L.length ≤ 2147483648) :
  Calls Tryz.prog 54 #[.string (zas L),.string { data := #[47] }] w fun e w' => e = .returned (.tuple #[.string (zas (zbh L)),.string (zas (zcW L)),.bool b]) ∧ Below w.heap.size w w' := by
 have HC := lh9 (znI b L w hb hn)
 obtain ⟨H,hH⟩ : ∃ x,zas (zbh L) = x := ⟨_,rfl⟩
 obtain ⟨T,hT⟩ : ∃ x,zas (zcW L) = x := ⟨_,rfl⟩
 rw [hH,hT] at HC ⊢
 clear hH hT hb
 go_enter Tryz.func54,Tryz.ntmps54
 go_wp2_with fail
 refine HC.out.mono ?_
 rintro e w' ⟨rfl,hb⟩
 clear HC
 go_wp2
 refine bodyPost_ret (v := .tuple #[.string H,.string T,.bool b]) (by simp [results,Tryz.results54,go_sem]) rfl ?_
 exact ⟨rfl,hb⟩
end Go.Proofs.YtfieheffipfahaaGreatDoor
