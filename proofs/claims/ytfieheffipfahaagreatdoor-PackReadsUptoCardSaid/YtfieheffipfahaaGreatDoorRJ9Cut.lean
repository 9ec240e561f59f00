/- What this claim leans on. -/
import Derived.Test.YtfieheffipfahaaGreatDoorRBun6b
import Derived.Lib.Bytealg
import Derived.Lib.Slices
import Derived.Lib.Strings
import Derived.Lib.Walk
namespace Go.Proofs.YtfieheffipfahaaGreatDoor
open Go Go.RowKit
set_option maxHeartbeats 16000000
set_option maxRecDepth 100000
set_option linter.unusedVariables false
set_option linter.unusedSimpArgs false
theorem ziK : ∀ (L : List UInt8),Lib.indexByte L 47 = if zba L = [] then -1 else ((zap L).length : Int)
 | [] => rfl
 | c :: t => by
   have ih:=ziK t
   unfold Lib.indexByte zba zap
   rw [List.dropWhile_cons,List.takeWhile_cons]
   by_cases hc : c = 47
   ·subst hc; simp
   ·have h1 : (c == 47) = false:=by rw [beq_eq_false_iff_ne]; exact hc
    have h2 : (c != 47) = true:=by rw [bne_iff_ne]; exact hc
    rw [h1,h2,if_neg (by decide),if_pos rfl,if_pos rfl]
    have hr : t.dropWhile (· != 47) = zba t:=rfl
    have hh : t.takeWhile (· != 47) = zap t:=rfl
    rw [hr,hh,ih]
    by_cases h3 : zba t = []
    ·rw [if_pos h3,if_pos h3]; rfl
    ·rw [if_neg h3,if_neg h3,if_neg (by rw [beq_iff_eq]; omega)]; simp
theorem zka (L : List UInt8) : L.take (zap L).length = zap L:=by
 have h:=zaZ L
 generalize zap L = H at *
 rw [← h,List.take_left]
theorem zkB (L : List UInt8) : L.drop ((zap L).length + 1) = zaw L:=by
 have h:=zaZ L
 unfold zaw
 generalize zap L = H at *
 generalize zba L = R at *
 rw [← h,← List.drop_drop,List.drop_left]
theorem zmp (L : List UInt8) (h : zba L ≠ []) : (zap L).length + 1 ≤ L.length:=by
 have e:=congrArg List.length (zaZ L)
 rw [List.length_append] at e
 have : 0 < (zba L).length:=List.length_pos_iff.2 h
 omega
theorem zmr (L : List UInt8) (w : World) :
  Calls Tryz.prog 145 #[.string (zau L),.int .u8 47] w fun e w' => e = .returned (.int .i64 (Lib.indexByte L 47)) ∧ w' = w:=by
 have hx:=@run_callFunc_extern Tryz.prog 159 _ Extern.BytealgIndexByte.indexByte Tryz.func159 (by kernel_rfl) (by kernel_rfl) (by kernel_rfl) (by kernel_rfl)
 have hi : ∀ w,(Extern.BytealgIndexByte.indexByte #[.string (zau L),.int .u8 47]).run Tryz.prog w = .ok (.int .i64 (Lib.indexByte L 47)) w:=fun w => Lib.run_indexByteString (zau L) 47 w
 obtain ⟨z,hz⟩ : ∃ z,Lib.indexByte L 47 = z:=⟨_,rfl⟩
 rw [hz]
 simp only [hz] at hi
 clear hz
 go_enter Tryz.func145,Tryz.ntmps145
 go_wp2
 go_ret
 exact ⟨rfl,rfl⟩
theorem index9 (L : List UInt8) (w : World) :
  Calls Tryz.prog 129 #[.string (zau L),.string { data:=#[47] }] w fun e w' => e = .returned (.int .i64 (Lib.indexByte L 47)) ∧ w' = w:=by
 by_cases h : L = [47]
 ·have hz : Lib.indexByte L 47 = 0:=by rw [h]; decide
  have q1 : ([47] == (zau L).toList) = true:=by rw [h]; exact zcN (zau [47]) [47] true (by decide) |> fun e => by rw [beq_iff_eq] at e ⊢; exact e.symm
  rw [hz]
  clear hz h
  go_enter Tryz.func129,Tryz.ntmps129
  go_wp2
  go_ret
  exact ⟨rfl,rfl⟩
 ·have q1 : ([47] == (zau L).toList) = false:=by
   have e:=zcN (zau L) [47] false (by simp [zaI,h])
   rw [beq_eq_false_iff_ne] at e ⊢
   exact fun h9 => e h9.symm
  have HI:=lh9 (zmr L w)
  obtain ⟨z,hz⟩ : ∃ z,Lib.indexByte L 47 = z:=⟨_,rfl⟩
  rw [hz] at HI ⊢
  clear hz h
  go_enter Tryz.func129,Tryz.ntmps129
  go_wp2_with fail
  refine HI.out.mono ?_
  rintro e w' ⟨rfl,rfl⟩
  clear HI
  go_wp2
  go_ret
  exact ⟨rfl,rfl⟩
theorem zpo (b : Bool) (L : List UInt8) (w : World) (hb : decide (zba L ≠ []) = b) (hn : L.length ≤ 2147483648) :
  Calls Tryz.prog 101 #[.string (zau L),.string { data:=#[47] }] w fun e w' => e = .returned (.tuple #[.string (zau (zap L)),.string (zau (zaw L)),.bool b]) ∧ Below w.heap.size w w':=by
 have HI:=lh9 (index9 L w)
 rw [ziK] at HI
 cases b with
 | false =>
   have hr : zba L = []:=by simpa using hb
   have hh : zap L = L:=by have:=zaZ L; rw [hr,List.append_nil] at this; exact this
   have ht : Hid (zau (zaw L) = { data:=#[] }):=by show _ = _; unfold zaw; rw [hr]; rfl
   rw [if_pos hr] at HI
   rw [hh]
   obtain ⟨T,hT⟩ : ∃ x,zau (zaw L) = x:=⟨_,rfl⟩
   rw [hT] at ht ⊢
   clear hb hr hh hT
   go_enter Tryz.func101,Tryz.ntmps101
   go_wp2_with fail
   refine HI.out.mono ?_
   rintro e w' ⟨rfl,rfl⟩
   clear HI
   go_wp2
   refine bodyPost_ret (v:=.tuple #[.string (zau L),.string { data:=#[] },.bool false]) (by simp [results,Tryz.results101,go_sem]) rfl ?_
   exact ⟨by rw [ht.out],Below.refl _ _⟩
 | true =>
   have hr : zba L ≠ []:=by simpa using hb
   have hl:=zmp L hr
   have s1 : ∀ w,(Instr.slice 9 (.string (zau L)) none (some (.int .i64 ((zap L).length : Int))) none).run Tryz.prog w = .ok (.string (zau (zap L))) w:=fun w => by
    have:=zjq (P:=Tryz.prog) Tryz.underlying9 L (zap L).length (by omega) w
    rw [zka] at this; exact this
   have s2 : ∀ w,(Instr.slice 9 (.string (zau L)) (some (.int .i64 (((zap L).length : Int) + 1))) none none).run Tryz.prog w = .ok (.string (zau (zaw L))) w:=fun w => by
    have:=zew (P:=Tryz.prog) Tryz.underlying9 L ((zap L).length + 1) (by omega) w
    rw [zkB] at this; exact this
   rw [if_neg hr] at HI
   obtain ⟨H,hH⟩ : ∃ x,zau (zap L) = x:=⟨_,rfl⟩
   obtain ⟨T,hT⟩ : ∃ x,zau (zaw L) = x:=⟨_,rfl⟩
   obtain ⟨k,hk⟩ : ∃ x,(zap L).length = x:=⟨_,rfl⟩
   have hLL : L.length ≤ 9223372036854775806 ∨ True:=.inr trivial
   rw [hH,hT]
   simp only [hH,hk] at s1
   simp only [hT,hk] at s2
   rw [hk] at HI hl
   by_cases hlen : L.length ≤ 9223372036854775807
   ·have i1 : IntKind.i64.wrap ((k : Int) + 1) = (k : Int) + 1:=IntWalk.i64_in _ (by omega)
    have i2 : (0 : Int) ≤ (k : Int):=by omega
    clear hb hr hH hT hk hLL
    go_enter Tryz.func101,Tryz.ntmps101
    go_wp2_with fail
    refine HI.out.mono ?_
    rintro e w' ⟨rfl,rfl⟩
    clear HI
    go_wp2_with fail
    go_region
    go_wp2
    refine bodyPost_ret (v:=.tuple #[.string H,.string T,.bool true]) (by simp [results,Tryz.results101,go_sem]) rfl ?_
    exact ⟨rfl,(Below.refl _ _).drew⟩
   ·exact absurd hlen (by omega)
theorem zct (b : Bool) (L : List UInt8) (w : World) (hb : decide (zba L ≠ []) = b) (hn : L.length ≤ 2147483648) :
  Calls Tryz.prog 54 #[.string (zau L),.string { data:=#[47] }] w fun e w' => e = .returned (.tuple #[.string (zau (zap L)),.string (zau (zaw L)),.bool b]) ∧ Below w.heap.size w w':=by
 have HC:=lh9 (zpo b L w hb hn)
 obtain ⟨H,hH⟩ : ∃ x,zau (zap L) = x:=⟨_,rfl⟩
 obtain ⟨T,hT⟩ : ∃ x,zau (zaw L) = x:=⟨_,rfl⟩
 rw [hH,hT] at HC ⊢
 clear hH hT hb
 go_enter Tryz.func54,Tryz.ntmps54
 go_wp2_with fail
 refine HC.out.mono ?_
 rintro e w' ⟨rfl,hb⟩
 clear HC
 go_wp2
 refine bodyPost_ret (v:=.tuple #[.string H,.string T,.bool b]) (by simp [results,Tryz.results54,go_sem]) rfl ?_
 exact ⟨rfl,hb⟩
end Go.Proofs.YtfieheffipfahaaGreatDoor
