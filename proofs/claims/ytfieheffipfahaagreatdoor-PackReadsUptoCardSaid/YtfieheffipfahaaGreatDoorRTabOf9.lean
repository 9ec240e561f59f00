/- What this claim leans on. -/
import Derived.Test.YtfieheffipfahaaGreatDoorRJ9Enc
import Derived.LaidHandle
import Derived.LaidLaws
import Derived.LaidMore
import Derived.Lib.LaidTab
namespace Go.Proofs.YtfieheffipfahaaGreatDoor
open Go Go.RowKit
set_option maxHeartbeats 16000000
theorem tabG : Tryz.prog.globalNamed "math/bits.deBruijn64tab" = some 4:=by kernel_rfl
theorem tabT : (Tryz.prog.globals[4]?).map (·.type) = some 233:=by kernel_rfl
theorem tabC : Tryz.prog.cellsOf 233 = 64:=by kernel_rfl
theorem tabC1 : Tryz.prog.cellsOf 5 = 1:=by kernel_rfl
theorem errG : Tryz.prog.globalNamed "errors.errorType" = some 0:=by kernel_rfl
theorem errR : (Tryz.prog.cutTypes.find? (·.1 == "internal/reflectlite.rtype")).map (·.2) = some 164:=by kernel_rfl
theorem errOne : ((List.range Tryz.prog.types.size).filter fun t => Tryz.prog.rowNamed t [101,114,114,111,114]) = [44]:=by kernel_rfl
theorem tab9_of {W : World} (h : laidMetH Tryz.prog [("math/bits.deBruijn64tab",Rows.laid_math_bits_deBruijn64tab),("errors.errorType",Rows.laid_errors_errorType)] W) : Tab9 W:=by
 have h' : laidMet Tryz.prog [("math/bits.deBruijn64tab",Rows.laid_math_bits_deBruijn64tab)] W ∧ handlesMet Tryz.prog [("errors.errorType",Rows.laid_errors_errorType)] W:=h
 refine ⟨?_,?_⟩
 ·have hT : Lib.TabIs Tryz.prog W "math/bits.deBruijn64tab" .u8 (Lib.deBruijn64tab.map Int.ofNat) :=
   Lib.tabIs_of_head (rest:=[]) tabG tabT Tryz.underlying233 Tryz.underlying5 tabC1 tabC h'.1
  intro j hj
  have:=hT.cell tabG j (by simpa using hj)
  rw [this]
  simp only [List.getD_eq_getElem?_getD,List.getElem?_map]
  cases Lib.deBruijn64tab[j]? <;> rfl
 ·obtain ⟨name,u,ty,e1,e2,e3,e4,e5⟩:=h'.2 _ (List.mem_singleton.2 rfl)
  have en : name = [101,114,114,111,114]:=(Option.some.inj e1).symm
  subst en
  obtain rfl:=Option.some.inj (errR.symm.trans e2)
  have hm : ty ∈ (List.range Tryz.prog.types.size).filter fun t => Tryz.prog.rowNamed t [101,114,114,111,114]:=List.mem_filter.2 ⟨List.mem_range.2 e3,e4⟩
  rw [errOne] at hm
  obtain rfl:=List.mem_singleton.1 hm
  have hh : typeHandle Tryz.prog 44 = .pointer (some ⟨5,44,none⟩):=by kernel_rfl
  rw [hh] at e5
  unfold zdw
  simpa using World.var?_cell errG e5 0
end Go.Proofs.YtfieheffipfahaaGreatDoor
