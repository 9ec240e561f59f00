/- What this claim leans on. -/
import Derived.Test.YtipmllfnpldbdaaGreatDoorYW9Tab
import Derived.LaidHandle
import Derived.LaidLaws
import Derived.LaidMore
import Derived.Lib.LaidTab
set_option linter.unusedVariables false
set_option linter.unusedSimpArgs false
namespace Go.Proofs.YtipmllfnpldbdaaGreatDoor
open Go Go.RowKit Go.Proofs.Tryz
set_option maxHeartbeats 16000000
theorem lJ : prog.globalNamed "math/bits.deBruijn64tab" = some 1:=zm
theorem ia:(prog.globals[1]?).map (·.type)=some 218:=zm
theorem jZ:prog.cellsOf 218=64:=zm
theorem lI:prog.cellsOf 5=1:=zm
theorem jK : prog.globalNamed "errors.errorType" = some 0:=zm
theorem jL : (prog.cutTypes.find? (·.1 == "internal/reflectlite.rtype")).map (·.2) = some 181:=zm
theorem o8:((List.range prog.types.size).filter λt=>prog.rowNamed t [101,114,114,111,114])=[37]:=zm
theorem kH {W : World} (h : laidMetH prog [("math/bits.deBruijn64tab",Rows.laid_math_bits_deBruijn64tab),("errors.errorType",Rows.laid_errors_errorType)] W) : uW W:=by
 have h' : laidMet prog [("math/bits.deBruijn64tab",Rows.laid_math_bits_deBruijn64tab)] W ∧ handlesMet prog [("errors.errorType",Rows.laid_errors_errorType)] W:=h
 refine⟨?_,?_⟩
 ·have hT : Lib.TabIs prog W "math/bits.deBruijn64tab" .u8 (Lib.deBruijn64tab.map Int.ofNat) :=
   Lib.tabIs_of_head (rest:=[]) lJ ia underlying218 underlying5 lI jZ h'.1
  intro j hj;have:=hT.cell lJ j (by simpa using hj);rw [this];simp only [qQ,QB];cases Lib.deBruijn64tab[j]?<;>rfl
 ·obtain⟨a,u,ty,e1,e2,e3,e4,e5⟩:=h'.2 _ (List.mem_singleton.2 rfl);have en:a=[101,114,114,111,114]:=(Option.some.inj e1).symm;subst en;obtain rfl:=Option.some.inj (jL.symm.trans e2);have hm:ty ∈(List.range prog.types.size).filter λt=>prog.rowNamed t [101,114,114,111,114]:=List.mem_filter.2 ⟨List.mem_range.2 e3,e4⟩;rw [o8] at hm;obtain rfl:=List.mem_singleton.1 hm;have hh:typeHandle prog 37=.pointer (some ⟨4,37,none⟩):=zm;rw [hh] at e5;unfold uD;simpa using World.var?_cell jK e5 0
