/- What the list of laid variables gives. -/
import Derived.Test.YthomkdgpmmgdoaaGreatDoorP0
import Derived.Test.YthomkdgpmmgdoaaGreatDoorRD
import Derived.Stop.LaidErr
import Derived.Stop.Joined
namespace Go.Proofs.YthomkdgpmmgdoaaGreatDoor
open Go.ChangeShapes Go.WideShapes Go.ChangeAt Go.RowKit
set_option linter.unusedVariables false
set_option maxRecDepth 100000

def nameOfD : DataW Unit → String
  | .iface nm _ => nm
  | _ => ("")
theorem rowE (u : TypeId) (h : Tryz.prog.typeName? 3 u = some (nameOfD Rows.laid_strconv_ErrRange)) : u = 123 :=
  typeName_ptr_named (nm := ("errors.errorString")) (by kernel_rfl) (by kernel_rfl) (by decide) u (h.trans (congrArg some (by decide)))
theorem cellsE : Tryz.prog.cellsOf 125 = 1 := by kernel_rfl
theorem cellsS : Tryz.prog.cellsOf 9 = 1 := by kernel_rfl
theorem cellsU : Tryz.prog.cellsOf 42 = 1 := by kernel_rfl
theorem cellsT : Tryz.prog.cellsOf 103 = 20 := by kernel_rfl
theorem rangeType : (Tryz.prog.globals[0]?).map (·.type) = some 52 := by kernel_rfl
theorem powType : ((Tryz.prog.globalNamed powName).bind fun g => (Tryz.prog.globals[g]?).map (·.type)) = some 103 := by kernel_rfl
theorem env_of {W : World} (h : laidMet Tryz.prog Rows.valueReadsRow.laid W) {m : Int} (hm : MaxAt W m) : ∃ a, Env W a m := by
  obtain ⟨a, s, hv, -, -, -⟩ := laid_sentinel (tp := 123) (te := 125) (ts := 9) h.tail.tail.tail.tail errRange_at rangeType Tryz.underlying52 rowE Tryz.underlying123 Tryz.underlying125 rfl rfl Tryz.underlying9 cellsE cellsS
  obtain ⟨g, hg, -⟩ := pow10_at
  have ht := powType
  rw [hg] at ht
  exact ⟨a, Lib.tabIs_of_head hg ht Tryz.underlying103 Tryz.underlying42 cellsU cellsT h.tail.tail, hv, hm⟩
end Go.Proofs.YthomkdgpmmgdoaaGreatDoor
