import Derived.Test.YteghhmomhlnccaaGreatDoorZP0
import Derived.Test.YteghhmomhlnccaaGreatDoorZRD
import Derived.Stop.LaidErr
import Derived.Stop.Joined

/- What the list of laid variables gives. -/
namespace Go.Proofs.YteghhmomhlnccaaGreatDoor
open Go.ChangeShapes Go.WideShapes Go.ChangeAt Go.RowKit
set_option linter.unusedVariables false
set_option maxRecDepth 100000

def nameOfD : DataW Unit → String
  | .iface nm _ => nm
  | _ => ("")
theorem rowE (u : TypeId) (h : Tryz.prog.typeName? 3 u = some (nameOfD Rows.laid_strconv_ErrRange)) : u = 242 :=
  typeName_ptr_named (nm := ("errors.errorString")) (by kernel_rfl) (by kernel_rfl) (by decide) u (h.trans (congrArg some (by decide)))
theorem cellsE : Tryz.prog.cellsOf 244 = 1 := by kernel_rfl
theorem cellsS : Tryz.prog.cellsOf 9 = 1 := by kernel_rfl
theorem cellsU : Tryz.prog.cellsOf 70 = 1 := by kernel_rfl
theorem cellsT : Tryz.prog.cellsOf 225 = 20 := by kernel_rfl
theorem rangeType : (Tryz.prog.globals[0]?).map (·.type) = some 168 := by kernel_rfl
theorem powType : ((Tryz.prog.globalNamed powName).bind fun g => (Tryz.prog.globals[g]?).map (·.type)) = some 225 := by kernel_rfl
theorem env_of {W : World} (h : laidMet Tryz.prog Rows.evalTellsRow.laid W) {m : Int} (hm : MaxAt W m) : ∃ a, Env W a m := by
  obtain ⟨a, s, hv, -, -, -⟩ := laid_sentinel (tp := 242) (te := 244) (ts := 9) h.tail.tail.tail.tail errRange_at rangeType Tryz.underlying168 rowE Tryz.underlying242 Tryz.underlying244 rfl rfl Tryz.underlying9 cellsE cellsS
  obtain ⟨g, hg, -⟩ := pow10_at
  have ht := powType
  rw [hg] at ht
  exact ⟨a, Lib.tabIs_of_head hg ht Tryz.underlying225 Tryz.underlying70 cellsU cellsT h.tail.tail, hv, hm⟩
end Go.Proofs.YteghhmomhlnccaaGreatDoor
