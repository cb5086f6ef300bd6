/- What the list of laid variables gives. -/
import Derived.Test.YtfkbhlgoglmcpaaGreatDoorP0
import Derived.Test.YtfkbhlgoglmcpaaGreatDoorRD
import Derived.Stop.LaidErr
import Derived.Stop.Joined
namespace Go.Proofs.YtfkbhlgoglmcpaaGreatDoor
open Go.ChangeShapes Go.WideShapes Go.ChangeAt Go.RowKit
set_option linter.unusedVariables false
set_option maxRecDepth 100000

def nameOfD : DataW Unit → String
  | .iface nm _ => nm
  | _ => ("")
theorem rowE (u : TypeId) (h : Tryz.prog.typeName? 3 u = some (nameOfD Rows.laid_strconv_ErrRange)) : u = 196 :=
  typeName_ptr_named (nm := ("errors.errorString")) (by kernel_rfl) (by kernel_rfl) (by decide) u (h.trans (congrArg some (by decide)))
theorem cellsE : Tryz.prog.cellsOf 198 = 1 := by kernel_rfl
theorem cellsS : Tryz.prog.cellsOf 9 = 1 := by kernel_rfl
theorem cellsU : Tryz.prog.cellsOf 160 = 1 := by kernel_rfl
theorem cellsT : Tryz.prog.cellsOf 192 = 20 := by kernel_rfl
theorem rangeType : (Tryz.prog.globals[3]?).map (·.type) = some 137 := by kernel_rfl
theorem powType : ((Tryz.prog.globalNamed powName).bind fun g => (Tryz.prog.globals[g]?).map (·.type)) = some 192 := by kernel_rfl
theorem env_of {W : World} (h : laidMet Tryz.prog Rows.inferPutsRow.laid W) {m : Int} (hm : MaxAt W m) : ∃ a, Env W a m := by
  obtain ⟨a, s, hv, -, -, -⟩ := laid_sentinel (tp := 196) (te := 198) (ts := 9) h.tail.tail.tail.tail errRange_at rangeType Tryz.underlying137 rowE Tryz.underlying196 Tryz.underlying198 rfl rfl Tryz.underlying9 cellsE cellsS
  obtain ⟨g, hg, -⟩ := pow10_at
  have ht := powType
  rw [hg] at ht
  exact ⟨a, Lib.tabIs_of_head hg ht Tryz.underlying192 Tryz.underlying160 cellsU cellsT h.tail.tail, hv, hm⟩
end Go.Proofs.YtfkbhlgoglmcpaaGreatDoor
