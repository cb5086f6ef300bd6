/- What the list of laid variables gives. -/
import Derived.Test.YthomkdgpmmgdoaaDoorP0
import Derived.Test.YthomkdgpmmgdoaaDoorRD
import Derived.Stop.LaidErr
import Derived.Stop.Joined
namespace Go.Proofs.YthomkdgpmmgdoaaDoor
open Go.ChangeShapes Go.WideShapes Go.ChangeAt Go.RowKit
set_option linter.unusedVariables false
set_option maxRecDepth 100000

def nameOfD : DataW Unit → String
  | .iface nm _ => nm
  | _ => ("")
theorem rowE (u : TypeId) (h : Tryd.prog.typeName? 3 u = some (nameOfD Rows.laid_strconv_ErrRange)) : u = 136 :=
  typeName_ptr_named (nm := ("errors.errorString")) (by kernel_rfl) (by kernel_rfl) (by decide) u (h.trans (congrArg some (by decide)))
theorem cellsE : Tryd.prog.cellsOf 138 = 1 := by kernel_rfl
theorem cellsS : Tryd.prog.cellsOf 9 = 1 := by kernel_rfl
theorem cellsU : Tryd.prog.cellsOf 58 = 1 := by kernel_rfl
theorem cellsT : Tryd.prog.cellsOf 97 = 20 := by kernel_rfl
theorem rangeType : (Tryd.prog.globals[0]?).map (·.type) = some 72 := by kernel_rfl
theorem powType : ((Tryd.prog.globalNamed powName).bind fun g => (Tryd.prog.globals[g]?).map (·.type)) = some 97 := by kernel_rfl
theorem env_of {W : World} (h : laidMet Tryd.prog Rows.valueTellsRow.laid W) {m : Int} (hm : MaxAt W m) : ∃ a, Env W a m := by
  obtain ⟨a, s, hv, -, -, -⟩ := laid_sentinel (tp := 136) (te := 138) (ts := 9) h.tail.tail.tail.tail errRange_at rangeType Tryd.underlying72 rowE Tryd.underlying136 Tryd.underlying138 rfl rfl Tryd.underlying9 cellsE cellsS
  obtain ⟨g, hg, -⟩ := pow10_at
  have ht := powType
  rw [hg] at ht
  exact ⟨a, Lib.tabIs_of_head hg ht Tryd.underlying97 Tryd.underlying58 cellsU cellsT h.tail.tail, hv, hm⟩
end Go.Proofs.YthomkdgpmmgdoaaDoor
