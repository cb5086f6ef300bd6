/- The reference's Print of any number -/
import Derived.Test.YthcfdggdippocaaGreatDoorC4
namespace Go.Proofs.YthcfdggdippocaaGreatDoor
open Go.RowKit Go.Lib

theorem refprint_any (a : Int) (w : World) (ha : Fits a) : Calls Tryz.prog 37 #[.int .i64 a] w fun e w' => e = .returned (.string ⟨(itoa a).toArray⟩) ∧ Below w.heap.size w w' := by
  obtain ⟨a1, a2⟩ := ha
  by_cases h : a < 0
  · have e : itoa a = if (true = true) then 45 :: decDigits a.natAbs else decDigits a.natAbs := by simp [itoa, h]
    rw [e]
    have K := fun w => of_neg (-a) w (by omega) (by omega)
    simp only [Int.neg_neg] at K
    exact refprint_walk true a _ _ a.natAbs w ⟨by omega, by omega⟩ ⟨by omega, by omega⟩ (by omega) K
  · have e : itoa a = if (false = true) then 45 :: decDigits a.toNat else decDigits a.toNat := by simp [itoa, h]
    rw [e]
    exact refprint_walk false a _ _ a.toNat w ⟨by omega, by omega⟩ ⟨by omega, by omega⟩ (by omega) (fun w => of_pos a w (by omega) a2)

end Go.Proofs.YthcfdggdippocaaGreatDoor
