import Derived.Test.YteghhmomhlnccaaGreatDoorZV3

/- Values: plain facts of being plain. -/
namespace Go.Proofs.YteghhmomhlnccaaGreatDoor
open Go.RowKit

theorem size_list (s : ByteArray) : s.toList.length = s.size := by rw [ByteArray.toList_eq]; simp
theorem empty_iff {s : ByteArray} : s.toList = (⟨#[]⟩ : ByteArray).toList ↔ s.size = 0 := by
  rw [← size_list, List.length_eq_zero_iff]
  have : (⟨#[]⟩ : ByteArray).toList = [] := by rw [ByteArray.toList_eq]
  rw [this]
theorem cut_iff {s : ByteArray} : s.toList = (cut s).toList ↔ s.size ≤ 200 := by
  constructor
  · intro h
    have := cut_size s
    rw [← size_list, ← h, size_list] at this
    exact this
  · intro h; rw [cut_small h]
theorem plainB_iff {k n : Int} {s : ByteArray} : plainB k n s = true ↔ (k = 0 ∧ n = 0 ∧ s.size = 0) ∨ (k = 1 ∧ s.size = 0) ∨ (k = 2 ∧ n = 0 ∧ s.size ≤ 200) ∨ (k = 3 ∧ s.size = 0 ∧ 0 ≤ n ∧ n ≤ 1) := by
  simp only [plainB, Bool.or_eq_true, same_iff, empty_iff, cut_iff, bit]
  by_cases h : n = 1
  · subst h; simp
  · have : (n == 1) = false := by simpa using h
    simp only [this, Bool.false_eq_true, if_false]
    constructor
    · rintro (((h1 | h1) | h1) | h1) <;> omega
    · rintro (h1 | h1 | h1 | h1)
      · exact .inl (.inl (.inl h1))
      · exact .inl (.inl (.inr ⟨h1.1, trivial, h1.2⟩))
      · exact .inl (.inr h1)
      · exact .inr ⟨h1.1, by omega, h1.2.1⟩
end Go.Proofs.YteghhmomhlnccaaGreatDoor
