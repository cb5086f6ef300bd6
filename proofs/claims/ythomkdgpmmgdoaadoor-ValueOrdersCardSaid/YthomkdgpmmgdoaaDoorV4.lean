/- Values: the reference's look whether one is plain. -/
import Derived.Test.YthomkdgpmmgdoaaDoorV3
namespace Go.Proofs.YthomkdgpmmgdoaaDoor
open Go.RowKit

theorem size_list (s : ByteArray) : s.toList.length = s.size := by rw [ByteArray.toList_eq]; simp
theorem empty_iff {s : ByteArray} : s.toList = (⟨#[]⟩ : ByteArray).toList ↔ s.size = 0 := by
  rw [← size_list, List.length_eq_zero_iff]
  have : (⟨#[]⟩ : ByteArray).toList = [] := by rw [ByteArray.toList_eq]
  rw [this]
theorem emptyB_iff {s : ByteArray} : s.toList.isEmpty = true ↔ s.size = 0 := by
  rw [← size_list, List.length_eq_zero_iff, List.isEmpty_iff]
theorem cut_iff {s : ByteArray} : s.toList = (cut s).toList ↔ s.size ≤ 200 := by
  constructor
  · intro h
    have := cut_size s
    rw [← size_list, ← h, size_list] at this
    exact this
  · intro h; rw [cut_small h]
theorem plainB_iff {k n : Int} {s : ByteArray} : plainB k n s = true ↔ (k = 0 ∧ n = 0 ∧ s.size = 0) ∨ (k = 1 ∧ s.size = 0) ∨ (k = 2 ∧ n = 0 ∧ s.size ≤ 200) ∨ (k = 3 ∧ s.size = 0 ∧ 0 ≤ n ∧ n ≤ 1) := by
  simp only [plainB, Bool.or_eq_true, same_iff, empty_iff, cut_iff, bit]
  by_cases h : n = 1
  · subst h; simp
  · have : (n == 1) = false := by simpa using h
    simp only [this, Bool.false_eq_true, if_false]
    constructor
    · rintro (((h1 | h1) | h1) | h1) <;> omega
    · rintro (h1 | h1 | h1 | h1)
      · exact .inl (.inl (.inl h1))
      · exact .inl (.inl (.inr ⟨h1.1, trivial, h1.2⟩))
      · exact .inl (.inr h1)
      · exact .inr ⟨h1.1, by omega, h1.2.1⟩
theorem retB {a b : Bool} (h : a = true ↔ b = true) : Ending.returned (.bool a) = .returned (.bool b) := by rw [Bool.eq_iff_iff.2 h]

set_option maxRecDepth 100000 in
set_option maxHeartbeats 1000000 in
theorem refplain0  (n : Int) (s : ByteArray) (w : World) :
    Calls Tryd.prog 11 #[val 0 n s] w fun e w' => e = .returned (.bool (plainB 0 n s)) ∧ Below w.heap.size w w' := by
  by_cases hn : n = 0
  · subst hn
    go_enter Tryd.func11, Tryd.ntmps11
    go_wp2
    go_ret
    exact ⟨retB (by rw [plainB_iff]; rw [emptyB_iff]; omega), (Below.refl _ _).alloc (Nat.le_refl _) _⟩
  · have hb : (n == 0) = false := by simpa using hn
    go_enter Tryd.func11, Tryd.ntmps11
    go_wp2
    go_ret
    exact ⟨retB (by rw [plainB_iff]; constructor <;> intro h <;> first | exact absurd h Bool.false_ne_true | (exfalso; omega)), (Below.refl _ _).alloc (Nat.le_refl _) _⟩

set_option maxRecDepth 100000 in
set_option maxHeartbeats 1000000 in
theorem refplain1  (n : Int) (s : ByteArray) (w : World) :
    Calls Tryd.prog 11 #[val 1 n s] w fun e w' => e = .returned (.bool (plainB 1 n s)) ∧ Below w.heap.size w w' := by
  go_enter Tryd.func11, Tryd.ntmps11
  go_wp2
  go_ret
  exact ⟨retB (by rw [plainB_iff]; rw [emptyB_iff]; omega), (Below.refl _ _).alloc (Nat.le_refl _) _⟩

set_option maxRecDepth 100000 in
set_option maxHeartbeats 1000000 in
theorem refplain2  (n : Int) (s : ByteArray) (w : World) :
    Calls Tryd.prog 11 #[val 2 n s] w fun e w' => e = .returned (.bool (plainB 2 n s)) ∧ Below w.heap.size w w' := by
  by_cases hn : n = 0
  · subst hn
    go_enter Tryd.func11, Tryd.ntmps11
    go_wp2
    go_ret
    exact ⟨retB (by rw [plainB_iff]; rw [decide_eq_true_iff]; omega), (Below.refl _ _).alloc (Nat.le_refl _) _⟩
  · have hb : (n == 0) = false := by simpa using hn
    go_enter Tryd.func11, Tryd.ntmps11
    go_wp2
    go_ret
    exact ⟨retB (by rw [plainB_iff]; constructor <;> intro h <;> first | exact absurd h Bool.false_ne_true | (exfalso; omega)), (Below.refl _ _).alloc (Nat.le_refl _) _⟩

set_option maxRecDepth 100000 in
set_option maxHeartbeats 1000000 in
theorem refplain3  (n : Int) (s : ByteArray) (w : World) :
    Calls Tryd.prog 11 #[val 3 n s] w fun e w' => e = .returned (.bool (plainB 3 n s)) ∧ Below w.heap.size w w' := by
  by_cases hs : s.size = 0
  · obtain rfl : s = ⟨#[]⟩ := ByteArray.ext (Array.eq_empty_of_size_eq_zero hs)
    by_cases hn : 0 ≤ n
    · go_enter Tryd.func11, Tryd.ntmps11
      go_wp2
      go_ret
      exact ⟨retB (by rw [plainB_iff]; rw [decide_eq_true_iff]; omega), (Below.refl _ _).alloc (Nat.le_refl _) _⟩
    · have hd : decide (0 ≤ n) = false := decide_eq_false hn
      go_enter Tryd.func11, Tryd.ntmps11
      go_wp2
      go_ret
      exact ⟨retB (by rw [plainB_iff]; constructor <;> intro h <;> first | exact absurd h Bool.false_ne_true | (exfalso; omega)), (Below.refl _ _).alloc (Nat.le_refl _) _⟩
  · have he : s.toList.isEmpty = false := by rw [Bool.eq_false_iff]; intro h; exact hs (emptyB_iff.1 h)
    go_enter Tryd.func11, Tryd.ntmps11
    go_wp2
    go_ret
    exact ⟨retB (by rw [plainB_iff]; constructor <;> intro h <;> first | exact absurd h Bool.false_ne_true | (exfalso; omega)), (Below.refl _ _).alloc (Nat.le_refl _) _⟩

set_option maxRecDepth 100000 in
set_option maxHeartbeats 1000000 in
theorem refplain4 (k n : Int) (s : ByteArray) (w : World) (h0 : k ≠ 0) (h1 : k ≠ 1) (h2 : k ≠ 2) (h3 : k ≠ 3) :
    Calls Tryd.prog 11 #[val k n s] w fun e w' => e = .returned (.bool (plainB k n s)) ∧ Below w.heap.size w w' := by
  have hb : (k == 3) = false := by simpa using h3
  go_enter Tryd.func11, Tryd.ntmps11
  go_wp2
  go_ret
  exact ⟨retB (by rw [plainB_iff]; constructor <;> intro h <;> first | exact absurd h Bool.false_ne_true | (exfalso; omega)), (Below.refl _ _).alloc (Nat.le_refl _) _⟩

theorem refplain_any (k n : Int) (s : ByteArray) (w : World) :
    Calls Tryd.prog 11 #[val k n s] w fun e w' => e = .returned (.bool (plainB k n s)) ∧ Below w.heap.size w w' := by
  by_cases h0 : k = 0
  · subst h0; exact refplain0 n s w
  by_cases h1 : k = 1
  · subst h1; exact refplain1 n s w
  by_cases h2 : k = 2
  · subst h2; exact refplain2 n s w
  by_cases h3 : k = 3
  · subst h3; exact refplain3 n s w
  exact refplain4 k n s w h0 h1 h2 h3
end Go.Proofs.YthomkdgpmmgdoaaDoor
