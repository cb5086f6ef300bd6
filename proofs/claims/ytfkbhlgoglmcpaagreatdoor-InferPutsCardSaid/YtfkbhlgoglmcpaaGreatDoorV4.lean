/- Values: the reference's look whether one is plain. -/
import Derived.Test.YtfkbhlgoglmcpaaGreatDoorM4
namespace Go.Proofs.YtfkbhlgoglmcpaaGreatDoor
open Go.RowKit

set_option maxRecDepth 100000 in
set_option maxHeartbeats 1000000 in
theorem refplain0  (n : Int) (s : ByteArray) (w : World) :
    Calls Tryz.prog 53 #[val 0 n s] w fun e w' => e = .returned (.bool (plainB 0 n s)) ∧ Below w.heap.size w w' := by
  by_cases hn : n = 0
  · subst hn
    go_enter Tryz.func53, Tryz.ntmps53
    go_wp2
    go_ret
    exact ⟨retB (by rw [plainB_iff]; rw [emptyB_iff]; omega), (Below.refl _ _).alloc (Nat.le_refl _) _⟩
  · have hb : (n == 0) = false := by simpa using hn
    go_enter Tryz.func53, Tryz.ntmps53
    go_wp2
    go_ret
    exact ⟨retB (by rw [plainB_iff]; constructor <;> intro h <;> first | exact absurd h Bool.false_ne_true | (exfalso; omega)), (Below.refl _ _).alloc (Nat.le_refl _) _⟩

set_option maxRecDepth 100000 in
set_option maxHeartbeats 1000000 in
theorem refplain1  (n : Int) (s : ByteArray) (w : World) :
    Calls Tryz.prog 53 #[val 1 n s] w fun e w' => e = .returned (.bool (plainB 1 n s)) ∧ Below w.heap.size w w' := by
  go_enter Tryz.func53, Tryz.ntmps53
  go_wp2
  go_ret
  exact ⟨retB (by rw [plainB_iff]; rw [emptyB_iff]; omega), (Below.refl _ _).alloc (Nat.le_refl _) _⟩

set_option maxRecDepth 100000 in
set_option maxHeartbeats 1000000 in
theorem refplain2  (n : Int) (s : ByteArray) (w : World) :
    Calls Tryz.prog 53 #[val 2 n s] w fun e w' => e = .returned (.bool (plainB 2 n s)) ∧ Below w.heap.size w w' := by
  by_cases hn : n = 0
  · subst hn
    go_enter Tryz.func53, Tryz.ntmps53
    go_wp2
    go_ret
    exact ⟨retB (by rw [plainB_iff]; rw [decide_eq_true_iff]; omega), (Below.refl _ _).alloc (Nat.le_refl _) _⟩
  · have hb : (n == 0) = false := by simpa using hn
    go_enter Tryz.func53, Tryz.ntmps53
    go_wp2
    go_ret
    exact ⟨retB (by rw [plainB_iff]; constructor <;> intro h <;> first | exact absurd h Bool.false_ne_true | (exfalso; omega)), (Below.refl _ _).alloc (Nat.le_refl _) _⟩

set_option maxRecDepth 100000 in
set_option maxHeartbeats 1000000 in
theorem refplain3  (n : Int) (s : ByteArray) (w : World) :
    Calls Tryz.prog 53 #[val 3 n s] w fun e w' => e = .returned (.bool (plainB 3 n s)) ∧ Below w.heap.size w w' := by
  by_cases hs : s.size = 0
  · obtain rfl : s = ⟨#[]⟩ := ByteArray.ext (Array.eq_empty_of_size_eq_zero hs)
    by_cases hn : 0 ≤ n
    · go_enter Tryz.func53, Tryz.ntmps53
      go_wp2
      go_ret
      exact ⟨retB (by rw [plainB_iff]; rw [decide_eq_true_iff]; omega), (Below.refl _ _).alloc (Nat.le_refl _) _⟩
    · have hd : decide (0 ≤ n) = false := decide_eq_false hn
      go_enter Tryz.func53, Tryz.ntmps53
      go_wp2
      go_ret
      exact ⟨retB (by rw [plainB_iff]; constructor <;> intro h <;> first | exact absurd h Bool.false_ne_true | (exfalso; omega)), (Below.refl _ _).alloc (Nat.le_refl _) _⟩
  · have he : s.toList.isEmpty = false := by rw [Bool.eq_false_iff]; intro h; exact hs (emptyB_iff.1 h)
    go_enter Tryz.func53, Tryz.ntmps53
    go_wp2
    go_ret
    exact ⟨retB (by rw [plainB_iff]; constructor <;> intro h <;> first | exact absurd h Bool.false_ne_true | (exfalso; omega)), (Below.refl _ _).alloc (Nat.le_refl _) _⟩

set_option maxRecDepth 100000 in
set_option maxHeartbeats 1000000 in
theorem refplain4 (k n : Int) (s : ByteArray) (w : World) (h0 : k ≠ 0) (h1 : k ≠ 1) (h2 : k ≠ 2) (h3 : k ≠ 3) :
    Calls Tryz.prog 53 #[val k n s] w fun e w' => e = .returned (.bool (plainB k n s)) ∧ Below w.heap.size w w' := by
  have hb : (k == 3) = false := by simpa using h3
  go_enter Tryz.func53, Tryz.ntmps53
  go_wp2
  go_ret
  exact ⟨retB (by rw [plainB_iff]; constructor <;> intro h <;> first | exact absurd h Bool.false_ne_true | (exfalso; omega)), (Below.refl _ _).alloc (Nat.le_refl _) _⟩

theorem refplain_any (k n : Int) (s : ByteArray) (w : World) :
    Calls Tryz.prog 53 #[val k n s] w fun e w' => e = .returned (.bool (plainB k n s)) ∧ Below w.heap.size w w' := by
  by_cases h0 : k = 0
  · subst h0; exact refplain0 n s w
  by_cases h1 : k = 1
  · subst h1; exact refplain1 n s w
  by_cases h2 : k = 2
  · subst h2; exact refplain2 n s w
  by_cases h3 : k = 3
  · subst h3; exact refplain3 n s w
  exact refplain4 k n s w h0 h1 h2 h3
end Go.Proofs.YtfkbhlgoglmcpaaGreatDoor
