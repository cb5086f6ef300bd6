/- Wide numbers: Small. -/
import Derived.Test.YtpffechllcnnaaaGreatDoorBO
namespace Go.Proofs.YtpffechllcnnaaaGreatDoor
open Go.RowKit

set_option maxRecDepth 100000 in
theorem small_big (s : Bool) (p0 p1 p2 p3 p4 : Int) (w : World) (h0 : Part p0) (h1 : Part p1) (h2 : Part p2) (h3 : Part p3) (h4 : Part p4) (h : 0 < p2 + p3 + p4) :
    Calls Tryz.prog 34 #[wide s p0 p1 p2 p3 p4] w fun e w' => e = .returned (.tuple #[.int .i64 0, .int .i64 4]) ∧ Below w.heap.size w w' := by
  obtain ⟨a0, b0⟩ := h0
  obtain ⟨a1, b1⟩ := h1
  obtain ⟨a2, b2⟩ := h2
  obtain ⟨a3, b3⟩ := h3
  obtain ⟨a4, b4⟩ := h4
  have hd : decide (0 < p2 + p3 + p4) = true := decide_eq_true h
  go_enter Tryz.func34, Tryz.ntmps34
  go_wp2
  go_ret2
  exact ⟨rfl, (Below.refl _ _).alloc (Nat.le_refl _) _⟩
set_option maxRecDepth 100000 in
theorem small_pos (p0 p1 : Int) (w : World) (h0 : Part p0) (h1 : Part p1) (h : p1 * 4294967296 + p0 ≤ 9223372036854775807) :
    Calls Tryz.prog 34 #[wide false p0 p1 0 0 0] w fun e w' => e = .returned (.tuple #[.int .i64 (p1 * 4294967296 + p0), .int .i64 0]) ∧ Below w.heap.size w w' := by
  obtain ⟨a0, b0⟩ := h0
  obtain ⟨a1, b1⟩ := h1
  go_enter Tryz.func34, Tryz.ntmps34
  go_wp2
  go_ret2
  exact ⟨rfl, (Below.refl _ _).alloc (Nat.le_refl _) _⟩
set_option maxRecDepth 100000 in
theorem small_posbig (p0 p1 : Int) (w : World) (h0 : Part p0) (h1 : Part p1) (h : 9223372036854775807 < p1 * 4294967296 + p0) :
    Calls Tryz.prog 34 #[wide false p0 p1 0 0 0] w fun e w' => e = .returned (.tuple #[.int .i64 0, .int .i64 4]) ∧ Below w.heap.size w w' := by
  obtain ⟨a0, b0⟩ := h0
  obtain ⟨a1, b1⟩ := h1
  go_enter Tryz.func34, Tryz.ntmps34
  go_wp2
  go_ret2
  exact ⟨rfl, (Below.refl _ _).alloc (Nat.le_refl _) _⟩
set_option maxRecDepth 100000 in
theorem small_neg (p0 p1 : Int) (w : World) (h0 : Part p0) (h1 : Part p1) (h : p1 * 4294967296 + p0 ≤ 9223372036854775808) :
    Calls Tryz.prog 34 #[wide true p0 p1 0 0 0] w fun e w' => e = .returned (.tuple #[.int .i64 (-(p1 * 4294967296 + p0)), .int .i64 0]) ∧ Below w.heap.size w w' := by
  obtain ⟨a0, b0⟩ := h0
  obtain ⟨a1, b1⟩ := h1
  have hw : wrap64 (IntKind.u64.wrap (-(p1 * 4294967296 + p0))) = -(p1 * 4294967296 + p0) := by rw [IntKind.wrap_u64]; unfold wrap64; omega
  have HW := Lib.hid hw
  clear hw
  go_enter Tryz.func34, Tryz.ntmps34
  go_wp2
  go_ret2
  refine ⟨?_, (Below.refl _ _).alloc (Nat.le_refl _) _⟩
  have := HW.out
  simp_all
set_option maxRecDepth 100000 in
theorem small_negbig (p0 p1 : Int) (w : World) (h0 : Part p0) (h1 : Part p1) (h : 9223372036854775808 < p1 * 4294967296 + p0) :
    Calls Tryz.prog 34 #[wide true p0 p1 0 0 0] w fun e w' => e = .returned (.tuple #[.int .i64 0, .int .i64 4]) ∧ Below w.heap.size w w' := by
  obtain ⟨a0, b0⟩ := h0
  obtain ⟨a1, b1⟩ := h1
  go_enter Tryz.func34, Tryz.ntmps34
  go_wp2
  go_ret2
  exact ⟨rfl, (Below.refl _ _).alloc (Nat.le_refl _) _⟩
theorem small_any (s : Bool) (p0 p1 p2 p3 p4 : Int) (w : World) (h0 : Part p0) (h1 : Part p1) (h2 : Part p2) (h3 : Part p3) (h4 : Part p4) :
    Calls Tryz.prog 34 #[wide s p0 p1 p2 p3 p4] w fun e w' => e = .returned (.tuple #[.int .i64 (sv (signed s (size p0 p1 p2 p3 p4))), .int .i64 (se (signed s (size p0 p1 p2 p3 p4)))]) ∧ Below w.heap.size w w' := by
  have g0 := h0
  have g1 := h1
  obtain ⟨a0, b0⟩ := h0
  obtain ⟨a1, b1⟩ := h1
  have g2 := h2
  have g3 := h3
  have g4 := h4
  obtain ⟨a2, b2⟩ := h2
  obtain ⟨a3, b3⟩ := h3
  obtain ⟨a4, b4⟩ := h4
  by_cases hb : 0 < p2 + p3 + p4
  · have hn : ¬ Fits (signed s (size p0 p1 p2 p3 p4)) := by
      cases s <;> simp only [signed, size, Fits, if_true, Bool.false_eq_true, if_false] <;> omega
    rw [show sv (signed s (size p0 p1 p2 p3 p4)) = 0 from if_neg hn, show se (signed s (size p0 p1 p2 p3 p4)) = 4 from if_neg hn]
    exact small_big s p0 p1 p2 p3 p4 w g0 g1 g2 g3 g4 hb
  · obtain rfl : p2 = 0 := by omega
    obtain rfl : p3 = 0 := by omega
    obtain rfl : p4 = 0 := by omega
    have hz : size p0 p1 0 0 0 = p1 * 4294967296 + p0 := by unfold size; omega
    rw [hz]
    cases s
    · by_cases h : p1 * 4294967296 + p0 ≤ 9223372036854775807
      · have hf : Fits (signed false (p1 * 4294967296 + p0)) := by simp only [signed, Fits, Bool.false_eq_true, if_false]; omega
        rw [show sv (signed false (p1 * 4294967296 + p0)) = p1 * 4294967296 + p0 from if_pos hf, show se (signed false (p1 * 4294967296 + p0)) = 0 from if_pos hf]
        exact small_pos p0 p1 w g0 g1 h
      · have hf : ¬ Fits (signed false (p1 * 4294967296 + p0)) := by simp only [signed, Fits, Bool.false_eq_true, if_false]; omega
        rw [show sv (signed false (p1 * 4294967296 + p0)) = 0 from if_neg hf, show se (signed false (p1 * 4294967296 + p0)) = 4 from if_neg hf]
        exact small_posbig p0 p1 w g0 g1 (by omega)
    · by_cases h : p1 * 4294967296 + p0 ≤ 9223372036854775808
      · have hf : Fits (signed true (p1 * 4294967296 + p0)) := by simp only [signed, Fits, if_true]; omega
        rw [show sv (signed true (p1 * 4294967296 + p0)) = -(p1 * 4294967296 + p0) from if_pos hf, show se (signed true (p1 * 4294967296 + p0)) = 0 from if_pos hf]
        exact small_neg p0 p1 w g0 g1 h
      · have hf : ¬ Fits (signed true (p1 * 4294967296 + p0)) := by simp only [signed, Fits, if_true]; omega
        rw [show sv (signed true (p1 * 4294967296 + p0)) = 0 from if_neg hf, show se (signed true (p1 * 4294967296 + p0)) = 4 from if_neg hf]
        exact small_negbig p0 p1 w g0 g1 (by omega)

end Go.Proofs.YtpffechllcnnaaaGreatDoor
