/- Wide numbers: less. -/
import Derived.Test.YtppcgjdggkhndaaB1
import Derived.WalkSmall
namespace Go.Proofs.Ytppcgjdggkhndaa
open Go.RowKit

abbrev parts (p0 p1 p2 p3 p4 : Int) : Value := .agg #[.int .u64 p0, .int .u64 p1, .int .u64 p2, .int .u64 p3, .int .u64 p4]
set_option maxRecDepth 100000 in
theorem less1 (x0 x1 y0 y1 : Int) (w : World) (h : ¬ x1 = y1) :
    Calls Try.prog 21 #[parts x0 x1 0 0 0, parts y0 y1 0 0 0] w fun e w' => e = .returned (.bool (decide (x1 < y1))) ∧ Below w.heap.size w w' := by
  have B : Below w.heap.size w ((w.alloc (.cells #[.int .u64 x0, .int .u64 x1, .int .u64 0, .int .u64 0, .int .u64 0] 24)).alloc (.cells #[.int .u64 y0, .int .u64 y1, .int .u64 0, .int .u64 0, .int .u64 0] 24)) :=
    ((Below.refl _ _).alloc (Nat.le_refl _) _).alloc (by simp) _
  have BB := Lib.hid B
  clear B
  go_enter Try.func21, Try.ntmps21
  go_wp2
  refine wp_loop_rounds 6 ?_
  rw [rounds_succ]
  go_wp2
  go_quiet (fail)
  go_wp2
  rw [rounds_succ]
  go_wp2
  go_quiet (fail)
  go_wp2
  rw [rounds_succ]
  go_wp2
  go_quiet (fail)
  go_wp2
  rw [rounds_succ]
  go_wp2
  go_quiet (fail)
  go_wp2
  go_quiet (fail)
  go_wp2
  go_ret
  exact ⟨rfl, by repeat (first | exact BB.out | refine below_drewN ?_ _)⟩
set_option maxRecDepth 100000 in
theorem less0 (x0 x1 y0 : Int) (w : World) (h : ¬ x0 = y0) :
    Calls Try.prog 21 #[parts x0 x1 0 0 0, parts y0 x1 0 0 0] w fun e w' => e = .returned (.bool (decide (x0 < y0))) ∧ Below w.heap.size w w' := by
  have B : Below w.heap.size w ((w.alloc (.cells #[.int .u64 x0, .int .u64 x1, .int .u64 0, .int .u64 0, .int .u64 0] 24)).alloc (.cells #[.int .u64 y0, .int .u64 x1, .int .u64 0, .int .u64 0, .int .u64 0] 24)) :=
    ((Below.refl _ _).alloc (Nat.le_refl _) _).alloc (by simp) _
  have BB := Lib.hid B
  clear B
  go_enter Try.func21, Try.ntmps21
  go_wp2
  refine wp_loop_rounds 6 ?_
  rw [rounds_succ]
  go_wp2
  go_quiet (fail)
  go_wp2
  rw [rounds_succ]
  go_wp2
  go_quiet (fail)
  go_wp2
  rw [rounds_succ]
  go_wp2
  go_quiet (fail)
  go_wp2
  rw [rounds_succ]
  go_wp2
  go_quiet (fail)
  go_wp2
  rw [rounds_succ]
  go_wp2
  go_quiet (fail)
  go_wp2
  go_quiet (fail)
  go_wp2
  go_ret
  exact ⟨rfl, by repeat (first | exact BB.out | refine below_drewN ?_ _)⟩
set_option maxRecDepth 100000 in
theorem less_same (x0 x1 : Int) (w : World) :
    Calls Try.prog 21 #[parts x0 x1 0 0 0, parts x0 x1 0 0 0] w fun e w' => e = .returned (.bool false) ∧ Below w.heap.size w w' := by
  have B : Below w.heap.size w ((w.alloc (.cells #[.int .u64 x0, .int .u64 x1, .int .u64 0, .int .u64 0, .int .u64 0] 24)).alloc (.cells #[.int .u64 x0, .int .u64 x1, .int .u64 0, .int .u64 0, .int .u64 0] 24)) :=
    ((Below.refl _ _).alloc (Nat.le_refl _) _).alloc (by simp) _
  have BB := Lib.hid B
  clear B
  go_enter Try.func21, Try.ntmps21
  go_wp2
  refine wp_loop_rounds 6 ?_
  rw [rounds_succ]
  go_wp2
  go_quiet (fail)
  go_wp2
  rw [rounds_succ]
  go_wp2
  go_quiet (fail)
  go_wp2
  rw [rounds_succ]
  go_wp2
  go_quiet (fail)
  go_wp2
  rw [rounds_succ]
  go_wp2
  go_quiet (fail)
  go_wp2
  rw [rounds_succ]
  go_wp2
  go_quiet (fail)
  go_wp2
  rw [rounds_succ]
  go_wp2
  go_ret
  exact ⟨rfl, by repeat (first | exact BB.out | refine below_drewN ?_ _)⟩

theorem less_any (x0 x1 y0 y1 : Int) (w : World) (h0 : Part x0) (h1 : Part x1) (k0 : Part y0) (k1 : Part y1) :
    Calls Try.prog 21 #[parts x0 x1 0 0 0, parts y0 y1 0 0 0] w fun e w' => e = .returned (.bool (decide (x0 + 4294967296 * x1 < y0 + 4294967296 * y1))) ∧ Below w.heap.size w w' := by
  obtain ⟨a0, b0⟩ := h0
  obtain ⟨a1, b1⟩ := h1
  obtain ⟨c0, d0⟩ := k0
  obtain ⟨c1, d1⟩ := k1
  by_cases h : x1 = y1
  · subst h
    by_cases h : x0 = y0
    · subst h
      have e : decide (x0 + 4294967296 * x1 < x0 + 4294967296 * x1) = false := decide_eq_false (by omega)
      rw [e]
      exact less_same x0 x1 w
    · have e : decide (x0 + 4294967296 * x1 < y0 + 4294967296 * x1) = decide (x0 < y0) := by rw [decide_eq_decide]; omega
      rw [e]
      exact less0 x0 x1 y0 w h
  · have e : decide (x0 + 4294967296 * x1 < y0 + 4294967296 * y1) = decide (x1 < y1) := by rw [decide_eq_decide]; omega
    rw [e]
    exact less1 x0 x1 y0 y1 w h
end Go.Proofs.Ytppcgjdggkhndaa
