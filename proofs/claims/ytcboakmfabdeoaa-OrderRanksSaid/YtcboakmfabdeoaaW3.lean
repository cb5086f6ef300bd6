/- Contracts of the small methods of a node and of a map. -/
import Derived.Test.YtcboakmfabdeoaaW2
namespace Go.Proofs.Ytcboakmfabdeoaa
open Go.RowKit

set_option maxHeartbeats 400000 in
theorem place_some (p b n cap : Nat) (l : List (Int × ByteArray)) (k : Int) (w : World) (h0 : w.cell? ⟨p, 0, none⟩ = some (.slice (some ⟨b, 0, none⟩) n cap)) (hl : l.length = n) (hn : n ≤ 1000000) (hb : b < w.heap.size) (hr : RowP w b l) (hs : Rising l) :
    Calls Try.prog 44 #[.pointer (some ⟨p, 0, none⟩), .int .i64 k] w fun e w' => e = .returned (.tuple #[.int .i64 (pos l k), .bool (hasB l k)]) ∧ Below w.heap.size w w' := by
  have HL := Lib.hid hl
  clear hl
  go_enter Try.func44, Try.ntmps44
  go_wp2_with (go_at_call 56; refine (bsearch_some b n cap l k _ HL.out hn hb hr hs).mono ?_; rintro e w' ⟨rfl, hw⟩)
  go_ret2
  exact ⟨rfl, hw⟩

set_option maxHeartbeats 400000 in
theorem place_none (p : Nat) (a : Option Addr) (cap : Nat) (k : Int) (w : World) (h0 : w.cell? ⟨p, 0, none⟩ = some (.slice a 0 cap)) :
    Calls Try.prog 44 #[.pointer (some ⟨p, 0, none⟩), .int .i64 k] w fun e w' => e = .returned (.tuple #[.int .i64 0, .bool false]) ∧ Below w.heap.size w w' := by
  go_enter Try.func44, Try.ntmps44
  go_wp2_with (go_at_call 56; refine (bsearch_none a cap k _).mono ?_; rintro e w' ⟨rfl, hw⟩)
  go_ret2
  exact ⟨rfl, hw⟩

theorem leaf_any (p n cap : Nat) (a : Option Addr) (w : World) (h1 : w.cell? ⟨p, 1, none⟩ = some (.slice a n cap)) :
    Calls Try.prog 43 #[.pointer (some ⟨p, 0, none⟩)] w fun e w' => e = .returned (.bool (decide (n = 0))) ∧ w = w' := by
  by_cases hn : n = 0
  · subst hn
    go_enter Try.func43, Try.ntmps43
    go_wp2
    go_ret
    exact ⟨by simp, rfl⟩
  · have hb : ((n : Int) == 0) = false := by rw [beq_eq_false_iff_ne]; omega
    have hd : decide (n = 0) = false := by simpa using hn
    go_enter Try.func43, Try.ntmps43
    go_wp2
    go_ret
    exact ⟨by simp [hd, hn], rfl⟩

theorem full_any (p n cap t : Nat) (a : Option Addr) (w : World) (h0 : w.cell? ⟨p, 0, none⟩ = some (.slice a n cap)) (hn : n ≤ 1000000) (ht : t ≤ 1000) :
    Calls Try.prog 45 #[.pointer (some ⟨p, 0, none⟩), .int .i64 t] w fun e w' => e = .returned (.bool (decide (2 * t ≤ n + 1))) ∧ w = w' := by
  go_enter Try.func45, Try.ntmps45
  go_wp2
  go_ret
  refine ⟨?_, rfl⟩
  simp
  omega

theorem bound_any (m t : Nat) (w : World) (h0 : w.cell? ⟨m, 0, none⟩ = some (.int .i64 t)) (ht : 2 ≤ t) :
    Calls Try.prog 34 #[.pointer (some ⟨m, 0, none⟩)] w fun e w' => e = .returned (.int .i64 t) ∧ w = w' := by
  go_enter Try.func34, Try.ntmps34
  go_wp2
  go_ret
  refine ⟨?_, rfl⟩
  apply ret_int
  omega

theorem top_any (m : Nat) (v : Value) (w : World) (h1 : w.cell? ⟨m, 1, none⟩ = some v) :
    Calls Try.prog 28 #[.pointer (some ⟨m, 0, none⟩)] w fun e w' => e = .returned v ∧ w = w' := by
  go_enter Try.func28, Try.ntmps28
  go_wp2
  go_ret
  exact ⟨rfl, rfl⟩

theorem top_nil (w : World) : Calls Try.prog 28 #[.pointer none] w fun e w' => e = .returned (.pointer none) ∧ w = w' := by
  go_enter Try.func28, Try.ntmps28
  go_wp2
  go_ret
  exact ⟨rfl, rfl⟩

theorem new_ok (t : Nat) (w : World) (h1 : 2 ≤ t) (h2 : t ≤ 64) :
    Calls Try.prog 8 #[.int .i64 t] w fun e w' => e = .returned (.tuple #[.pointer (some ⟨w.heap.size, 0, none⟩), .int .i64 0]) ∧ w' = w.alloc (.cells #[.int .i64 t, .pointer none] 54) := by
  go_enter Try.func8, Try.ntmps8
  go_wp2
  go_ret2
  exact ⟨rfl, rfl⟩

theorem new_no (t : Int) (w : World) (h : t < 2 ∨ 64 < t) :
    Calls Try.prog 8 #[.int .i64 t] w fun e w' => e = .returned (.tuple #[.pointer none, .int .i64 1]) ∧ w = w' := by
  rcases h with h | h
  · go_enter Try.func8, Try.ntmps8
    go_wp2
    go_ret2
    exact ⟨rfl, rfl⟩
  · go_enter Try.func8, Try.ntmps8
    go_wp2
    go_ret2
    exact ⟨rfl, rfl⟩
end Go.Proofs.Ytcboakmfabdeoaa
