/- The disk: what is told of it, Fuse; of a nil disk. -/
import Derived.Test.YtmcgjlidfgbdfaaDK3
namespace Go.Proofs.Ytmcgjlidfgbdfaa
open Go.RowKit

def fuseOf (d : Dsk) (n : Int) : Dsk := { d with fused := decide (0 ≤ n), fuse := n.toNat }
theorem fuse_nil (n : Int) (w : World) : Calls Try.prog 23 #[.pointer none, .int .i64 n] w fun e w' => (∃ v, e = .returned v) ∧ w' = w := by
  go_enter Try.func23, Try.ntmps23
  go_wp2_with fail
  refine bodyPost_ret (results_none rfl _ _ _) rfl ?_
  exact ⟨⟨_, rfl⟩, rfl⟩
theorem fuse_at {w : World} {d : Dsk} (h : DiskAt w d) (n : Int) : Calls Try.prog 23 #[.pointer (some ⟨d.p, 0, none⟩), .int .i64 n] w fun e w' => (∃ v, e = .returned v) ∧ DiskAt w' (fuseOf d n) ∧ foot (fuseOf d n) = foot d ∧ Touch (foot d) w w' := by
  have c4 := h.c 4
  have f4 := h.f 4
  by_cases h0 : 0 ≤ n
  · by_cases h1 : n = 0
    · subst h1
      have k := h.top.set_ 4 (.bool true)
      have k5 := Whole.cell k 5
      have f5 := Whole.frozen k 5
      rw [show ((dcells d).setIfInBounds 4 (.bool true))[5]? = some (.int .i64 d.fuse) from rfl] at k5
      simp only [dcells, List.getElem?_toArray, List.getElem?_cons_zero, List.getElem?_cons_succ] at c4
      have H := Lib.hid h
      have K := Lib.hid k
      have HE : Hid (fuseOf d 0 = { d with fused := true, fuse := 0 } ∧ ((0 : Nat) : Int) = 0) := Lib.hid ⟨rfl, rfl⟩
      clear h k
      go_enter Try.func23, Try.ntmps23
      go_wp2_with fail
      go_end0
      refine ⟨⟨_, rfl⟩, ?_⟩
      have k5 := K.out.set_ 5 (.int .i64 0)
      rw [HE.out.1]
      obtain ⟨h1, h2⟩ := H.out.turn (d' := { d with fused := true, fuse := 0 }) k5 (fun k hk => (heap_set_other _ _ _ _ _ hk).trans (heap_set_other _ _ _ _ _ hk)) ⟨rfl, rfl, rfl, rfl, rfl⟩
      exact ⟨h1, h2, (Touch.one foot_p).setCell (.inl foot_p) _⟩

    · have h2 : 0 < n := by omega
      have k := h.top.set_ 4 (.bool true)
      have k5 := Whole.cell k 5
      have f5 := Whole.frozen k 5
      rw [show ((dcells d).setIfInBounds 4 (.bool true))[5]? = some (.int .i64 d.fuse) from rfl] at k5
      simp only [dcells, List.getElem?_toArray, List.getElem?_cons_zero, List.getElem?_cons_succ] at c4
      have H := Lib.hid h
      have K := Lib.hid k
      have HE : Hid (fuseOf d n = { d with fused := true, fuse := n.toNat } ∧ ((n.toNat : Nat) : Int) = n) := Lib.hid ⟨by unfold fuseOf; rw [decide_eq_true h0], by omega⟩
      clear h k
      go_enter Try.func23, Try.ntmps23
      go_wp2_with fail
      go_end0
      refine ⟨⟨_, rfl⟩, ?_⟩
      have k5 := K.out.set_ 5 (.int .i64 n)
      rw [HE.out.1]
      rw [← HE.out.2] at k5 ⊢
      obtain ⟨h1, h2⟩ := H.out.turn (d' := { d with fused := true, fuse := n.toNat }) k5 (fun k hk => (heap_set_other _ _ _ _ _ hk).trans (heap_set_other _ _ _ _ _ hk)) ⟨rfl, rfl, rfl, rfl, rfl⟩
      exact ⟨h1, h2, (Touch.one foot_p).setCell (.inl foot_p) _⟩

  · have h2 : n < 0 := by omega
    have k := h.top.set_ 4 (.bool false)
    have k5 := Whole.cell k 5
    have f5 := Whole.frozen k 5
    rw [show ((dcells d).setIfInBounds 4 (.bool false))[5]? = some (.int .i64 d.fuse) from rfl] at k5
    simp only [dcells, List.getElem?_toArray, List.getElem?_cons_zero, List.getElem?_cons_succ] at c4
    have H := Lib.hid h
    have K := Lib.hid k
    have HE : Hid (fuseOf d n = { d with fused := false, fuse := n.toNat } ∧ ((n.toNat : Nat) : Int) = 0) := Lib.hid ⟨by unfold fuseOf; rw [decide_eq_false h0], by omega⟩
    clear h k
    go_enter Try.func23, Try.ntmps23
    go_wp2_with fail
    go_end0
    refine ⟨⟨_, rfl⟩, ?_⟩
    have k5 := K.out.set_ 5 (.int .i64 0)
    rw [HE.out.1]
    rw [← HE.out.2] at k5 ⊢
    obtain ⟨h1, h2⟩ := H.out.turn (d' := { d with fused := false, fuse := n.toNat }) k5 (fun k hk => (heap_set_other _ _ _ _ _ hk).trans (heap_set_other _ _ _ _ _ hk)) ⟨rfl, rfl, rfl, rfl, rfl⟩
    exact ⟨h1, h2, (Touch.one foot_p).setCell (.inl foot_p) _⟩
theorem dark_nil (w : World) : Calls Try.prog 12 #[.pointer none] w fun e w' => e = .returned (.bool false) ∧ w' = w := by
  go_enter Try.func12, Try.ntmps12
  go_wp2_with fail
  go_ret
  exact ⟨rfl, rfl⟩
theorem dark_at {w : World} {d : Dsk} (h : DiskAt w d) : Calls Try.prog 12 #[.pointer (some ⟨d.p, 0, none⟩)] w fun e w' => e = .returned (.bool d.dark) ∧ w' = w := by
  have c := h.c 6
  simp only [dcells, List.getElem?_toArray, List.getElem?_cons_zero, List.getElem?_cons_succ] at c
  clear h
  go_enter Try.func12, Try.ntmps12
  go_wp2_with fail
  go_ret
  exact ⟨rfl, rfl⟩
theorem deeds_nil (w : World) : Calls Try.prog 13 #[.pointer none] w fun e w' => e = .returned (.int .i64 0) ∧ w' = w := by
  go_enter Try.func13, Try.ntmps13
  go_wp2_with fail
  go_ret
  exact ⟨rfl, rfl⟩
theorem deeds_at {w : World} {d : Dsk} (h : DiskAt w d) : Calls Try.prog 13 #[.pointer (some ⟨d.p, 0, none⟩)] w fun e w' => e = .returned (.int .i64 (d.deeds : Nat)) ∧ w' = w := by
  have c := h.c 3
  simp only [dcells, List.getElem?_toArray, List.getElem?_cons_zero, List.getElem?_cons_succ] at c
  clear h
  go_enter Try.func13, Try.ntmps13
  go_wp2_with fail
  go_ret
  exact ⟨rfl, rfl⟩
theorem waits_nil (w : World) : Calls Try.prog 14 #[.pointer none] w fun e w' => e = .returned (.int .i64 0) ∧ w' = w := by
  go_enter Try.func14, Try.ntmps14
  go_wp2_with fail
  go_ret
  exact ⟨rfl, rfl⟩
theorem waits_at {w : World} {d : Dsk} (h : DiskAt w d) : Calls Try.prog 14 #[.pointer (some ⟨d.p, 0, none⟩)] w fun e w' => e = .returned (.int .i64 (d.waits : Nat)) ∧ w' = w := by
  have c := h.c 2
  simp only [dcells, List.getElem?_toArray, List.getElem?_cons_zero, List.getElem?_cons_succ] at c
  clear h
  go_enter Try.func14, Try.ntmps14
  go_wp2_with fail
  go_ret
  exact ⟨rfl, rfl⟩
theorem size_nil (w : World) : Calls Try.prog 16 #[.pointer none] w fun e w' => e = .returned (.int .i64 0) ∧ w' = w := by
  go_enter Try.func16, Try.ntmps16
  go_wp2_with fail
  go_ret
  exact ⟨rfl, rfl⟩
theorem size_at {w : World} {d : Dsk} (h : DiskAt w d) : Calls Try.prog 16 #[.pointer (some ⟨d.p, 0, none⟩)] w fun e w' => e = .returned (.int .i64 (d.size : Nat)) ∧ w' = w := by
  have c := h.c 0
  simp only [dcells, List.getElem?_toArray, List.getElem?_cons_zero] at c
  clear h
  go_enter Try.func16, Try.ntmps16
  go_wp2_with fail
  go_ret
  exact ⟨rfl, rfl⟩
theorem sectors_nil (w : World) : Calls Try.prog 15 #[.pointer none] w fun e w' => e = .returned (.int .i64 0) ∧ w' = w := by
  go_enter Try.func15, Try.ntmps15
  go_wp2_with fail
  go_ret
  exact ⟨rfl, rfl⟩
theorem sectors_at {w : World} {d : Dsk} (h : DiskAt w d) : Calls Try.prog 15 #[.pointer (some ⟨d.p, 0, none⟩)] w fun e w' => e = .returned (.int .i64 (d.secs.length : Nat)) ∧ w' = w := by
  have c := h.c 1
  simp only [dcells, List.getElem?_toArray, List.getElem?_cons_zero, List.getElem?_cons_succ] at c
  clear h
  go_enter Try.func15, Try.ntmps15
  go_wp2_with fail
  go_ret
  exact ⟨rfl, rfl⟩
end Go.Proofs.Ytmcgjlidfgbdfaa
