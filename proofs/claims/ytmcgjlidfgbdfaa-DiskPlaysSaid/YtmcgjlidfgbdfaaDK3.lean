/- The disk: what is told of it, the deed, the fuse. -/
import Derived.Test.YtmcgjlidfgbdfaaDK2
namespace Go.Proofs.Ytmcgjlidfgbdfaa
open Go.RowKit

section
variable {w : World} {d : Dsk}
theorem DiskAt.c (h : DiskAt w d) (i : Nat) : w.cell? ⟨d.p, i, none⟩ = (dcells d)[i]? := Whole.cell h.top i
theorem DiskAt.f (h : DiskAt w d) (i : Nat) : w.frozen? ⟨d.p, i, none⟩ = false := Whole.frozen h.top i
theorem DiskAt.lt (h : DiskAt w d) : d.p < w.heap.size := h.top.lt
end
/-- the bounds of the numbers. -/
structure Low (d : Dsk) : Prop where
  waits : d.waits ≤ 1000000
  deeds : d.deeds ≤ 4611686018427387904
  fuse : d.fuse ≤ 9223372036854775807

theorem lit_nil (w : World) : Calls Try.prog 32 #[.pointer none] w fun e w' => e = .returned (.int .i64 2) ∧ w' = w := by
  go_enter Try.func32, Try.ntmps32
  go_wp2_with fail
  go_ret
  exact ⟨rfl, rfl⟩
def litOf (d : Dsk) : Int := if d.dark then 17 else 0
theorem lit_at {w : World} {d : Dsk} (h : DiskAt w d) : Calls Try.prog 32 #[.pointer (some ⟨d.p, 0, none⟩)] w fun e w' => e = .returned (.int .i64 (litOf d)) ∧ w' = w := by
  have c6 := h.c 6
  simp only [dcells, List.getElem?_toArray, List.getElem?_cons_zero, List.getElem?_cons_succ] at c6
  unfold litOf
  generalize d.dark = b at *
  cases b <;>
  · clear h
    go_enter Try.func32, Try.ntmps32
    go_wp2_with fail
    go_ret
    exact ⟨rfl, rfl⟩

/-- what takes says. -/
def takesOf (d : Dsk) (i n : Int) : Int := if d.dark then 17 else if i < 0 ∨ (d.secs.length : Int) ≤ i ∨ (d.size : Int) < n then 1 else 0
theorem takes_nil (i n : Int) (w : World) : Calls Try.prog 28 #[.pointer none, .int .i64 i, .int .i64 n] w fun e w' => e = .returned (.int .i64 2) ∧ w' = w := by
  go_enter Try.func28, Try.ntmps28
  go_wp2_with fail
  refine (lit_nil _).mono ?_
  rintro e w1 ⟨rfl, rfl⟩
  go_wp2_with fail
  go_ret
  exact ⟨rfl, rfl⟩
theorem takes_at {w : World} {d : Dsk} (h : DiskAt w d) (i n : Int) : Calls Try.prog 28 #[.pointer (some ⟨d.p, 0, none⟩), .int .i64 i, .int .i64 n] w fun e w' => e = .returned (.int .i64 (takesOf d i n)) ∧ w' = w := by
  have c0 := h.c 0
  have c1 := h.c 1
  simp only [dcells, List.getElem?_toArray, List.getElem?_cons_zero, List.getElem?_cons_succ] at c0 c1
  have L := Lib.hid (lit_at h)
  unfold takesOf
  unfold litOf at L
  have hfew := h.few
  have hsm := h.small
  generalize d.dark = b at *
  generalize d.secs.length = n0 at *
  clear h
  cases b with
  | true =>
    go_enter Try.func28, Try.ntmps28
    go_wp2_with fail
    refine L.out.mono ?_
    rintro e w1 ⟨rfl, rfl⟩
    go_wp2_with fail
    go_ret
    exact ⟨rfl, rfl⟩
  | false =>
    by_cases h1 : i < 0
    · go_enter Try.func28, Try.ntmps28
      go_wp2_with fail
      refine L.out.mono ?_
      rintro e w1 ⟨rfl, rfl⟩
      go_wp2_with fail
      go_ret
      exact ⟨by simp, rfl⟩
    · by_cases h2 : (n0 : Int) ≤ i
      · go_enter Try.func28, Try.ntmps28
        go_wp2_with fail
        refine L.out.mono ?_
        rintro e w1 ⟨rfl, rfl⟩
        go_wp2_with fail
        go_ret
        exact ⟨by simp, rfl⟩
      · by_cases h3 : (d.size : Int) < n
        · go_enter Try.func28, Try.ntmps28
          go_wp2_with fail
          refine L.out.mono ?_
          rintro e w1 ⟨rfl, rfl⟩
          go_wp2_with fail
          go_ret
          exact ⟨by simp, rfl⟩
        · have e0 : ¬ (i < 0 ∨ (n0 : Int) ≤ i ∨ (d.size : Int) < n) := by omega
          simp only [e0, if_false, Bool.false_eq_true]
          clear e0
          go_enter Try.func28, Try.ntmps28
          go_wp2_with fail
          refine L.out.mono ?_
          rintro e w1 ⟨rfl, rfl⟩
          go_wp2_with fail
          go_ret
          exact ⟨rfl, rfl⟩

/-- is the fuse over? -/
def blown (d : Dsk) : Bool := d.fused && decide (d.fuse = 0)
def deedOf (d : Dsk) : Dsk := if blown d then { d with dark := true } else { d with deeds := d.deeds + 1, fuse := if d.fused then d.fuse - 1 else d.fuse }
theorem heap_set_other (w : World) (p i : Nat) (u : Value) (k : Nat) (h : k ≠ p) : (w.setCell ⟨p, i, none⟩ u).heap[k]? = w.heap[k]? := Below.heap_setCell w ⟨p, i, none⟩ u k h
theorem Touch.one {w : World} {p i : Nat} {u : Value} {F : List Nat} (h : p ∈ F) : Touch F w (w.setCell ⟨p, i, none⟩ u) := (Touch.refl F w).setCell (.inl h) u
theorem deed_at {w : World} {d : Dsk} (h : DiskAt w d) (hl : Low d) : Calls Try.prog 30 #[.pointer (some ⟨d.p, 0, none⟩)] w fun e w' => e = .returned (.int .i64 (if blown d then 17 else 0)) ∧ DiskAt w' (deedOf d) ∧ foot (deedOf d) = foot d ∧ Touch (foot d) w w' := by
  have c3 := h.c 3
  have c4 := h.c 4
  have c5 := h.c 5
  have c6 := h.c 6
  have f3 := h.f 3
  have f4 := h.f 4
  have f5 := h.f 5
  have f6 := h.f 6
  simp only [dcells, List.getElem?_toArray, List.getElem?_cons_zero, List.getElem?_cons_succ] at c3 c4 c5 c6
  have hd1 := hl.deeds
  have hf1 := hl.fuse
  have H := Lib.hid h
  clear h hl
  rcases hfu : d.fused with _ | _
  · rw [hfu] at c4
    have hb : blown d = false := by simp [blown, hfu]
    simp only [hb, if_false, Bool.false_eq_true]
    have HB := Lib.hid hb
    clear hb
    have HF := Lib.hid hfu
    clear hfu
    go_enter Try.func30, Try.ntmps30
    go_wp2_with fail
    go_ret
    refine ⟨rfl, ?_⟩
    have e : deedOf d = { d with deeds := d.deeds + 1 } := by unfold deedOf; rw [HB.out, HF.out]; rfl
    rw [e]
    obtain ⟨h1, h2⟩ := H.out.turn (w' := w.setCell ⟨d.p, 3, none⟩ (.int .i64 (d.deeds + 1))) (d' := { d with deeds := d.deeds + 1 }) (H.out.top.set_ 3 _) (fun k hk => heap_set_other _ _ _ _ _ hk) ⟨rfl, rfl, rfl, rfl, rfl⟩
    exact ⟨h1, h2, Touch.one foot_p⟩
  · rw [hfu] at c4
    have HF := Lib.hid hfu
    clear hfu
    by_cases h0 : d.fuse = 0
    · have hb : blown d = true := by simp [blown, HF.out, h0]
      simp only [hb, if_true]
      have HB := Lib.hid hb
      clear hb
      have h0' : (d.fuse : Int) = 0 := by omega
      rw [h0'] at c5
      clear h0' h0
      go_enter Try.func30, Try.ntmps30
      go_wp2_with fail
      go_ret
      refine ⟨rfl, ?_⟩
      have e : deedOf d = { d with dark := true } := by unfold deedOf; rw [HB.out]; rfl
      rw [e]
      obtain ⟨h1, h2⟩ := H.out.turn (w' := w.setCell ⟨d.p, 6, none⟩ (.bool true)) (d' := { d with dark := true }) (H.out.top.set_ 6 _) (fun k hk => heap_set_other _ _ _ _ _ hk) ⟨rfl, rfl, rfl, rfl, rfl⟩
      exact ⟨h1, h2, Touch.one foot_p⟩
    · have hb : blown d = false := by simp [blown, h0]
      simp only [hb, if_false, Bool.false_eq_true]
      have HB := Lib.hid hb
      clear hb
      have h0' : ¬ (d.fuse : Int) = 0 := by omega
      have hcast : ((d.fuse - 1 : Nat) : Int) = (d.fuse : Int) - 1 := by omega
      have HC := Lib.hid hcast
      clear hcast
      have k3 := H.out.top.set_ 5 (.int .i64 ((d.fuse : Int) - 1))
      have k3c := Whole.cell k3 3
      have k3f := Whole.frozen k3 3
      rw [show ((dcells d).setIfInBounds 5 (.int .i64 ((d.fuse : Int) - 1)))[3]? = some (.int .i64 d.deeds) from rfl] at k3c
      clear k3
      go_enter Try.func30, Try.ntmps30
      go_wp2_with fail
      go_ret
      refine ⟨rfl, ?_⟩
      have e : deedOf d = { d with deeds := d.deeds + 1, fuse := d.fuse - 1 } := by unfold deedOf; rw [HB.out, HF.out]; rfl
      rw [e]
      have k5 := (H.out.top.set_ 5 (.int .i64 ((d.fuse : Int) - 1))).set_ 3 (.int .i64 (d.deeds + 1))
      rw [← HC.out] at k5 ⊢
      obtain ⟨h1, h2⟩ := H.out.turn (d' := { d with deeds := d.deeds + 1, fuse := d.fuse - 1 }) k5 (fun k hk => (heap_set_other _ _ _ _ _ hk).trans (heap_set_other _ _ _ _ _ hk)) ⟨rfl, rfl, rfl, rfl, rfl⟩
      exact ⟨h1, h2, (Touch.one foot_p).setCell (.inl foot_p) _⟩
end Go.Proofs.Ytmcgjlidfgbdfaa
