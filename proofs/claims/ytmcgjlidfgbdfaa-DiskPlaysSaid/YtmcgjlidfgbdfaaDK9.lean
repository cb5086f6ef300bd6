/- Flush, Crash. -/
import Derived.Test.YtmcgjlidfgbdfaaDK8
namespace Go.Proofs.Ytmcgjlidfgbdfaa
open Go.RowKit

def ones : Nat := 18446744073709551615
def flushR (d : Dsk) : Int := if d.dark then 17 else if blown d then 17 else 0
def flushD (d : Dsk) : Dsk := if d.dark then d else if blown d then deedOf d else settleD ones (deedOf d)
theorem flush_nil (w : World) : Calls Try.prog 20 #[.pointer none] w fun e w' => e = .returned (.int .i64 2) ∧ w' = w := by
  go_enter Try.func20, Try.ntmps20
  go_wp2_with fail
  refine (lit_nil _).mono ?_
  rintro e w1 ⟨rfl, rfl⟩
  go_wp2_with fail
  go_ret
  exact ⟨rfl, rfl⟩
theorem deedOf_p (d : Dsk) : (deedOf d).p = d.p := by unfold deedOf; split <;> rfl
theorem deedOf_waits (d : Dsk) : (deedOf d).waits = d.waits := by unfold deedOf; split <;> rfl
theorem deedOf_secs (d : Dsk) : (deedOf d).secs = d.secs := by unfold deedOf; split <;> rfl
theorem deedOf_size (d : Dsk) : (deedOf d).size = d.size := by unfold deedOf; split <;> rfl
theorem deedOf_q (d : Dsk) : (deedOf d).q = d.q := by unfold deedOf; split <;> rfl
/-- how the disk stands behind a call. -/
def Goes (w w' : World) (d d' : Dsk) : Prop := DiskAt w' d' ∧ (∀ k ∈ foot d', k ∈ foot d ∨ w.heap.size ≤ k) ∧ Touch (foot d) w w'
theorem Goes.refl {w : World} {d : Dsk} (h : DiskAt w d) : Goes w w d d := ⟨h, fun _ hk => .inl hk, Touch.refl _ _⟩
theorem Goes.trans {w w1 w2 : World} {d d1 d2 : Dsk} (h : Goes w w1 d d1) (k : Goes w1 w2 d1 d2) : Goes w w2 d d2 :=
  ⟨k.1, fun x hx => by
    rcases k.2.1 x hx with h1 | h1
    · exact h.2.1 x h1
    · exact .inr (Nat.le_trans h.2.2.size h1), h.2.2.trans k.2.2 (fun x hx => h.2.1 x hx)⟩
theorem flush_at {w : World} {d : Dsk} (h : DiskAt w d) (hl : Low d) : Calls Try.prog 20 #[.pointer (some ⟨d.p, 0, none⟩)] w fun e w' => e = .returned (.int .i64 (flushR d)) ∧ Goes w w' d (flushD d) := by
  have L := Lib.hid (lit_at h)
  have DD := Lib.hid (deed_at h hl)
  have hw := hl.waits
  have H := Lib.hid h
  clear h hl
  cases hd : d.dark with
  | true =>
    have e1 : litOf d = 17 := by simp [litOf, hd]
    have e2 : flushR d = 17 := by simp [flushR, hd]
    have e3 : flushD d = d := by simp [flushD, hd]
    rw [e1] at L
    simp only [e2, e3]
    clear e1 e2 e3 hd DD
    go_enter Try.func20, Try.ntmps20
    go_wp2_with fail
    refine L.out.mono ?_
    rintro e w1 ⟨rfl, rfl⟩
    go_wp2_with fail
    go_ret
    exact ⟨rfl, Goes.refl H.out⟩
  | false =>
    have e1 : litOf d = 0 := by simp [litOf, hd]
    rw [e1] at L
    cases hb : blown d with
    | true =>
      have e2 : flushR d = 17 := by simp [flushR, hd, hb]
      have e3 : flushD d = deedOf d := by simp [flushD, hd, hb]
      simp only [hb, if_true] at DD
      simp only [e2, e3]
      clear e1 e2 e3 hd hb
      go_enter Try.func20, Try.ntmps20
      go_wp2_with fail
      refine L.out.mono ?_
      rintro e w1 ⟨rfl, rfl⟩
      go_wp2_with fail
      refine DD.out.mono ?_
      rintro e w1 ⟨rfl, h1, h2, h3⟩
      have G : Hid (Goes _ w1 d (deedOf d)) := Lib.hid ⟨h1, fun k hk => .inl (h2 ▸ hk), h3⟩
      clear h1 h2 h3
      go_wp2_with fail
      go_ret
      exact ⟨rfl, G.out⟩
    | false =>
      have e2 : flushR d = 0 := by simp [flushR, hd, hb]
      have e3 : flushD d = settleD ones (deedOf d) := by simp [flushD, hd, hb]
      simp only [hb, if_false, Bool.false_eq_true] at DD
      simp only [e2, e3]
      clear e1 e2 e3 hd hb
      go_enter Try.func20, Try.ntmps20
      go_wp2_with fail
      refine L.out.mono ?_
      rintro e w1 ⟨rfl, rfl⟩
      go_wp2_with fail
      refine DD.out.mono ?_
      rintro e w1 ⟨rfl, h1, h2, h3⟩
      have S := settle_all h1 (by rw [deedOf_waits]; exact hw) ones (by decide)
      rw [deedOf_p, show ((ones : Nat) : Int) = 18446744073709551615 from rfl] at S
      replace S := Lib.hid S
      have G : Hid (Goes _ w1 d (deedOf d)) := Lib.hid ⟨h1, fun k hk => .inl (h2 ▸ hk), h3⟩
      clear h1 h2 h3
      go_wp2_with fail
      refine S.out.mono ?_
      rintro e w2 ⟨⟨v, rfl⟩, h1, h2, h3⟩
      have G2 : Hid (Goes w1 w2 (deedOf d) (settleD ones (deedOf d))) := Lib.hid ⟨h1, fun k hk => .inl (h2 k hk), h3⟩
      clear h1 h2 h3
      go_wp2_with fail
      go_ret
      exact ⟨rfl, G.out.trans G2.out⟩

def crashD (p : Nat) (d : Dsk) : Dsk := fuseOf { settleD p d with dark := false } (-1)
theorem crash_nil (p : Int) (w : World) : Calls Try.prog 22 #[.pointer none, .int .u64 p] w fun e w' => (∃ v, e = .returned v) ∧ w' = w := by
  go_enter Try.func22, Try.ntmps22
  go_wp2_with fail
  refine bodyPost_ret (results_none rfl _ _ _) rfl ?_
  exact ⟨⟨_, rfl⟩, rfl⟩
theorem crash_at {w : World} {d : Dsk} (h : DiskAt w d) (hw : d.waits ≤ 1000000) (p : Nat) (hp : p < 18446744073709551616) : Calls Try.prog 22 #[.pointer (some ⟨d.p, 0, none⟩), .int .u64 (p : Nat)] w fun e w' => (∃ v, e = .returned v) ∧ Goes w w' d (crashD p d) := by
  have S := Lib.hid (settle_all h hw p hp)
  clear h hw
  go_enter Try.func22, Try.ntmps22
  go_wp2_with fail
  refine S.out.mono ?_
  rintro e w1 ⟨⟨v, rfl⟩, h1, h2, h3⟩
  have c6 := h1.c 6
  have f6 := h1.f 6
  simp only [dcells, List.getElem?_toArray, List.getElem?_cons_zero, List.getElem?_cons_succ] at c6
  obtain ⟨t1, t2⟩ := h1.turn (w' := w1.setCell ⟨d.p, 6, none⟩ (.bool false)) (d' := { settleD p d with dark := false }) (h1.top.set_ 6 _) (fun k hk => heap_set_other _ _ _ _ _ hk) ⟨rfl, rfl, rfl, rfl, rfl⟩
  have FU := Lib.hid (fuse_at t1 (-1))
  have G : Hid (Goes w (w1.setCell ⟨d.p, 6, none⟩ (.bool false)) d { settleD p d with dark := false }) := Lib.hid ⟨t1, fun k hk => .inl (h2 k (t2 ▸ hk)), h3.setCell (.inl foot_p) _⟩
  rw [show (settleD p d).p = d.p from rfl] at c6 f6
  clear h1 h2 h3 t1 t2 S
  go_wp2_with fail
  refine FU.out.mono ?_
  rintro e w2 ⟨⟨v, rfl⟩, g1, g2, g3⟩
  have G2 : Hid (Goes (w1.setCell ⟨d.p, 6, none⟩ (.bool false)) w2 { settleD p d with dark := false } (crashD p d)) := Lib.hid ⟨g1, fun k hk => .inl (g2 ▸ hk), g3⟩
  clear g1 g2 g3
  go_wp2_with fail
  go_end0
  exact ⟨⟨_, rfl⟩, G.out.trans G2.out⟩
end Go.Proofs.Ytmcgjlidfgbdfaa
