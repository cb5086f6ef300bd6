/- DiskPlays walked. -/
import Derived.Test.YtmcgjlidfgbdfaaDRm
namespace Go.Proofs.Ytmcgjlidfgbdfaa
open Go.RowKit

/-- a call and what is asked behind it. -/
theorem plays_call {w0 w : World} {p q n size i : Nat} {F : List Nat} {m : Mod} {r : Rf} (h : Both w0 w p q F m r) (ho : Okay m) (hp : Play n size i m) {x : ActG} (hA : Holds w0 x.A x.b) (hf : x.b = [] ∨ Far w0 w x.A) (hr : Rng x.i) (hx : x.p < 18446744073709551616) :
    Calls Try.prog 11 #[.pointer (some ⟨p, 0, none⟩), .pointer (some ⟨q, 0, none⟩), .agg #[.int .i64 x.k, .int .i64 x.i, .slice x.A x.b.length x.c, .int .u64 (x.p : Nat)]] w.drew fun e w4 => e = .returned (.bool true) ∧
      w4.cell? ⟨q, 4, none⟩ = some (.bool (stepM m x).dark) ∧ w4.cell? ⟨q, 5, none⟩ = some (.int .i64 ((stepM m x).deeds : Nat)) ∧ (∃ A c, w4.cell? ⟨q, 2, none⟩ = some (.slice A (stepM m x).waits c)) ∧
      Hid (Calls Try.prog 12 #[.pointer (some ⟨p, 0, none⟩)] w4 fun e w' => e = .returned (.bool (stepM m x).dark) ∧ w' = w4) ∧
      Hid (Calls Try.prog 13 #[.pointer (some ⟨p, 0, none⟩)] w4 fun e w' => e = .returned (.int .i64 ((stepM m x).deeds : Nat)) ∧ w' = w4) ∧
      Hid (Calls Try.prog 14 #[.pointer (some ⟨p, 0, none⟩)] w4 fun e w' => e = .returned (.int .i64 ((stepM m x).waits : Nat)) ∧ w' = w4) ∧
      Hid (Calls Try.prog 15 #[.pointer (some ⟨p, 0, none⟩)] w4 fun e w' => e = .returned (.int .i64 (n : Nat)) ∧ w' = w4) ∧
      Hid (Calls Try.prog 16 #[.pointer (some ⟨p, 0, none⟩)] w4 fun e w' => e = .returned (.int .i64 (size : Nat)) ∧ w' = w4) ∧
      Hid (∃ F' r', Both w0 w4 p q F' (stepM m x) r') := by
  have b0 : Below w.heap.size w w.drew := (Below.refl _ _).drew
  have h0 := h.below b0
  have hf0 : x.b = [] ∨ Far w0 w.drew x.A := hf
  refine (does_any h0 ho x (hA.below h0.bel) hf0 hr hx).mono ?_
  rintro e w4 ⟨rfl, F', r', hb⟩
  have hps := hp.step x hr
  have eq := hb.q
  subst eq
  have d4 := Whole.cell hb.rf.top 4
  have d5 := Whole.cell hb.rf.top 5
  have d2 := Whole.cell hb.rf.top 2
  simp only [rcells, List.getElem?_toArray, List.getElem?_cons_zero, List.getElem?_cons_succ] at d4 d5 d2
  rw [hb.same.dark] at d4
  rw [hb.same.deeds] at d5
  obtain ⟨A, c, ev, -, -⟩ := hb.rf.waits.shape
  rw [ev, hb.same.ws] at d2
  have cs := hb.d.sectors
  have cz := hb.d.size
  rw [hps.n] at cs
  rw [hps.size] at cz
  exact ⟨rfl, d4, d5, ⟨A, c, d2⟩, Lib.hid hb.d.dark, Lib.hid hb.d.deeds, Lib.hid hb.d.waits, Lib.hid cs, Lib.hid cz, Lib.hid ⟨F', r', hb⟩⟩
end Go.Proofs.Ytmcgjlidfgbdfaa
