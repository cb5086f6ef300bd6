/- does: reads. -/
import Derived.Test.YtmcgjlidfgbdfaaDRi
namespace Go.Proofs.Ytmcgjlidfgbdfaa
open Go.RowKit

section
variable {w0 w : World} {p q : Nat} {F : List Nat} {m : Mod} {r : Rf}

set_option maxRecDepth 100000 in
set_option maxHeartbeats 4000000 in
theorem does_readErr (h : Both w0 w p q F m r) (x : ActG) (hk : x.k = 5) (h0 : ¬ m.takes x.i 0 = 0) :
    Calls Try.prog 11 #[.pointer (some ⟨p, 0, none⟩), .pointer (some ⟨q, 0, none⟩), actV x] w fun e w' => e = .returned (.bool true) ∧ ∃ F' r', Both w0 w' p q F' (stepM m x) r' := by
  have e0 : stepM m x = m := by unfold stepM; rw [if_neg (by omega), if_neg (by omega), if_neg (by omega), if_neg (by omega)]
  rw [e0]
  obtain ⟨k, i, A, c, b, pp⟩ := x
  simp only at hk h0
  subst hk
  have eq := h.q
  subst eq
  have h2 : Both w0 (w.alloc (.cells #[.int .i64 5, .int .i64 i, .slice A b.length c, .int .u64 (pp : Nat)] 33)) p r.p F m r := h.boxed ⟨5, i, A, c, b, pp⟩
  have t : Whole (w.alloc (.cells #[.int .i64 5, .int .i64 i, .slice A b.length c, .int .u64 (pp : Nat)] 33)) w.heap.size 33 #[.int .i64 5, .int .i64 i, .slice A b.length c, .int .u64 (pp : Nat)] := Whole.new _ _ _
  have H2 := Lib.hid h2
  have d4 := Whole.cell h2.rf.top 4
  have d0 := Whole.cell h2.rf.top 0
  have c1 := Whole.cell t 1
  simp only [rcells, List.getElem?_toArray, List.getElem?_cons_zero, List.getElem?_cons_succ] at d4 d0 c1
  have hrl : r.last.length = m.n := h.same.n
  have hdd := h.same.dark
  obtain ⟨A0, c0, ev, hc0, -⟩ := h.rf.last.shape
  rw [ev] at d0
  have hfew := h.rf.few
  have call := h2.d.readErr i _ rfl h0
  clear h t h2 ev
  unfold actV
  simp only
  by_cases hdk : m.dark = true
  · have et : m.takes i 0 = 17 := by unfold Mod.takes; rw [if_pos hdk]
    rw [et] at call
    rw [hdd, hdk] at d4
    have C := Lib.hid call
    clear call et h0 hdk hdd e0
    go_enter Try.func11, Try.ntmps11
    go_wp2_with fail
    refine C.out.mono ?_
    rintro e w1 ⟨rfl, rfl⟩
    go_wp2_with fail
    go_ret
    exact ⟨rfl, _, _, H2.out⟩
  · have hdk' : m.dark = false := by simpa using hdk
    have hx : i < 0 ∨ (m.n : Int) ≤ i := by
      unfold Mod.takes at h0
      rw [hdk', if_neg (by simp)] at h0
      by_cases hx : i < 0 ∨ (m.n : Int) ≤ i ∨ (m.size : Int) < 0
      · omega
      · rw [if_neg hx] at h0; exact absurd rfl h0
    have et : m.takes i 0 = 1 := by unfold Mod.takes; rw [hdk', if_neg (by simp), if_pos (by omega)]
    rw [et] at call
    rw [hdd, hdk'] at d4
    have C := Lib.hid call
    clear call et h0 hdk hdk' hdd e0
    go_enter Try.func11, Try.ntmps11
    go_wp2_with fail
    refine C.out.mono ?_
    rintro e w1 ⟨rfl, rfl⟩
    by_cases hi : i < 0
    · go_wp2_with fail
      go_quiet (fail)
      go_wp2_with fail
      go_ret
      exact ⟨rfl, _, _, (H2.out.below (below_drewN (Below.refl _ _) _))⟩
    · have hi2 : (r.last.length : Int) ≤ i := by omega
      clear hx
      go_wp2_with fail
      go_quiet (fail)
      go_wp2_with fail
      go_ret
      exact ⟨rfl, _, _, (H2.out.below (below_drewN (Below.refl _ _) _))⟩
end
end Go.Proofs.Ytmcgjlidfgbdfaa
