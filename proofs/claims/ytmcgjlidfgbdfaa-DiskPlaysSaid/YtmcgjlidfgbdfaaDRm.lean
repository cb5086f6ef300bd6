/- DiskPlays walked: numbers that are refused, and many sectors. -/
import Derived.Test.YtmcgjlidfgbdfaaDRl
namespace Go.Proofs.Ytmcgjlidfgbdfaa
open Go.RowKit

set_option maxRecDepth 100000 in
set_option maxHeartbeats 4000000 in
theorem plays_bad (a b : Int) (v : Value) (w : World) (h : badNew a b) :
    Calls Try.prog 3 #[.int .i64 a, .int .i64 b, v] w fun e w' => e = .returned (.bool true) ∧ Below w.heap.size w w' := by
  have NB := Lib.hid (fun W => new_bad a b W h)
  go_enter Try.func3, Try.ntmps3
  go_wp2_with fail
  refine (awake_any _).mono ?_
  rintro e w1 ⟨rfl, b1⟩
  go_wp2_with fail
  refine (NB.out w1).mono ?_
  rintro e w2 ⟨rfl, rfl⟩
  have B1 := Lib.hid b1
  clear b1 NB
  unfold badNew at h
  by_cases h1 : a < 1
  · clear h
    go_wp2_with fail
    go_ret
    exact ⟨rfl, B1.out⟩
  by_cases h2 : 600 < a
  · clear h
    go_wp2_with fail
    go_ret
    exact ⟨rfl, B1.out⟩
  by_cases h3 : b < 64
  · clear h
    go_wp2_with fail
    go_ret
    exact ⟨rfl, B1.out⟩
  have h4 : 1024 < b := by omega
  clear h
  go_wp2_with fail
  go_ret
  exact ⟨rfl, B1.out⟩
set_option maxRecDepth 100000 in
set_option maxHeartbeats 4000000 in
theorem plays_wide (n size : Nat) (v : Value) (w : World) (h1 : 20 < n) (h2 : n ≤ 600) (h3 : 64 ≤ size) (h4 : size ≤ 1024) :
    Calls Try.prog 3 #[.int .i64 (n : Nat), .int .i64 (size : Nat), v] w fun e w' => e = .returned (.bool true) ∧ Below w.heap.size w w' := by
  have i1 : (20 : Int) < (n : Int) := by omega
  have i2 : (n : Int) ≤ 600 := by omega
  have i3 : (64 : Int) ≤ (size : Int) := by omega
  have i4 : (size : Int) ≤ 1024 := by omega
  have NB := Lib.hid (fun W hb => OwnD.new w n size W hb (by omega) h2 h3 h4)
  clear h1 h2 h3 h4
  go_enter Try.func3, Try.ntmps3
  go_wp2_with fail
  refine (awake_any _).mono ?_
  rintro e w1 ⟨rfl, b1⟩
  have NC := Lib.hid (NB.out w1 b1)
  clear b1 NB
  go_wp2_with fail
  refine NC.out.mono ?_
  rintro e w2 ⟨p, rfl, o2⟩
  have O2 := Lib.hid o2
  clear o2 NC
  go_wp2_with fail
  go_ret
  exact ⟨rfl, O2.out.bel⟩
theorem Both.start {w0 w w' : World} {p : Nat} {n size : Nat} {lv : Value} (h : OwnD w0 w p (Mod.new n size)) (hr : RefAt w' (newR w.heap.size lv n size)) (hb : Below w.heap.size w w') : ∃ F r, Both w0 w' p w.heap.size F (Mod.new n size) r := by
  have hbel := h.bel
  obtain ⟨F, k1, k2, k3⟩ := h
  refine ⟨F, _, k1.below hb, hr, rfl, k2, fun k hk => ?_, Same.new _ _ _ _, below_next k3 hb⟩
  rcases footR_cases hk with rfl | e
  · exact hbel.size
  · simp [newR, Value.ownBlock] at e
end Go.Proofs.Ytmcgjlidfgbdfaa
