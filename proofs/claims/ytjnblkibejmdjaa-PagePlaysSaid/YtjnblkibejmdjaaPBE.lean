/- awake; a page that is not there. -/
import Derived.Test.YtjnblkibejmdjaaPBD
namespace Go.Proofs.Ytjnblkibejmdjaa
open Go.RowKit
set_option linter.unusedVariables false
set_option maxRecDepth 100000 in
set_option maxHeartbeats 1000000 in
theorem awake_any (w : World) : Calls Try.prog 5 #[] w fun e w' => e = .returned (.bool true) ∧ Below w.heap.size w w' := by
  have NW := Lib.hid (new_good 64 (by omega) (by omega) w)
  have MK60 := fun W => make_bytes 60 60 rfl (by omega) W
  have MK59 := fun W => make_bytes 59 59 rfl (by omega) W
  go_enter Try.func5, Try.ntmps5
  go_wp2_with fail
  refine NW.out.mono ?_
  rintro e w1 ⟨rfl, hp, hb⟩
  have b2 : Below w1.heap.size w1 (w1.alloc (.cells (encB (zeros 60)).toArray 5)) := (Below.refl _ _).alloc (Nat.le_refl _) _
  have A1 := add_full (hp.below b2) (some ⟨w1.heap.size, 0, none⟩) 60 60 (by omega) (by omega) (.inr (by simp [newP, Pg.left, Pg.L, bbs, used]))
  have HP := Lib.hid hp
  have HB := Lib.hid hb
  have B2 := Lib.hid b2
  have A1 := Lib.hid A1
  unfold Pg.ptr at A1
  simp only [newP] at A1
  clear NW hp hb b2
  go_wp2_with fail
  refine A1.out.mono ?_
  rintro e w2 ⟨rfl, k, rfl⟩
  have B3 : Hid (Below w1.heap.size w1 ((w1.alloc (.cells (encB (zeros 60)).toArray 5)).drewN k)) := Lib.hid (below_drewN B2.out k)
  generalize (w1.alloc (.cells (encB (zeros 60)).toArray 5)).drewN k = w3 at *
  have b4 : Below w1.heap.size w1 (w3.alloc (.cells (encB (zeros 59)).toArray 5)) := B3.out.alloc B3.out.size _
  have hz : BB (w3.alloc (.cells (encB (zeros 59)).toArray 5)) w3.heap.size (zeros 59) := Whole.new _ _ _
  have A2 := add_ok (HP.out.below b4) (some ⟨w3.heap.size, 0, none⟩) 59 (zeros 59) hz.holds0 (by decide) (by simp [newP]) (by simp [newP, Pg.left, Pg.L, bbs, used, zeros])
  rw [zeros_len] at A2
  have A2 := Lib.hid A2
  unfold Pg.ptr at A2
  simp only [newP, List.length_nil] at A2
  rw [show ((0 : Nat) : Int) = 0 from rfl] at A2
  have B4 := Lib.hid b4
  clear A1 B2 B3 b4 hz
  go_wp2_with fail
  refine A2.out.mono ?_
  rintro e w5 ⟨rfl, P', g, hL⟩
  have RM := room_at g.1
  have hp' : P'.p = w.heap.size := g.2.1
  have hs' : P'.size = 64 := g.2.2.1
  have hl' : P'.left = 0 := by
    unfold Pg.left
    rw [hL, ← show P'.L.length = P'.xs.length from bbs_len _, hL, hs']
    simp [Pg.L, bbs, used, zeros]
  unfold Pg.ptr at RM
  rw [hp', hl', show ((0 : Nat) : Int) = 0 from rfl] at RM
  have RM := Lib.hid RM
  have hF : ∀ k ∈ foot { p := w.heap.size, size := 64, A := none, c := 0, xs := [] : Pg }, w.heap.size ≤ k := fun k hk => by
    rcases foot_cases hk with rfl | e
    · exact Nat.le_refl _
    · simp [Value.ownBlock] at e
  have FIN : Hid (Below w.heap.size w w5) := Lib.hid (Touch.fresh (below_next HB.out B4.out) g.2.2.2.2 hF)
  clear A2 g hL hp' hs' hl' hF
  go_wp2_with fail
  refine RM.out.mono ?_
  rintro e w6 ⟨rfl, k6, rfl⟩
  go_wp2_with fail
  go_ret
  exact ⟨rfl, below_drewN FIN.out k6⟩
set_option maxRecDepth 100000 in
set_option maxHeartbeats 1000000 in
theorem pageNil_all (i : Int) (A : Option Addr) (n c : Nat) (w : World) : Calls Try.prog 4 #[.int .i64 i, .slice A n c] w fun e w' => e = .returned (.bool true) ∧ Below w.heap.size w w' := by
  have AW := Lib.hid (awake_any w)
  have A1 := Lib.hid fun W => add_nil A n c W
  have G1 := Lib.hid fun W => get_nil i W
  have S1 := Lib.hid fun W => set_nil i A n c W
  have D1 := Lib.hid fun W => drop_nil i W
  have L1 := Lib.hid fun W => slots_nil W
  have R1 := Lib.hid fun W => room_nil W
  have Y1 := Lib.hid fun W => bytes_nil W
  go_enter Try.func4, Try.ntmps4
  go_wp2_with fail
  refine AW.out.mono ?_
  rintro e w1 ⟨rfl, hb⟩
  have HB := Lib.hid hb
  clear hb AW
  go_wp2_with (first
    | (go_at_call 8; refine (A1.out _).mono ?_; rintro e w' ⟨rfl, rfl⟩)
    | (go_at_call 14; refine (G1.out _).mono ?_; rintro e w' ⟨rfl, rfl⟩)
    | (go_at_call 9; refine (S1.out _).mono ?_; rintro e w' ⟨rfl, rfl⟩)
    | (go_at_call 10; refine (D1.out _).mono ?_; rintro e w' ⟨rfl, rfl⟩)
    | (go_at_call 15; refine (L1.out _).mono ?_; rintro e w' ⟨rfl, rfl⟩)
    | (go_at_call 16; refine (R1.out _).mono ?_; rintro e w' ⟨rfl, rfl⟩)
    | (go_at_call 13; refine (Y1.out _).mono ?_; rintro e w' ⟨rfl, rfl⟩))
  go_ret
  exact ⟨rfl, HB.out⟩
end Go.Proofs.Ytjnblkibejmdjaa
