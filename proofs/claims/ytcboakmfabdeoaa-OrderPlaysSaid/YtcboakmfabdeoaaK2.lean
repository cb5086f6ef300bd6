import Derived.Test.YtcboakmfabdeoaaM8

/- OrderPlays: the walk. -/
namespace Go.Proofs.Ytcboakmfabdeoaa
open Go.RowKit

set_option maxRecDepth 100000 in
set_option maxHeartbeats 1000000 in
theorem orderPlays_any (t : Int) (a : Option Addr) (c : Nat) (ds : List Deed) (k n : Int) (hn : n ≤ 9223372036854775807) (w : World) (h : CameA w a ds) : Calls Try.prog 3 #[.int .i64 t, .slice a ds.length c, .int .i64 k, .int .i64 n] w fun e w' => e = .returned (.bool true) ∧ Below w.heap.size w w' := by
  have H := Lib.hid h
  clear h
  go_enter Try.func3, Try.ntmps3
  go_wp2_with fail
  refine (awake_any _).mono ?_
  rintro e w1 ⟨rfl, hb1⟩
  have B1 := Lib.hid hb1
  have H1 := Lib.hid (H.out.below hb1)
  clear hb1 H
  by_cases ht : t < 2 ∨ 64 < t
  · have NO := Lib.hid (new_no t w1 ht)
    rcases ht with ht | ht
    · go_wp2_with fail
      refine NO.out.mono ?_
      rintro e w2 ⟨rfl, rfl⟩
      go_wp2
      go_ret
      exact ⟨rfl, B1.out⟩
    · go_wp2_with fail
      refine NO.out.mono ?_
      rintro e w2 ⟨rfl, rfl⟩
      go_wp2
      go_ret
      exact ⟨rfl, B1.out⟩
  · obtain ⟨T, rfl⟩ : ∃ T : Nat, t = T := ⟨t.toNat, by omega⟩
    have ht1 : ¬ (T : Int) < 2 := by omega
    have ht2 : ¬ (64 : Int) < (T : Int) := by omega
    have ht3 : ¬ (T : Int) > 64 := by omega
    have h2 : 2 ≤ T := by omega
    have h64 : T ≤ 64 := by omega
    clear ht
    go_wp2_with fail
    refine (new_ok T _ h2 h64).mono ?_
    rintro e w2 ⟨rfl, hw2⟩
    have P2 : Hid (Playing w1.heap.size T w1.heap.size (w1.heap.size + 1) w1 (w2.alloc (.cells #[.slice none 0 0] 31)) []) := by
      rw [hw2]; exact Lib.hid (Playing.new (Below.refl _ _))
    have hr : w1.heap.size + 1 = w2.heap.size := by rw [hw2, World.size_alloc]
    rw [hr] at P2
    clear hw2 hr
    go_wp2_with fail
    have hsz : w1.heap.size ≤ w1.heap.size := Nat.le_refl _
    generalize w2.heap.size = r at *
    generalize hm : w1.heap.size = m at *
    generalize w2.alloc (.cells #[.slice none 0 0] 31) = w3 at *
    have HM := Lib.hid hm
    clear hm hsz
    go_loopg [12] ds.length (fun j s12 wr => ∃ (i : Nat) (L : List Pr), i + j = ds.length ∧ i ≤ 300 ∧ s12 = .int .i64 (i : Nat) ∧ L.length ≤ i ∧ Playing m T m r w1 wr L)
    case atStart => exact ⟨0, [], by omega, by omega, rfl, Nat.le_refl _, P2.out⟩
    case round =>
      obtain ⟨i, L, hij, hi2, rfl, hL, hp⟩ := hrel
      have PL := Lib.hid hp
      have HIJ := Lib.hid hij
      have HL := Lib.hid hL
      clear hij hL hp P2
      by_cases h1 : (i : Int) < (ds.length : Int)
      · by_cases h3 : (i : Int) < 300
        · have hi : i < ds.length := by omega
          have BW : Below w1.heap.size w1 wr := by obtain ⟨_, _, _, b⟩ := PL.out; rw [HM.out]; exact b
          have HW := Lib.hid (H1.out.below BW)
          clear BW
          obtain ⟨b, off, rfl, hbs, k0, k1, k2⟩ := HW.out.cell i hi
          have HI := Lib.hid h1
          have HI2 := Lib.hid h3
          have KEY : Hid (∀ W, Playing m T m r w1 W L ∨ (∃ L', Playing m T m r w1 W L') → W.cell? ⟨b, off + i * 3 + 1, none⟩ = some (.int .i64 ds[i].k)) := Lib.hid (fun W hW => by
            have BW : Below w1.heap.size w1 W := by rcases hW with ⟨_, _, _, b⟩ | ⟨_, _, _, _, b⟩ <;> (rw [HM.out]; exact b)
            obtain ⟨b', off', e, _, _, z, _⟩ := (H1.out.below BW).cell i hi
            cases e; exact z)
          generalize ds[i].c = C at *
          generalize ds[i].k = K at *
          generalize ds[i].x = S at *
          have DO := Lib.hid (PL.out.does (by rw [HM.out]; exact Nat.le_refl _) C K S h2 h64 (by have := HL.out; omega))
          go_wp2_with fail
          refine DO.out.mono ?_
          rintro e w4 ⟨rfl, L', hL', P4⟩
          have hL2 : L'.length ≤ i + 1 := by have := HL.out; omega
          have HL4 := Lib.hid hL2
          have c4 := KEY.out w4 (.inr ⟨L', P4⟩)
          have T4 := Lib.hid (P4.told (by rw [HM.out]; exact Nat.le_refl _) K n hn (by omega))
          clear P4 DO hL' hL2 k0 k1 k2 PL
          go_wp2_with fail
          refine T4.out.mono ?_
          rintro e w5 ⟨rfl, P5⟩
          have T5 := Lib.hid (P5.told (by rw [HM.out]; exact Nat.le_refl _) k i (by have := HI2.out; omega) (by have := HL4.out; have := HI2.out; omega))
          clear P5 T4 c4
          go_wp2_with fail
          refine T5.out.mono ?_
          rintro e w6 ⟨rfl, P6⟩
          have PP6 := Lib.hid P6
          clear P6 T5
          go_wp2_with fail
          go_roundg (ds.length - i - 1)
          case measure => have := HIJ.out; have := HI.out; omega
          case rel => exact ⟨i + 1, L', by have := HIJ.out; have := HI.out; omega, by have := HI2.out; omega, by simp, HL4.out, PP6.out⟩
        · go_wp2_with fail
          go_ret
          exact ⟨rfl, B1.out.trans (by obtain ⟨_, _, _, b⟩ := PL.out; rw [← HM.out] at b; exact b.mono B1.out.size)⟩
      · go_wp2_with fail
        go_ret
        exact ⟨rfl, B1.out.trans (by obtain ⟨_, _, _, b⟩ := PL.out; rw [← HM.out] at b; exact b.mono B1.out.size)⟩
end Go.Proofs.Ytcboakmfabdeoaa
