/- The table of low bytes, walked. -/
import Derived.Test.YtbdaoecpmodgcaaA1
namespace Go.Proofs.Ytbdaoecpmodgcaa
open Go.RowKit

set_option maxRecDepth 100000 in
set_option maxHeartbeats 1000000 in
theorem low_any (w : World) :
    Calls Try.prog 17 #[] w fun e w' => e = .returned (.agg (lowTab (stps 8))) ∧ Below w.heap.size w w' := by
  have Z := fun W => zeroTab W
  go_enter Try.func17, Try.ntmps17
  go_wp2_with fail
  clear Z
  go_loopg [2, 3] 9 (fun j s2 s3 wr => ∃ K f, K ≤ 8 ∧ K ≤ j ∧ s2 = .int .u32 (stps (8 - K) 1 : Nat) ∧ s3 = .int .i64 (half K : Nat) ∧ Good (2 ^ K) f ∧ LowW w wr f)
  case atStart => exact ⟨8, _, by omega, by omega, rfl, rfl, Good.first, LowW.first w⟩
  case round =>
    obtain ⟨K, f, hK, hj, rfl, rfl, hg, hl⟩ := hrel
    have HG := Lib.hid hg
    have HL := Lib.hid hl
    clear hg hl
    rcases K with _ | K
    · simp only [half]
      have SZ : (Try.prog.info? 37).map (·.size) = some (lowTab f).size := by rw [lowTab_size]; exact size37
      have S2 : (lowTab fun _ => 0).size = (lowTab f).size := by rw [lowTab_size, lowTab_size]
      go_wp2_with (first
        | (refine wpList_load_row rfl 37 (.tmp 1) rfl (w.heap.size + 1) rfl 37 (lowTab f) (0, 0) _ HL.out.tab Try.underlying37 rfl SZ ?_)
        | (refine wpList_store_row rfl 37 (.tmp 0) (.tmp 26) rfl w.heap.size (lowTab f) rfl rfl 37 (lowTab fun _ => 0) HL.out.told SZ S2 (lowTab_one f) ?_))
      refine bodyPost_ret (results_cell_row rfl _ _ w.heap.size 37 (lowTab f) (0, 0) _ rfl ?_ Try.underlying37 rfl (by rw [lowTab_size]; exact size37)) rfl ⟨?_, ?_⟩
      · exact setRow_heap _ _ _ _ _ _ HL.out.told
      · rw [lowTab_ext HG.out.last]
      · exact below_setRow HL.out.bel (Nat.le_refl _) _
    · have hp := pow_le K (by omega)
      have ha := alone_step K (by omega)
      have hsh : stps (8 - (K + 1)) 1 < 4294967296 := stps_lt (by decide) _
      have HA : Hid (stp (stps (8 - (K + 1)) 1) = stps (8 - K) 1 ∧ stps (8 - K) 1 = stps 8 (2 ^ K)) := ⟨by rw [show 8 - K = (8 - (K + 1)) + 1 by omega]; rfl, ha⟩
      clear ha
      have hpos : (0 : Int) < ((2 ^ K : Nat) : Int) := by omega
      have hnl : stp (stps (8 - (K + 1)) 1) < 4294967296 := stp_lt hsh
      have HM : Hid (Mid (2 ^ K) 0 f) := by
        have := HG.out
        rw [Nat.pow_succ, Nat.mul_comm] at this
        exact this.mid
      have HH := Lib.hid (half_of K)
      clear HG
      simp only [half]
      generalize hb : 2 ^ K = b at *
      have HB := Lib.hid hb
      clear hb
      generalize hc : stps (8 - (K + 1)) 1 = c at *
      have HC := Lib.hid hc
      clear hc
      generalize hd : stp c = d at *
      have HD := Lib.hid hd
      clear hd
      go_wp2_with (with_reducible refine (shift_any c hsh _).mono ?_; rintro e w' ⟨rfl, rfl⟩)
      simp only [HD.out]
      go_loopg [4] 257 (fun j s4 wr => ∃ A f, A ≤ 256 ∧ 256 < A + j ∧ s4 = .int .i64 (A : Nat) ∧ A % (2 * b) = 0 ∧ Mid b A f ∧ LowW w wr f)
      case atStart => exact ⟨0, f, by omega, by omega, rfl, Nat.zero_mod _, HM.out, HL.out⟩
      case round =>
        obtain ⟨A, f, hA, hj2, rfl, hm, hmid, hlow⟩ := hrel
        have HMM := Lib.hid hmid
        have HM2 := Lib.hid hm
        have HL2 := Lib.hid hlow
        clear hmid hm hlow
        by_cases hlt : A < 256
        · have hcell : wr.cell? ⟨w.heap.size + 1, A, none⟩ = some (.int .u32 (f A : Nat)) := by rw [HL2.out.tab.cell]; exact lowTab_at f A hlt
          have hroom : A + 2 * b ≤ 256 := by rw [← HB.out]; exact room_even K A (by omega) hlt (by rw [HB.out]; exact HM2.out)
          have hcell2 : wr.cell? ⟨w.heap.size + 1, A + b, none⟩ = some (.int .u32 (f (A + b) : Nat)) := by rw [HL2.out.tab.cell]; exact lowTab_at f (A + b) (by omega)
          have hfr : wr.frozen? ⟨w.heap.size + 1, A + b, none⟩ = false := HL2.out.tab.frozen _
          have hfA : f A < 4294967296 := HMM.out.1 A hlt
          have hx : bits .xor .u32 (f A : Int) (d : Int) = ((f A ^^^ d : Nat) : Int) := u32_xor' _ _ hfA hnl
          have HX := Lib.hid hx
          clear hx
          go_wp2_with fail
          rw [HX.out]
          have HS : Hid (Mid b (A + 2 * b) (fun x => if x = A + b then f A ^^^ d else f x)) := by
            have hm2 := HM2.out
            have hmid := HMM.out
            have h0 := HA.out.1.trans HA.out.2
            rw [h0]
            rw [← HB.out] at hm2 hmid ⊢
            exact Mid.step (by omega) hlt hm2 hmid
          have HE : Hid ((A + 2 * b) % (2 * b) = 0) := by
            have hm2 := HM2.out
            rw [← HB.out] at hm2 ⊢
            exact next_even K A hm2
          have HW : Hid (LowW w (wr.setCell ⟨w.heap.size + 1, A + b, none⟩ (.int .u32 (f A ^^^ d : Nat))) (fun x => if x = A + b then f A ^^^ d else f x)) := HL2.out.set _ _
          go_roundg (257 - (A + 2 * b))
          case measure => omega
          case rel => exact ⟨A + 2 * b, _, hroom, by omega, by simp, HE.out, HS.out, HW.out⟩
        · obtain rfl : A = 256 := by omega
          have HG2 : Hid (Good b f) := HMM.out.good
          go_wp2_with fail
          go_roundg K
          case measure => omega
          case rel => exact ⟨K, f, by omega, by omega, by rw [HA.out.1], by rw [HH.out], by rw [HB.out]; exact HG2.out, HL2.out⟩
end Go.Proofs.Ytbdaoecpmodgcaa
