/- Of, and the reference's Register and Of. -/
import Derived.Test.YtbdaoecpmodgcaaA3
namespace Go.Proofs.Ytbdaoecpmodgcaa
open Go.RowKit

set_option maxRecDepth 100000 in
theorem of_any (A : Option Addr) (c : Nat) (l : List UInt8) (w : World) (h : Holds w A l) (hn : l.length ≤ 9223372036854775807) :
    Calls Try.prog 7 #[.slice A l.length c] w fun e w' => e = .returned (.int .u32 (sumOn 0 l : Nat)) ∧ Below w.heap.size w w' := by
  have H0 := Lib.hid h
  clear h
  go_enter Try.func7, Try.ntmps7
  go_wp2_with fail
  refine (on_any 0 (by decide) A c l _ H0.out hn).mono ?_
  rintro e w1 ⟨rfl, bel⟩
  go_wp2_with fail
  go_ret
  exact ⟨rfl, bel⟩

theorem bit_test (q v k : Nat) : ((q : Int) % 2 != ((v : Int) / 2 ^ k).tmod 2) = (q % 2 != v / 2 ^ k % 2) := by
  have e1 : ((v : Int) / 2 ^ k) = ((v / 2 ^ k : Nat) : Int) := by simp
  have e2 : (((v / 2 ^ k : Nat) : Int)).tmod 2 = ((v / 2 ^ k % 2 : Nat) : Int) := by
    generalize v / 2 ^ k = z
    rw [Int.tmod_eq_emod_of_nonneg (by omega)]
    omega
  have e3 : (q : Int) % 2 = ((q % 2 : Nat) : Int) := by omega
  rw [e1, e2, e3]
  rw [Bool.eq_iff_iff]
  simp only [bne_iff_ne, ne_eq, Int.natCast_inj]
theorem half_poly (q : Nat) (hq : q < 4294967296) : bits .xor .u32 ((q : Int) / 2) 3988292384 = (((q / 2) ^^^ poly : Nat) : Int) := u32_xor_nat (q / 2) poly (by omega) (by decide)

set_option maxRecDepth 100000 in
set_option maxHeartbeats 1000000 in
theorem register_any (c0 : Nat) (h0 : c0 < 4294967296) (A : Option Addr) (c : Nat) (l : List UInt8) (w : World) (h : Holds w A l) (hn : l.length ≤ 9223372036854775807) :
    Calls Try.prog 16 #[.int .u32 c0, .slice A l.length c] w fun e w' => e = .returned (.int .u32 (reg c0 l : Nat)) ∧ w' = w := by
  have H0 := Lib.hid h
  clear h
  go_enter Try.func16, Try.ntmps16
  go_wp2_with fail
  go_loopg [0, 5] (l.length) (fun j s0 s5 wr => ∃ P R : List UInt8, l = P ++ R ∧ R.length ≤ j ∧ s0 = .int .u32 (reg c0 P : Nat) ∧ s5 = .int .i64 (P.length : Nat) ∧ wr = w)
  case atStart => exact ⟨[], l, rfl, Nat.le_refl _, rfl, rfl, rfl⟩
  case round =>
    obtain ⟨P, R, hl, hR, rfl, rfl, hw⟩ := hrel
    subst hw
    have HL := Lib.hid hl
    have hr : reg c0 P < 4294967296 := reg_lt P _ h0
    clear hl
    cases R with
    | nil =>
      have hlt : ¬ ((P.length : Int) < (l.length : Int)) := by rw [HL.out]; simp
      have HE : Hid (reg c0 l = reg c0 P) := Lib.hid (by rw [HL.out, List.append_nil])
      clear HL
      go_wp2_with fail
      go_ret
      exact ⟨ret_u32 (by rw [HE.out]), rfl⟩
    | cons x R =>
      have hlt : (P.length : Int) < (l.length : Int) := by rw [HL.out]; simp; omega
      have hh := H0.out
      rw [HL.out] at hh
      obtain ⟨b, o, e, hb, hc⟩ := hh.at_
      subst e
      clear hh
      have hP : P.length < l.length := by omega
      have hx : x.toNat < 256 := x.toNat_lt
      have HREL : Hid (l = (P ++ [x]) ++ R) := Lib.hid (by have := HL.out; simpa using this)
      have HR2 : Hid (reg c0 (P ++ [x]) = stps 8 (reg c0 P ^^^ x.toNat)) := Lib.hid (by rw [reg_append]; simp only [reg_cons, reg_nil])
      generalize hrr : reg c0 P = r at *
      clear HL
      have HRR := Lib.hid hrr
      clear hrr
      go_wp2_with fail
      go_loopg [0, 6] 9 (fun j s0 s6 wi => ∃ k : Nat, k ≤ 8 ∧ 8 < k + j ∧ s0 = .int .u32 (stps k (r ^^^ x.toNat) ^^^ x.toNat / 2 ^ k : Nat) ∧ s6 = .int .i64 (k : Nat) ∧ wi = wr)
      case atStart => exact ⟨0, by omega, by omega, by rw [rbit_first], rfl, rfl⟩
      case round =>
        obtain ⟨k, hk, hj, rfl, rfl, hw⟩ := hrel
        subst hw
        have HQ := Lib.hid (rbit_step r x.toNat k)
        have hq : stps k (r ^^^ x.toNat) ^^^ x.toNat / 2 ^ k < 4294967296 := Nat.xor_lt_two_pow (n := 32) (stps_lt (Nat.xor_lt_two_pow hr (by omega)) k) (Nat.lt_of_le_of_lt (Nat.div_le_self _ _) (by omega))
        by_cases h8 : k < 8
        · generalize hqq : stps k (r ^^^ x.toNat) ^^^ x.toNat / 2 ^ k = q at *
          clear hqq
          have hT : ((q : Int) % 2 != ((x.toNat : Int) / 2 ^ k).tmod 2) = (q % 2 != x.toNat / 2 ^ k % 2) := bit_test q x.toNat k
          have HP := Lib.hid (half_poly q hq)
          cases hd : (q % 2 != x.toNat / 2 ^ k % 2) with
          | true =>
            have hT2 : ((q : Int) % 2 != ((x.toNat : Int) / 2 ^ k).tmod 2) = true := hT.trans hd
            have HR3 : Hid (rbit x.toNat k q = q / 2 ^^^ poly) := Lib.hid (if_pos hd)
            clear hd hT
            go_wp2_with fail
            rw [HP.out]
            go_roundg (8 - k)
            case measure => omega
            case rel => exact ⟨k + 1, by omega, by omega, by rw [← HQ.out, HR3.out], by simp, rfl⟩
          | false =>
            have hT2 : ((q : Int) % 2 != ((x.toNat : Int) / 2 ^ k).tmod 2) = false := hT.trans hd
            have HR3 : Hid (rbit x.toNat k q = q / 2) := Lib.hid (if_neg (by rw [hd]; decide))
            clear hd hT
            go_wp2_with fail
            go_roundg (8 - k)
            case measure => omega
            case rel => exact ⟨k + 1, by omega, by omega, by rw [← HQ.out, HR3.out]; simp, by simp, rfl⟩
        · obtain rfl : k = 8 := by omega
          have HLST := Lib.hid (rbit_last r x.toNat hx)
          generalize stps 8 (r ^^^ x.toNat) ^^^ x.toNat / 2 ^ 8 = q at *
          clear HQ
          go_wp2_with fail
          go_roundg R.length
          case measure => simp at hR; omega
          case rel => exact ⟨P ++ [x], R, HREL.out, Nat.le_refl _, by rw [HR2.out, HLST.out], by simp, rfl⟩
end Go.Proofs.Ytbdaoecpmodgcaa
