/- Clip, addUint, addInt, addText; the reference's Uint, Int, Text. -/
import Derived.Test.YtmpiknaoocflcaaK1
import Derived.Test.YtmpiknaoocflcaaK2
namespace Go.Proofs.Ytmpiknaoocflcaa
open Go.RowKit

set_option maxRecDepth 100000 in
theorem clip_any (A : Option Addr) (c n : Nat) (w : World) (hc : n ≤ c) :
    Calls Try.prog 34 #[.slice A n c] w fun r w' => r = .returned (.slice A n n) ∧ w' = w := by
  have h1 : (n : Int) ≤ (c : Int) := by omega
  go_enter Try.func34, Try.ntmps34
  go_wp2_with fail
  go_ret
  exact ⟨rfl, rfl⟩

theorem or128 : ∀ x : Fin 128, x.val ||| 128 = x.val + 128 := by decide +kernel
theorem low7 (m : Nat) (hm : m < 18446744073709551616) : ((UInt8.ofNat (m % 128 + 128)).toNat : Int) = bits .or .u8 (bits .and .u64 (m : Int) 127 % 256) 128 := by
  have h0 : bits .and .u64 (m : Int) 127 = ((m % 128 : Nat) : Int) := by
    have := u64_and_nat m 127 hm (by omega)
    rw [show m &&& 127 = m % 128 from Nat.and_two_pow_sub_one_eq_mod m 7] at this
    exact this
  have h1 := or128 ⟨m % 128, by omega⟩
  simp only at h1
  have h2 := u8_or_nat (m % 128) 128 (by omega) (by omega)
  rw [h1] at h2
  rw [UInt8.toNat_ofNat', h0, show (((m % 128 : Nat) : Int) % 256) = ((m % 128 : Nat) : Int) by omega]
  rw [show (bits .or .u8 ((m % 128 : Nat) : Int) 128) = ((m % 128 + 128 : Nat) : Int) from h2]
  omega

set_option maxRecDepth 100000 in
set_option maxHeartbeats 1000000 in
theorem addUint_any (w0 : World) (n0 : Nat) (h0 : n0 < 18446744073709551616) (v0 : Value) (l : List UInt8) (w : World) (h : Ready w0 w v0 l) (hl : l.length ≤ 900000) :
    Calls Try.prog 33 #[v0, .int .u64 n0] w fun r w' => ∃ v, r = .returned v ∧ Row w' w0.heap.size v (l ++ grp n0) ∧ Below w0.heap.size w0 w' := by
  have H0 := Lib.hid h
  have h10 := grp_ten h0
  clear h
  go_enter Try.func33, Try.ntmps33
  go_wp2_with fail
  go_loopg [0, 1] (n0 + 1) (fun j s0 s1 wr => ∃ (m : Nat) (l' : List UInt8), m < j ∧ m < 18446744073709551616 ∧ s1 = .int .u64 (m : Nat) ∧ l ++ grp n0 = l' ++ grp m ∧ Ready w0 wr s0 l')
  case atStart => exact ⟨n0, l, by omega, h0, rfl, rfl, H0.out⟩
  case round =>
    obtain ⟨m, l', hj, hm, rfl, he, hr⟩ := hrel
    have HE := Lib.hid he
    have HR := Lib.hid hr
    have hlen : l'.length + (grp m).length ≤ 900010 := by
      have := congrArg List.length he
      rw [List.length_append, List.length_append] at this
      omega
    have hgp := grp_pos m
    clear he hr
    by_cases hs : m < 128
    · have hgm := grp_small hs
      have hx : ((UInt8.ofNat m).toNat : Int) = (m : Int) := by rw [UInt8.toNat_ofNat']; omega
      obtain ⟨v', w', ha, ro, bo⟩ := append_ready (HR.out.alloc (.cells #[.int .u8 ((UInt8.ofNat m).toNat : Nat)] 5)) (some ⟨wr.heap.size, 0, none⟩) 1 [UInt8.ofNat m] (one_byte wr _) (by simp) (by simp; omega)
      rw [hx] at ha
      rw [← hgm, ← HE.out] at ro
      have HA := Lib.hid ha
      have RO := Lib.hid ro
      have BO := Lib.hid bo
      clear ha ro bo hgm hx HR HE
      go_wp2_with (at_builtin; refine Lib.wpList_append_run _ rfl (.tmp 16) (.tmp 19) 23 23 rfl _ _ rfl rfl _ _ HA.out ?_)
      go_ret
      exact ⟨_, rfl, RO.out, BO.out⟩
    · have hgm := grp_more hs
      have hx := low7 m hm
      obtain ⟨v', w', ha, ro, bo⟩ := append_ready (HR.out.alloc (.cells #[.int .u8 ((UInt8.ofNat (m % 128 + 128)).toNat : Nat)] 5)) (some ⟨wr.heap.size, 0, none⟩) 1 [UInt8.ofNat (m % 128 + 128)] (one_byte wr _) (by simp) (by simp; omega)
      rw [hx] at ha
      have hE2 : l ++ grp n0 = (l' ++ [UInt8.ofNat (m % 128 + 128)]) ++ grp (m / 128) := by rw [HE.out, hgm]; simp
      have HE2 := Lib.hid hE2
      have HA := Lib.hid ha
      have RO := Lib.hid ro
      have BO := Lib.hid bo
      clear ha ro bo hgm hx HR HE hE2
      go_wp2_with (at_builtin; refine Lib.wpList_append_run _ rfl (.tmp 9) (.tmp 14) 23 23 rfl _ _ rfl rfl _ _ HA.out ?_)
      go_roundg (m / 128 + 1)
      case measure => omega
      case rel => exact ⟨m / 128, _, by omega, by omega, by simp, HE2.out, Ready.of_row RO.out BO.out⟩
end Go.Proofs.Ytmpiknaoocflcaa
