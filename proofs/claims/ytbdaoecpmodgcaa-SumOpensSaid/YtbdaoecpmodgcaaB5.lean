/- One turned byte: SumFinds walked. -/
import Derived.Test.YtbdaoecpmodgcaaB4
namespace Go.Proofs.Ytbdaoecpmodgcaa
open Go.RowKit

theorem num4_eq (x0 x1 x2 x3 : UInt8) (r : List UInt8) : num4 (x0 :: x1 :: x2 :: x3 :: r) = x0.toNat + 256 * x1.toNat + 65536 * x2.toNat + 16777216 * x3.toNat := rfl
theorem toNat_ne {x y : UInt8} (h : y ≠ x) : y.toNat ≠ x.toNat := fun e => h (UInt8.toNat_inj.1 e)
theorem sealed_open (e : Nat) (b : List UInt8) (hb : b.length ≤ 4000) : ∃ a0 a1 a2 a3 s0 s1 s2 s3 e0 e1 e2 e3 : UInt8, sealed e b = a0 :: a1 :: a2 :: a3 :: s0 :: s1 :: s2 :: s3 :: e0 :: e1 :: e2 :: e3 :: b ∧
    a0.toNat + 256 * a1.toNat + 65536 * a2.toNat + 16777216 * a3.toNat = b.length ∧ s0.toNat + 256 * s1.toNat + 65536 * s2.toNat + 16777216 * s3.toNat = sumOn 0 (e0 :: e1 :: e2 :: e3 :: b) ∧
    (e < 4294967296 → e0.toNat + 256 * e1.toNat + 65536 * e2.toNat + 16777216 * e3.toNat = e) := by
  have h1 := num4_word b.length (by omega) []
  have h2 := num4_word (sumOn 0 (word4 e ++ b)) (sumOn_lt 0 _) []
  exact ⟨_, _, _, _, _, _, _, _, _, _, _, _, rfl, h1, h2, fun he => num4_word e he []⟩
theorem turned_found (e : Nat) (he : e < 4294967296) (b : List UInt8) (hb : b.length ≤ 4000) (k : Nat) (y : UInt8) (h4 : 4 ≤ k) (hk : k < (sealed e b).length) (hy : y ≠ (sealed e b)[k]) : openE e ((sealed e b).set k y) = 11 := by
  obtain ⟨a0, a1, a2, a3, s0, s1, s2, s3, e0, e1, e2, e3, hs, h1, h2, h3⟩ := sealed_open e b hb
  have h3 := h3 he
  have hlen := sealed_length e b
  simp only [hs] at hy hk hlen ⊢
  have hl : ∀ j z, (List.set (a0 :: a1 :: a2 :: a3 :: s0 :: s1 :: s2 :: s3 :: e0 :: e1 :: e2 :: e3 :: b) j z).length = b.length + 12 := by intro j z; simp
  unfold openE
  rw [hl]
  match k, h4 with
  | 4, _ =>
    simp only [List.set, List.getElem_cons_succ, List.getElem_cons_zero, num4_eq, List.drop_succ_cons, List.drop_zero] at hy ⊢
    have := toNat_ne hy
    rw [if_neg (by omega), if_pos]
    rw [h1, List.take_of_length_le (by simp), ← h2]
    omega
  | 5, _ =>
    simp only [List.set, List.getElem_cons_succ, List.getElem_cons_zero, num4_eq, List.drop_succ_cons, List.drop_zero] at hy ⊢
    have := toNat_ne hy
    rw [if_neg (by omega), if_pos]
    rw [h1, List.take_of_length_le (by simp), ← h2]
    omega
  | 6, _ =>
    simp only [List.set, List.getElem_cons_succ, List.getElem_cons_zero, num4_eq, List.drop_succ_cons, List.drop_zero] at hy ⊢
    have := toNat_ne hy
    rw [if_neg (by omega), if_pos]
    rw [h1, List.take_of_length_le (by simp), ← h2]
    omega
  | 7, _ =>
    simp only [List.set, List.getElem_cons_succ, List.getElem_cons_zero, num4_eq, List.drop_succ_cons, List.drop_zero] at hy ⊢
    have := toNat_ne hy
    rw [if_neg (by omega), if_pos]
    rw [h1, List.take_of_length_le (by simp), ← h2]
    omega
  | 8, _ =>
    simp only [List.set, List.getElem_cons_succ, List.getElem_cons_zero, num4_eq, List.drop_succ_cons, List.drop_zero] at hy ⊢
    have := toNat_ne hy
    rw [if_neg (by omega), if_pos (.inl (by omega))]
  | 9, _ =>
    simp only [List.set, List.getElem_cons_succ, List.getElem_cons_zero, num4_eq, List.drop_succ_cons, List.drop_zero] at hy ⊢
    have := toNat_ne hy
    rw [if_neg (by omega), if_pos (.inl (by omega))]
  | 10, _ =>
    simp only [List.set, List.getElem_cons_succ, List.getElem_cons_zero, num4_eq, List.drop_succ_cons, List.drop_zero] at hy ⊢
    have := toNat_ne hy
    rw [if_neg (by omega), if_pos (.inl (by omega))]
  | 11, _ =>
    simp only [List.set, List.getElem_cons_succ, List.getElem_cons_zero, num4_eq, List.drop_succ_cons, List.drop_zero] at hy ⊢
    have := toNat_ne hy
    rw [if_neg (by omega), if_pos (.inl (by omega))]
  | j + 12, _ =>
    have hj : j < b.length := by simp at hk; omega
    simp only [List.set, List.getElem_cons_succ, num4_eq, List.drop_succ_cons, List.drop_zero] at hy ⊢
    refine (if_neg (by omega)).trans (if_pos (.inr ?_))
    rw [h1, List.take_of_length_le (by simp), h2]
    intro hq
    have hb2 : b.set j y = b.take j ++ y :: b.drop (j + 1) := List.set_eq_take_append_cons_drop .. |>.trans (by rw [if_pos hj])
    have hb1 : b = b.take j ++ b[j] :: b.drop (j + 1) := by simp
    rw [hb2] at hq
    have hq2 : sumOn 0 ((e0 :: e1 :: e2 :: e3 :: b.take j) ++ b[j] :: b.drop (j + 1)) = sumOn 0 ((e0 :: e1 :: e2 :: e3 :: b.take j) ++ y :: b.drop (j + 1)) := by
      simp only [List.cons_append]
      rw [← hb1]
      exact hq
    exact hy (sum_turned 0 _ _ _ _ hq2).symm

theorem turned_byte (x : UInt8) (t : Nat) (ht : t < 256) (h0 : t ≠ 0) : UInt8.ofNat (x.toNat ^^^ t) ≠ x ∧ bits .xor .u8 (x.toNat : Int) (t : Int) = ((UInt8.ofNat (x.toNat ^^^ t)).toNat : Nat) := by
  have hx := x.toNat_lt
  have hlt : x.toNat ^^^ t < 256 := Nat.xor_lt_two_pow (n := 8) hx ht
  have hn : (UInt8.ofNat (x.toNat ^^^ t)).toNat = x.toNat ^^^ t := by rw [UInt8.toNat_ofNat']; exact Nat.mod_eq_of_lt hlt
  refine ⟨fun e => ?_, ?_⟩
  · have h1 := congrArg UInt8.toNat e
    rw [hn] at h1
    have h2 : x.toNat ^^^ t = x.toNat ^^^ 0 := by rw [h1, Nat.xor_zero]
    exact h0 (xor_left_cancel' h2)
  · rw [hn]; exact u8_xor_nat x.toNat t hx ht
theorem BB.setb {w : World} {g : Nat} {l : List UInt8} (h : BB w g l) (k : Nat) (y : UInt8) : BB (w.setCell ⟨g, k, none⟩ (.int .u8 (y.toNat : Nat))) g (l.set k y) := by
  have := Whole.set_ h k (.int .u8 (y.toNat : Nat))
  unfold BB
  rwa [show (encB (l.set k y)).toArray = (encB l).toArray.setIfInBounds k (.int .u8 (y.toNat : Nat)) by simp [encB, List.map_set]]

/-- the place of the turned byte. -/
theorem place_behind (a : Int) (n : Nat) (hn : n ≤ 3000) : ∃ k : Nat, 4 ≤ k ∧ k < n + 12 ∧ wrap64 (4 + wrap64 ((IntKind.u64.wrap a).tmod ((n : Int) + 12 - 4))) = (k : Int) := by
  have h0 : 0 ≤ IntKind.u64.wrap a := by rw [IntKind.wrap_u64]; omega
  have h1 := Int.emod_nonneg (IntKind.u64.wrap a) (show (n : Int) + 12 - 4 ≠ 0 by omega)
  have h2 := Int.emod_lt_of_pos (IntKind.u64.wrap a) (show 0 < (n : Int) + 12 - 4 by omega)
  rw [Int.tmod_eq_emod_of_nonneg h0]
  refine ⟨4 + (IntKind.u64.wrap a % ((n : Int) + 12 - 4)).toNat, by omega, by omega, ?_⟩
  rw [show wrap64 (IntKind.u64.wrap a % ((n : Int) + 12 - 4)) = IntKind.u64.wrap a % ((n : Int) + 12 - 4) by unfold wrap64; omega]
  unfold wrap64
  omega

set_option maxRecDepth 100000 in
set_option maxHeartbeats 1000000 in
theorem sumFinds_any (e : Nat) (he : e < 4294967296) (A : Option Addr) (c : Nat) (l : List UInt8) (at_ : Int) (t : Nat) (ht : t < 256) (w : World) (h : Holds w A l) (hn : l.length ≤ 9223372036854775807) :
    Calls Try.prog 5 #[.int .u32 e, .slice A l.length c, .int .i64 at_, .int .u8 t] w fun r w' => r = .returned (.bool true) ∧ Below w.heap.size w w' := by
  have H0 := Lib.hid h
  clear h
  by_cases hbig : l.length ≤ 3000 ∧ t ≠ 0
  · obtain ⟨hb, h0⟩ := hbig
    have ht1 : ((t : Int) == 0) = false := by simp; omega
    have hb' : ¬ (3000 : Int) < (l.length : Int) := by omega
    go_enter Try.func5, Try.ntmps5
    go_wp2_with fail
    refine (awake_any _).mono ?_
    rintro r w1 ⟨rfl, b1⟩
    have B1 := Lib.hid b1
    have H1 := Lib.hid (H0.out.below b1)
    clear b1
    go_wp2_with fail
    refine (seal_any e he A c l _ H1.out (by omega)).mono ?_
    rintro r w2 ⟨g, rfl, hg, bb2, b2⟩
    have BB2 := Lib.hid bb2
    have B2 := Lib.hid (below_next B1.out b2)
    clear bb2 b2
    obtain ⟨k, hk4, hkn, hke⟩ := place_behind at_ l.length hb
    have HKE := Lib.hid hke
    clear hke
    go_upto_region 7 with fail
    rw [HKE.out]
    clear HKE
    have hlen := sealed_length e l
    have hks : k < (sealed e l).length := by omega
    have hcell := BB2.out.cell k hks
    have hfr := BB2.out.frozen k
    have hy := turned_byte (sealed e l)[k] t ht h0
    have hfound := turned_found e he l (by omega) k (UInt8.ofNat ((sealed e l)[k].toNat ^^^ t)) hk4 hks hy.1
    have HX : Hid (bits .xor .u8 ((sealed e l)[k].toNat : Int) (t : Int) = ((UInt8.ofNat ((sealed e l)[k].toNat ^^^ t)).toNat : Nat)) := Lib.hid hy.2
    have HF := Lib.hid hfound
    have BS := fun y => BB2.out.setb k y
    have HBS := Lib.hid BS
    clear hfound hy BS
    have hkl : (k : Int) < (l.length : Int) + 12 := by omega
    clear hlen
    generalize (sealed e l)[k] = x at *
    go_wp2_with fail
    rw [HX.out]
    have BB3 := Lib.hid (HBS.out (UInt8.ofNat (x.toNat ^^^ t)))
    have B3 : Hid (Below w.heap.size w (w2.setCell ⟨g, k, none⟩ (.int .u8 ((UInt8.ofNat (x.toNat ^^^ t)).toNat : Nat)))) := Lib.hid (B2.out.setCell (Nat.le_trans B1.out.size hg) _)
    generalize UInt8.ofNat (x.toNat ^^^ t) = y at *
    generalize w2.setCell ⟨g, k, none⟩ (.int .u8 (y.toNat : Nat)) = w3 at *
    have hlen : ((sealed e l).set k y).length = l.length + 12 := by rw [List.length_set, sealed_length]
    have hop := open_any e (some ⟨g, 0, none⟩) (l.length + 12) ((sealed e l).set k y) w3 BB3.out.holds0 (by omega) (by omega)
    rw [hlen] at hop
    have HOP := Lib.hid hop
    clear hop hlen HBS hcell hfr
    go_wp2_with fail
    refine HOP.out.mono ?_
    rintro r w4 ⟨v, rfl, -, b4⟩
    rw [HF.out]
    have B4 := Lib.hid (below_next B3.out b4)
    clear b4
    go_wp2_with fail
    go_ret
    exact ⟨rfl, B4.out⟩
  · by_cases h3 : 3000 < l.length
    · have h3' : (3000 : Int) < (l.length : Int) := by omega
      go_enter Try.func5, Try.ntmps5
      go_wp2_with fail
      refine (awake_any _).mono ?_
      rintro r w1 ⟨rfl, b1⟩
      have B1 := Lib.hid b1
      clear b1
      go_wp2_with fail
      go_ret
      exact ⟨rfl, B1.out⟩
    · obtain rfl : t = 0 := by omega
      have h3' : ¬ (3000 : Int) < (l.length : Int) := by omega
      go_enter Try.func5, Try.ntmps5
      go_wp2_with fail
      refine (awake_any _).mono ?_
      rintro r w1 ⟨rfl, b1⟩
      have B1 := Lib.hid b1
      clear b1
      go_wp2_with fail
      go_ret
      exact ⟨rfl, B1.out⟩
end Go.Proofs.Ytbdaoecpmodgcaa
