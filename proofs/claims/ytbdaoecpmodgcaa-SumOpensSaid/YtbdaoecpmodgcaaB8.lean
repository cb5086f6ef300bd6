/- SumOpens walked. -/
import Derived.Test.YtbdaoecpmodgcaaB7
namespace Go.Proofs.Ytbdaoecpmodgcaa
open Go.RowKit

theorem opens_sealed (e : Nat) (he : e < 4294967296) (b t : List UInt8) (hb : b.length ≤ 4000) :
    openE e (sealed e b ++ t) = 0 ∧ openB e (sealed e b ++ t) = b ∧ openN e (sealed e b ++ t) = b.length + 12 := by
  obtain ⟨a0, a1, a2, a3, s0, s1, s2, s3, e0, e1, e2, e3, hs, h1, h2, h3⟩ := sealed_open e b hb
  have h3 := h3 he
  have hn : num4 (sealed e b ++ t) = b.length := by rw [hs]; exact h1
  have hl : (sealed e b ++ t).length = b.length + 12 + t.length := by rw [List.length_append, sealed_length]
  have h0 : openE e (sealed e b ++ t) = 0 := by
    unfold openE
    rw [if_neg (by omega), if_neg]
    rw [hn, hs]
    simp only [List.cons_append, List.drop_succ_cons, List.drop_zero, num4_eq, List.take_succ_cons, List.take_append_of_le_length (Nat.le_refl _), List.take_length]
    omega
  refine ⟨h0, ?_, ?_⟩
  · rw [show openB e (sealed e b ++ t) = ((sealed e b ++ t).drop 12).take (num4 (sealed e b ++ t)) from if_pos h0, hn, hs]
    simp only [List.cons_append, List.drop_succ_cons, List.drop_zero, List.take_append_of_le_length (Nat.le_refl _), List.take_length]
  · rw [show openN e (sealed e b ++ t) = num4 (sealed e b ++ t) + 12 from if_pos h0, hn]
theorem opens_other (e o : Nat) (he : e < 4294967296) (b : List UInt8) (hb : b.length ≤ 4000) (hne : o ≠ e) : openE o (sealed e b) = 11 := by
  obtain ⟨a0, a1, a2, a3, s0, s1, s2, s3, e0, e1, e2, e3, hs, h1, h2, h3⟩ := sealed_open e b hb
  have h3 := h3 he
  have hl := sealed_length e b
  have hn : num4 (sealed e b) = b.length := by rw [hs]; exact h1
  unfold openE
  refine (if_neg (by omega)).trans (if_pos (.inl ?_))
  rw [hs]
  simp only [List.drop_succ_cons, List.drop_zero, num4_eq]
  omega

set_option maxRecDepth 100000 in
set_option maxHeartbeats 1000000 in
theorem sumOpens_any (e o : Nat) (he : e < 4294967296) (ho : o < 4294967296) (A : Option Addr) (c : Nat) (b : List UInt8) (A3 : Option Addr) (c3 : Nat) (t : List UInt8) (n : Int) (w : World) (h : Holds w A b) (h3 : Holds w A3 t) (hc3 : t.length ≤ c3)
    (hb : b.length ≤ 3000) (ht : t.length ≤ 3000) (hn1 : -9223372036854775808 ≤ n) (hn2 : n ≤ 9223372036854775807) :
    Calls Try.prog 4 #[.int .u32 e, .int .u32 o, .slice A b.length c, .slice A3 t.length c3, .int .i64 n] w fun r w' => r = .returned (.bool true) ∧ Below w.heap.size w w' := by
  have H0 := Lib.hid h
  have H3 := Lib.hid h3
  clear h h3
  have hb' : ¬ (3000 : Int) < (b.length : Int) := by omega
  have ht' : ¬ (3000 : Int) < (t.length : Int) := by omega
  obtain ⟨k1, k2, k3⟩ := opens_sealed e he b t (by omega)
  have KE := Lib.hid k1
  have KB := Lib.hid k2
  have KN := Lib.hid k3
  obtain ⟨k4, -, -⟩ := opens_sealed e he b [] (by omega)
  rw [List.append_nil] at k4
  have KS := Lib.hid k4
  have KO := Lib.hid fun (hne : o ≠ e) => opens_other e o he b (by omega) hne
  have HSL := Lib.hid (sealed_length e b)
  clear k1 k2 k3 k4
  go_enter Try.func4, Try.ntmps4
  go_wp2_with fail
  refine (awake_any _).mono ?_
  rintro r w1 ⟨rfl, b1⟩
  have B1 := Lib.hid b1
  clear b1
  go_wp2_with fail
  refine (seal_any e he A c b _ (H0.out.below B1.out) (by omega)).mono ?_
  rintro r w2 ⟨g, rfl, hg, bb2, b2⟩
  have S2 := Lib.hid bb2
  have B2 := Lib.hid (below_next B1.out b2)
  clear bb2 b2
  generalize hS : sealed e b = S at *
  have HS := Lib.hid hS
  clear hS
  have row0 : Row (w2.alloc (.cells #[] 5)) w2.heap.size (.slice (some ⟨w2.heap.size, 0, none⟩) 0 0) [] := ⟨rfl, .inr ⟨w2.heap.size, 0, #[], rfl, Nat.le_refl _, heap_alloc_new w2 _, Nat.le_refl _, Nat.zero_le _, rfl, rfl⟩⟩
  have bal : Below w2.heap.size w2 (w2.alloc (.cells #[] 5)) := (Below.refl _ _).alloc (Nat.le_refl _) _
  obtain ⟨v3, w3, hr3, r3, g3, -⟩ := append_bytes row0 (some ⟨g, 0, none⟩) (b.length + 12) S (S2.out.below bal).holds0 (by rw [HSL.out]; simp; omega) (by simp)
  have b3 := below_grown bal g3 row0.block
  obtain ⟨v4, w4, hr4, r4, g4, -⟩ := append_bytes r3 A3 c3 t ((H3.out.below B2.out).below b3) (by simp; rw [HSL.out]; omega) b3.size
  have b4 := below_grown b3 g4 r3.block
  rw [HSL.out] at hr3
  obtain ⟨A4, c4, e4, h4, l4, m4⟩ := r4.shape
  subst e4
  have HR3 := Lib.hid hr3
  have HR4 := Lib.hid hr4
  have hop := open_any e A4 c4 ([] ++ S ++ t) w4 h4 l4 (by simp; rw [HSL.out]; omega)
  rw [List.nil_append] at hop
  have HOP := Lib.hid hop
  have B4 := Lib.hid (below_next B2.out b4)
  have S4 := Lib.hid (S2.out.below b4)
  have HL4 : Hid ([] ++ S ++ t = S ++ t) := Lib.hid rfl
  clear hr3 hr4 r3 r4 g3 g4 b3 b4 h4 l4 m4 row0 bal hop
  rw [HL4.out] at HR4
  generalize hU : S ++ t = U at *
  go_wp2_with (first
    | (at_builtin; refine Lib.wpList_append_run _ rfl (.tmp 40) (.tmp 41) 22 22 rfl _ _ rfl rfl _ _ HR3.out ?_)
    | (at_builtin; refine Lib.wpList_append_run _ rfl (.tmp 42) (.tmp 43) 22 22 rfl _ _ rfl rfl _ _ HR4.out ?_))
  refine HOP.out.mono ?_
  rintro r w5 ⟨v5, rfl, r5, b5⟩
  rw [KE.out, KN.out]
  rw [KB.out] at r5
  obtain ⟨A5, c5, e5, h5, -, -⟩ := r5.shape
  subst e5
  have X5 := Lib.hid h5
  have B5 := Lib.hid (below_next B4.out b5)
  have S5 := Lib.hid (S4.out.below b5)
  clear r5 h5 b5 HOP HR3 HR4 KE KB KN HL4 hU
  have hn12 : ((b.length + 12 : Nat) : Int) = (b.length : Int) + 12 := by omega
  have HN12 := Lib.hid hn12
  clear hn12
  go_wp2_with fail
  refine (refSeal_any e he A c b _ (H0.out.below B5.out) (by omega)).mono ?_
  rintro r w6 ⟨v6, rfl, r6, b6⟩
  rw [HS.out] at r6
  obtain ⟨A6, c6, e6, h6, -, -⟩ := r6.shape
  rw [HSL.out] at e6
  subst e6
  have B6 := Lib.hid (below_next B5.out b6)
  have S6 := Lib.hid (S5.out.below b6)
  have X6 := Lib.hid (X5.out.below b6)
  have hsame := same_any (some ⟨g, 0, none⟩) A6 (b.length + 12) c6 S S w6 S6.out.holds0 h6
  rw [HSL.out, show (S == S) = true by simp] at hsame
  have SAME := Lib.hid hsame
  clear r6 b6 h6 hsame S5 X5
  go_wp2_with fail
  refine SAME.out.mono ?_
  rintro r w' ⟨rfl, rfl⟩
  have hsame := same_any A5 A c5 c b b w' X6.out (H0.out.below B6.out)
  rw [show (b == b) = true by simp] at hsame
  have SAME2 := Lib.hid hsame
  clear hsame SAME
  go_wp2_with fail
  refine SAME2.out.mono ?_
  rintro r w'' ⟨rfl, rfl⟩
  clear SAME2
  go_wp2_with fail
  refine (length_any _ _ (by omega) (by omega)).mono ?_
  rintro r w9 ⟨rfl, rfl⟩
  rw [if_neg (by omega)]
  have hop2 := open_any o (some ⟨g, 0, none⟩) (b.length + 12) S w'' S6.out.holds0 (by rw [HSL.out]; omega) (by rw [HSL.out]; omega)
  rw [HSL.out] at hop2
  have HOP2 := Lib.hid hop2
  clear hop2 S6 X6
  go_wp2_with fail
  refine HOP2.out.mono ?_
  rintro r w7 ⟨v7, rfl, -, b7⟩
  have B7 := Lib.hid (below_next B6.out b7)
  clear b7 HOP2
  have hop3 := open_any e A3 c3 t w7 (H3.out.below B7.out) hc3 (by omega)
  have HOP3 := Lib.hid hop3
  clear hop3
  generalize hE : openE e t = E at *
  have hmid : ∀ x : Nat, openE o S = x → ((x : Int) == 0) = decide (o = e) ∧ (o = e ∨ x = 11) := by
    intro x hx
    by_cases hoe : o = e
    · rw [hoe, KS.out] at hx
      subst hx
      simp [hoe]
    · rw [KO.out hoe] at hx
      subst hx
      simp [hoe]
  generalize hx : openE o S = x at *
  have HM := Lib.hid (hmid x rfl)
  generalize openN o S = xn at *
  clear hmid
  by_cases hoe : o = e
  · subst hoe
    obtain rfl : x = 0 := by have := HM.out.1; simpa using this
    have q1 : ((o : Int) == (o : Int)) = true := by simp
    have q2 : ((o : Int) != (o : Int)) = false := by simp
    go_wp2_with fail
    refine HOP3.out.mono ?_
    rintro r w8 ⟨v8, rfl, r8, b8⟩
    obtain ⟨A8, c8, e8, h8, -, -⟩ := r8.shape
    subst e8
    have X8 := Lib.hid h8
    have B8 := Lib.hid (below_next B7.out b8)
    clear r8 h8 b8 HOP3
    go_wp2_with fail
    refine (ropen_any o ho A3 c3 t _ (H3.out.below B8.out) hc3 (by omega)).mono ?_
    rintro r w9 ⟨A9, c9, rfl, h9, b9⟩
    have B9 := Lib.hid (below_next B8.out b9)
    have hsame := same_any A8 A9 c8 c9 (openB o t) (openB o t) w9 (X8.out.below b9) h9
    rw [show (openB o t == openB o t) = true by simp] at hsame
    have SAME3 := Lib.hid hsame
    clear hsame h9 b9 X8
    rw [hE]
    generalize openB o t = bb at *
    generalize openN o t = nn at *
    have hbig : 1000000 < n ∨ n < 0 ∨ (0 ≤ n ∧ n ≤ 1000000) := by omega
    have nb1 : ((E : Int) == (E : Int)) = true := by simp
    have nb2 : ((nn : Int) == (nn : Int)) = true := by simp
    rcases hbig with hb1 | hb1 | ⟨hb0, hb1⟩
    all_goals
      go_wp2_with fail
      refine SAME3.out.mono ?_
      rintro r w10 ⟨rfl, rfl⟩
    · go_wp2_with fail
      go_ret
      exact ⟨rfl, B9.out⟩
    · go_wp2_with fail
      refine (length_any _ _ (by omega) (by omega)).mono ?_
      rintro r w11 ⟨rfl, rfl⟩
      rw [if_pos (by omega)]
      go_wp2_with fail
      go_ret
      exact ⟨rfl, B9.out⟩
    · go_wp2_with fail
      refine (length_any _ _ (by omega) (by omega)).mono ?_
      rintro r w11 ⟨rfl, rfl⟩
      rw [if_neg (by omega)]
      have nb3 : (n + 12 == n + 12) = true := by simp
      go_wp2_with fail
      go_ret
      exact ⟨rfl, B9.out⟩
  · obtain rfl : x = 11 := by
      rcases HM.out.2 with h | h
      · exact absurd h hoe
      · exact h
    have q1 : ((o : Int) == (e : Int)) = false := by simp; omega
    have q2 : ((o : Int) != (e : Int)) = true := by simp; omega
    clear hoe
    go_wp2_with fail
    refine HOP3.out.mono ?_
    rintro r w8 ⟨v8, rfl, r8, b8⟩
    obtain ⟨A8, c8, e8, h8, -, -⟩ := r8.shape
    subst e8
    have X8 := Lib.hid h8
    have B8 := Lib.hid (below_next B7.out b8)
    clear r8 h8 b8 HOP3
    go_wp2_with fail
    refine (ropen_any e he A3 c3 t _ (H3.out.below B8.out) hc3 (by omega)).mono ?_
    rintro r w9 ⟨A9, c9, rfl, h9, b9⟩
    have B9 := Lib.hid (below_next B8.out b9)
    have hsame := same_any A8 A9 c8 c9 (openB e t) (openB e t) w9 (X8.out.below b9) h9
    rw [show (openB e t == openB e t) = true by simp] at hsame
    have SAME3 := Lib.hid hsame
    clear hsame h9 b9 X8
    rw [hE]
    generalize openB e t = bb at *
    generalize openN e t = nn at *
    have hbig : 1000000 < n ∨ n < 0 ∨ (0 ≤ n ∧ n ≤ 1000000) := by omega
    have nb1 : ((E : Int) == (E : Int)) = true := by simp
    have nb2 : ((nn : Int) == (nn : Int)) = true := by simp
    rcases hbig with hb1 | hb1 | ⟨hb0, hb1⟩
    all_goals
      go_wp2_with fail
      refine SAME3.out.mono ?_
      rintro r w10 ⟨rfl, rfl⟩
    · go_wp2_with fail
      go_ret
      exact ⟨rfl, B9.out⟩
    · go_wp2_with fail
      refine (length_any _ _ (by omega) (by omega)).mono ?_
      rintro r w11 ⟨rfl, rfl⟩
      rw [if_pos (by omega)]
      go_wp2_with fail
      go_ret
      exact ⟨rfl, B9.out⟩
    · go_wp2_with fail
      refine (length_any _ _ (by omega) (by omega)).mono ?_
      rintro r w11 ⟨rfl, rfl⟩
      rw [if_neg (by omega)]
      have nb3 : (n + 12 == n + 12) = true := by simp
      go_wp2_with fail
      go_ret
      exact ⟨rfl, B9.out⟩
end Go.Proofs.Ytbdaoecpmodgcaa
namespace Go.Proofs.Ytbdaoecpmodgcaa
open Go.RowKit
set_option maxRecDepth 100000 in
set_option maxHeartbeats 1000000 in
theorem sumOpens_all (e o : Nat) (he : e < 4294967296) (ho : o < 4294967296) (A : Option Addr) (c : Nat) (b : List UInt8) (A3 : Option Addr) (c3 : Nat) (t : List UInt8) (n : Int) (w : World) (h : Holds w A b) (h3 : Holds w A3 t) (hc3 : t.length ≤ c3)
    (hb : b.length ≤ 9223372036854775807) (ht : t.length ≤ 9223372036854775807) (hn1 : -9223372036854775808 ≤ n) (hn2 : n ≤ 9223372036854775807) :
    Calls Try.prog 4 #[.int .u32 e, .int .u32 o, .slice A b.length c, .slice A3 t.length c3, .int .i64 n] w fun r w' => r = .returned (.bool true) ∧ Below w.heap.size w w' := by
  by_cases h1 : 3000 < b.length
  · have h1' : (3000 : Int) < (b.length : Int) := by omega
    go_enter Try.func4, Try.ntmps4
    go_wp2_with fail
    refine (awake_any _).mono ?_
    rintro r w1 ⟨rfl, b1⟩
    have B1 := Lib.hid b1
    clear b1
    go_wp2_with fail
    go_ret
    exact ⟨rfl, B1.out⟩
  · by_cases h2 : 3000 < t.length
    · have h1' : ¬ (3000 : Int) < (b.length : Int) := by omega
      have h2' : (3000 : Int) < (t.length : Int) := by omega
      go_enter Try.func4, Try.ntmps4
      go_wp2_with fail
      refine (awake_any _).mono ?_
      rintro r w1 ⟨rfl, b1⟩
      have B1 := Lib.hid b1
      clear b1
      go_wp2_with fail
      go_ret
      exact ⟨rfl, B1.out⟩
    · exact sumOpens_any e o he ho A c b A3 c3 t n w h h3 hc3 (by omega) (by omega) hn1 hn2
end Go.Proofs.Ytbdaoecpmodgcaa
