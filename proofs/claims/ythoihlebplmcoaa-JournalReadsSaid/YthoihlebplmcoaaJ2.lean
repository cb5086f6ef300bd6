/- Plain: clearing where nothing goes dark; what a disk whose fuse is out does. A dark disk opened; a fuse under a journal. -/
import Derived.Test.YthoihlebplmcoaaJZ
namespace Go.Proofs.Ythoihlebplmcoaa
open Go.RowKit
set_option linter.unusedVariables false
theorem clrF_lit (fr : Nat) (has : Nat → Bool) : ∀ (n i : Nat) (m : Mod) (wt : Bool), m.dark = false → m.fused = false → fr + i + n ≤ m.n →
    (clrF fr has m wt i n).2 = 0 ∧ (clrF fr has m wt i n).1.dark = false ∧ (clrF fr has m wt i n).1.fused = false ∧ (clrF fr has m wt i n).1.n = m.n ∧ (clrF fr has m wt i n).1.size = m.size ∧
      ∀ k, (clrF fr has m wt i n).1.cont ones k = if fr + i ≤ k ∧ k < fr + i + n ∧ has (k - fr) = true then [] else m.cont ones k
  | 0, i, m, wt, hd, hf, hn => by
    have e : clrF fr has m wt i 0 = if wt then (m.flush, m.flushR) else (m, 0) := rfl
    rw [e]
    have h0 := no_err_f hd hf
    obtain ⟨f1, f2, f3, f4, f5, f6⟩ := flush_ok h0
    cases wt with
    | false => exact ⟨rfl, hd, hf, rfl, rfl, fun k => by show m.cont ones k = _; rw [if_neg (by omega)]⟩
    | true =>
      refine ⟨h0, f4, f3.trans hf, f1, f2, fun k => ?_⟩
      show m.flush.cont ones k = _
      rw [if_neg (by omega)]
      exact f6 ones k
  | n + 1, i, m, wt, hd, hf, hn => by
    have e : clrF fr has m wt i (n + 1) = if has i then (if m.writeR ((fr + i : Nat) : Int) (0 : Nat) = 0 then clrF fr has (m.write ((fr + i : Nat) : Int) []) true (i + 1) n else (m.write ((fr + i : Nat) : Int) [], m.writeR ((fr + i : Nat) : Int) (0 : Nat))) else clrF fr has m wt (i + 1) n := rfl
    rw [e]
    cases hh : has i with
    | false =>
      rw [if_neg (by simp)]
      obtain ⟨g1, g2, g3, g4, g5, g6⟩ := clrF_lit fr has n (i + 1) m wt hd hf (by omega)
      refine ⟨g1, g2, g3, g4, g5, fun k => ?_⟩
      rw [g6 k]
      by_cases hk : k = fr + i
      · subst hk
        rw [if_neg (by omega), if_neg]
        rintro ⟨-, -, h3⟩
        rw [show fr + i - fr = i by omega, hh] at h3
        cases h3
      · by_cases h1 : fr + (i + 1) ≤ k ∧ k < fr + (i + 1) + n ∧ has (k - fr) = true
        · rw [if_pos h1, if_pos ⟨by omega, by omega, h1.2.2⟩]
        · rw [if_neg h1, if_neg fun h => h1 ⟨by omega, by omega, h.2.2⟩]
    | true =>
      have h0 : m.writeR ((fr + i : Nat) : Int) (0 : Nat) = 0 := no_err_w (b := []) hd (by omega) (by simp) hf
      rw [if_pos rfl, if_pos h0]
      obtain ⟨c1, c2, c3, c4, c5⟩ := write_ok (b := []) h0
      obtain ⟨g1, g2, g3, g4, g5, g6⟩ := clrF_lit fr has n (i + 1) (m.write ((fr + i : Nat) : Int) []) true c4 (c3.trans hf) (by rw [c1]; omega)
      refine ⟨g1, g2, g3, g4.trans c1, g5.trans c2, fun k => ?_⟩
      rw [g6 k]
      by_cases h1 : fr + (i + 1) ≤ k ∧ k < fr + (i + 1) + n ∧ has (k - fr) = true
      · rw [if_pos h1, if_pos ⟨by omega, by omega, h1.2.2⟩]
      · rw [if_neg h1, c5]
        by_cases hk : k = fr + i
        · subst hk
          rw [if_pos ⟨rfl, bit_ones _⟩, if_pos ⟨by omega, by omega, by rw [show fr + i - fr = i by omega]; exact hh⟩]
        · rw [if_neg fun h => hk h.1, if_neg fun h => h1 ⟨by omega, by omega, h.2.2⟩]
/-- the fuse is out: the next deed goes dark. -/
structure Doomed (m : Mod) : Prop where
  dark : m.dark = false
  fused : m.fused = true
  fuse : m.fuse = 0
def Mod.off (m : Mod) : Mod := { m with dark := true }
theorem Doomed.deed {m : Mod} (h : Doomed m) : m.blown = true ∧ m.deed = m.off := by
  have hb : m.blown = true := by unfold Mod.blown; rw [h.fused, h.fuse]; rfl
  exact ⟨hb, by unfold Mod.deed; rw [if_pos hb]; rfl⟩
theorem Doomed.write {m : Mod} (h : Doomed m) {i : Nat} {b : List UInt8} (hi : i < m.n) (hl : b.length ≤ m.size) : m.writeR (i : Nat) b.length = 17 ∧ m.write (i : Nat) b = m.off := by
  obtain ⟨hb, hd⟩ := h.deed
  have ht : m.takes (i : Nat) b.length = 0 := by
    unfold Mod.takes
    rw [if_neg (by rw [h.dark]; simp), if_neg (by omega)]
  unfold Mod.writeR Mod.write
  rw [if_pos ht, if_pos ht, if_pos hb, if_pos hb]
  exact ⟨rfl, hd⟩
theorem Doomed.flush {m : Mod} (h : Doomed m) : m.flushR = 17 ∧ m.flush = m.off := by
  obtain ⟨hb, hd⟩ := h.deed
  unfold Mod.flushR Mod.flush
  have hnd : ¬ m.dark = true := by rw [h.dark]; simp
  rw [if_neg hnd, if_pos hb, if_neg hnd, if_pos hb]
  exact ⟨rfl, hd⟩
theorem Doomed.put {J : Jd} {m : Mod} (h : Doomed m) (ok : J.Ok m.n m.size) {i : Nat} (hi : J.fr + i < m.n) : putR J m i = 17 ∧ putM J m i = m.off := by
  unfold putR putM
  refine h.write hi ?_
  unfold Jd.sec
  rw [List.length_append, word4_length, List.length_take, ok.size]
  omega
/-- a commit of a journal whose disk's fuse is out. -/
theorem Doomed.commit {J : Jd} {m : Mod} (h : Doomed m) (ok : J.Ok m.n m.size) (hq : J.row.length ≤ (J.tt - J.fr) * J.f) (hk : J.pend ≠ 0 → beg J.f J.kept < J.row.length) : cmM J m = (m.off, 17) := by
  have hin : ∀ i, i < J.last → J.fr + i < m.n := fun i hi => by
    have h1 := (last_bounds ok.f1 i).1 hi
    have h2 : i < J.tt - J.fr := Nat.lt_of_mul_lt_mul_right (Nat.lt_of_lt_of_le h1 hq)
    have := ok.hi
    omega
  unfold cmM
  by_cases hp : J.pend = 0
  · rw [if_pos hp, h.flush.1, h.flush.2]
  · rw [if_neg hp]
    have hfl : J.first < J.last := by
      rw [last_bounds ok.f1]
      exact Nat.lt_of_le_of_lt (Nat.div_mul_le_self _ _) (hk hp)
    unfold wrM
    cases hn : J.last - (J.first + 1) with
    | zero =>
      have e : putsM J m (J.first + 1) 0 = (m, 0) := rfl
      rw [e, andM_zero _ rfl]
      unfold tlM
      rw [if_neg (by omega), andM_zero _ rfl]
      unfold tl2
      obtain ⟨p1, p2⟩ := h.put ok (hin _ hfl)
      rw [p1, p2, andM_err _ (by omega)]
    | succ n =>
      have e : putsM J m (J.first + 1) (n + 1) = if putR J m (J.first + 1) = 0 then putsM J (putM J m (J.first + 1)) (J.first + 1 + 1) n else (putM J m (J.first + 1), putR J m (J.first + 1)) := rfl
      obtain ⟨p1, p2⟩ := h.put ok (hin (J.first + 1) (by omega))
      rw [e, if_neg (by rw [p1]; omega), p1, p2, andM_err _ (by omega)]
/-- a fuse is put in under a journal. -/
theorem JP.fuse {w0 w : World} {J : Jd} {m : Mod} (h : JP w0 w J m) (n : Int) : Calls Try.prog 10 #[.pointer (some ⟨J.dp, 0, none⟩), .int .i64 n] w fun e w' => (∃ v, e = .returned v) ∧ JP w0 w' J (m.fuseTo n) ∧ Still w w' :=
  (h.own.fuseA h.a n).mono fun _ _ hh => ⟨hh.1, h.next hh.2.1 hh.2.2 rfl rfl, hh.2.2⟩
set_option maxRecDepth 100000 in
theorem jopen_dark {w0 w : World} {dp : Nat} {m : Mod} (h : OwnA (fun _ => False) w0 w dp m) (fr tt e : Nat) (h1 : fr < tt) (h2 : tt ≤ m.n) (h3 : m.n ≤ 98) (hs1 : 64 ≤ m.size) (hs2 : m.size ≤ 1024) (he : e < 4294967296) (hdk : m.dark = true) :
    Calls Try.prog 9 #[.pointer (some ⟨dp, 0, none⟩), .int .i64 (fr : Nat), .int .i64 (tt : Nat), .int .u32 (e : Nat)] w fun r w' => r = .returned (.tuple #[.pointer none, .int .i64 17]) ∧ Below w.heap.size w w' := by
  have h4 : (fr : Int) < (tt : Int) := by omega
  have h5 : (tt : Int) ≤ (m.n : Int) := by omega
  have h6 : 0 ≤ (fr : Int) := by omega
  have S := Lib.hid (by obtain ⟨F, hF, _⟩ := h.own; exact (hF.sectors.mono fun _ _ hh => And.intro hh.1 hh.2.symm))
  have Z := Lib.hid (by obtain ⟨F, hF, _⟩ := h.own; exact (hF.size.mono fun _ _ hh => And.intro hh.1 hh.2.symm))
  have hsi : (m.size : Int) ≤ 1024 := by omega
  have hsi2 : (64 : Int) ≤ (m.size : Int) := by omega
  have H := Lib.hid h
  clear h
  go_enter Try.func9, Try.ntmps9
  go_wp2_with fail
  refine S.out.mono ?_
  rintro r w1 ⟨rfl, rfl⟩
  go_wp2_with fail
  refine Z.out.mono ?_
  rintro r w1 ⟨rfl, rfl⟩
  go_wp2_with fail
  obtain ⟨w1, hw1⟩ : ∃ w1, w1 = w.alloc (.cells #[.pointer (some ⟨dp, 0, none⟩), .int .i64 (fr : Nat), .int .i64 (tt : Nat), .int .i64 ((m.size : Nat) - 4), .int .u32 (e : Nat), .slice none 0 0, .int .i64 0, .int .i64 0] 57) := ⟨_, rfl⟩
  rw [← hw1]
  have b1 : Below w.heap.size w w1 := by rw [hw1]; exact (Below.refl _ _).alloc (Nat.le_refl _) _
  have hok : (⟨w.heap.size, dp, fr, tt, m.size - 4, e, none, 0, [], 0, 0⟩ : Jd).Ok m.n m.size := ⟨h1, h2, by omega, by show m.size = m.size - 4 + 4; omega, by show 60 ≤ m.size - 4; omega, by show m.size - 4 ≤ 1020; omega, he, by simp⟩
  have P1 : Hid (JP w0 w1 ⟨w.heap.size, dp, fr, tt, m.size - 4, e, none, 0, [], 0, 0⟩ m) := Lib.hid (by
    refine ⟨(H.out.below b1).avoid (fun k hk => by cases hk), ?_, H.out.bel.size, (fun k hk => by cases hk), ⟨Holds.nil _ _, Nat.le_refl _, Nat.zero_le _, (fun a ha => by cases ha), .inr rfl⟩, hok⟩
    rw [hw1]
    have e4 : ((m.size - 4 : Nat) : Int) = (m.size : Int) - 4 := by omega
    show Whole _ w.heap.size 57 #[_, _, _, .int .i64 ((m.size - 4 : Nat) : Int), _, _, _, _]
    rw [e4]
    exact Whole.new w _ _)
  have FI := Lib.hid (fields_dark P1.out hdk)
  have B1 := Lib.hid b1
  clear hw1 b1 S Z
  with_reducible refine FI.out.mono ?_
  rintro r w2 ⟨rfl, hb2⟩
  have B2 := Lib.hid (below_next B1.out hb2)
  clear hb2 FI P1 B1
  go_wp2_with fail
  go_ret2
  exact ⟨rfl, B2.out⟩
end Go.Proofs.Ythoihlebplmcoaa
