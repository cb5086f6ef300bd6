/- ValueReads walked. -/
import Derived.Test.YthomkdgpmmgdoaaGreatDoorRT
import Derived.Test.YthomkdgpmmgdoaaGreatDoorPI
namespace Go.Proofs.YthomkdgpmmgdoaaGreatDoor
open Go.RowKit Go.Lib
attribute [local go_sem ↓] eqVal neqVal
set_option linter.unusedVariables false

theorem rr_int (s : ByteArray) (w : World) (hs : s.size ≤ 600) (h1 : (s.toList == [110, 117, 108, 108]) = false) (h2 : (s.toList == [116, 114, 117, 101]) = false) (h3 : (s.toList == [102, 97, 108, 115, 101]) = false) (hh : s.data.toList.head? ≠ some 39) :
    Calls Tryz.prog 6 #[.string s] w fun e w' => e = .returned (out (toldInt s.data.toList)) ∧ Below w.heap.size w w' := by
  unfold toldInt
  by_cases h0 : s.size = 0
  · rcases re_cases s.data.toList with h | h | h
    · rw [if_pos h]; exact rr_int_ok_e s w hs h1 h2 h3 h0 _ rfl h
    · rw [if_neg (by rw [h]; decide), if_pos h]; exact rr_int_over_e s w hs h1 h2 h3 h0 _ rfl h
    · rw [if_neg (by rw [h]; decide), if_neg (by rw [h]; decide)]; exact rr_int_no_e s w hs h1 h2 h3 h0 _ rfl h
  · have hm : (s[0].toNat : Int) ≠ 39 := by
      intro e
      apply hh
      rw [List.head?_eq_getElem?, List.getElem?_eq_getElem (by simp; omega)]
      have : s[0] = 39 := UInt8.toNat_inj.1 (by simpa using (by omega : s[0].toNat = 39))
      rw [← getD s 0 (by omega), this]
    rcases re_cases s.data.toList with h | h | h
    · rw [if_pos h]; exact rr_int_ok_n s w hs h1 h2 h3 (by omega) hm _ rfl h
    · rw [if_neg (by rw [h]; decide), if_pos h]; exact rr_int_over_n s w hs h1 h2 h3 (by omega) hm _ rfl h
    · rw [if_neg (by rw [h]; decide), if_neg (by rw [h]; decide)]; exact rr_int_no_n s w hs h1 h2 h3 (by omega) hm _ rfl h
/-- the reference's Read. -/
theorem rr_any (s : ByteArray) (w : World) (hs : s.size ≤ 600) :
    Calls Tryz.prog 6 #[.string s] w fun e w' => e = .returned (out (told s.data.toList)) ∧ Below w.heap.size w w' := by
  have el : s.toList = s.data.toList := ByteArray.toList_eq s
  unfold told
  by_cases h1 : s.data.toList = [110, 117, 108, 108]
  · rw [if_pos h1]; exact rr_null s w (by rw [el, h1]; rfl)
  have b1 : (s.toList == [110, 117, 108, 108]) = false := by rw [el]; simpa using h1
  rw [if_neg h1]
  by_cases h2 : s.data.toList = [116, 114, 117, 101]
  · rw [if_pos h2]; exact rr_true s w b1 (by rw [el, h2]; rfl)
  have b2 : (s.toList == [116, 114, 117, 101]) = false := by rw [el]; simpa using h2
  rw [if_neg h2]
  by_cases h3 : s.data.toList = [102, 97, 108, 115, 101]
  · rw [if_pos h3]; exact rr_false s w b1 b2 (by rw [el, h3]; rfl)
  have b3 : (s.toList == [102, 97, 108, 115, 101]) = false := by rw [el]; simpa using h3
  rw [if_neg h3]
  by_cases h4 : s.data.toList.head? = some 39
  · rw [if_pos h4]
    have h0 : 0 < s.size := by
      have e : s.data.toList.length = s.size := by simp
      cases hl : s.data.toList with
      | nil => rw [hl] at h4; cases h4
      | cons c r => rw [hl] at e; simp at e; omega
    refine rr_text s w hs b1 b2 b3 h0 ?_
    rw [List.head?_eq_getElem?, List.getElem?_eq_getElem (by simpa using h0)] at h4
    have := Option.some.inj h4
    rw [getD s 0 h0, this]; rfl
  · rw [if_neg h4]
    exact rr_int s w hs b1 b2 b3 h4

theorem fits_rv (l : List UInt8) : Fits (rv l) := by
  unfold rv sv
  split
  · split
    · assumption
    · decide
  · decide
theorem told_cases (l : List UInt8) (h : (told l).e = 0) : (told l = ⟨0, 0, [], 0⟩ ∧ l = [110, 117, 108, 108]) ∨ (told l = ⟨3, 1, [], 0⟩ ∧ l = [116, 114, 117, 101]) ∨ (told l = ⟨3, 0, [], 0⟩ ∧ l = [102, 97, 108, 115, 101]) ∨
    (∃ u : List UInt8, told l = ⟨2, 0, u, 0⟩ ∧ u.length ≤ 200 ∧ l = quo u) ∨ (told l = ⟨1, rv l, [], 0⟩ ∧ re l = 0) := by
  unfold told at h ⊢
  by_cases h1 : l = [110, 117, 108, 108]
  · rw [if_pos h1]; exact .inl ⟨rfl, h1⟩
  rw [if_neg h1] at h ⊢
  by_cases h2 : l = [116, 114, 117, 101]
  · rw [if_pos h2]; exact .inr (.inl ⟨rfl, h2⟩)
  rw [if_neg h2] at h ⊢
  by_cases h3 : l = [102, 97, 108, 115, 101]
  · rw [if_pos h3]; exact .inr (.inr (.inl ⟨rfl, h3⟩))
  rw [if_neg h3] at h ⊢
  by_cases h4 : l.head? = some 39
  · rw [if_pos h4] at h ⊢
    cases l with
    | nil => cases h4
    | cons c r =>
      simp only [List.head?_cons, Option.some.injEq] at h4
      subst h4
      cases hu : unq r with
      | none => rw [toldText_none (l := 39 :: r) hu] at h; cases h
      | some u =>
        by_cases hl : u.length ≤ 200
        · exact .inr (.inr (.inr (.inl ⟨u, toldText_some (l := 39 :: r) hu hl, hl, by rw [quo, unq_some r u hu]⟩)))
        · rw [toldText_long (l := 39 :: r) hu hl] at h; cases h
  · rw [if_neg h4] at h ⊢
    unfold toldInt at h ⊢
    by_cases h5 : re l = 0
    · rw [if_pos h5]; exact .inr (.inr (.inr (.inr ⟨rfl, h5⟩)))
    · rw [if_neg h5] at h
      split at h <;> cases h
/-- what is read has just this print. -/
theorem print_told (s : ByteArray) (w : World) (a : Addr) (m : Int) (hv : Env w a m) (h : (told s.data.toList).e = 0) :
    Calls Tryz.prog 7 #[val (told s.data.toList).k (told s.data.toList).n (str (told s.data.toList).s)] w fun e w' => e = .returned (.string s) ∧ Below w.heap.size w w' := by
  have hs : s = str s.data.toList := by apply ByteArray.ext; simp
  rcases told_cases _ h with ⟨e, hl⟩ | ⟨e, hl⟩ | ⟨e, hl⟩ | ⟨u, e, hu, hl⟩ | ⟨e, hl⟩
  · rw [e, hs, hl]; exact print_null w
  · rw [e, hs, hl]; exact print_true w
  · rw [e, hs, hl]; exact print_false w
  · rw [e]
    have := print_text (str u) w (by show u.toArray.size ≤ 200; rw [List.size_toArray]; exact hu) m hv.max
    rw [hs, hl]
    exact this
  · rw [e]
    have := print_int (rv s.data.toList) w (fits_rv _) hv.tab
    rw [itoa_rv _ hl] at this
    rw [← hs] at this
    exact this
theorem same_self (k n : Int) (s : ByteArray) : same k n s k n s = true := by simp [same]

set_option maxRecDepth 100000 in
set_option maxHeartbeats 1000000 in
theorem reads_any (s : ByteArray) (w : World) (a : Addr) (m : Int) (hv : Env w a m) :
    Calls Tryz.prog 3 #[.string s] w fun e w' => e = .returned (.bool true) ∧ Below w.heap.size w w' := by
  have EV := Lib.hid hv
  clear hv
  by_cases hbig : (500 : Int) < (s.size : Int)
  · go_enter Tryz.func3, Tryz.ntmps3
    go_wp2_with fail
    refine (awake_ok _ m EV.out.max).mono ?_
    rintro e w1 ⟨rfl, hb1⟩
    have B1 := Lib.hid hb1
    clear hb1
    go_wp2
    go_ret
    exact ⟨rfl, B1.out⟩
  · have hd : decide ((500 : Int) < (s.size : Int)) = false := decide_eq_false hbig
    have PT := Lib.hid (fun w (hv : Env w a m) (h : (told s.data.toList).e = 0) => print_told s w a m hv h)
    have R1 := Lib.hid (fun w (hv : Env w a m) => vread_any s w a m hv (by omega))
    have R2 := Lib.hid (fun w => rr_any s w (by omega))
    generalize told s.data.toList = T at *
    obtain ⟨k, n, u, x⟩ := T
    simp only at PT
    go_enter Tryz.func3, Tryz.ntmps3
    go_wp2_with fail
    refine (awake_ok _ m EV.out.max).mono ?_
    rintro e w1 ⟨rfl, hb1⟩
    have B1 := Lib.hid hb1
    clear hb1
    go_wp2_with fail
    refine (R1.out _ (EV.out.below B1.out)).mono ?_
    rintro e w2 ⟨rfl, hb2⟩
    have B2 := Lib.hid (bstep B1.out hb2)
    clear hb2 B1
    go_wp2_with fail
    have H2 := Lib.hid (Holds3.new w2 k n (str u) 24)
    have B3 := Lib.hid (B2.out.alloc B2.out.size (.cells #[.int .i64 k, .int .i64 n, .string (str u)] 24))
    refine (R2.out _).mono ?_
    rintro e w4 ⟨rfl, hb4⟩
    have H4 := Lib.hid (H2.out.below hb4 H2.out.lt)
    have B4 := Lib.hid (bstep B3.out hb4)
    clear hb4 H2 B3
    have H5 := Lib.hid (H4.out.alloc (.cells #[.int .i64 k, .int .i64 n, .string (str u)] 24))
    have B5 := Lib.hid (B4.out.alloc B4.out.size (.cells #[.int .i64 k, .int .i64 n, .string (str u)] 24))
    obtain ⟨c1, c2, c3⟩ := H5.out
    have e3 : same k n (str u) k n (str u) = true := same_self _ _ _
    by_cases hx : x = 0
    · subst hx
      have PP := Lib.hid (fun w hv => PT.out w hv rfl)
      go_wp2_with fail
      refine (PP.out _ (EV.out.below B5.out)).mono ?_
      rintro e w6 ⟨rfl, hb6⟩
      have B6 := Lib.hid (bstep B5.out hb6)
      clear hb6
      go_wp2
      go_ret
      exact ⟨rfl, B6.out⟩
    · have hb : (x == 0) = false := by simpa using hx
      go_wp2
      go_ret
      exact ⟨rfl, B5.out⟩
end Go.Proofs.YthomkdgpmmgdoaaGreatDoor
