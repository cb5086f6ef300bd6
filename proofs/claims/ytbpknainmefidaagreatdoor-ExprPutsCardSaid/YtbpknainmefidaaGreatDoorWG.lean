/- Words of a source, walked: the word at the front. -/
import Derived.Test.YtbpknainmefidaaGreatDoorWF
namespace Go.Proofs.YtbpknainmefidaaGreatDoor
open Go.RowKit Go.Lib
set_option linter.unusedVariables false

set_option maxRecDepth 100000 in
set_option maxHeartbeats 1000000 in
theorem first_name (s : ByteArray) (w : World) (n1 : Nat) (hn1 : 0 < n1) (R1 : ∀ w, Calls Tryz.prog 52 #[.string s, .string ⟨#[97, 98, 99, 100, 101, 102, 103, 104, 105, 106, 107, 108, 109, 110, 111, 112, 113, 114, 115, 116, 117, 118, 119, 120, 121, 122]⟩] w fun e w' => e = .returned (.int .i64 (n1 : Nat)) ∧ Below w.heap.size w w') (k n : Int) (t : ByteArray) (x : Int) (F : ∀ w', Below w.heap.size w w' → Calls Tryz.prog 53 #[.string s] w' fun e w'' => e = .returned (.tuple #[wd k t n, .int .i64 x]) ∧ Below w'.heap.size w' w'') :
    Calls Tryz.prog 42 #[.string s] w fun e w' => e = .returned (.tuple #[wd k t n, .int .i64 x]) ∧ Below w.heap.size w w' := by
  have R0 := Lib.hid (RowW.new w 68 0 0 ⟨#[]⟩)
  have B0 := Lib.hid ((Below.refl w.heap.size w).alloc (Nat.le_refl _) (.cells #[.int .i64 0, .string ⟨#[]⟩, .int .i64 0] 68))
  have F := Lib.hid F
  have Q1 := Lib.hid R1
  clear R1
  have hi : (0 : Int) < (n1 : Int) := by omega
  go_enter Tryz.func42, Tryz.ntmps42
  go_wp2_with fail
  refine (Q1.out _).mono ?_
  rintro e w1 ⟨rfl, hb1⟩
  have R1 := Lib.hid (R0.out.below hb1 R0.out.lt)
  have B1 := Lib.hid (bstep B0.out hb1)
  clear hb1 R0 B0
  go_wp2_with fail
  refine (F.out _ B1.out).mono ?_
  rintro e w3 ⟨rfl, hb3⟩
  have R3 := Lib.hid (R1.out.below hb3 R1.out.lt)
  have B3 := Lib.hid (bstep B1.out hb3)
  clear hb3 R1 B1
  obtain ⟨d1, d2, d3⟩ := R3.out.cells
  have f0 := R3.out.frozen 0
  have f1 := R3.out.frozen 1
  have f2 := R3.out.frozen 2
  go_wp2
  obtain ⟨W, hW, hb, hq⟩ := word_end R3.out B3.out (Nat.le_refl _) k n t
  rw [← hW]
  obtain ⟨q1, q2, q3⟩ := hq.cells
  exact bodyPost_ret (v := .tuple #[wd k t n, .int .i64 x]) (by simp [results, Tryz.results42, go_sem, q1, q2, q3]) rfl ⟨rfl, hb⟩
set_option maxRecDepth 100000 in
set_option maxHeartbeats 1000000 in
theorem first_num (s : ByteArray) (w : World) (R1 : ∀ w, Calls Tryz.prog 52 #[.string s, .string ⟨#[97, 98, 99, 100, 101, 102, 103, 104, 105, 106, 107, 108, 109, 110, 111, 112, 113, 114, 115, 116, 117, 118, 119, 120, 121, 122]⟩] w fun e w' => e = .returned (.int .i64 0) ∧ Below w.heap.size w w') (n2 : Nat) (hn2 : 0 < n2) (R2 : ∀ w, Calls Tryz.prog 52 #[.string s, .string ⟨#[48, 49, 50, 51, 52, 53, 54, 55, 56, 57]⟩] w fun e w' => e = .returned (.int .i64 (n2 : Nat)) ∧ Below w.heap.size w w') (k n : Int) (t : ByteArray) (x : Int) (F : ∀ w', Below w.heap.size w w' → Calls Tryz.prog 54 #[.string s] w' fun e w'' => e = .returned (.tuple #[wd k t n, .int .i64 x]) ∧ Below w'.heap.size w' w'') :
    Calls Tryz.prog 42 #[.string s] w fun e w' => e = .returned (.tuple #[wd k t n, .int .i64 x]) ∧ Below w.heap.size w w' := by
  have R0 := Lib.hid (RowW.new w 68 0 0 ⟨#[]⟩)
  have B0 := Lib.hid ((Below.refl w.heap.size w).alloc (Nat.le_refl _) (.cells #[.int .i64 0, .string ⟨#[]⟩, .int .i64 0] 68))
  have F := Lib.hid F
  have Q1 := Lib.hid R1
  clear R1
  have Q2 := Lib.hid R2
  clear R2
  have hi : (0 : Int) < (n2 : Int) := by omega
  go_enter Tryz.func42, Tryz.ntmps42
  go_wp2_with fail
  refine (Q1.out _).mono ?_
  rintro e w1 ⟨rfl, hb1⟩
  have R1 := Lib.hid (R0.out.below hb1 R0.out.lt)
  have B1 := Lib.hid (bstep B0.out hb1)
  clear hb1 R0 B0
  go_wp2_with fail
  refine (Q2.out _).mono ?_
  rintro e w2 ⟨rfl, hb2⟩
  have R2 := Lib.hid (R1.out.below hb2 R1.out.lt)
  have B2 := Lib.hid (bstep B1.out hb2)
  clear hb2 R1 B1
  go_wp2_with fail
  refine (F.out _ B2.out).mono ?_
  rintro e w3 ⟨rfl, hb3⟩
  have R3 := Lib.hid (R2.out.below hb3 R2.out.lt)
  have B3 := Lib.hid (bstep B2.out hb3)
  clear hb3 R2 B2
  obtain ⟨d1, d2, d3⟩ := R3.out.cells
  have f0 := R3.out.frozen 0
  have f1 := R3.out.frozen 1
  have f2 := R3.out.frozen 2
  go_wp2
  obtain ⟨W, hW, hb, hq⟩ := word_end R3.out B3.out (Nat.le_refl _) k n t
  rw [← hW]
  obtain ⟨q1, q2, q3⟩ := hq.cells
  exact bodyPost_ret (v := .tuple #[wd k t n, .int .i64 x]) (by simp [results, Tryz.results42, go_sem, q1, q2, q3]) rfl ⟨rfl, hb⟩
set_option maxRecDepth 100000 in
set_option maxHeartbeats 1000000 in
theorem first_text (s : ByteArray) (w : World) (R1 : ∀ w, Calls Tryz.prog 52 #[.string s, .string ⟨#[97, 98, 99, 100, 101, 102, 103, 104, 105, 106, 107, 108, 109, 110, 111, 112, 113, 114, 115, 116, 117, 118, 119, 120, 121, 122]⟩] w fun e w' => e = .returned (.int .i64 0) ∧ Below w.heap.size w w') (R2 : ∀ w, Calls Tryz.prog 52 #[.string s, .string ⟨#[48, 49, 50, 51, 52, 53, 54, 55, 56, 57]⟩] w fun e w' => e = .returned (.int .i64 0) ∧ Below w.heap.size w w') (h0 : 0 < s.size) (b : ((s[0].toNat : Int) == 39) = true) (k n : Int) (t : ByteArray) (x : Int) (F : ∀ w', Below w.heap.size w w' → Calls Tryz.prog 55 #[.string s] w' fun e w'' => e = .returned (.tuple #[wd k t n, .int .i64 x]) ∧ Below w'.heap.size w' w'') :
    Calls Tryz.prog 42 #[.string s] w fun e w' => e = .returned (.tuple #[wd k t n, .int .i64 x]) ∧ Below w.heap.size w w' := by
  have R0 := Lib.hid (RowW.new w 68 0 0 ⟨#[]⟩)
  have B0 := Lib.hid ((Below.refl w.heap.size w).alloc (Nat.le_refl _) (.cells #[.int .i64 0, .string ⟨#[]⟩, .int .i64 0] 68))
  have F := Lib.hid F
  have Q1 := Lib.hid R1
  clear R1
  have Q2 := Lib.hid R2
  clear R2
  have hi : (0 : Int) < (s.size : Int) := by omega
  go_enter Tryz.func42, Tryz.ntmps42
  go_wp2_with fail
  refine (Q1.out _).mono ?_
  rintro e w1 ⟨rfl, hb1⟩
  have R1 := Lib.hid (R0.out.below hb1 R0.out.lt)
  have B1 := Lib.hid (bstep B0.out hb1)
  clear hb1 R0 B0
  go_wp2_with fail
  refine (Q2.out _).mono ?_
  rintro e w2 ⟨rfl, hb2⟩
  have R2 := Lib.hid (R1.out.below hb2 R1.out.lt)
  have B2 := Lib.hid (bstep B1.out hb2)
  clear hb2 R1 B1
  go_wp2_with fail
  refine (F.out _ B2.out).mono ?_
  rintro e w3 ⟨rfl, hb3⟩
  have R3 := Lib.hid (R2.out.below hb3 R2.out.lt)
  have B3 := Lib.hid (bstep B2.out hb3)
  clear hb3 R2 B2
  obtain ⟨d1, d2, d3⟩ := R3.out.cells
  have f0 := R3.out.frozen 0
  have f1 := R3.out.frozen 1
  have f2 := R3.out.frozen 2
  go_wp2
  obtain ⟨W, hW, hb, hq⟩ := word_end R3.out B3.out (Nat.le_refl _) k n t
  rw [← hW]
  obtain ⟨q1, q2, q3⟩ := hq.cells
  exact bodyPost_ret (v := .tuple #[wd k t n, .int .i64 x]) (by simp [results, Tryz.results42, go_sem, q1, q2, q3]) rfl ⟨rfl, hb⟩
set_option maxRecDepth 100000 in
set_option maxHeartbeats 1000000 in
theorem first_mark (s : ByteArray) (w : World) (R1 : ∀ w, Calls Tryz.prog 52 #[.string s, .string ⟨#[97, 98, 99, 100, 101, 102, 103, 104, 105, 106, 107, 108, 109, 110, 111, 112, 113, 114, 115, 116, 117, 118, 119, 120, 121, 122]⟩] w fun e w' => e = .returned (.int .i64 0) ∧ Below w.heap.size w w') (R2 : ∀ w, Calls Tryz.prog 52 #[.string s, .string ⟨#[48, 49, 50, 51, 52, 53, 54, 55, 56, 57]⟩] w fun e w' => e = .returned (.int .i64 0) ∧ Below w.heap.size w w') (h0 : 0 < s.size) (b : ((s[0].toNat : Int) == 39) = false) (k n : Int) (t : ByteArray) (x : Int) (F : ∀ w', Below w.heap.size w w' → Calls Tryz.prog 56 #[.string s] w' fun e w'' => e = .returned (.tuple #[wd k t n, .int .i64 x]) ∧ Below w'.heap.size w' w'') :
    Calls Tryz.prog 42 #[.string s] w fun e w' => e = .returned (.tuple #[wd k t n, .int .i64 x]) ∧ Below w.heap.size w w' := by
  have R0 := Lib.hid (RowW.new w 68 0 0 ⟨#[]⟩)
  have B0 := Lib.hid ((Below.refl w.heap.size w).alloc (Nat.le_refl _) (.cells #[.int .i64 0, .string ⟨#[]⟩, .int .i64 0] 68))
  have F := Lib.hid F
  have Q1 := Lib.hid R1
  clear R1
  have Q2 := Lib.hid R2
  clear R2
  have hi : (0 : Int) < (s.size : Int) := by omega
  go_enter Tryz.func42, Tryz.ntmps42
  go_wp2_with fail
  refine (Q1.out _).mono ?_
  rintro e w1 ⟨rfl, hb1⟩
  have R1 := Lib.hid (R0.out.below hb1 R0.out.lt)
  have B1 := Lib.hid (bstep B0.out hb1)
  clear hb1 R0 B0
  go_wp2_with fail
  refine (Q2.out _).mono ?_
  rintro e w2 ⟨rfl, hb2⟩
  have R2 := Lib.hid (R1.out.below hb2 R1.out.lt)
  have B2 := Lib.hid (bstep B1.out hb2)
  clear hb2 R1 B1
  go_wp2_with fail
  refine (F.out _ B2.out).mono ?_
  rintro e w3 ⟨rfl, hb3⟩
  have R3 := Lib.hid (R2.out.below hb3 R2.out.lt)
  have B3 := Lib.hid (bstep B2.out hb3)
  clear hb3 R2 B2
  obtain ⟨d1, d2, d3⟩ := R3.out.cells
  have f0 := R3.out.frozen 0
  have f1 := R3.out.frozen 1
  have f2 := R3.out.frozen 2
  go_wp2
  obtain ⟨W, hW, hb, hq⟩ := word_end R3.out B3.out (Nat.le_refl _) k n t
  rw [← hW]
  obtain ⟨q1, q2, q3⟩ := hq.cells
  exact bodyPost_ret (v := .tuple #[wd k t n, .int .i64 x]) (by simp [results, Tryz.results42, go_sem, q1, q2, q3]) rfl ⟨rfl, hb⟩
theorem outW_tuple (x : Lx.Wd) : ∃ (k n : Int) (t : ByteArray) (e : Int), outW x = .tuple #[wd k t n, .int .i64 e] := by
  unfold outW
  split
  · exact ⟨_, _, _, _, rfl⟩
  · exact ⟨_, _, _, _, rfl⟩
/-- the word at the front. -/
theorem first_any (s : ByteArray) (w : World) (a : Addr) (m : Int) (hv : Env w a m) (hs : s.size ≤ 6000) (c : UInt8) (r : List UInt8) (h : s.data.toList = c :: r) :
    Calls Tryz.prog 42 #[.string s] w fun e w' => e = .returned (outW (Lx.word (c :: r))) ∧ Below w.heap.size w w' := by
  have h0 : 0 < s.size := by rw [← list_size, h]; simp
  have hc : s[0] = c := by
    have : s.data.toList[0]? = some c := by rw [h]; rfl
    rw [List.getElem?_eq_getElem (by simpa using h0)] at this
    injection this
  have R1 := fun w => run_small s w hs
  have R2 := fun w => run_digits s w hs
  by_cases h1 : Lx.low c = true
  · have hw : Lx.word (c :: r) = Lx.nameW (c :: r.takeWhile Lx.nm) := by simp only [Lx.word, if_pos h1]
    have hnm : Lx.nm c = true := by simp [Lx.nm, h1]
    have F := fun w' (hb : Below w.heap.size w w') => firstName_any s w' hs
    rw [h, List.takeWhile_cons_of_pos hnm, ← hw] at F
    obtain ⟨k, n, t, e, ho⟩ := outW_tuple (Lx.word (c :: r))
    rw [ho] at F ⊢
    exact first_name s w _ (by rw [h, List.takeWhile_cons_of_pos h1]; simp) R1 k n t e F
  · have hz1 : (s.data.toList.takeWhile Lx.low).length = 0 := by rw [h, List.takeWhile_cons_of_neg h1]; rfl
    rw [hz1] at R1
    by_cases h2 : dig c = true
    · have hw : Lx.word (c :: r) = Lx.numW (c :: r.takeWhile dig) := by simp only [Lx.word, if_neg h1, if_pos h2]
      have F := fun w' (hb : Below w.heap.size w w') => firstNumber_any s w' a m (hv.below hb) hs
      rw [h, List.takeWhile_cons_of_pos h2, ← hw] at F
      obtain ⟨k, n, t, e, ho⟩ := outW_tuple (Lx.word (c :: r))
      rw [ho] at F ⊢
      exact first_num s w R1 _ (by rw [h, List.takeWhile_cons_of_pos h2]; simp) R2 k n t e F
    · have hz2 : (s.data.toList.takeWhile dig).length = 0 := by rw [h, List.takeWhile_cons_of_neg h2]; rfl
      rw [hz2] at R2
      by_cases h3 : c = 39
      · have hw : Lx.word (c :: r) = Lx.textW (Lx.qt r) := by simp only [Lx.word, if_neg h1, if_neg h2, if_pos h3]
        have F := fun w' (hb : Below w.heap.size w w') => firstText_any s w' a m (hv.below hb) hs r (by rw [h, h3])
        rw [← hw] at F
        obtain ⟨k, n, t, e, ho⟩ := outW_tuple (Lx.word (c :: r))
        rw [ho] at F ⊢
        exact first_text s w R1 R2 h0 (by rw [hc, beq_iff_eq]; exact u8_eq.2 h3) k n t e F
      · have hw : Lx.word (c :: r) = markW c r := by simp only [Lx.word, if_neg h1, if_neg h2, if_neg h3, markW]
        have F := fun w' (hb : Below w.heap.size w w') => firstMark_any s w' hs c r h
        rw [← hw] at F
        obtain ⟨k, n, t, e, ho⟩ := outW_tuple (Lx.word (c :: r))
        rw [ho] at F ⊢
        exact first_mark s w R1 R2 h0 (by rw [hc, beq_eq_false_iff_ne]; exact fun e => h3 (u8_eq.1 e)) k n t e F
end Go.Proofs.YtbpknainmefidaaGreatDoor
