/- Words of a source, walked: a number, a text, a mark. -/
import Derived.Test.YtbpknainmefidaaGreatDoorWE
namespace Go.Proofs.YtbpknainmefidaaGreatDoor
open Go.RowKit Go.Lib
set_option linter.unusedVariables false

theorem firstName_any (s : ByteArray) (w : World) (hs : s.size ≤ 6000) :
    Calls Tryz.prog 53 #[.string s] w fun e w' => e = .returned (outW (Lx.nameW (s.data.toList.takeWhile Lx.nm))) ∧ Below w.heap.size w w' := by
  cases hr : Lx.res (s.data.toList.takeWhile Lx.nm)
  · by_cases hn : 16 < (s.data.toList.takeWhile Lx.nm).length
    · rw [outW_bad (by simp [Lx.nameW, hr, hn])]
      have := firstName_long s w hs hn
      simpa [Lx.nameW, hr, hn] using this
    · rw [outW_ok (by simp [Lx.nameW, hr, hn])]
      have := firstName_name s w hs (by omega) hr
      simpa [Lx.nameW, hr, hn] using this
  · have hn : (s.data.toList.takeWhile Lx.nm).length ≤ 16 := by have := Lx.res_le _ hr; omega
    rw [outW_ok (by simp [Lx.nameW, hr])]
    have := firstName_word s w hs hn hr
    simpa [Lx.nameW, hr] using this
theorem tw_str (p : UInt8 → Bool) (s : ByteArray) : s.extract 0 (s.data.toList.takeWhile p).length = str (s.data.toList.takeWhile p) := by
  apply ByteArray.ext
  apply Array.ext'
  rw [take_str, Lx.tw_take]
theorem tw_size (p : UInt8 → Bool) (s : ByteArray) : (s.data.toList.takeWhile p).length ≤ s.size := by
  have := Lx.tw_le p s.data.toList
  rwa [list_size] at this

set_option maxRecDepth 100000 in
set_option maxHeartbeats 1000000 in
theorem firstNumber_ok (s : ByteArray) (w : World) (hs : s.size ≤ 6000) (n : Nat) (hn : n ≤ s.size) (RN : ∀ w, Calls Tryz.prog 52 #[.string s, .string ⟨#[48, 49, 50, 51, 52, 53, 54, 55, 56, 57]⟩] w fun e w' => e = .returned (.int .i64 (n : Nat)) ∧ Below w.heap.size w w')
    (k v : Int) (u : ByteArray) (RV : ∀ w', Below w.heap.size w w' → Calls Tryz.prog 73 #[.string (s.extract 0 n)] w' fun e w'' => e = .returned (.tuple #[val k v u, .int .i64 0]) ∧ Below w'.heap.size w' w'') :
    Calls Tryz.prog 54 #[.string s] w fun e w' => e = .returned (.tuple #[wd 3 (s.extract 0 n) (n : Int), .int .i64 0]) ∧ Below w.heap.size w w' := by
  have R0 := Lib.hid (RowW.new w 68 0 0 ⟨#[]⟩)
  have B0 := Lib.hid ((Below.refl w.heap.size w).alloc (Nat.le_refl _) (.cells #[.int .i64 0, .string ⟨#[]⟩, .int .i64 0] 68))
  have RN := Lib.hid RN
  have RV := Lib.hid RV
  have hn3 : (n : Int) ≤ s.size := by omega
  have hs2 : (s.size : Int) ≤ 6000 := by omega
  go_enter Tryz.func54, Tryz.ntmps54
  go_wp2_with fail
  refine (RN.out _).mono ?_
  rintro e w1 ⟨rfl, hb1⟩
  have R1 := Lib.hid (R0.out.below hb1 R0.out.lt)
  have B1 := Lib.hid (bstep B0.out hb1)
  clear hb1 R0 B0
  go_wp2_with fail
  refine (RV.out _ B1.out).mono ?_
  rintro e w2 ⟨rfl, hb2⟩
  have R2 := Lib.hid (R1.out.below hb2 R1.out.lt)
  have B2 := Lib.hid (bstep B1.out hb2)
  clear hb2 R1 B1
  have R3 := Lib.hid (R2.out.alloc (.cells #[.int .i64 k, .int .i64 v, .string u] 23))
  have B3 := Lib.hid (B2.out.alloc B2.out.size (.cells #[.int .i64 k, .int .i64 v, .string u] 23))
  clear R2 B2
  obtain ⟨d1, d2, d3⟩ := R3.out.cells
  have f0 := R3.out.frozen 0
  have f1 := R3.out.frozen 1
  have f2 := R3.out.frozen 2
  go_wp2
  obtain ⟨W, hW, hb, hq⟩ := word_end R3.out B3.out (Nat.le_refl _) 3 (n : Int) (s.extract 0 n)
  rw [← hW]
  obtain ⟨q1, q2, q3⟩ := hq.cells
  exact bodyPost_ret (v := .tuple #[wd 3 (s.extract 0 n) (n : Int), .int .i64 0]) (by simp [results, Tryz.results54, go_sem, q1, q2, q3]) rfl ⟨rfl, hb⟩
set_option maxRecDepth 100000 in
set_option maxHeartbeats 1000000 in
theorem firstNumber_bad (s : ByteArray) (w : World) (hs : s.size ≤ 6000) (n : Nat) (hn : n ≤ s.size) (RN : ∀ w, Calls Tryz.prog 52 #[.string s, .string ⟨#[48, 49, 50, 51, 52, 53, 54, 55, 56, 57]⟩] w fun e w' => e = .returned (.int .i64 (n : Nat)) ∧ Below w.heap.size w w')
    (k v : Int) (u : ByteArray) (x : Int) (hx : x ≠ 0) (RV : ∀ w', Below w.heap.size w w' → Calls Tryz.prog 73 #[.string (s.extract 0 n)] w' fun e w'' => e = .returned (.tuple #[val k v u, .int .i64 x]) ∧ Below w'.heap.size w' w'') :
    Calls Tryz.prog 54 #[.string s] w fun e w' => e = .returned (.tuple #[wd 0 ⟨#[]⟩ 0, .int .i64 x]) ∧ Below w.heap.size w w' := by
  have R0 := Lib.hid (RowW.new w 68 0 0 ⟨#[]⟩)
  have B0 := Lib.hid ((Below.refl w.heap.size w).alloc (Nat.le_refl _) (.cells #[.int .i64 0, .string ⟨#[]⟩, .int .i64 0] 68))
  have RN := Lib.hid RN
  have RV := Lib.hid RV
  have hn3 : (n : Int) ≤ s.size := by omega
  have hs2 : (s.size : Int) ≤ 6000 := by omega
  have hx1 : (x == 0) = false := by rw [beq_eq_false_iff_ne]; exact hx
  have hx2 : (x != 0) = true := by rw [bne_iff_ne]; exact hx
  clear hx
  go_enter Tryz.func54, Tryz.ntmps54
  go_wp2_with fail
  refine (RN.out _).mono ?_
  rintro e w1 ⟨rfl, hb1⟩
  have R1 := Lib.hid (R0.out.below hb1 R0.out.lt)
  have B1 := Lib.hid (bstep B0.out hb1)
  clear hb1 R0 B0
  go_wp2_with fail
  refine (RV.out _ B1.out).mono ?_
  rintro e w2 ⟨rfl, hb2⟩
  have R2 := Lib.hid (R1.out.below hb2 R1.out.lt)
  have B2 := Lib.hid (bstep B1.out hb2)
  clear hb2 R1 B1
  have R3 := Lib.hid (R2.out.alloc (.cells #[.int .i64 k, .int .i64 v, .string u] 23))
  have B3 := Lib.hid (B2.out.alloc B2.out.size (.cells #[.int .i64 k, .int .i64 v, .string u] 23))
  clear R2 B2
  obtain ⟨d1, d2, d3⟩ := R3.out.cells
  have f0 := R3.out.frozen 0
  have f1 := R3.out.frozen 1
  have f2 := R3.out.frozen 2
  go_wp2
  obtain ⟨W, hW, hb, hq⟩ := word_end R3.out B3.out (Nat.le_refl _) 0 0 ⟨#[]⟩
  rw [← hW]
  obtain ⟨q1, q2, q3⟩ := hq.cells
  exact bodyPost_ret (v := .tuple #[wd 0 ⟨#[]⟩ 0, .int .i64 x]) (by simp [results, Tryz.results54, go_sem, q1, q2, q3]) rfl ⟨rfl, hb⟩
theorem firstNumber_any (s : ByteArray) (w : World) (a : Addr) (m : Int) (hv : Env w a m) (hs : s.size ≤ 6000) :
    Calls Tryz.prog 54 #[.string s] w fun e w' => e = .returned (outW (Lx.numW (s.data.toList.takeWhile dig))) ∧ Below w.heap.size w w' := by
  have ht := tw_str dig s
  have hn := tw_size dig s
  have hd := Lx.told_digits _ (fun c hc => Lx.tw_all dig s.data.toList c hc)
  have he := Lx.toldInt_err (s.data.toList.takeWhile dig)
  have RV : ∀ w', Below w.heap.size w w' → Calls Tryz.prog 73 #[.string (s.extract 0 (s.data.toList.takeWhile dig).length)] w' fun e w'' => e = .returned (out (toldInt (s.data.toList.takeWhile dig))) ∧ Below w'.heap.size w' w'' := fun w' hb => by
    have := vread_any (s.extract 0 (s.data.toList.takeWhile dig).length) w' a m (hv.below hb) (by rw [take_size _ _ hn]; omega)
    rwa [take_str, Lx.tw_take, hd] at this
  by_cases h0 : Lx.numErr (s.data.toList.takeWhile dig) = 0
  · rw [outW_ok h0]
    rw [h0] at he
    have K := firstNumber_ok s w hs _ hn (fun w => run_digits s w hs) (toldInt (s.data.toList.takeWhile dig)).k (toldInt (s.data.toList.takeWhile dig)).n (str (toldInt (s.data.toList.takeWhile dig)).s) (fun w' hb => by
      have := RV w' hb
      unfold out at this
      rw [he] at this
      exact this)
    rw [ht] at K
    exact K
  · rw [outW_bad h0]
    exact firstNumber_bad s w hs _ hn (fun w => run_digits s w hs) (toldInt (s.data.toList.takeWhile dig)).k (toldInt (s.data.toList.takeWhile dig)).n (str (toldInt (s.data.toList.takeWhile dig)).s) _ (by show ((Lx.numErr (s.data.toList.takeWhile dig) : Nat) : Int) ≠ 0; omega) (fun w' hb => by
      have := RV w' hb
      unfold out at this
      rw [he] at this
      exact this)

set_option maxRecDepth 100000 in
set_option maxHeartbeats 1000000 in
theorem firstText_none (s : ByteArray) (w : World) (hs : s.size ≤ 6000) (T : ∀ w, Calls Tryz.prog 74 #[.string s] w fun e w' => e = .returned (.int .i64 0) ∧ w' = w) :
    Calls Tryz.prog 55 #[.string s] w fun e w' => e = .returned (.tuple #[wd 0 ⟨#[]⟩ 0, .int .i64 7]) ∧ Below w.heap.size w w' := by
  have R0 := Lib.hid (RowW.new w 68 0 0 ⟨#[]⟩)
  have B0 := Lib.hid ((Below.refl w.heap.size w).alloc (Nat.le_refl _) (.cells #[.int .i64 0, .string ⟨#[]⟩, .int .i64 0] 68))
  have T := Lib.hid T
  go_enter Tryz.func55, Tryz.ntmps55
  go_wp2_with fail
  refine (T.out _).mono ?_
  rintro e w' ⟨rfl, rfl⟩
  go_wp2
  exact bodyPost_ret (v := .tuple #[wd 0 ⟨#[]⟩ 0, .int .i64 7]) (by simp [results, Tryz.results55, go_sem]) rfl ⟨rfl, (Below.refl _ _).alloc (Nat.le_refl _) _⟩
set_option maxRecDepth 100000 in
set_option maxHeartbeats 1000000 in
theorem firstText_ok (s : ByteArray) (w : World) (hs : s.size ≤ 6000) (n : Nat) (h1 : 1 ≤ n) (hn : n ≤ s.size) (T : ∀ w, Calls Tryz.prog 74 #[.string s] w fun e w' => e = .returned (.int .i64 (n : Nat)) ∧ w' = w)
    (k v : Int) (u : ByteArray) (RV : ∀ w', Below w.heap.size w w' → Calls Tryz.prog 73 #[.string (s.extract 0 n)] w' fun e w'' => e = .returned (.tuple #[val k v u, .int .i64 0]) ∧ Below w'.heap.size w' w'') :
    Calls Tryz.prog 55 #[.string s] w fun e w' => e = .returned (.tuple #[wd 4 u (n : Int), .int .i64 0]) ∧ Below w.heap.size w w' := by
  have R0 := Lib.hid (RowW.new w 68 0 0 ⟨#[]⟩)
  have B0 := Lib.hid ((Below.refl w.heap.size w).alloc (Nat.le_refl _) (.cells #[.int .i64 0, .string ⟨#[]⟩, .int .i64 0] 68))
  have T := Lib.hid T
  have RV := Lib.hid RV
  have hn3 : (n : Int) ≤ s.size := by omega
  have hs2 : (s.size : Int) ≤ 6000 := by omega
  have hz : ((n : Int) == 0) = false := by rw [beq_eq_false_iff_ne]; omega
  go_enter Tryz.func55, Tryz.ntmps55
  go_wp2_with fail
  refine (T.out _).mono ?_
  rintro e w' ⟨rfl, rfl⟩
  go_wp2_with fail
  refine (RV.out _ B0.out).mono ?_
  rintro e w2 ⟨rfl, hb2⟩
  have R2 := Lib.hid (R0.out.below hb2 R0.out.lt)
  have B2 := Lib.hid (bstep B0.out hb2)
  clear hb2 R0 B0
  have R3 := Lib.hid (R2.out.alloc (.cells #[.int .i64 k, .int .i64 v, .string u] 23))
  have B3 := Lib.hid (B2.out.alloc B2.out.size (.cells #[.int .i64 k, .int .i64 v, .string u] 23))
  clear R2 B2
  obtain ⟨d1, d2, d3⟩ := R3.out.cells
  have f0 := R3.out.frozen 0
  have f1 := R3.out.frozen 1
  have f2 := R3.out.frozen 2
  go_wp2
  obtain ⟨W, hW, hb, hq⟩ := word_end R3.out B3.out (Nat.le_refl _) 4 (n : Int) u
  rw [← hW]
  obtain ⟨q1, q2, q3⟩ := hq.cells
  exact bodyPost_ret (v := .tuple #[wd 4 u (n : Int), .int .i64 0]) (by simp [results, Tryz.results55, go_sem, q1, q2, q3]) rfl ⟨rfl, hb⟩
set_option maxRecDepth 100000 in
set_option maxHeartbeats 1000000 in
theorem firstText_long (s : ByteArray) (w : World) (hs : s.size ≤ 6000) (n : Nat) (h1 : 1 ≤ n) (hn : n ≤ s.size) (T : ∀ w, Calls Tryz.prog 74 #[.string s] w fun e w' => e = .returned (.int .i64 (n : Nat)) ∧ w' = w)
    (k v : Int) (u : ByteArray) (x : Int) (hx : x ≠ 0) (RV : ∀ w', Below w.heap.size w w' → Calls Tryz.prog 73 #[.string (s.extract 0 n)] w' fun e w'' => e = .returned (.tuple #[val k v u, .int .i64 x]) ∧ Below w'.heap.size w' w'') :
    Calls Tryz.prog 55 #[.string s] w fun e w' => e = .returned (.tuple #[wd 0 ⟨#[]⟩ 0, .int .i64 3]) ∧ Below w.heap.size w w' := by
  have R0 := Lib.hid (RowW.new w 68 0 0 ⟨#[]⟩)
  have B0 := Lib.hid ((Below.refl w.heap.size w).alloc (Nat.le_refl _) (.cells #[.int .i64 0, .string ⟨#[]⟩, .int .i64 0] 68))
  have T := Lib.hid T
  have RV := Lib.hid RV
  have hn3 : (n : Int) ≤ s.size := by omega
  have hs2 : (s.size : Int) ≤ 6000 := by omega
  have hz : ((n : Int) == 0) = false := by rw [beq_eq_false_iff_ne]; omega
  have hx1 : (x == 0) = false := by rw [beq_eq_false_iff_ne]; exact hx
  have hx2 : (x != 0) = true := by rw [bne_iff_ne]; exact hx
  clear hx
  go_enter Tryz.func55, Tryz.ntmps55
  go_wp2_with fail
  refine (T.out _).mono ?_
  rintro e w' ⟨rfl, rfl⟩
  go_wp2_with fail
  refine (RV.out _ B0.out).mono ?_
  rintro e w2 ⟨rfl, hb2⟩
  have R2 := Lib.hid (R0.out.below hb2 R0.out.lt)
  have B2 := Lib.hid (bstep B0.out hb2)
  clear hb2 R0 B0
  have R3 := Lib.hid (R2.out.alloc (.cells #[.int .i64 k, .int .i64 v, .string u] 23))
  have B3 := Lib.hid (B2.out.alloc B2.out.size (.cells #[.int .i64 k, .int .i64 v, .string u] 23))
  clear R2 B2
  obtain ⟨d1, d2, d3⟩ := R3.out.cells
  have f0 := R3.out.frozen 0
  have f1 := R3.out.frozen 1
  have f2 := R3.out.frozen 2
  go_wp2
  obtain ⟨W, hW, hb, hq⟩ := word_end R3.out B3.out (Nat.le_refl _) 0 0 ⟨#[]⟩
  rw [← hW]
  obtain ⟨q1, q2, q3⟩ := hq.cells
  exact bodyPost_ret (v := .tuple #[wd 0 ⟨#[]⟩ 0, .int .i64 3]) (by simp [results, Tryz.results55, go_sem, q1, q2, q3]) rfl ⟨rfl, hb⟩
theorem ts_yes {l : List UInt8} (k : Nat) (h : (Lx.qt l).2.2 = true) : ts k l = k + (Lx.qt l).2.1 := if_pos h
theorem firstText_any (s : ByteArray) (w : World) (a : Addr) (m : Int) (hv : Env w a m) (hs : s.size ≤ 6000) (r : List UInt8) (h : s.data.toList = 39 :: r) :
    Calls Tryz.prog 55 #[.string s] w fun e w' => e = .returned (outW (Lx.textW (Lx.qt r))) ∧ Below w.heap.size w w' := by
  have hd : s.data.toList.drop 1 = r := by rw [h]; rfl
  have hlen : s.size = r.length + 1 := by rw [← list_size, h]; rfl
  have T := fun w => textSize_any s w hs
  rw [hd] at T
  cases hq : (Lx.qt r).2.2
  · rw [outW_bad (by simp [Lx.textW, hq])]
    rw [show ts 1 r = 0 by simp [ts, hq]] at T
    have K := firstText_none s w hs T
    simpa [Lx.textW, hq] using K
  · rw [ts_yes 1 hq] at T
    obtain ⟨q1, q2⟩ := Lx.qt_take r hq
    have hx : (s.extract 0 (1 + (Lx.qt r).2.1)).data.toList = quo (Lx.qt r).1 := by
      rw [take_str, h, Nat.add_comm, List.take_succ_cons, q1]; rfl
    have RV : ∀ w', Below w.heap.size w w' → Calls Tryz.prog 73 #[.string (s.extract 0 (1 + (Lx.qt r).2.1))] w' fun e w'' => e = .returned (out (if (Lx.qt r).1.length ≤ 200 then ⟨2, 0, (Lx.qt r).1, 0⟩ else ⟨0, 0, [], 7⟩)) ∧ Below w'.heap.size w' w'' := fun w' hb => by
      have := vread_any (s.extract 0 (1 + (Lx.qt r).2.1)) w' a m (hv.below hb) (by rw [take_size _ _ (by omega)]; omega)
      rwa [hx, Lx.told_text] at this
    by_cases h2 : (Lx.qt r).1.length ≤ 200
    · rw [if_pos h2] at RV
      have h2' : ¬ 200 < (Lx.qt r).1.length := by omega
      rw [outW_ok (by simp [Lx.textW, hq]; omega)]
      have K := firstText_ok s w hs _ (by omega) (by omega) T _ _ _ RV
      simp only [Lx.textW, hq]
      rw [Nat.add_comm (Lx.qt r).2.1 1]
      exact K
    · rw [if_neg h2] at RV
      have h2' : 200 < (Lx.qt r).1.length := by omega
      rw [outW_bad (by simp [Lx.textW, hq, h2'])]
      have K := firstText_long s w hs _ (by omega) (by omega) T _ _ _ 7 (by decide) RV
      simpa [Lx.textW, hq, h2'] using K

set_option maxRecDepth 100000 in
set_option maxHeartbeats 1000000 in
theorem firstMark_none (s : ByteArray) (w : World) (hs : s.size ≤ 6000) (T : ∀ w, Calls Tryz.prog 75 #[.string s] w fun e w' => e = .returned (.int .i64 0) ∧ w' = w) :
    Calls Tryz.prog 56 #[.string s] w fun e w' => e = .returned (.tuple #[wd 0 ⟨#[]⟩ 0, .int .i64 7]) ∧ Below w.heap.size w w' := by
  have R0 := Lib.hid (RowW.new w 68 0 0 ⟨#[]⟩)
  have B0 := Lib.hid ((Below.refl w.heap.size w).alloc (Nat.le_refl _) (.cells #[.int .i64 0, .string ⟨#[]⟩, .int .i64 0] 68))
  have T := Lib.hid T
  go_enter Tryz.func56, Tryz.ntmps56
  go_wp2_with fail
  refine (T.out _).mono ?_
  rintro e w' ⟨rfl, rfl⟩
  go_wp2
  exact bodyPost_ret (v := .tuple #[wd 0 ⟨#[]⟩ 0, .int .i64 7]) (by simp [results, Tryz.results56, go_sem]) rfl ⟨rfl, (Below.refl _ _).alloc (Nat.le_refl _) _⟩
set_option maxRecDepth 100000 in
set_option maxHeartbeats 1000000 in
theorem firstMark_ok (s : ByteArray) (w : World) (hs : s.size ≤ 6000) (n : Nat) (h1 : 1 ≤ n) (hn : n ≤ s.size) (T : ∀ w, Calls Tryz.prog 75 #[.string s] w fun e w' => e = .returned (.int .i64 (n : Nat)) ∧ w' = w) :
    Calls Tryz.prog 56 #[.string s] w fun e w' => e = .returned (.tuple #[wd 5 (s.extract 0 n) (n : Int), .int .i64 0]) ∧ Below w.heap.size w w' := by
  have R0 := Lib.hid (RowW.new w 68 0 0 ⟨#[]⟩)
  have B0 := Lib.hid ((Below.refl w.heap.size w).alloc (Nat.le_refl _) (.cells #[.int .i64 0, .string ⟨#[]⟩, .int .i64 0] 68))
  have T := Lib.hid T
  have hn3 : (n : Int) ≤ s.size := by omega
  have hs2 : (s.size : Int) ≤ 6000 := by omega
  have hz : ((n : Int) == 0) = false := by rw [beq_eq_false_iff_ne]; omega
  go_enter Tryz.func56, Tryz.ntmps56
  go_wp2_with fail
  refine (T.out _).mono ?_
  rintro e w' ⟨rfl, rfl⟩
  go_wp2
  exact bodyPost_ret (v := .tuple #[wd 5 (s.extract 0 n) (n : Int), .int .i64 0]) (by simp [results, Tryz.results56, go_sem]) rfl ⟨rfl, (Below.refl _ _).alloc (Nat.le_refl _) _⟩
/-- a mark, as it is told. -/
def markW (c : UInt8) (r : List UInt8) : Lx.Wd := if Lx.pre2 c && r.head? == some 61 then ⟨5, 2, [c, 61], 0⟩ else ⟨5, 1, [c], if Lx.single c then 0 else 7⟩
theorem firstMark_any (s : ByteArray) (w : World) (hs : s.size ≤ 6000) (c : UInt8) (r : List UInt8) (h : s.data.toList = c :: r) :
    Calls Tryz.prog 56 #[.string s] w fun e w' => e = .returned (outW (markW c r)) ∧ Below w.heap.size w w' := by
  have hlen : s.size = r.length + 1 := by rw [← list_size, h]; rfl
  have T := fun w => markSize_any s w c r h
  cases hp : (Lx.pre2 c && r.head? == some 61)
  · cases hs1 : Lx.single c
    · rw [show ms c r = 0 by simp only [ms, hp, hs1]; rfl] at T
      have e : markW c r = ⟨5, 1, [c], 7⟩ := by simp only [markW, hp, hs1]; rfl
      rw [e, outW_bad (show (7 : Nat) ≠ 0 by decide)]
      exact firstMark_none s w hs T
    · rw [show ms c r = 1 by simp only [ms, hp, hs1]; rfl] at T
      have e : markW c r = ⟨5, 1, [c], 0⟩ := by simp only [markW, hp, hs1]; rfl
      rw [e, outW_ok rfl]
      have K := firstMark_ok s w hs 1 (by omega) (by omega) T
      have ex : s.extract 0 1 = str [c] := by
        apply ByteArray.ext
        apply Array.ext'
        rw [take_str, h]; rfl
      rw [ex] at K
      exact K
  · have hr : r.head? = some 61 := by
      simp only [Bool.and_eq_true, beq_iff_eq] at hp
      exact hp.2
    obtain ⟨r', hr'⟩ : ∃ r', r = 61 :: r' := by
      cases r with
      | nil => cases hr
      | cons d r => cases hr; exact ⟨r, rfl⟩
    rw [show ms c r = 2 by simp only [ms, hp]; rfl] at T
    have e : markW c r = ⟨5, 2, [c, 61], 0⟩ := by simp only [markW, hp]; rfl
    rw [e, outW_ok rfl]
    have K := firstMark_ok s w hs 2 (by omega) (by rw [hlen, hr']; simp) T
    have ex : s.extract 0 2 = str [c, 61] := by
      apply ByteArray.ext
      apply Array.ext'
      rw [take_str, h, hr']; rfl
    rw [ex] at K
    exact K
end Go.Proofs.YtbpknainmefidaaGreatDoor
