/- SuperLasts, where the next one may not be. -/
import Derived.Test.YtjoenmmjpmnkfaaMU3
namespace Go.Proofs.Ytjoenmmjpmnkfaa
open Go.RowKit
set_option maxRecDepth 100000 in
set_option maxHeartbeats 1000000 in
theorem lasts_bad (e a u used : Int) (f x : Int) (hf : fitsB e a u = false) (w : World) : Calls Try.prog 4 #[sup e a u, .int .i64 used, .int .u8 f, .int .u64 x] w fun r w' => r = .returned (.bool true) ∧ Below w.heap.size w w' := by
  have RF := refFits_any e a u
  rw [hf] at RF
  have RF1 := Lib.hid RF
  have NB := Lib.hid (next_bad e a u used hf)
  clear RF hf
  have b0 : Below w.heap.size w (w.alloc (.cells #[.int .u32 (e), .int .i64 (a), .int .i64 (u)] 30)) := (Below.refl _ _).alloc (Nat.le_refl _) _
  have N0 := Whole.new w 30 #[.int .u32 (e), .int .i64 (a), .int .i64 (u)]
  go_enter Try.func4, Try.ntmps4
  go_wp2_with fail
  generalize w.alloc (.cells #[.int .u32 (e), .int .i64 (a), .int .i64 (u)] 30) = wA at *
  refine (awake8 _).mono ?_
  rintro r w1 ⟨rfl, b1⟩
  have N1 := N0.below b1 N0.lt
  have B1 := Lib.hid (below_next b0 b1)
  clear b0 b1 N0
  go_wp2_with fail
  refine (newM 2 64 w1 (by omega) (by omega) (by omega) (by omega)).mono ?_
  rintro r w2 ⟨p, rfl, F, hd, hF, b2⟩
  have N2 := N1.below b2 N1.lt
  have B2 := Lib.hid (below_next B1.out b2)
  have s0 := N2.cell 0
  have s1 := N2.cell 1
  have s2 := N2.cell 2
  simp only [List.getElem?_toArray, List.getElem?_cons_zero, List.getElem?_cons_succ] at s0 s1 s2
  clear hd hF b2 N1
  go_wp2_with fail
  refine (NB.out _).mono ?_
  rintro r w3 ⟨rfl, b3⟩
  have N3 := N2.below b3 N2.lt
  have B3 := Lib.hid (below_next B2.out b3)
  clear s0 s1 s2 N2
  have s0 := N3.cell 0
  have s1 := N3.cell 1
  have s2 := N3.cell 2
  simp only [List.getElem?_toArray, List.getElem?_cons_zero, List.getElem?_cons_succ] at s0 s1 s2
  have q3 : w.heap.size < w3.heap.size := N3.lt
  have T0 := two_new w3 (.int .u32 0) (.int .i64 0) (.int .i64 0) 30 (.int .u32 ((e + 1) % 4294967296)) (.int .i64 (wrap64 (1 - a))) (.int .i64 used) 30
  have T1 := (Whole.new w3 30 #[.int .u32 0, .int .i64 0, .int .i64 0]).alloc (.cells #[.int .u32 ((e + 1) % 4294967296), .int .i64 (wrap64 (1 - a)), .int .i64 used] 30)
  have b3' : Below w3.heap.size w3 ((w3.alloc (.cells #[.int .u32 0, .int .i64 0, .int .i64 0] 30)).alloc (.cells #[.int .u32 ((e + 1) % 4294967296), .int .i64 (wrap64 (1 - a)), .int .i64 used] 30)) := ((Below.refl _ _).alloc (Nat.le_refl _) _).alloc (by simp) _
  have N4 := N3.below b3' q3
  have B4 := Lib.hid (below_next B3.out b3')
  clear b3'
  clear T0 b3 N4
  go_wp2_with fail
  refine (RF1.out _).mono ?_
  rintro r w4 ⟨rfl, b4⟩
  have T2 := T1.below b4 T1.lt
  have B5 := Lib.hid (below_next B4.out b4)
  have t0 := T2.cell 0
  have t1 := T2.cell 1
  have t2 := T2.cell 2
  simp only [List.getElem?_toArray, List.getElem?_cons_zero, List.getElem?_cons_succ] at t0 t1 t2
  clear s0 s1 s2 T1 T2 b4 N3
  go_wp2_with fail
  go_ret
  exact ⟨rfl, B5.out⟩
set_option maxRecDepth 100000 in
set_option maxHeartbeats 1000000 in
theorem lasts_no1 (s : Sup) (hs : s.Ok) (used : Int) (f x : Int) (hf : fitsB ((s.e : Int) + 1) (1 - s.a) used = false) (hm : s.e = 2147483648) (w : World) : Calls Try.prog 4 #[s.v, .int .i64 used, .int .u8 f, .int .u64 x] w fun r w' => r = .returned (.bool true) ∧ Below w.heap.size w w' := by
  have h1 := hs.e; have h2 := hs.a; have h3 := hs.u
  have RF := refFits_any s.e s.a s.u
  rw [hs.fits] at RF
  have RF1 := Lib.hid RF
  have NB := Lib.hid (fun W => next_no s hs used W hf)
  have hmi : ((s.e : Int) == 2147483648) = true := by simp; omega
  clear RF hf hm
  have b0 : Below w.heap.size w (w.alloc (.cells #[.int .u32 (s.e : Nat), .int .i64 (s.a : Nat), .int .i64 (s.u : Nat)] 30)) := (Below.refl _ _).alloc (Nat.le_refl _) _
  have N0 := Whole.new w 30 #[.int .u32 (s.e : Nat), .int .i64 (s.a : Nat), .int .i64 (s.u : Nat)]
  go_enter Try.func4, Try.ntmps4
  go_wp2_with fail
  generalize w.alloc (.cells #[.int .u32 (s.e : Nat), .int .i64 (s.a : Nat), .int .i64 (s.u : Nat)] 30) = wA at *
  refine (awake8 _).mono ?_
  rintro r w1 ⟨rfl, b1⟩
  have N1 := N0.below b1 N0.lt
  have B1 := Lib.hid (below_next b0 b1)
  clear b0 b1 N0
  go_wp2_with fail
  refine (newM 2 64 w1 (by omega) (by omega) (by omega) (by omega)).mono ?_
  rintro r w2 ⟨p, rfl, F, hd, hF, b2⟩
  have N2 := N1.below b2 N1.lt
  have B2 := Lib.hid (below_next B1.out b2)
  have s0 := N2.cell 0
  have s1 := N2.cell 1
  have s2 := N2.cell 2
  simp only [List.getElem?_toArray, List.getElem?_cons_zero, List.getElem?_cons_succ] at s0 s1 s2
  clear hd hF b2 N1
  go_wp2_with fail
  refine (NB.out _).mono ?_
  rintro r w3 ⟨rfl, b3⟩
  have N3 := N2.below b3 N2.lt
  have B3 := Lib.hid (below_next B2.out b3)
  clear s0 s1 s2 N2
  have s0 := N3.cell 0
  have s1 := N3.cell 1
  have s2 := N3.cell 2
  simp only [List.getElem?_toArray, List.getElem?_cons_zero, List.getElem?_cons_succ] at s0 s1 s2
  have q3 : w.heap.size < w3.heap.size := N3.lt
  have T0 := two_new w3 (.int .u32 0) (.int .i64 0) (.int .i64 0) 30 (.int .u32 ((s.e : Int) + 1)) (.int .i64 (1 - (s.a : Int))) (.int .i64 used) 30
  have T1 := (Whole.new w3 30 #[.int .u32 0, .int .i64 0, .int .i64 0]).alloc (.cells #[.int .u32 ((s.e : Int) + 1), .int .i64 (1 - (s.a : Int)), .int .i64 used] 30)
  have b3' : Below w3.heap.size w3 ((w3.alloc (.cells #[.int .u32 0, .int .i64 0, .int .i64 0] 30)).alloc (.cells #[.int .u32 ((s.e : Int) + 1), .int .i64 (1 - (s.a : Int)), .int .i64 used] 30)) := ((Below.refl _ _).alloc (Nat.le_refl _) _).alloc (by simp) _
  have N4 := N3.below b3' q3
  have B4 := Lib.hid (below_next B3.out b3')
  clear b3'
  clear T0 b3
  go_wp2_with fail
  refine (RF1.out _).mono ?_
  rintro r w4 ⟨rfl, b4⟩
  have T2 := T1.below b4 T1.lt
  have B5 := Lib.hid (below_next B4.out b4)
  have t0 := T2.cell 0
  have t1 := T2.cell 1
  have t2 := T2.cell 2
  simp only [List.getElem?_toArray, List.getElem?_cons_zero, List.getElem?_cons_succ] at t0 t1 t2
  have N5 := N4.below b4 N4.lt
  clear s0 s1 s2 N3
  have s0 := N5.cell 0
  have s1 := N5.cell 1
  have s2 := N5.cell 2
  simp only [List.getElem?_toArray, List.getElem?_cons_zero, List.getElem?_cons_succ] at s0 s1 s2
  clear b4 T1
  go_wp2_with fail
  go_ret
  exact ⟨rfl, B5.out⟩
set_option maxRecDepth 100000 in
set_option maxHeartbeats 1000000 in
theorem lasts_no2 (s : Sup) (hs : s.Ok) (used : Int) (f x : Int) (hf : fitsB ((s.e : Int) + 1) (1 - s.a) used = false) (hm : s.e ≠ 2147483648) (w : World) : Calls Try.prog 4 #[s.v, .int .i64 used, .int .u8 f, .int .u64 x] w fun r w' => r = .returned (.bool true) ∧ Below w.heap.size w w' := by
  have h1 := hs.e; have h2 := hs.a; have h3 := hs.u
  have RF := refFits_any s.e s.a s.u
  rw [hs.fits] at RF
  have RF1 := Lib.hid RF
  have RW := refFits_any ((s.e : Int) + 1) (1 - s.a) used
  rw [hf] at RW
  have RW1 := Lib.hid RW
  clear RW
  have NB := Lib.hid (fun W => next_no s hs used W hf)
  have hmi : ((s.e : Int) == 2147483648) = false := by simp; omega
  clear RF hf hm
  have b0 : Below w.heap.size w (w.alloc (.cells #[.int .u32 (s.e : Nat), .int .i64 (s.a : Nat), .int .i64 (s.u : Nat)] 30)) := (Below.refl _ _).alloc (Nat.le_refl _) _
  have N0 := Whole.new w 30 #[.int .u32 (s.e : Nat), .int .i64 (s.a : Nat), .int .i64 (s.u : Nat)]
  go_enter Try.func4, Try.ntmps4
  go_wp2_with fail
  generalize w.alloc (.cells #[.int .u32 (s.e : Nat), .int .i64 (s.a : Nat), .int .i64 (s.u : Nat)] 30) = wA at *
  refine (awake8 _).mono ?_
  rintro r w1 ⟨rfl, b1⟩
  have N1 := N0.below b1 N0.lt
  have B1 := Lib.hid (below_next b0 b1)
  clear b0 b1 N0
  go_wp2_with fail
  refine (newM 2 64 w1 (by omega) (by omega) (by omega) (by omega)).mono ?_
  rintro r w2 ⟨p, rfl, F, hd, hF, b2⟩
  have N2 := N1.below b2 N1.lt
  have B2 := Lib.hid (below_next B1.out b2)
  have s0 := N2.cell 0
  have s1 := N2.cell 1
  have s2 := N2.cell 2
  simp only [List.getElem?_toArray, List.getElem?_cons_zero, List.getElem?_cons_succ] at s0 s1 s2
  clear hd hF b2 N1
  go_wp2_with fail
  refine (NB.out _).mono ?_
  rintro r w3 ⟨rfl, b3⟩
  have N3 := N2.below b3 N2.lt
  have B3 := Lib.hid (below_next B2.out b3)
  clear s0 s1 s2 N2
  have s0 := N3.cell 0
  have s1 := N3.cell 1
  have s2 := N3.cell 2
  simp only [List.getElem?_toArray, List.getElem?_cons_zero, List.getElem?_cons_succ] at s0 s1 s2
  have q3 : w.heap.size < w3.heap.size := N3.lt
  have T0 := two_new w3 (.int .u32 0) (.int .i64 0) (.int .i64 0) 30 (.int .u32 ((s.e : Int) + 1)) (.int .i64 (1 - (s.a : Int))) (.int .i64 used) 30
  have T1 := (Whole.new w3 30 #[.int .u32 0, .int .i64 0, .int .i64 0]).alloc (.cells #[.int .u32 ((s.e : Int) + 1), .int .i64 (1 - (s.a : Int)), .int .i64 used] 30)
  have b3' : Below w3.heap.size w3 ((w3.alloc (.cells #[.int .u32 0, .int .i64 0, .int .i64 0] 30)).alloc (.cells #[.int .u32 ((s.e : Int) + 1), .int .i64 (1 - (s.a : Int)), .int .i64 used] 30)) := ((Below.refl _ _).alloc (Nat.le_refl _) _).alloc (by simp) _
  have N4 := N3.below b3' q3
  have B4 := Lib.hid (below_next B3.out b3')
  clear b3'
  clear T0 b3
  go_wp2_with fail
  refine (RF1.out _).mono ?_
  rintro r w4 ⟨rfl, b4⟩
  have T2 := T1.below b4 T1.lt
  have B5 := Lib.hid (below_next B4.out b4)
  have t0 := T2.cell 0
  have t1 := T2.cell 1
  have t2 := T2.cell 2
  simp only [List.getElem?_toArray, List.getElem?_cons_zero, List.getElem?_cons_succ] at t0 t1 t2
  have N5 := N4.below b4 N4.lt
  clear s0 s1 s2 N3
  have s0 := N5.cell 0
  have s1 := N5.cell 1
  have s2 := N5.cell 2
  simp only [List.getElem?_toArray, List.getElem?_cons_zero, List.getElem?_cons_succ] at s0 s1 s2
  have v5 := (two_new w3 (.int .u32 0) (.int .i64 0) (.int .i64 0) 30 (.int .u32 ((s.e : Int) + 1)) (.int .i64 (1 - (s.a : Int))) (.int .i64 used) 30).below b4 (by simp)
  have v0 := v5.cell 0
  have v1 := v5.cell 1
  have v2 := v5.cell 2
  simp only [List.getElem?_toArray, List.getElem?_cons_zero, List.getElem?_cons_succ] at v0 v1 v2
  clear v5
  clear b4 T1
  go_wp2_with fail
  refine (RW1.out _).mono ?_
  rintro r w5 ⟨rfl, b5⟩
  have T3 := T2.below b5 T2.lt
  have B6 := Lib.hid (below_next B5.out b5)
  clear t0 t1 t2 v0 v1 v2 s0 s1 s2
  have t0 := T3.cell 0
  have t1 := T3.cell 1
  have t2 := T3.cell 2
  simp only [List.getElem?_toArray, List.getElem?_cons_zero, List.getElem?_cons_succ] at t0 t1 t2
  clear T2 T3 b5
  go_wp2_with fail
  go_ret
  exact ⟨rfl, B6.out⟩
end Go.Proofs.Ytjoenmmjpmnkfaa
