/- The reference's Value. -/
import Derived.Test.YtmpiknaoocflcaaV4
import Derived.Test.YtmpiknaoocflcaaS5
namespace Go.Proofs.Ytmpiknaoocflcaa
open Go.RowKit

theorem built_one (w : World) (x : UInt8) : Row (w.alloc (.cells #[.int .u8 ((x.toNat : Nat) : Int)] 5)) w.heap.size (.slice (some ⟨w.heap.size, 0, none⟩) 1 1) [x] :=
  Row.of_block (l := [x]) (Whole.new w 5 _) (Nat.le_refl _) (by simp [maxLen])
section
variable {w : World}
set_option maxRecDepth 100000 in
set_option maxHeartbeats 1000000 in
theorem refValue_null  :
    Calls Try.prog 21 #[Val.val 0 0 ⟨#[]⟩] w fun r w' => ∃ v, r = .returned v ∧ Row w' w.heap.size v (vb (0, 0, ⟨#[]⟩)) ∧ Below w.heap.size w w' := by
  have bal : Below w.heap.size w (w.alloc (.cells #[.int .i64 0, .int .i64 0, .string ⟨#[]⟩] 42)) := (Below.refl _ _).alloc (Nat.le_refl _) _
  have HW : Whole (w.alloc (.cells #[.int .i64 0, .int .i64 0, .string ⟨#[]⟩] 42)) w.heap.size 42 #[.int .i64 0, .int .i64 0, .string ⟨#[]⟩] := Whole.new _ _ _
  generalize hW' : w.alloc (.cells #[.int .i64 0, .int .i64 0, .string ⟨#[]⟩] 42) = W' at *
  have a0 := HW.cell 0
  have a1 := HW.cell 1
  have a2 := HW.cell 2
  simp only [List.getElem?_toArray, List.getElem?_cons_zero, List.getElem?_cons_succ] at a0 a1 a2
  go_enter Try.func21, Try.ntmps21
  go_wp2_with fail
  try simp only [hW']
  clear hW'
  refine (Val.refplain_any _ _ _ _).mono ?_
  rintro e u1 ⟨rfl, b1⟩
  rw [show Val.plainB 0 0 ⟨#[]⟩ = true by simp [Val.plainB, Val.same_iff]]
  have HU := HW.below b1 HW.lt
  have B1 := below_next bal b1
  have hq : w.heap.size < u1.heap.size := HU.lt
  clear bal HW b1 a0 a1 a2
  have c0 := HU.cell 0
  have c1 := HU.cell 1
  have c2 := HU.cell 2
  simp only [List.getElem?_toArray, List.getElem?_cons_zero, List.getElem?_cons_succ] at c0 c1 c2
  have ro1 := built_one u1 0
  have bo1 : Below u1.heap.size u1 (u1.alloc (.cells #[.int .u8 (((0 : UInt8).toNat : Nat) : Int)] 5)) := (Below.refl _ _).alloc (Nat.le_refl _) _
  have hU2 := HU.below bo1 hq
  rw [show (((0 : UInt8).toNat : Nat) : Int) = 0 from rfl] at ro1 bo1 hU2
  have RO := Lib.hid (Row.le ro1 (Nat.le_of_lt hq))
  have BO := Lib.hid (below_next B1 bo1)
  clear ro1 bo1 hU2 HU B1
  go_wp2_with fail
  go_ret
  exact ⟨_, rfl, RO.out, BO.out⟩

set_option maxRecDepth 100000 in
set_option maxHeartbeats 1000000 in
theorem refValue_bad (k n : Int) (s : ByteArray) (hp : Val.plainB k n s = false) :
    Calls Try.prog 21 #[Val.val k n s] w fun r w' => ∃ v, r = .returned v ∧ Row w' w.heap.size v (vb (0, 0, ⟨#[]⟩)) ∧ Below w.heap.size w w' := by
  have bal : Below w.heap.size w (w.alloc (.cells #[.int .i64 k, .int .i64 n, .string s] 42)) := (Below.refl _ _).alloc (Nat.le_refl _) _
  have HW : Whole (w.alloc (.cells #[.int .i64 k, .int .i64 n, .string s] 42)) w.heap.size 42 #[.int .i64 k, .int .i64 n, .string s] := Whole.new _ _ _
  generalize hW' : w.alloc (.cells #[.int .i64 k, .int .i64 n, .string s] 42) = W' at *
  have a0 := HW.cell 0
  have a1 := HW.cell 1
  have a2 := HW.cell 2
  simp only [List.getElem?_toArray, List.getElem?_cons_zero, List.getElem?_cons_succ] at a0 a1 a2
  go_enter Try.func21, Try.ntmps21
  go_wp2_with fail
  try simp only [hW']
  clear hW'
  refine (Val.refplain_any _ _ _ _).mono ?_
  rintro e u1 ⟨rfl, b1⟩
  rw [hp]
  have HU := HW.below b1 HW.lt
  have B1 := below_next bal b1
  have hq : w.heap.size < u1.heap.size := HU.lt
  clear bal HW b1 a0 a1 a2
  have c0 := HU.cell 0
  have c1 := HU.cell 1
  have c2 := HU.cell 2
  simp only [List.getElem?_toArray, List.getElem?_cons_zero, List.getElem?_cons_succ] at c0 c1 c2
  have ro1 := built_one u1 0
  have bo1 : Below u1.heap.size u1 (u1.alloc (.cells #[.int .u8 (((0 : UInt8).toNat : Nat) : Int)] 5)) := (Below.refl _ _).alloc (Nat.le_refl _) _
  have hU2 := HU.below bo1 hq
  rw [show (((0 : UInt8).toNat : Nat) : Int) = 0 from rfl] at ro1 bo1 hU2
  have RO := Lib.hid (Row.le ro1 (Nat.le_of_lt hq))
  have BO := Lib.hid (below_next B1 bo1)
  clear ro1 bo1 hU2 HU B1
  go_wp2_with fail
  go_ret
  exact ⟨_, rfl, RO.out, BO.out⟩

set_option maxRecDepth 100000 in
set_option maxHeartbeats 1000000 in
theorem refValue_int (n : Int) (h1 : -9223372036854775808 ≤ n) (h2 : n ≤ 9223372036854775807) :
    Calls Try.prog 21 #[Val.val 1 n ⟨#[]⟩] w fun r w' => ∃ v, r = .returned v ∧ Row w' w.heap.size v (vb (1, n, ⟨#[]⟩)) ∧ Below w.heap.size w w' := by
  have bal : Below w.heap.size w (w.alloc (.cells #[.int .i64 1, .int .i64 n, .string ⟨#[]⟩] 42)) := (Below.refl _ _).alloc (Nat.le_refl _) _
  have HW : Whole (w.alloc (.cells #[.int .i64 1, .int .i64 n, .string ⟨#[]⟩] 42)) w.heap.size 42 #[.int .i64 1, .int .i64 n, .string ⟨#[]⟩] := Whole.new _ _ _
  generalize hW' : w.alloc (.cells #[.int .i64 1, .int .i64 n, .string ⟨#[]⟩] 42) = W' at *
  have a0 := HW.cell 0
  have a1 := HW.cell 1
  have a2 := HW.cell 2
  simp only [List.getElem?_toArray, List.getElem?_cons_zero, List.getElem?_cons_succ] at a0 a1 a2
  go_enter Try.func21, Try.ntmps21
  go_wp2_with fail
  try simp only [hW']
  clear hW'
  refine (Val.refplain_any _ _ _ _).mono ?_
  rintro e u1 ⟨rfl, b1⟩
  rw [show Val.plainB 1 n ⟨#[]⟩ = true by simp [Val.plainB, Val.same_iff]]
  have HU := HW.below b1 HW.lt
  have B1 := below_next bal b1
  have hq : w.heap.size < u1.heap.size := HU.lt
  clear bal HW b1 a0 a1 a2
  have c0 := HU.cell 0
  have c1 := HU.cell 1
  have c2 := HU.cell 2
  simp only [List.getElem?_toArray, List.getElem?_cons_zero, List.getElem?_cons_succ] at c0 c1 c2
  have ro1 := built_one u1 1
  have bo1 : Below u1.heap.size u1 (u1.alloc (.cells #[.int .u8 (((1 : UInt8).toNat : Nat) : Int)] 5)) := (Below.refl _ _).alloc (Nat.le_refl _) _
  have hU2 := HU.below bo1 hq
  rw [show (((1 : UInt8).toNat : Nat) : Int) = 1 from rfl] at ro1 bo1 hU2
  have g10 : (grp (zig n)).length ≤ 10 := grp_ten (zig_lt h1 h2)
  have R1 := Lib.hid (Ready.of_row ro1 bo1)
  have HU2 := Lib.hid hU2
  have H1 := Lib.hid B1
  clear ro1 bo1 hU2 HU B1
  generalize hu2 : u1.alloc (.cells #[.int .u8 1] 5) = u2 at *
  have d0 := HU2.out.cell 0
  have d1 := HU2.out.cell 1
  have d2 := HU2.out.cell 2
  simp only [List.getElem?_toArray, List.getElem?_cons_zero, List.getElem?_cons_succ] at d0 d1 d2
  have C := Lib.hid (refInt n h1 h2 u2)
  go_wp2_with fail
  try simp only [hu2]
  refine C.out.mono ?_
  rintro e w3 ⟨v3, rfl, hr3, hb3⟩
  obtain ⟨R, cr, rfl, hR, hcr, hmr⟩ := hr3.shape
  obtain ⟨v4, w4, ha, ro, bo⟩ := append_ready (R1.out.below hb3) R cr _ hR (by intro e; have := grp_pos (zig n); rw [e] at this; simp at this) (by simp; omega)
  have HU4 : Whole w4 w.heap.size 42 #[.int .i64 1, .int .i64 n, .string ⟨#[]⟩] := by
    have hlt : w.heap.size < u2.heap.size := HU2.out.lt
    have h3 := HU2.out.below hb3 hlt
    have h1 : Whole u1 w.heap.size 42 #[.int .i64 1, .int .i64 n, .string ⟨#[]⟩] := by
      unfold Whole at *
      rw [← HU2.out, ← hu2]
      exact (Below.heap_alloc u1 _ _ hq).symm
    exact h1.below bo hq
  have e0 := HU4.cell 0
  have e1 := HU4.cell 1
  have e2 := HU4.cell 2
  simp only [List.getElem?_toArray, List.getElem?_cons_zero, List.getElem?_cons_succ] at e0 e1 e2
  have HA := Lib.hid ha
  have RO := Lib.hid (Row.le ro (Nat.le_of_lt hq))
  have BO := Lib.hid (below_next H1.out bo)
  clear ha ro bo HU4 hr3 hb3 hR hq C R1 HU2 hu2
  go_wp2_with (at_builtin; refine Lib.wpList_append_run _ rfl (.tmp 15) (.tmp 18) 23 23 rfl _ _ rfl rfl _ _ HA.out ?_)
  go_ret
  exact ⟨_, rfl, by simpa [vb] using RO.out, BO.out⟩

set_option maxRecDepth 100000 in
set_option maxHeartbeats 1000000 in
theorem refValue_text (s : ByteArray) (hs : s.size ≤ 200) :
    Calls Try.prog 21 #[Val.val 2 0 s] w fun r w' => ∃ v, r = .returned v ∧ Row w' w.heap.size v (vb (2, 0, s)) ∧ Below w.heap.size w w' := by
  have bal : Below w.heap.size w (w.alloc (.cells #[.int .i64 2, .int .i64 0, .string s] 42)) := (Below.refl _ _).alloc (Nat.le_refl _) _
  have HW : Whole (w.alloc (.cells #[.int .i64 2, .int .i64 0, .string s] 42)) w.heap.size 42 #[.int .i64 2, .int .i64 0, .string s] := Whole.new _ _ _
  generalize hW' : w.alloc (.cells #[.int .i64 2, .int .i64 0, .string s] 42) = W' at *
  have a0 := HW.cell 0
  have a1 := HW.cell 1
  have a2 := HW.cell 2
  simp only [List.getElem?_toArray, List.getElem?_cons_zero, List.getElem?_cons_succ] at a0 a1 a2
  go_enter Try.func21, Try.ntmps21
  go_wp2_with fail
  try simp only [hW']
  clear hW'
  refine (Val.refplain_any _ _ _ _).mono ?_
  rintro e u1 ⟨rfl, b1⟩
  rw [show Val.plainB 2 0 s = true by simp [Val.plainB, Val.same_iff, Val.cut_small hs]]
  have HU := HW.below b1 HW.lt
  have B1 := below_next bal b1
  have hq : w.heap.size < u1.heap.size := HU.lt
  clear bal HW b1 a0 a1 a2
  have c0 := HU.cell 0
  have c1 := HU.cell 1
  have c2 := HU.cell 2
  simp only [List.getElem?_toArray, List.getElem?_cons_zero, List.getElem?_cons_succ] at c0 c1 c2
  have ro1 := built_one u1 2
  have bo1 : Below u1.heap.size u1 (u1.alloc (.cells #[.int .u8 (((2 : UInt8).toNat : Nat) : Int)] 5)) := (Below.refl _ _).alloc (Nat.le_refl _) _
  have hU2 := HU.below bo1 hq
  rw [show (((2 : UInt8).toNat : Nat) : Int) = 2 from rfl] at ro1 bo1 hU2
  have g10 : (txt s).length ≤ 210 := by
    have h1 : (grp s.size).length ≤ 10 := grp_ten (by omega)
    have h2 : s.data.toList.length = s.size := Array.length_toList
    unfold txt
    rw [List.length_append, h2]
    omega
  have R1 := Lib.hid (Ready.of_row ro1 bo1)
  have HU2 := Lib.hid hU2
  have H1 := Lib.hid B1
  clear ro1 bo1 hU2 HU B1
  generalize hu2 : u1.alloc (.cells #[.int .u8 2] 5) = u2 at *
  have d0 := HU2.out.cell 0
  have d1 := HU2.out.cell 1
  have d2 := HU2.out.cell 2
  simp only [List.getElem?_toArray, List.getElem?_cons_zero, List.getElem?_cons_succ] at d0 d1 d2
  have C := Lib.hid (refText s (by omega) u2)
  go_wp2_with fail
  try simp only [hu2]
  refine C.out.mono ?_
  rintro e w3 ⟨v3, rfl, hr3, hb3⟩
  obtain ⟨R, cr, rfl, hR, hcr, hmr⟩ := hr3.shape
  obtain ⟨v4, w4, ha, ro, bo⟩ := append_ready (R1.out.below hb3) R cr _ hR (by intro e; have := grp_pos s.size; unfold txt at e; rw [List.append_eq_nil_iff] at e; rw [e.1] at this; simp at this) (by simp; omega)
  have HU4 : Whole w4 w.heap.size 42 #[.int .i64 2, .int .i64 0, .string s] := by
    have hlt : w.heap.size < u2.heap.size := HU2.out.lt
    have h3 := HU2.out.below hb3 hlt
    have h1 : Whole u1 w.heap.size 42 #[.int .i64 2, .int .i64 0, .string s] := by
      unfold Whole at *
      rw [← HU2.out, ← hu2]
      exact (Below.heap_alloc u1 _ _ hq).symm
    exact h1.below bo hq
  have e0 := HU4.cell 0
  have e1 := HU4.cell 1
  have e2 := HU4.cell 2
  simp only [List.getElem?_toArray, List.getElem?_cons_zero, List.getElem?_cons_succ] at e0 e1 e2
  have HA := Lib.hid ha
  have RO := Lib.hid (Row.le ro (Nat.le_of_lt hq))
  have BO := Lib.hid (below_next H1.out bo)
  clear ha ro bo HU4 hr3 hb3 hR hq C R1 HU2 hu2
  go_wp2_with (at_builtin; refine Lib.wpList_append_run _ rfl (.tmp 23) (.tmp 26) 23 23 rfl _ _ rfl rfl _ _ HA.out ?_)
  go_ret
  exact ⟨_, rfl, by simpa [vb] using RO.out, BO.out⟩

set_option maxRecDepth 100000 in
set_option maxHeartbeats 1000000 in
theorem refValue_bool0  :
    Calls Try.prog 21 #[Val.val 3 0 ⟨#[]⟩] w fun r w' => ∃ v, r = .returned v ∧ Row w' w.heap.size v (vb (3, 0, ⟨#[]⟩)) ∧ Below w.heap.size w w' := by
  have bal : Below w.heap.size w (w.alloc (.cells #[.int .i64 3, .int .i64 0, .string ⟨#[]⟩] 42)) := (Below.refl _ _).alloc (Nat.le_refl _) _
  have HW : Whole (w.alloc (.cells #[.int .i64 3, .int .i64 0, .string ⟨#[]⟩] 42)) w.heap.size 42 #[.int .i64 3, .int .i64 0, .string ⟨#[]⟩] := Whole.new _ _ _
  generalize hW' : w.alloc (.cells #[.int .i64 3, .int .i64 0, .string ⟨#[]⟩] 42) = W' at *
  have a0 := HW.cell 0
  have a1 := HW.cell 1
  have a2 := HW.cell 2
  simp only [List.getElem?_toArray, List.getElem?_cons_zero, List.getElem?_cons_succ] at a0 a1 a2
  go_enter Try.func21, Try.ntmps21
  go_wp2_with fail
  try simp only [hW']
  clear hW'
  refine (Val.refplain_any _ _ _ _).mono ?_
  rintro e u1 ⟨rfl, b1⟩
  rw [show Val.plainB 3 0 ⟨#[]⟩ = true by simp [Val.plainB, Val.same_iff, Val.bit]]
  have HU := HW.below b1 HW.lt
  have B1 := below_next bal b1
  have hq : w.heap.size < u1.heap.size := HU.lt
  clear bal HW b1 a0 a1 a2
  have c0 := HU.cell 0
  have c1 := HU.cell 1
  have c2 := HU.cell 2
  simp only [List.getElem?_toArray, List.getElem?_cons_zero, List.getElem?_cons_succ] at c0 c1 c2
  have ro1 := built_one u1 3
  have bo1 : Below u1.heap.size u1 (u1.alloc (.cells #[.int .u8 (((3 : UInt8).toNat : Nat) : Int)] 5)) := (Below.refl _ _).alloc (Nat.le_refl _) _
  have hU2 := HU.below bo1 hq
  rw [show (((3 : UInt8).toNat : Nat) : Int) = 3 from rfl] at ro1 bo1 hU2
  obtain ⟨v3, w3, hb3, ro3, bo3⟩ := append_ready ((Ready.of_row ro1 bo1).alloc (.cells #[.int .u8 (((0 : UInt8).toNat : Nat) : Int)] 5)) (some ⟨(u1.alloc (.cells #[.int .u8 3] 5)).heap.size, 0, none⟩) 1 [0] (one_byte _ 0) (by simp) (by simp)
  rw [show (((0 : UInt8).toNat : Nat) : Int) = 0 from rfl] at hb3
  have HB := Lib.hid hb3
  have d0 := hU2.cell 0
  have d1 := hU2.cell 1
  have d2 := hU2.cell 2
  simp only [List.getElem?_toArray, List.getElem?_cons_zero, List.getElem?_cons_succ] at d0 d1 d2
  have RO := Lib.hid (Row.le ro3 (Nat.le_of_lt hq))
  have BO := Lib.hid (below_next B1 bo3)
  clear hb3 ro1 bo1 ro3 bo3 HU B1 hU2
  generalize hu2 : u1.alloc (.cells #[.int .u8 3] 5) = u2 at *
  go_wp2_with (at_builtin; refine Lib.wpList_append_run _ rfl (.tmp 31) (.tmp 35) 23 23 rfl _ _ rfl rfl _ _ HB.out ?_)
  go_ret
  exact ⟨_, rfl, by simpa [vb] using RO.out, BO.out⟩

set_option maxRecDepth 100000 in
set_option maxHeartbeats 1000000 in
theorem refValue_bool1  :
    Calls Try.prog 21 #[Val.val 3 1 ⟨#[]⟩] w fun r w' => ∃ v, r = .returned v ∧ Row w' w.heap.size v (vb (3, 1, ⟨#[]⟩)) ∧ Below w.heap.size w w' := by
  have bal : Below w.heap.size w (w.alloc (.cells #[.int .i64 3, .int .i64 1, .string ⟨#[]⟩] 42)) := (Below.refl _ _).alloc (Nat.le_refl _) _
  have HW : Whole (w.alloc (.cells #[.int .i64 3, .int .i64 1, .string ⟨#[]⟩] 42)) w.heap.size 42 #[.int .i64 3, .int .i64 1, .string ⟨#[]⟩] := Whole.new _ _ _
  generalize hW' : w.alloc (.cells #[.int .i64 3, .int .i64 1, .string ⟨#[]⟩] 42) = W' at *
  have a0 := HW.cell 0
  have a1 := HW.cell 1
  have a2 := HW.cell 2
  simp only [List.getElem?_toArray, List.getElem?_cons_zero, List.getElem?_cons_succ] at a0 a1 a2
  go_enter Try.func21, Try.ntmps21
  go_wp2_with fail
  try simp only [hW']
  clear hW'
  refine (Val.refplain_any _ _ _ _).mono ?_
  rintro e u1 ⟨rfl, b1⟩
  rw [show Val.plainB 3 1 ⟨#[]⟩ = true by simp [Val.plainB, Val.same_iff, Val.bit]]
  have HU := HW.below b1 HW.lt
  have B1 := below_next bal b1
  have hq : w.heap.size < u1.heap.size := HU.lt
  clear bal HW b1 a0 a1 a2
  have c0 := HU.cell 0
  have c1 := HU.cell 1
  have c2 := HU.cell 2
  simp only [List.getElem?_toArray, List.getElem?_cons_zero, List.getElem?_cons_succ] at c0 c1 c2
  have ro1 := built_one u1 3
  have bo1 : Below u1.heap.size u1 (u1.alloc (.cells #[.int .u8 (((3 : UInt8).toNat : Nat) : Int)] 5)) := (Below.refl _ _).alloc (Nat.le_refl _) _
  have hU2 := HU.below bo1 hq
  rw [show (((3 : UInt8).toNat : Nat) : Int) = 3 from rfl] at ro1 bo1 hU2
  obtain ⟨v3, w3, hb3, ro3, bo3⟩ := append_ready ((Ready.of_row ro1 bo1).alloc (.cells #[.int .u8 (((1 : UInt8).toNat : Nat) : Int)] 5)) (some ⟨(u1.alloc (.cells #[.int .u8 3] 5)).heap.size, 0, none⟩) 1 [1] (one_byte _ 1) (by simp) (by simp)
  rw [show (((1 : UInt8).toNat : Nat) : Int) = 1 from rfl] at hb3
  have HB := Lib.hid hb3
  have d0 := hU2.cell 0
  have d1 := hU2.cell 1
  have d2 := hU2.cell 2
  simp only [List.getElem?_toArray, List.getElem?_cons_zero, List.getElem?_cons_succ] at d0 d1 d2
  have RO := Lib.hid (Row.le ro3 (Nat.le_of_lt hq))
  have BO := Lib.hid (below_next B1 bo3)
  clear hb3 ro1 bo1 ro3 bo3 HU B1 hU2
  generalize hu2 : u1.alloc (.cells #[.int .u8 3] 5) = u2 at *
  go_wp2_with (at_builtin; refine Lib.wpList_append_run _ rfl (.tmp 31) (.tmp 35) 23 23 rfl _ _ rfl rfl _ _ HB.out ?_)
  go_ret
  exact ⟨_, rfl, by simpa [vb] using RO.out, BO.out⟩

end
theorem refValue_any (x : Tri) (w : World) (hn : InRange x.2.1) :
    Calls Try.prog 21 #[tval x] w fun r w' => ∃ v, r = .returned v ∧ Row w' w.heap.size v (vb (norm x)) ∧ Below w.heap.size w w' := by
  obtain ⟨k, n, s⟩ := x
  show Calls Try.prog 21 #[Val.val k n s] w _
  cases hp : Val.plainB k n s with
  | false =>
    rw [norm_bad hp]
    exact refValue_bad k n s hp
  | true =>
    rw [norm_plain hp]
    rcases plain_cases hp with ⟨rfl, rfl, rfl⟩ | ⟨rfl, rfl⟩ | ⟨rfl, rfl, h2⟩ | ⟨rfl, rfl | rfl, rfl⟩
    · exact refValue_null
    · exact refValue_int n hn.1 hn.2
    · exact refValue_text s h2
    · exact refValue_bool0
    · exact refValue_bool1
end Go.Proofs.Ytmpiknaoocflcaa
