/- value.Compare. -/
import Derived.Test.YthomkdgpmmgdoaaDoorV5
namespace Go.Proofs.YthomkdgpmmgdoaaDoor
open Go.RowKit

/-- what Compare tells of two plain values. -/
def ord (k n : Int) (s : ByteArray) (k' n' : Int) (s' : ByteArray) : Int := or3 (cmpI k k') (cmpI n n') (cmpS s.toList s'.toList)
set_option maxRecDepth 100000 in
set_option maxHeartbeats 1000000 in
theorem compare_no1 (k n : Int) (s : ByteArray) (k' n' : Int) (s' : ByteArray) (w : World) (hs : s.size ≤ 9223372036854775807) (hs' : s'.size ≤ 9223372036854775807) (h1 : plainB k n s = false) :
    Calls Tryd.prog 16 #[val k n s, val k' n' s'] w fun e w' => e = .returned (.int .i64 0) ∧ Below w.heap.size w w' := by
  have P := fun w => plain_any k n s w hs
  rw [h1] at P
  have PP := Lib.hid P
  clear P
  go_enter Tryd.func16, Tryd.ntmps16
  go_wp2_with (go_at_call 13; refine (PP.out _).mono ?_; rintro e w1 ⟨rfl, hb1⟩; have HB1 := Lib.hid hb1; clear hb1)
  go_ret
  exact ⟨rfl, bstep (((Below.refl _ _).alloc (Nat.le_refl _) _).alloc (by simp) _) HB1.out⟩
set_option maxRecDepth 100000 in
set_option maxHeartbeats 1000000 in
theorem compare_no2 (k n : Int) (s : ByteArray) (k' n' : Int) (s' : ByteArray) (w : World) (hs : s.size ≤ 9223372036854775807) (hs' : s'.size ≤ 9223372036854775807) (h1 : plainB k n s = true) (h2 : plainB k' n' s' = false) :
    Calls Tryd.prog 16 #[val k n s, val k' n' s'] w fun e w' => e = .returned (.int .i64 0) ∧ Below w.heap.size w w' := by
  have P := fun w => plain_any k n s w hs
  have P' := fun w => plain_any k' n' s' w hs'
  rw [h1] at P
  rw [h2] at P'
  have PP := Lib.hid P
  have PP' := Lib.hid P'
  clear P P'
  go_enter Tryd.func16, Tryd.ntmps16
  go_wp2_with fail
  refine (PP.out _).mono ?_
  rintro e w1 ⟨rfl, hb1⟩
  have H2 := (((Holds3.new (w.alloc (.cells #[.int .i64 k, .int .i64 n, .string s] 23)) k' n' s' 23)).below hb1 (by simp))
  simp only [alloc_size] at H2
  obtain ⟨c3, c4, c5⟩ := H2
  have HB1 := Lib.hid (bstep (((Below.refl _ _).alloc (Nat.le_refl _) _).alloc (by simp) _) hb1)
  clear hb1
  go_wp2_with fail
  refine (PP'.out _).mono ?_
  rintro e w2 ⟨rfl, hb2⟩
  have HB2 := Lib.hid (bstep HB1.out hb2)
  clear hb2
  go_wp2
  go_ret
  exact ⟨rfl, HB2.out⟩
set_option maxRecDepth 100000 in
set_option maxHeartbeats 1000000 in
theorem compare_yes (k n : Int) (s : ByteArray) (k' n' : Int) (s' : ByteArray) (w : World) (hs : s.size ≤ 9223372036854775807) (hs' : s'.size ≤ 9223372036854775807) (h1 : plainB k n s = true) (h2 : plainB k' n' s' = true) :
    Calls Tryd.prog 16 #[val k n s, val k' n' s'] w fun e w' => e = .returned (.int .i64 (ord k n s k' n' s')) ∧ Below w.heap.size w w' := by
  have P := fun w => plain_any k n s w hs
  have P' := fun w => plain_any k' n' s' w hs'
  rw [h1] at P
  rw [h2] at P'
  have PP := Lib.hid P
  have PP' := Lib.hid P'
  clear P P' h1 h2
  go_enter Tryd.func16, Tryd.ntmps16
  go_wp2_with fail
  refine (PP.out _).mono ?_
  rintro e w1 ⟨rfl, hb1⟩
  have H1 := ((Holds3.new w k n s 23).alloc (.cells #[.int .i64 k', .int .i64 n', .string s'] 23)).below hb1 (by simp; omega)
  have H2 := (((Holds3.new (w.alloc (.cells #[.int .i64 k, .int .i64 n, .string s] 23)) k' n' s' 23)).below hb1 (by simp))
  simp only [alloc_size] at H2
  have HB1 := Lib.hid (bstep (((Below.refl _ _).alloc (Nat.le_refl _) _).alloc (by simp) _) hb1)
  clear hb1
  have HH1 := Lib.hid H1
  have HH2 := Lib.hid H2
  clear H1
  obtain ⟨c3, c4, c5⟩ := H2
  go_wp2_with fail
  clear c3 c4 c5
  refine (PP'.out _).mono ?_
  rintro e w2 ⟨rfl, hb2⟩
  have H1 := HH1.out.below hb2 HH1.out.lt
  have H2 := HH2.out.below hb2 HH2.out.lt
  have HB2 := Lib.hid (bstep HB1.out hb2)
  clear hb2 HB1 HH1 HH2
  obtain ⟨a3, a4, a5⟩ := H1
  obtain ⟨c3, c4, c5⟩ := H2
  go_wp2
  go_region_held3 (fun w' => w'.cell? ⟨w.heap.size, 0, none⟩ = some (.int .i64 k) ∧ w'.cell? ⟨w.heap.size, 1, none⟩ = some (.int .i64 n) ∧ w'.cell? ⟨w.heap.size, 2, none⟩ = some (.string s) ∧ w'.cell? ⟨w.heap.size + 1, 0, none⟩ = some (.int .i64 k') ∧ w'.cell? ⟨w.heap.size + 1, 1, none⟩ = some (.int .i64 n') ∧ w'.cell? ⟨w.heap.size + 1, 2, none⟩ = some (.string s')) (go_keep)
    (first
      | (go_at_call 29; (with_reducible refine (cmpInt_any _ _ _).mono ?_); rintro e w' ⟨rfl, rfl⟩)
      | (go_at_call 30; (with_reducible refine (cmpInt64_any _ _ _).mono ?_); rintro e w' ⟨rfl, rfl⟩)
      | (go_at_call 31; (with_reducible refine (cmpStr_any _ _ _).mono ?_); rintro e w' ⟨rfl, rfl⟩)
      | (go_at_call 28; (with_reducible refine (or_new _ _ _ _ _).mono ?_); rintro e w' ⟨rfl, rfl⟩))
  go_wp2
  go_ret
  exact ⟨rfl, (HB2.out.alloc HB2.out.size _).drew⟩
/-- what Compare tells. -/
def cmpV (k n : Int) (s : ByteArray) (k' n' : Int) (s' : ByteArray) : Int := if plainB k n s && plainB k' n' s' then ord k n s k' n' s' else 0
theorem compare_any (k n : Int) (s : ByteArray) (k' n' : Int) (s' : ByteArray) (w : World) (hs : s.size ≤ 9223372036854775807) (hs' : s'.size ≤ 9223372036854775807) :
    Calls Tryd.prog 16 #[val k n s, val k' n' s'] w fun e w' => e = .returned (.int .i64 (cmpV k n s k' n' s')) ∧ Below w.heap.size w w' := by
  cases h1 : plainB k n s
  · rw [show cmpV k n s k' n' s' = 0 by simp [cmpV, h1]]
    exact compare_no1 k n s k' n' s' w hs hs' h1
  · cases h2 : plainB k' n' s'
    · rw [show cmpV k n s k' n' s' = 0 by simp [cmpV, h2]]
      exact compare_no2 k n s k' n' s' w hs hs' h1 h2
    · rw [show cmpV k n s k' n' s' = ord k n s k' n' s' by simp [cmpV, h1, h2]]
      exact compare_yes k n s k' n' s' w hs hs' h1 h2
end Go.Proofs.YthomkdgpmmgdoaaDoor
