import Derived.Test.YteghhmomhlnccaaGreatDoorZV1

/- Values: Null, Int, Bool, Text. -/
namespace Go.Proofs.YteghhmomhlnccaaGreatDoor
open Go.RowKit

theorem null_any (w : World) : Calls Tryz.prog 26 #[] w fun e w' => e = .returned (val 0 0 ⟨#[]⟩) ∧ Below w.heap.size w w' := by
  go_enter Tryz.func26, Tryz.ntmps26
  go_wp2
  exact bodyPost_ret (v := val 0 0 ⟨#[]⟩) (by simp [results, Tryz.results26, go_sem]) rfl ⟨rfl, (Below.refl _ _).alloc (Nat.le_refl _) _⟩
theorem int_any (n : Int) (w : World) : Calls Tryz.prog 63 #[.int .i64 n] w fun e w' => e = .returned (val 1 n ⟨#[]⟩) ∧ Below w.heap.size w w' := by
  go_enter Tryz.func63, Tryz.ntmps63
  go_wp2
  exact bodyPost_ret (v := val 1 n ⟨#[]⟩) (by simp [results, Tryz.results63, go_sem]) rfl ⟨rfl, (Below.refl _ _).alloc (Nat.le_refl _) _⟩
/-- 1 or 0. -/
def bit (b : Bool) : Int := if b then 1 else 0
theorem bool_true (w : World) : Calls Tryz.prog 29 #[.bool true] w fun e w' => e = .returned (val 3 1 ⟨#[]⟩) ∧ Below w.heap.size w w' := by
  go_enter Tryz.func29, Tryz.ntmps29
  go_wp2
  exact bodyPost_ret (v := val 3 1 ⟨#[]⟩) (by simp [results, Tryz.results29, go_sem]) rfl ⟨rfl, ((Below.refl _ _).alloc (Nat.le_refl _) _).alloc (by simp) _⟩
theorem bool_false (w : World) : Calls Tryz.prog 29 #[.bool false] w fun e w' => e = .returned (val 3 0 ⟨#[]⟩) ∧ Below w.heap.size w w' := by
  go_enter Tryz.func29, Tryz.ntmps29
  go_wp2
  exact bodyPost_ret (v := val 3 0 ⟨#[]⟩) (by simp [results, Tryz.results29, go_sem]) rfl ⟨rfl, ((Below.refl _ _).alloc (Nat.le_refl _) _).alloc (by simp) _⟩
theorem bool_any (b : Bool) (w : World) : Calls Tryz.prog 29 #[.bool b] w fun e w' => e = .returned (val 3 (bit b) ⟨#[]⟩) ∧ Below w.heap.size w w' := by
  cases b
  · exact bool_false w
  · exact bool_true w
theorem text_small (s : ByteArray) (w : World) (h : s.size ≤ 200) : Calls Tryz.prog 64 #[.string s] w fun e w' => e = .returned (val 2 0 s) ∧ Below w.heap.size w w' := by
  go_enter Tryz.func64, Tryz.ntmps64
  go_wp2
  exact bodyPost_ret (v := val 2 0 s) (by simp [results, Tryz.results64, go_sem]) rfl ⟨rfl, (Below.refl _ _).alloc (Nat.le_refl _) _⟩
theorem text_long (s : ByteArray) (w : World) (hs : s.size ≤ 9223372036854775807) (h : 200 < s.size) : Calls Tryz.prog 64 #[.string s] w fun e w' => e = .returned (val 2 0 (s.extract 0 200)) ∧ Below w.heap.size w w' := by
  go_enter Tryz.func64, Tryz.ntmps64
  go_wp2
  exact bodyPost_ret (v := val 2 0 (s.extract 0 200)) (by simp [results, Tryz.results64, go_sem]) rfl ⟨rfl, (Below.refl _ _).alloc (Nat.le_refl _) _⟩
/-- a text, cut. -/
def cut (s : ByteArray) : ByteArray := if s.size ≤ 200 then s else s.extract 0 200
theorem cut_small {s : ByteArray} (h : s.size ≤ 200) : cut s = s := if_pos h
theorem cut_size (s : ByteArray) : (cut s).size ≤ 200 := by
  unfold cut
  split
  · assumption
  · simp; omega
theorem text_any (s : ByteArray) (w : World) (hs : s.size ≤ 9223372036854775807) : Calls Tryz.prog 64 #[.string s] w fun e w' => e = .returned (val 2 0 (cut s)) ∧ Below w.heap.size w w' := by
  unfold cut
  split
  · exact text_small s w (by assumption)
  · exact text_long s w hs (by omega)
/-- is it a value? -/
def plainB (k n : Int) (s : ByteArray) : Bool := same k n s 0 0 ⟨#[]⟩ || same k n s 1 n ⟨#[]⟩ || same k n s 2 0 (cut s) || same k n s 3 (bit (n == 1)) ⟨#[]⟩
end Go.Proofs.YteghhmomhlnccaaGreatDoor
