/- value.Name, Kind; the reference's Name. -/
import Derived.Test.YthomkdgpmmgdoaaDoorL1
import Derived.LoopN
namespace Go.Proofs.YthomkdgpmmgdoaaDoor
open Go.RowKit

def nInt : ByteArray := ⟨#[105, 110, 116]⟩
def nText : ByteArray := ⟨#[116, 101, 120, 116]⟩
def nBool : ByteArray := ⟨#[98, 111, 111, 108]⟩
def nameOf (k : Int) : ByteArray := if k = 1 then nInt else if k = 2 then nText else if k = 3 then nBool else ⟨#[]⟩

set_option maxRecDepth 100000 in
theorem name_any (k : Int) (w : World) : Calls Tryd.prog 19 #[.int .i64 k] w fun e w' => e = .returned (.string (nameOf k)) ∧ w = w' := by
  by_cases h1 : k = 1
  · subst h1
    go_enter Tryd.func19, Tryd.ntmps19
    go_wp2
    go_ret
    exact ⟨rfl, rfl⟩
  by_cases h2 : k = 2
  · subst h2
    go_enter Tryd.func19, Tryd.ntmps19
    go_wp2
    go_ret
    exact ⟨rfl, rfl⟩
  by_cases h3 : k = 3
  · subst h3
    go_enter Tryd.func19, Tryd.ntmps19
    go_wp2
    go_ret
    exact ⟨rfl, rfl⟩
  rw [show nameOf k = ⟨#[]⟩ by simp [nameOf, h1, h2, h3]]
  have b1 : (k == 1) = false := by simpa using h1
  have b2 : (k == 2) = false := by simpa using h2
  have b3 : (k == 3) = false := by simpa using h3
  go_enter Tryd.func19, Tryd.ntmps19
  go_wp2
  go_ret
  exact ⟨rfl, rfl⟩
set_option maxRecDepth 100000 in
theorem refname_in (k : Nat) (w : World) (h1 : 1 ≤ k) (h3 : k ≤ 3) : Calls Tryd.prog 20 #[.int .i64 (k : Int)] w fun e w' => e = .returned (.string (nameOf k)) ∧ Below w.heap.size w w' := by
  have h : k = 1 ∨ k = 2 ∨ k = 3 := by omega
  rcases h with rfl | rfl | rfl
  · go_enter Tryd.func20, Tryd.ntmps20
    go_wp2
    go_ret
    exact ⟨rfl, (Below.refl _ _).alloc (Nat.le_refl _) _⟩
  · go_enter Tryd.func20, Tryd.ntmps20
    go_wp2
    go_ret
    exact ⟨rfl, (Below.refl _ _).alloc (Nat.le_refl _) _⟩
  · go_enter Tryd.func20, Tryd.ntmps20
    go_wp2
    go_ret
    exact ⟨rfl, (Below.refl _ _).alloc (Nat.le_refl _) _⟩
set_option maxRecDepth 100000 in
theorem refname_any (k : Int) (w : World) : Calls Tryd.prog 20 #[.int .i64 k] w fun e w' => e = .returned (.string (nameOf k)) ∧ Below w.heap.size w w' := by
  by_cases h1 : k < 1
  · rw [show nameOf k = ⟨#[]⟩ by rw [nameOf, if_neg (by omega), if_neg (by omega), if_neg (by omega)]]
    go_enter Tryd.func20, Tryd.ntmps20
    go_wp2
    go_ret
    exact ⟨rfl, Below.refl _ _⟩
  by_cases h3 : 3 < k
  · rw [show nameOf k = ⟨#[]⟩ by rw [nameOf, if_neg (by omega), if_neg (by omega), if_neg (by omega)]]
    have d1 : decide (k < 1) = false := decide_eq_false h1
    go_enter Tryd.func20, Tryd.ntmps20
    go_wp2
    go_ret
    exact ⟨rfl, Below.refl _ _⟩
  obtain ⟨n, rfl⟩ : ∃ n : Nat, k = n := ⟨k.toNat, by omega⟩
  exact refname_in n w (by omega) (by omega)

def kindOf (s : ByteArray) : Int := if nInt.toList == s.toList then 1 else if nText.toList == s.toList then 2 else if nBool.toList == s.toList then 3 else 0
set_option maxRecDepth 100000 in
theorem kind_any (s : ByteArray) (w : World) : Calls Tryd.prog 21 #[.string s] w fun e w' => e = .returned (.int .i64 (kindOf s)) ∧ w = w' := by
  have N1 := Lib.hid (fun w => (show nameOf 1 = nInt from rfl) ▸ name_any 1 w)
  have N2 := Lib.hid (fun w => (show nameOf 2 = nText from rfl) ▸ name_any 2 w)
  have N3 := Lib.hid (fun w => (show nameOf 3 = nBool from rfl) ▸ name_any 3 w)
  unfold kindOf
  generalize nInt = a1 at *
  generalize nText = a2 at *
  generalize nBool = a3 at *
  cases h1 : (a1.toList == s.toList)
  · cases h2 : (a2.toList == s.toList)
    · cases h3 : (a3.toList == s.toList)
      · go_enter Tryd.func21, Tryd.ntmps21
        go_wp2_with fail
        refine wp_loop_rounds 6 ?_
        rw [rounds_succ]; go_wp2_with fail
        refine (N1.out _).mono ?_
        rintro e w' ⟨rfl, rfl⟩
        go_wp2_with fail
        rw [rounds_succ]; go_wp2_with fail
        refine (N2.out _).mono ?_
        rintro e w' ⟨rfl, rfl⟩
        go_wp2_with fail
        rw [rounds_succ]; go_wp2_with fail
        refine (N3.out _).mono ?_
        rintro e w' ⟨rfl, rfl⟩
        go_wp2_with fail
        rw [rounds_succ]; go_wp2_with fail
        go_ret
        exact ⟨rfl, rfl⟩
      · go_enter Tryd.func21, Tryd.ntmps21
        go_wp2_with fail
        refine wp_loop_rounds 6 ?_
        rw [rounds_succ]; go_wp2_with fail
        refine (N1.out _).mono ?_
        rintro e w' ⟨rfl, rfl⟩
        go_wp2_with fail
        rw [rounds_succ]; go_wp2_with fail
        refine (N2.out _).mono ?_
        rintro e w' ⟨rfl, rfl⟩
        go_wp2_with fail
        rw [rounds_succ]; go_wp2_with fail
        refine (N3.out _).mono ?_
        rintro e w' ⟨rfl, rfl⟩
        go_wp2_with fail
        go_ret
        exact ⟨rfl, rfl⟩
    · go_enter Tryd.func21, Tryd.ntmps21
      go_wp2_with fail
      refine wp_loop_rounds 6 ?_
      rw [rounds_succ]; go_wp2_with fail
      refine (N1.out _).mono ?_
      rintro e w' ⟨rfl, rfl⟩
      go_wp2_with fail
      rw [rounds_succ]; go_wp2_with fail
      refine (N2.out _).mono ?_
      rintro e w' ⟨rfl, rfl⟩
      go_wp2_with fail
      go_ret
      exact ⟨rfl, rfl⟩
  · go_enter Tryd.func21, Tryd.ntmps21
    go_wp2_with fail
    refine wp_loop_rounds 6 ?_
    rw [rounds_succ]; go_wp2_with fail
    refine (N1.out _).mono ?_
    rintro e w' ⟨rfl, rfl⟩
    go_wp2_with fail
    go_ret
    exact ⟨rfl, rfl⟩
end Go.Proofs.YthomkdgpmmgdoaaDoor
