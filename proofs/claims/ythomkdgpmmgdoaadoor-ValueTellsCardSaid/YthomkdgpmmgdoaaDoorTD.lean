/- A plain value's print, and what is read of it. -/
import Derived.Test.YthomkdgpmmgdoaaDoorRP
import Derived.Test.YthomkdgpmmgdoaaDoorPI
import Derived.Test.YthomkdgpmmgdoaaDoorQ2
import Derived.Lib.ItoaLen
namespace Go.Proofs.YthomkdgpmmgdoaaDoor
open Go.RowKit Go.Lib

theorem plain_cases {k n : Int} {s : ByteArray} (h : plainB k n s = true) : (k = 0 ∧ n = 0 ∧ s = ⟨#[]⟩) ∨ (k = 3 ∧ n = 1 ∧ s = ⟨#[]⟩) ∨ (k = 3 ∧ n = 0 ∧ s = ⟨#[]⟩) ∨ (k = 2 ∧ n = 0 ∧ s.size ≤ 200) ∨ (k = 1 ∧ s = ⟨#[]⟩) := by
  have emp : s.size = 0 → s = ⟨#[]⟩ := fun h => ByteArray.ext (Array.eq_empty_of_size_eq_zero h)
  rcases plainB_iff.1 h with ⟨a, b, c⟩ | ⟨a, c⟩ | ⟨a, b, c⟩ | ⟨a, c, b, d⟩
  · exact .inl ⟨a, b, emp c⟩
  · exact .inr (.inr (.inr (.inr ⟨a, emp c⟩)))
  · exact .inr (.inr (.inr (.inl ⟨a, b, c⟩)))
  · have : n = 0 ∨ n = 1 := by omega
    rcases this with e | e
    · exact .inr (.inr (.inl ⟨a, e, emp c⟩))
    · exact .inr (.inl ⟨a, e, emp c⟩)
theorem told_quo (u : List UInt8) (h : u.length ≤ 200) : told (quo u) = ⟨2, 0, u, 0⟩ := by
  unfold told
  rw [if_neg (by simp [quo]), if_neg (by simp [quo]), if_neg (by simp [quo]), if_pos (show (quo u).head? = some 39 from rfl), toldText_quo u h]
theorem told_itoa (n : Int) (h : Fits n) : told (itoa n) = ⟨1, n, [], 0⟩ := by
  obtain ⟨h1, h2⟩ := rv_itoa n h
  have hl : looks (itoa n) = true := by
    cases hq : looks (itoa n)
    · simp [re, hq] at h2
    · rfl
  generalize itoa n = l at *
  unfold told
  rw [if_neg (by rintro rfl; revert hl; decide), if_neg (by rintro rfl; revert hl; decide), if_neg (by rintro rfl; revert hl; decide), if_neg, toldInt, if_pos h2, h1]
  intro hh
  cases l with
  | nil => cases hh
  | cons c r =>
    simp only [List.head?_cons, Option.some.injEq] at hh
    subst hh
    have hm : minus (39 :: r) = false := by simp [minus]
    have hb : body (39 :: r) = 39 :: r := by simp [body, hm]
    simp only [looks, hb, Bool.and_eq_true, List.all_cons] at hl
    have : dig 39 = false := by decide
    simp [this] at hl
/-- what a plain value is printed as. -/
theorem plain_print {k n : Int} {s : ByteArray} (h : plainB k n s = true) (hn : Fits n) : ∃ px : ByteArray, px.size ≤ 600 ∧ told px.data.toList = ⟨k, n, s.data.toList, 0⟩ ∧
    (∀ (w : World) (m : Int), MaxAt w m → Lib.TabIs Tryd.prog w powName .u64 Lib.pow10Tab → Calls Tryd.prog 12 #[val k n s] w fun e w' => e = .returned (.string px) ∧ Below w.heap.size w w') ∧
    (∀ w : World, Calls Tryd.prog 15 #[val k n s] w fun e w' => e = .returned (.string px) ∧ Below w.heap.size w w') := by
  rcases plain_cases h with ⟨rfl, rfl, rfl⟩ | ⟨rfl, rfl, rfl⟩ | ⟨rfl, rfl, rfl⟩ | ⟨rfl, rfl, hs⟩ | ⟨rfl, rfl⟩
  · exact ⟨⟨#[110, 117, 108, 108]⟩, by decide, rfl, fun w m hm ht => print_null w, fun w => rp_null w⟩
  · exact ⟨⟨#[116, 114, 117, 101]⟩, by decide, rfl, fun w m hm ht => print_true w, fun w => rp_true w⟩
  · exact ⟨⟨#[102, 97, 108, 115, 101]⟩, by decide, rfl, fun w m hm ht => print_false w, fun w => rp_false w⟩
  · have e : s.data.toList.length = s.size := by simp
    refine ⟨str (quo s.data.toList), ?_, told_quo _ (by omega), fun w m hm ht => print_text s w hs m hm, fun w => rp_text s w hs⟩
    have := quo_length s.data.toList
    show (quo s.data.toList).toArray.size ≤ 600
    rw [List.size_toArray]; omega
  · refine ⟨str (itoa n), ?_, told_itoa n hn, fun w m hm ht => print_int n w hn ht, fun w => rp_int n w hn⟩
    have := Lib.itoa_length_le n hn.1 hn.2
    show (itoa n).toArray.size ≤ 600
    rw [List.size_toArray]; omega
end Go.Proofs.YthomkdgpmmgdoaaDoor
