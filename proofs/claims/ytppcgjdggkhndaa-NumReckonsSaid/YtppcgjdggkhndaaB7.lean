/- Wide numbers: sums and products, as 'is' asks them; Divide. -/
import Derived.Test.YtppcgjdggkhndaaB6
import Derived.Deep.RegionHeld3
import Derived.Deep.DrawnRows
namespace Go.Proofs.Ytppcgjdggkhndaa
open Go.RowKit

/-- a wide number that says n. -/
def Says (v : Value) (n : Int) : Prop := ∃ (s : Bool) (q0 q1 q2 q3 : Int), v = wide s q0 q1 q2 q3 0 ∧ Part q0 ∧ Part q1 ∧ Part q2 ∧ Part q3 ∧ n = signed s (size q0 q1 q2 q3 0)
/-- one of 64 bits. -/
def Says2 (v : Value) (n : Int) : Prop := ∃ (s : Bool) (q0 q1 : Int), v = wide s q0 q1 0 0 0 ∧ Part q0 ∧ Part q1 ∧ n = signed s (q0 + 4294967296 * q1)
def GivesWide (n : Int) (w : World) (e : Ending) (w' : World) : Prop := ∃ v, e = .returned v ∧ Says v n ∧ Below w.heap.size w w'
def GivesWide2 (n : Int) (w : World) (e : Ending) (w' : World) : Prop := ∃ v, e = .returned v ∧ Says2 v n ∧ Below w.heap.size w w'

theorem part0 : Part 0 := by unfold Part; omega
theorem wadd_says (u v : Value) (a b : Int) (w : World) (hu : Says2 u a) (hv : Says2 v b) : Calls Try.prog 13 #[u, v] w (GivesWide (a + b) w) := by
  obtain ⟨s, x0, x1, rfl, hx0, hx1, rfl⟩ := hu
  obtain ⟨t, y0, y1, rfl, hy0, hy1, rfl⟩ := hv
  have g0 := hx0
  have g1 := hx1
  have g2 := hy0
  have g3 := hy1
  obtain ⟨a0, b0⟩ := g0
  obtain ⟨a1, b1⟩ := g1
  obtain ⟨c0, d0⟩ := g2
  obtain ⟨c1, d1⟩ := g3
  by_cases hst : t = s
  · subst hst
    refine (wadd_same t x0 x1 y0 y1 w hx0 hx1 hy0 hy1).mono ?_
    rintro e w' ⟨q0, q1, q2, ⟨h0, h1, h2, h3⟩, rfl, hb⟩
    refine ⟨_, rfl, ⟨t, q0, q1, q2, 0, rfl, h0, h1, h2, part0, ?_⟩, hb⟩
    rw [h3]
    cases t <;> simp only [signed, if_true, Bool.false_eq_true, if_false] <;> omega
  · obtain rfl : t = !s := by cases s <;> cases t <;> simp_all
    by_cases hge : y0 + 4294967296 * y1 ≤ x0 + 4294967296 * x1
    · refine (wadd_ge s x0 x1 y0 y1 w hx0 hx1 hy0 hy1 hge).mono ?_
      rintro e w' ⟨q0, q1, ⟨h0, h1, h3⟩, rfl, hb⟩
      refine ⟨_, rfl, ⟨s, q0, q1, 0, 0, rfl, h0, h1, part0, part0, ?_⟩, hb⟩
      rw [h3]
      cases s <;> simp only [signed, if_true, Bool.false_eq_true, if_false, Bool.not_true, Bool.not_false] <;> omega
    · refine (wadd_lt s x0 x1 y0 y1 w hx0 hx1 hy0 hy1 (by omega)).mono ?_
      rintro e w' ⟨q0, q1, ⟨h0, h1, h3⟩, rfl, hb⟩
      refine ⟨_, rfl, ⟨!s, q0, q1, 0, 0, rfl, h0, h1, part0, part0, ?_⟩, hb⟩
      rw [h3]
      cases s <;> simp only [signed, if_true, Bool.false_eq_true, if_false, Bool.not_true, Bool.not_false] <;> omega

theorem wmul_says (u v : Value) (a b : Int) (w : World) (hu : Says2 u a) (hv : Says2 v b) : Calls Try.prog 15 #[u, v] w (GivesWide (a * b) w) := by
  obtain ⟨s, x0, x1, rfl, hx0, hx1, rfl⟩ := hu
  obtain ⟨t, y0, y1, rfl, hy0, hy1, rfl⟩ := hv
  obtain ⟨l00, h00, l01, h01, o1, g1, c2, l10, h10, p1, g2, c3, l11, h11, p2, g3, c4, HW, HP, r00, r01, r10, r11, hs⟩ := wide4 x0 x1 y0 y1 hx0 hx1 hy0 hy1
  have e : signed s (x0 + 4294967296 * x1) * signed t (y0 + 4294967296 * y1) = signed (!s == t) ((x0 + 4294967296 * x1) * (y0 + 4294967296 * y1)) := by
    cases s <;> cases t <;> simp [signed, Int.neg_mul, Int.mul_neg]
  have hp := HP
  obtain ⟨q0, -, -, -, -, -, q2', -, -, q1, -, -, -, -, q2, -, q3⟩ := hp
  have goal : Calls Try.prog 15 #[wide s x0 x1 0 0 0, wide t y0 y1 0 0 0] w fun e w' => e = .returned (wide (!s == t) l00 p1 p2 c4 0) ∧ Below w.heap.size w w' := by
    obtain ⟨z1, z2⟩ := q2'
    obtain ⟨z3, z4⟩ := q3
    by_cases k2 : 0 < c2
    · by_cases k4 : 0 < c4
      · exact wmul_pp s t x0 x1 y0 y1 w hx0 hx1 hy0 hy1 l00 h00 l01 h01 o1 g1 c2 l10 h10 p1 g2 c3 l11 h11 p2 g3 c4 (Lib.hid HW) HP r00 r01 r10 r11 k2 k4
      · exact wmul_pz s t x0 x1 y0 y1 w hx0 hx1 hy0 hy1 l00 h00 l01 h01 o1 g1 c2 l10 h10 p1 g2 c3 l11 h11 p2 g3 c4 (Lib.hid HW) HP r00 r01 r10 r11 k2 (by omega)
    · by_cases k4 : 0 < c4
      · exact wmul_zp s t x0 x1 y0 y1 w hx0 hx1 hy0 hy1 l00 h00 l01 h01 o1 g1 c2 l10 h10 p1 g2 c3 l11 h11 p2 g3 c4 (Lib.hid HW) HP r00 r01 r10 r11 (by omega) k4
      · exact wmul_zz s t x0 x1 y0 y1 w hx0 hx1 hy0 hy1 l00 h00 l01 h01 o1 g1 c2 l10 h10 p1 g2 c3 l11 h11 p2 g3 c4 (Lib.hid HW) HP r00 r01 r10 r11 (by omega) (by omega)
  refine goal.mono ?_
  rintro e' w' ⟨rfl, hb⟩
  exact ⟨_, rfl, ⟨_, _, _, _, _, rfl, q0, q1, q2, q3, by rw [hs, e]⟩, hb⟩

theorem wneg_says (u : Value) (a : Int) (w : World) (hu : Says2 u a) : Calls Try.prog 14 #[u] w (GivesWide2 (-a) w) := by
  obtain ⟨s, x0, x1, rfl, hx0, hx1, rfl⟩ := hu
  refine (wneg_any s x0 x1 0 0 0 w).mono ?_
  rintro e w' ⟨rfl, hb⟩
  refine ⟨_, rfl, ⟨_, _, _, rfl, hx0, hx1, ?_⟩, hb⟩
  cases s <;> simp [signed]
theorem of_says (a : Int) (w : World) (ha : Fits a) : Calls Try.prog 7 #[.int .i64 a] w (GivesWide2 a w) := by
  obtain ⟨a1, a2⟩ := ha
  by_cases h : 0 ≤ a
  · refine (of_pos a w h a2).mono ?_
    rintro e w' ⟨rfl, hb⟩
    refine ⟨_, rfl, ⟨_, _, _, rfl, ⟨by omega, by omega⟩, ⟨by omega, by omega⟩, ?_⟩, hb⟩
    simp only [signed, Bool.false_eq_true, if_false]; omega
  · have K := of_neg (-a) w (by omega) (by omega)
    rw [Int.neg_neg] at K
    refine K.mono ?_
    rintro e w' ⟨rfl, hb⟩
    refine ⟨_, rfl, ⟨_, _, _, rfl, ⟨by omega, by omega⟩, ⟨by omega, by omega⟩, ?_⟩, hb⟩
    simp only [signed, if_true]; omega
theorem Says2.wide {v : Value} {n : Int} (h : Says2 v n) : Says v n := by
  obtain ⟨s, q0, q1, rfl, h0, h1, rfl⟩ := h
  exact ⟨s, q0, q1, 0, 0, rfl, h0, h1, part0, part0, by unfold size; simp⟩
/-- is: of a wide number that says it. -/
theorem is_says (n : Int) (v : Value) (w : World) (h : Says v n) :
    Calls Try.prog 12 #[.int .i64 (sv n), .int .i64 (se n), v] w fun e w' => e = .returned (.bool true) ∧ Below w.heap.size w w' := by
  obtain ⟨s, q0, q1, q2, q3, rfl, h0, h1, h2, h3, hn⟩ := h
  exact is_true n s q0 q1 q2 q3 0 w h0 h1 h2 h3 part0 hn
end Go.Proofs.Ytppcgjdggkhndaa
