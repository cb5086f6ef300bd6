/- Ten times a number. -/
import Derived.Test.YtpffechllcnnaaaGreatDoorB6
namespace Go.Proofs.YtpffechllcnnaaaGreatDoor
open Go.RowKit Go.Lib

theorem part0 : Part 0 := by unfold Part; omega
def Ten (v : Int) (w : World) (e : Ending) (w' : World) : Prop := ∃ q0 q1 q2 : Int, Part q0 ∧ Part q1 ∧ (0 ≤ q2 ∧ q2 ≤ 1000) ∧ size q0 q1 q2 0 0 = 10 * v ∧ e = .returned (wide false q0 q1 q2 0 0) ∧ Below w.heap.size w w'
theorem mul_ten (x0 x1 : Int) (w : World) (hx0 : Part x0) (hx1 : Part x1) : Calls Tryz.prog 33 #[wide false x0 x1 0 0 0, wide false 10 0 0 0 0] w (Ten (x0 + 4294967296 * x1) w) := by
  have hy0 : Part 10 := ⟨by decide, by decide⟩
  obtain ⟨l00, h00, l01, h01, o1, g1, c2, l10, h10, p1, g2, c3, l11, h11, p2, g3, c4, HW, HP, r00, r01, r10, r11, hs⟩ := wide4 x0 x1 10 0 hx0 hx1 hy0 part0
  have hp := HP
  obtain ⟨q0, -, -, -, -, -, q2', -, -, q1, -, -, -, -, q2, -, q3⟩ := hp
  have goal : Calls Tryz.prog 33 #[wide false x0 x1 0 0 0, wide false 10 0 0 0 0] w fun e w' => e = .returned (wide (!false == false) l00 p1 p2 c4 0) ∧ Below w.heap.size w w' := by
    obtain ⟨z1, z2⟩ := q2'
    obtain ⟨z3, z4⟩ := q3
    by_cases k2 : 0 < c2
    · by_cases k4 : 0 < c4
      · exact wmul_pp false false x0 x1 10 0 w hx0 hx1 hy0 part0 l00 h00 l01 h01 o1 g1 c2 l10 h10 p1 g2 c3 l11 h11 p2 g3 c4 (Lib.hid HW) HP r00 r01 r10 r11 k2 k4
      · exact wmul_pz false false x0 x1 10 0 w hx0 hx1 hy0 part0 l00 h00 l01 h01 o1 g1 c2 l10 h10 p1 g2 c3 l11 h11 p2 g3 c4 (Lib.hid HW) HP r00 r01 r10 r11 k2 (by omega)
    · by_cases k4 : 0 < c4
      · exact wmul_zp false false x0 x1 10 0 w hx0 hx1 hy0 part0 l00 h00 l01 h01 o1 g1 c2 l10 h10 p1 g2 c3 l11 h11 p2 g3 c4 (Lib.hid HW) HP r00 r01 r10 r11 (by omega) k4
      · exact wmul_zz false false x0 x1 10 0 w hx0 hx1 hy0 part0 l00 h00 l01 h01 o1 g1 c2 l10 h10 p1 g2 c3 l11 h11 p2 g3 c4 (Lib.hid HW) HP r00 r01 r10 r11 (by omega) (by omega)
  obtain ⟨s0, s1⟩ := hx0
  obtain ⟨s2, s3⟩ := hx1
  obtain ⟨s4, s5⟩ := q0
  obtain ⟨s6, s7⟩ := q1
  obtain ⟨s8, s9⟩ := q2
  obtain ⟨s10, s11⟩ := q3
  have hs2 : size l00 p1 p2 c4 0 = 10 * (x0 + 4294967296 * x1) := by rw [hs]; omega
  have hc4 : c4 = 0 := by unfold size at hs2; omega
  subst hc4
  refine goal.mono ?_
  rintro e w' ⟨rfl, hb⟩
  refine ⟨l00, p1, p2, ⟨s4, s5⟩, ⟨s6, s7⟩, ⟨s8, ?_⟩, hs2, rfl, hb⟩
  unfold size at hs2; omega
/-- ten times a number, and a digit more. -/
theorem add_digit (x0 x1 x2 y0 : Int) (w : World) (hx0 : Part x0) (hx1 : Part x1) (hx2 : 0 ≤ x2 ∧ x2 ≤ 1000) (hy0 : Part y0) :
    Calls Tryz.prog 32 #[wide false x0 x1 x2 0 0, wide false y0 0 0 0 0] w fun e w' => ∃ q0 q1 q2 : Int, (Part q0 ∧ Part q1 ∧ Part q2 ∧ size q0 q1 q2 0 0 = size x0 x1 x2 0 0 + y0) ∧ e = .returned (wide false q0 q1 q2 0 0) ∧ Below w.heap.size w w' :=
  wadd_more x0 x1 x2 y0 w hx0 hx1 hx2 hy0
end Go.Proofs.YtpffechllcnnaaaGreatDoor
