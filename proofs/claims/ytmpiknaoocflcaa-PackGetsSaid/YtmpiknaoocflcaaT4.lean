/- append to a row of the call's own: what stood there stands yet. -/
import Derived.Test.YtmpiknaoocflcaaT3
namespace Go.Proofs.Ytmpiknaoocflcaa
open Go.RowKit

theorem append_old {w w' : World} {base n c' : Nat} {B : Option Addr} {l : List UInt8} {v' : Value} (h : Row w base (.slice B n c') l) (A : Option Addr) (c : Nat) (m : List UInt8) (hm : Holds w A m) (hn : l.length + m.length ≤ 1000000)
    (hr : Sem.run Try.prog (Builtin.append_ #[23, 23] 23 #[.slice B n c', .slice A m.length c]) w = .ok v' w') (ho : Row w' base v' (l ++ m)) : Holds w' B l := by
  have hinf := info5
  cases hi : Try.prog.info? 5 with
  | none => rw [hi] at hinf; simp at hinf
  | some i =>
    rw [hi] at hinf
    simp at hinf
    obtain ⟨i1, i2, i3⟩ := hinf
    have hh := row_holds h
    obtain ⟨h1, h2⟩ := h
    rcases h2 with ⟨e, h0⟩ | ⟨g, cap, cur, e, hb, hg, hnc, hcm, hs, ht⟩
    · rw [List.eq_nil_of_length_eq_zero h0]; exact Holds.nil _ _
    · injection e with e1 e2 e3
      subst e1; subst e2; subst e3
      cases A with
      | none =>
        have hm0 : m = [] := by
          cases m with
          | nil => rfl
          | cons x r => obtain ⟨b, o, e, _⟩ := hm 0 (by simp); cases e
        subst hm0
        have hr1 : Sem.run Try.prog (Builtin.append_ #[23, 23] 23 #[.slice (some ⟨g, 0, none⟩) l.length c', .slice none ([] : List UInt8).length c]) w = .ok (.slice (some ⟨g, 0, none⟩) l.length c') w := by
          simp [Builtin.append_, run_underlying Try.underlying23, sizeOf, typeInfo, hi, Builtin.lenOf, Builtin.firstCells, hnc, storeCells]
        rw [hr1] at hr
        injection hr with _ hw
        subst hw
        exact hh
      | some a =>
        by_cases hroom : l.length + m.length ≤ c'
        · have hr1 := run_append_room (P := Try.prog) w 23 23 5 i Try.underlying23 hi g l.length c' cur hg a m.length c (encB m) (by simp [encB, i2]) (holds_cells hm) (encB_one m) hroom (by rw [encB_length, i2, Nat.mul_one]; omega)
          rw [hr1] at hr
          injection hr with hv _
          subst hv
          have := (row_holds ho).take l.length
          rwa [List.take_left] at this
        · have hr1 := run_append_grow (P := Try.prog) w 23 23 5 i _ Try.underlying23 hi i1 ⟨g, 0, none⟩ l.length c' (encB l) (by simp [encB, i2]) (holds_cells hh) a m.length c (encB m) (by simp [encB, i2]) (holds_cells hm) (Nat.lt_of_not_le hroom) (by omega) (growslice_fits (Nat.lt_of_not_le hroom) (by rw [i3, Nat.mul_one]; exact Nat.le_trans hn (by omega)))
          rw [hr1] at hr
          injection hr with _ hw
          subst hw
          exact hh.below (((Below.refl _ _).drew).alloc (Nat.le_refl _) _)
end Go.Proofs.Ytmpiknaoocflcaa
