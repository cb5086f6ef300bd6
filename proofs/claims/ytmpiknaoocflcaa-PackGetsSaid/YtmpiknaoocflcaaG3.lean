/- The reference's GetInt. -/
import Derived.Test.YtmpiknaoocflcaaG1
import Derived.Test.YtmpiknaoocflcaaG2
namespace Go.Proofs.Ytmpiknaoocflcaa
open Go.RowKit

set_option maxRecDepth 100000 in
set_option maxHeartbeats 1000000 in
theorem refGetInt (B : Option Addr) (c : Nat) (l : List UInt8) (p0 : Nat) (w : World) (h : Holds w B l) (hl : l.length ≤ 3000) (hp0 : p0 ≤ l.length) :
    Calls Try.prog 29 #[.slice B l.length c, .int .i64 (p0 : Nat)] w fun e w' => e = .returned (Placed l.length (wholeOf (l.drop p0)) (fun x => .int .i64 x) (.int .i64 0)) ∧ ∃ k, w' = w.drewN k := by
  have RG := Lib.hid (refGetUint B c l p0 w h hl hp0)
  clear h
  go_enter Try.func29, Try.ntmps29
  go_wp2_with fail
  refine RG.out.mono ?_
  rintro e w1 ⟨rfl, k, rfl⟩
  cases hq : numOf (l.drop p0) with
  | none =>
    have HF : Hid (wholeOf (l.drop p0) = none) := Lib.hid (by unfold wholeOf; rw [hq])
    clear hq RG
    dsimp only [Placed]
    go_wp2_with fail
    go_ret3
    exact ⟨by rw [HF.out]; rfl, k, rfl⟩
  | some p =>
    obtain ⟨m, l'⟩ := p
    have hm := (numOf_conv hq).2
    have HF : Hid (wholeOf (l.drop p0) = some (zag m, l')) := Lib.hid (by unfold wholeOf; rw [hq])
    clear hq RG
    dsimp only [Placed]
    generalize hQ : l.length - l'.length = Q
    have HQ := Lib.hid hQ
    clear hQ
    by_cases hpar : m % 2 = 0
    · have hz : zag m = (m : Int) / 2 := by unfold zag; rw [if_neg (by omega)]; omega
      have e0 : IntKind.u64.wrap ((m : Int) / 2 * 2) = (m : Int) := by rw [IntKind.wrap_u64]; omega
      have HZ := Lib.hid hz
      clear hz
      go_wp2_with fail
      go_ret3
      exact ⟨by rw [HF.out]; unfold Placed; simp only; rw [HQ.out, HZ.out]; rfl, k, rfl⟩
    · have hz : zag m = -1 - (m : Int) / 2 := by unfold zag; rw [if_pos (by omega)]; omega
      have e0 : ((m : Int) / 2 * 2 == (m : Int)) = false := by simp; omega
      have HZ := Lib.hid hz
      clear hz
      go_wp2_with fail
      go_ret3
      exact ⟨by rw [HF.out]; unfold Placed; simp only; rw [HQ.out, HZ.out]; rfl, k, rfl⟩
end Go.Proofs.Ytmpiknaoocflcaa
