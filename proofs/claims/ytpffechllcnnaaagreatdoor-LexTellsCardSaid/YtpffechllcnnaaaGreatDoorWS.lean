/- Words of a source: Same, Words; two words, two faults held against each other. -/
import Derived.Test.YtpffechllcnnaaaGreatDoorWK0
namespace Go.Proofs.YtpffechllcnnaaaGreatDoor
open Go.RowKit Go.Lib
set_option linter.unusedVariables false

theorem cellsTok : Tryz.prog.cellsOf 34 = 3 := by kernel_rfl
theorem fieldsTok : Tryz.prog.underlying 34 = some (.struct (Tryz.prog.fieldsOf 34)) := by kernel_rfl
theorem heldTok : Tryz.prog.stoodInHeld 34 = false := by kernel_rfl
def sameTok (k : Int) (s : ByteArray) (n : Int) (k' : Int) (s' : ByteArray) (n' : Int) : Bool := k == k' && s.toList == s'.toList && n == n'
theorem eqFieldsTok (k n : Int) (s : ByteArray) (k' n' : Int) (s' : ByteArray) (w : World) :
    (Op.eqFields 9999 #[.int .i64 k, .string s, .int .i64 n] #[.int .i64 k', .string s', .int .i64 n'] (Tryz.prog.fieldsOf 34).toList).run Tryz.prog w = .ok (sameTok k s n k' s' n') w := by
  simp only [Program.fieldsOf, Tryz.underlying34]
  by_cases h1 : k = k'
  · by_cases h2 : s.toList = s'.toList
    · by_cases h3 : n = n' <;> simp [go_sem, h1, h2, h3, sameTok, Op.eqFields, Tryz.underlying3, Tryz.underlying9]
    · simp [go_sem, h1, h2, sameTok, Op.eqFields, Tryz.underlying3, Tryz.underlying9]
  · simp [go_sem, h1, sameTok, Op.eqFields, Tryz.underlying3]
theorem neqTok (k n : Int) (s : ByteArray) (k' n' : Int) (s' : ByteArray) (w : World) :
    (binOp .neq 34 (wd k s n) (wd k' s' n')).run Tryz.prog w = .ok (.bool (!sameTok k s n k' s' n')) w := by
  rw [run_neq_struct, run_equalIn_struct w 9999 _ _ _ fieldsTok heldTok, eqFieldsTok]
  rfl
theorem fieldsFlt : Tryz.prog.underlying 26 = some (.struct (Tryz.prog.fieldsOf 26)) := by kernel_rfl
theorem heldFlt : Tryz.prog.stoodInHeld 26 = false := by kernel_rfl
def sameFlt (k n k' n' : Int) : Bool := k == k' && n == n'
theorem eqFieldsFlt (k n k' n' : Int) (w : World) :
    (Op.eqFields 9999 #[.int .i64 k, .int .i64 n] #[.int .i64 k', .int .i64 n'] (Tryz.prog.fieldsOf 26).toList).run Tryz.prog w = .ok (sameFlt k n k' n') w := by
  simp only [Program.fieldsOf, Tryz.underlying26]
  by_cases h1 : k = k'
  · by_cases h3 : n = n' <;> simp [go_sem, h1, h3, sameFlt, Op.eqFields, Tryz.underlying3, Tryz.underlying24]
  · simp [go_sem, h1, sameFlt, Op.eqFields, Tryz.underlying24]
theorem neqFlt (k n k' n' : Int) (w : World) :
    (binOp .neq 26 (flt k n) (flt k' n')).run Tryz.prog w = .ok (.bool (!sameFlt k n k' n')) w := by
  rw [run_neq_struct, run_equalIn_struct w 9999 _ _ _ fieldsFlt heldFlt, eqFieldsFlt]
  rfl
theorem sameTok_rfl (k n : Int) (s : ByteArray) : sameTok k s n k s n = true := by simp [sameTok]
theorem sameFlt_rfl (k n : Int) : sameFlt k n k n = true := by simp [sameFlt]

attribute [local go_sem ↓] neqTok in
set_option maxRecDepth 100000 in
set_option maxHeartbeats 1000000 in
/-- Same, of two rows of the same words. -/
theorem same_toks (A B : Option Addr) (c d : Nat) (T : List Lx.Tk) (w : World) (hA : TAt w A T) (hB : TAt w B T) (hx : T.length ≤ 5000) :
    Calls Tryz.prog 11 #[.slice A T.length c, .slice B T.length d] w fun e w' => e = .returned (.bool true) ∧ ∃ k, w' = w.drewN k := by
  have HA := Lib.hid hA
  have HB := Lib.hid hB
  clear hA hB
  have hl : ((T.length : Int) != (T.length : Int)) = false := by simp
  go_enter Tryz.func11, Tryz.ntmps11
  go_wp2_with fail
  go_loopg [5] (T.length + 1) (fun j s5 wr => ∃ i : Nat, i ≤ T.length ∧ T.length < i + j ∧ s5 = .int .i64 (i : Nat) ∧ ∃ k, wr = w.drewN k)
  case atStart => exact ⟨0, by omega, by omega, rfl, 0, rfl⟩
  case round =>
    obtain ⟨i, hi, hj, rfl, m, rfl⟩ := hrel
    by_cases hlt : i < T.length
    · have hlt' : (i : Int) < (T.length : Int) := by omega
      have hi9 : (i : Int) < 5001 := by omega
      obtain ⟨b, off, hAe, hbl, c0, c1, c2⟩ := HA.out i hlt
      obtain ⟨b', off', hBe, hbl', e0, e1, e2⟩ := HB.out i hlt
      subst hAe
      subst hBe
      generalize T[i] = x at *
      obtain ⟨k, t, n⟩ := x
      dsimp only at c0 c1 c2 e0 e1 e2
      have hs := sameTok_rfl (k : Nat) (n : Nat) (str t)
      go_wp2_with fail
      go_quiet (fail)
      go_wp2_with fail
      go_roundg (T.length - i)
      case measure => omega
      case rel => exact ⟨i + 1, by omega, by omega, by go_num, m + nq, rfl⟩
    · have hlt' : ¬ (i : Int) < (T.length : Int) := by omega
      go_wp2_with fail
      go_ret
      exact ⟨rfl, m, rfl⟩
end Go.Proofs.YtpffechllcnnaaaGreatDoor
