/- Plain: how many parts there are, how many pages; a disk that is dark. -/
import Derived.Test.YtlkkfnimealbkaaNS
namespace Go.Proofs.Ytlkkfnimealbkaa
open Go.RowKit
open Pag (IsPage)
set_option linter.unusedVariables false
theorem cutF_count (whole : Nat) : ∀ (f : Nat) (s : Nat × Nat) (r : List UInt8), r.length < f → 6 ≤ whole → (cutF whole f s r).length ≤ r.length + 1
  | 0, s, r, h, hw => by omega
  | f + 1, s, r, h, hw => by
    have h5 := spot_room (whole := whole) (m := r.length) (s := s) (by omega)
    unfold cutF
    split
    · simp
    · rename_i hn
      have ih := cutF_count whole f ((spot whole r.length s).1, 0) (r.drop ((spot whole r.length s).2 - 5)) (by rw [List.length_drop]; omega) hw
      rw [List.length_drop] at ih
      rw [List.length_cons]
      omega
theorem cutA_count (whole : Nat) (hw : 6 ≤ whole) : ∀ (l : List (List UInt8)) (s : Nat × Nat), (cutA whole s l).length ≤ lenL l + l.length
  | [], s => by simp [cutA]
  | r :: l, s => by
    have h1 := cutF_count whole (r.length + 1) s r (Nat.lt_succ_self _) hw
    have h2 := cutA_count whole hw l (stA whole s (cutF whole (r.length + 1) s r))
    simp only [cutA, List.length_append, lenL, List.length_cons]
    omega
theorem partsL_count {size : Nat} (h : 64 ≤ size) (l : List (List UInt8)) : (partsL size l).length ≤ lenL l + l.length := cutA_count _ (by omega) l _
theorem sumL_lenL : ∀ l : List (List UInt8), sumL l = lenL l + 5 * l.length
  | [] => rfl
  | r :: l => by simp only [sumL, lenL, List.length_cons, sumL_lenL l]; omega
/-- no sector is wasted. -/
theorem nPages_most {size : Nat} (h : 64 ≤ size) (l : List (List UInt8)) : nPages size l ≤ (lenL l + 6 * l.length) / (size - 12) + l.length / 250 + 1 := by
  have hb := nPages_bound h l
  rw [sumL_lenL] at hb
  have h1 : (nPages size l - 1) * (size - 12) ≤ (nPages size l - 1) * (size - 11) := Nat.mul_le_mul_left _ (by omega)
  have h2 : nPages size l - 1 ≤ (lenL l + 6 * l.length) / (size - 12) := (Nat.le_div_iff_mul_le (by omega)).2 (by omega)
  omega
theorem nPages_parts {size : Nat} (h : 64 ≤ size) (l : List (List UInt8)) : nPages size l ≤ lenL l + 5 * l.length + 1 := by
  have hb := nPages_bound h l
  rw [sumL_lenL] at hb
  have : (nPages size l - 1) * 1 ≤ (nPages size l - 1) * (size - 11) := Nat.mul_le_mul_left _ (by omega)
  omega
theorem wrP_dark {m : Mod} (hd : m.dark = true) (fr size : Nat) {Ls : List (List (List UInt8))} (h : Ls ≠ []) : (wrP fr size 0 m Ls).2 = 17 := by
  cases Ls with
  | nil => exact absurd rfl h
  | cons L r =>
    have hw : m.writeR ((fr + 0 : Nat) : Int) (Pag.pageB size L).length = 17 := by
      unfold Mod.writeR Mod.takes
      rw [hd]
      simp
    unfold wrP
    rw [hw, if_neg (by omega)]
theorem dark_secs {m : Mod} (hd : m.dark = true) (fr : Nat) : SecsAre m fr [(17, [])] := fun i hi => by
  have h0 : i = 0 := by simp at hi; omega
  subst h0
  refine .inr ⟨?_, by simp⟩
  unfold Mod.takes
  rw [hd]
  rfl
theorem dark_res : resS [(17, [])] = (17, []) := rfl
/-- a new disk whose fuse is out, behind a deed. -/
theorem fused_dark (n size : Nat) : ((Mod.new n size).fuseTo 0).flush.dark = true ∧ ((Mod.new n size).fuseTo 0).flush.n = n ∧ ((Mod.new n size).fuseTo 0).flush.size = size ∧ ((Mod.new n size).fuseTo 0).flush.waits = 0 ∧ LowS ((Mod.new n size).fuseTo 0).flush 700 ∧ ((Mod.new n size).fuseTo 0).Low := by
  refine ⟨rfl, rfl, rfl, rfl, ⟨?_, ?_, ?_⟩, ⟨?_, ?_, ?_⟩⟩
  · show 0 + 700 ≤ _; omega
  · show 0 + 700 ≤ _; omega
  · show (0 : Nat) ≤ _; omega
  · show 0 + 1 ≤ _; omega
  · show (0 : Nat) ≤ _; omega
  · show (0 : Nat) ≤ _; omega
theorem one_page {size : Nat} (h : 64 ≤ size) : nPages size [[1]] = 1 := by
  have h1 := nPages_bound h [[1]]
  have h2 : ¬ nPages size [[1]] = 0 := fun e => by have := (nPages_zero h [[1]]).1 e; simp at this
  have h3 : sumL [[1]] = 6 := rfl
  have h4 : (nPages size [[1]] - 1) * 53 ≤ (nPages size [[1]] - 1) * (size - 11) := Nat.mul_le_mul_left _ (by omega)
  omega
end Go.Proofs.Ytlkkfnimealbkaa
