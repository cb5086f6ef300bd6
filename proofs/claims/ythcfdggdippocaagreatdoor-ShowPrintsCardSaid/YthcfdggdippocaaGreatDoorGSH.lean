/- Short. -/
import Derived.Test.YthcfdggdippocaaGreatDoorGQD
namespace Go.Proofs.YthcfdggdippocaaGreatDoor
open Go.RowKit Go.Lib
set_option linter.unusedVariables false
set_option linter.unusedSimpArgs false
set_option maxRecDepth 100000
open Ex (Tree)
theorem tx_cut (l : List UInt8) (k : Nat) : (tx l).extract 0 k = tx (l.take k) := by
  apply ByteArray.ext
  simp [tx]
/-- what Short tells, of what Print does. -/
def shortB (p : List UInt8 × Nat) (most : Int) : ByteArray := if p.2 ≠ 0 then tx [63] else if (p.1.length : Int) ≤ most then tx p.1 else (tx p.1).extract 0 (max 0 most).toNat ++ tx [46, 46, 46]
set_option maxHeartbeats 1000000 in
theorem short_any {a : Addr} {m : Int} (T : Tree) (most : Int) (v : Value) (w : World) (hnv : NodeV w v T) (hf : fitT T) (hr : rngT T = true) (hd : Ex.depth T ≤ 1000000) (hv : Env w a m) :
    Calls Tryz.prog 12 #[v, .int .i64 most] w fun e w' => e = .returned (.string (shortB (prR T) most)) ∧ Below w.heap.size w w' := by
  have hnv' := hnv
  obtain ⟨op, t, vk, vn, vs, A, n, c, rfl⟩ : ∃ op t vk vn vs A n c, v = .agg (ncells op t vk vn vs A n c) := by
    cases T with
    | node => obtain ⟨A, c, h, -⟩ := hnv; exact ⟨_, _, _, _, _, _, _, _, h⟩
  clear hnv
  have b0 : Below w.heap.size w (w.alloc (.cells (ncells op t vk vn vs A n c) 26)) := (Below.refl _ _).alloc (Nat.le_refl _) _
  have k0 := Whole.new w 26 (ncells op t vk vn vs A n c)
  have PR := shPrint_any T _ _ (hnv'.below b0) hf hr hd (hv.below b0)
  have hl : (prR T).2 = 0 → (prR T).1.length ≤ 4000 := fun h => by
    unfold prR at *
    split at h
    · next h1 =>
      split at h
      · cases h
      · next h2 => rw [if_pos h1, if_neg h2]; show (Ps.pr T).length ≤ 4000; omega
    · cases h
  generalize prR T = p at *
  obtain ⟨s, cd⟩ := p
  simp only at hl PR
  unfold ncells at *
  obtain ⟨W1, hW1⟩ : ∃ W1, w.alloc (.cells #[.int .i64 op, .string (tx t), .int .i64 vk, .int .i64 vn, .string (tx vs), .slice A n c] 26) = W1 := ⟨_, rfl⟩
  rw [hW1] at b0 k0 PR
  have B0 := Lib.hid b0
  have PRH := Lib.hid PR
  have HL := Lib.hid hl
  obtain ⟨x0, x1, x2, x3, x4, x5⟩ := six_of k0
  clear b0 k0 PR hl hf hr hd hv hnv'
  go_enter Tryz.func12, Tryz.ntmps12
  go_wp2_with fail
  refine PRH.out.mono ?_
  rintro e W2 ⟨rfl, hb2⟩
  have B2 := Lib.hid (bstep B0.out hb2)
  clear hb2 PRH hW1 x0 x1 x2 x3 x4 x5
  by_cases h0 : cd = 0
  · subst h0
    have hl := HL.out rfl
    by_cases h1 : (s.length : Int) ≤ most
    · have E : Hid (shortB (s, 0) most = tx s) := Lib.hid (by unfold shortB; simp [h1])
      go_wp2_with fail
      go_ret
      exact ⟨congrArg (fun z => Ending.returned (Value.string z)) E.out.symm, B2.out⟩
    · have h1' : ¬ s.length ≤ most.toNat ∨ most < 0 := by omega
      have E : Hid (shortB (s, 0) most = (tx s).extract 0 (max 0 most).toNat ++ tx [46, 46, 46]) := Lib.hid (by unfold shortB; simp [h1])
      by_cases h2 : 0 < most
      · have h3 : most ≤ (s.length : Int) := by omega
        have h4 : 0 ≤ most := by omega
        go_wp2_with fail
        go_ret
        exact ⟨congrArg (fun z => Ending.returned (Value.string z)) E.out.symm, B2.out⟩
      · go_wp2_with fail
        go_ret
        exact ⟨congrArg (fun z => Ending.returned (Value.string z)) E.out.symm, B2.out⟩
  · have h0' : ((cd : Int) != 0) = true := by simp; omega
    have E : Hid (shortB (s, cd) most = tx [63]) := Lib.hid (by unfold shortB; simp [h0])
    go_wp2_with fail
    go_ret
    exact ⟨congrArg (fun z => Ending.returned (Value.string z)) E.out.symm, B2.out⟩
end Go.Proofs.YthcfdggdippocaaGreatDoor
