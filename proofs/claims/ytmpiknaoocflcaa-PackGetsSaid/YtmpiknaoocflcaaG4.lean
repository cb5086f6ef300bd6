/- The reference's GetText. -/
import Derived.Test.YtmpiknaoocflcaaG3
namespace Go.Proofs.Ytmpiknaoocflcaa
open Go.RowKit

theorem placed_drop {l l' : List UInt8} {p0 m : Nat} (h : numOf (l.drop p0) = some (m, l')) (hp : p0 ≤ l.length) : ∃ Q, Q ≤ l.length ∧ l' = l.drop Q ∧ l.length - l'.length = Q := by
  have h1 := (numOf_conv h).1
  have hlen := congrArg List.length h1
  rw [List.length_drop, List.length_append] at hlen
  refine ⟨p0 + (grp m).length, by omega, ?_, by omega⟩
  have := congrArg (List.drop (grp m).length) h1
  rw [List.drop_drop, List.drop_left] at this
  exact this.symm

set_option maxRecDepth 100000 in
set_option maxHeartbeats 1000000 in
theorem refGetText (B : Option Addr) (c : Nat) (l : List UInt8) (p0 most : Nat) (w : World) (h : Holds w B l) (hc : l.length ≤ c) (hl : l.length ≤ 3000) (hp0 : p0 ≤ l.length) (hmost : most ≤ 65536) :
    Calls Try.prog 30 #[.slice B l.length c, .int .i64 (p0 : Nat), .int .u64 (most : Nat)] w fun e w' => e = .returned (Placed l.length (textOf most (l.drop p0)) (fun x => .string x) (.string ⟨#[]⟩)) ∧ ∃ k, w' = w.drewN k := by
  have RG := Lib.hid (refGetUint B c l p0 w h hl hp0)
  have H := Lib.hid h
  clear h
  go_enter Try.func30, Try.ntmps30
  go_wp2_with fail
  refine RG.out.mono ?_
  rintro e w1 ⟨rfl, k, rfl⟩
  cases hq : numOf (l.drop p0) with
  | none =>
    have HF : Hid (textOf most (l.drop p0) = none) := Lib.hid (by unfold textOf; rw [hq])
    clear hq RG
    dsimp only [Placed]
    go_wp2_with fail
    go_ret3
    exact ⟨by rw [HF.out]; rfl, k, rfl⟩
  | some p =>
    obtain ⟨m, l'⟩ := p
    have hm := (numOf_conv hq).2
    obtain ⟨Q, hQ, rfl, hQ2⟩ := placed_drop hq hp0
    have HT : Hid (textOf most (l.drop p0) = if most < m ∨ (l.drop Q).length < m then none else some (⟨((l.drop Q).take m).toArray⟩, (l.drop Q).drop m)) := Lib.hid (by unfold textOf; rw [hq])
    clear hq RG
    dsimp only [Placed]
    rw [hQ2]
    clear hQ2
    have hl9 : (l.length : Int) ≤ 3000 := by omega
    have hQ9 : (Q : Int) ≤ (l.length : Int) := by omega
    by_cases h1 : most < m
    · have h1' : (most : Int) < (m : Int) := by omega
      have HF : Hid (textOf most (l.drop p0) = none) := Lib.hid (by rw [HT.out, if_pos (.inl h1)])
      clear HT hm
      go_wp2_with fail
      go_ret3
      exact ⟨by rw [HF.out]; rfl, k, rfl⟩
    · have h1' : ¬ (most : Int) < (m : Int) := by omega
      by_cases h2 : l.length - Q < m
      · have h2' : (l.length : Int) - (Q : Int) < (m : Int) := by omega
        have HF : Hid (textOf most (l.drop p0) = none) := Lib.hid (by rw [HT.out, if_pos (.inr (by rw [List.length_drop]; exact h2))])
        clear HT hm
        go_wp2_with fail
        go_ret3
        exact ⟨by rw [HF.out]; rfl, k, rfl⟩
      · have h2' : ¬ (l.length : Int) - (Q : Int) < (m : Int) := by omega
        have hlt : ((l.drop Q).take m).length = m := by rw [List.length_take, List.length_drop]; omega
        have HE : Hid (textOf most (l.drop p0) = some (⟨((l.drop Q).take m).toArray⟩, l.drop (Q + m))) := Lib.hid (by
          rw [HT.out, if_neg (by rw [List.length_drop]; omega), List.drop_drop])
        have HF := Lib.hid (placed_some (l := l) (q := Q + m) (by omega) (⟨((l.drop Q).take m).toArray⟩ : ByteArray) (fun x => .string x) (.string ⟨#[]⟩))
        have hd := ((H.out.drop Q c hc).take m).below (below_drewN (Below.refl _ _) k)
        have hcv := conv_bytes hd (c - Q)
        rw [hlt] at hcv
        clear hm hlt hd HT
        by_cases hcQ : c = Q
        · rw [if_pos hcQ] at hcv
          have hcQ' : (c = Q) = True := eq_true hcQ
          have hc0 : c - Q = 0 := by omega
          rw [hc0] at hcv
          subst hcQ
          clear hcQ' hc0
          go_wp2_with fail
          go_ret3
          exact ⟨by rw [HE.out, HF.out]; rfl, k, rfl⟩
        · rw [if_neg hcQ] at hcv
          have hcQ' : (c = Q) = False := eq_false hcQ
          clear hcQ
          go_wp2_with fail
          go_ret3
          exact ⟨by rw [HE.out, HF.out]; rfl, k, rfl⟩
end Go.Proofs.Ytmpiknaoocflcaa
