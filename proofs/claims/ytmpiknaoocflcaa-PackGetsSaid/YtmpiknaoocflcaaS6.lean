/- Plain: a row that is packed is read back, and no beginning of it is. -/
import Derived.Test.YtmpiknaoocflcaaS3
import Derived.Test.YtmpiknaoocflcaaS5
namespace Go.Proofs.Ytmpiknaoocflcaa

theorem numFrom_ext : ∀ (k acc : Nat) (l l' t : List UInt8) (n : Nat), numFrom k acc l = some (n, l') → numFrom k acc (l ++ t) = some (n, l' ++ t)
  | 0, _, _, _, _, _ => by intro h; unfold numFrom at h; cases h
  | k + 1, acc, [], _, _, _ => by intro h; unfold numFrom at h; cases h
  | k + 1, acc, x :: l, l', t, n => by
    intro h
    rw [List.cons_append]
    unfold numFrom at h ⊢
    split at h
    · cases h
    · rename_i h1
      rw [if_neg h1]
      split at h
      · rename_i h2
        rw [if_pos h2]
        split at h
        · cases h
        · rename_i h3
          rw [if_neg h3]
          injection h with h
          injection h with e1 e2
          subst e1; subst e2
          rfl
      · rename_i h2
        rw [if_neg h2]
        exact numFrom_ext k _ l l' t n h
theorem numOf_ext {l l' : List UInt8} {n : Nat} (t : List UInt8) (h : numOf l = some (n, l')) : numOf (l ++ t) = some (n, l' ++ t) := numFrom_ext 10 0 l l' t n h
theorem wholeOf_ext {l l' : List UInt8} {n : Int} (t : List UInt8) (h : wholeOf l = some (n, l')) : wholeOf (l ++ t) = some (n, l' ++ t) := by
  unfold wholeOf at h ⊢
  cases hq : numOf l with
  | none => rw [hq] at h; cases h
  | some p =>
    obtain ⟨m, l1⟩ := p
    rw [hq] at h
    rw [numOf_ext t hq]
    injection h with h
    injection h with e1 e2
    subst e1; subst e2
    rfl
theorem textOf_ext {most : Nat} {l l' : List UInt8} {s : ByteArray} (t : List UInt8) (h : textOf most l = some (s, l')) : textOf most (l ++ t) = some (s, l' ++ t) := by
  unfold textOf at h ⊢
  cases hq : numOf l with
  | none => rw [hq] at h; cases h
  | some p =>
    obtain ⟨m, l1⟩ := p
    rw [hq] at h
    rw [numOf_ext t hq]
    simp only at h ⊢
    split at h
    · cases h
    · rename_i h1
      rw [if_neg (by rw [List.length_append]; omega), List.take_append_of_le_length (by omega), List.drop_append_of_le_length (by omega)]
      injection h with h
      injection h with e1 e2
      subst e1; subst e2
      rfl
theorem valOf_ext {l l' : List UInt8} {v : Tri} (t : List UInt8) (h : valOf l = some (v, l')) : valOf (l ++ t) = some (v, l' ++ t) := by
  cases l with
  | nil => unfold valOf at h; cases h
  | cons x l =>
    rw [List.cons_append]
    rw [valOf_cons] at h ⊢
    by_cases h0 : x.toNat = 0
    · rw [if_pos h0] at h ⊢
      injection h with h
      injection h with e1 e2
      subst e1; subst e2
      rfl
    · rw [if_neg h0] at h ⊢
      by_cases h1 : x.toNat = 1
      · rw [if_pos h1] at h ⊢
        cases hq : wholeOf l with
        | none => rw [hq] at h; cases h
        | some p =>
          obtain ⟨n, l1⟩ := p
          rw [hq] at h
          rw [wholeOf_ext t hq]
          injection h with h
          injection h with e1 e2
          subst e1; subst e2
          rfl
      · rw [if_neg h1] at h ⊢
        by_cases h2 : x.toNat = 2
        · rw [if_pos h2] at h ⊢
          cases hq : textOf 200 l with
          | none => rw [hq] at h; cases h
          | some p =>
            obtain ⟨n, l1⟩ := p
            rw [hq] at h
            rw [textOf_ext t hq]
            injection h with h
            injection h with e1 e2
            subst e1; subst e2
            rfl
        · rw [if_neg h2] at h ⊢
          by_cases h3 : x.toNat = 3
          · rw [if_pos h3] at h ⊢
            cases l with
            | nil => cases h
            | cons y l =>
              rw [List.cons_append]
              simp only at h ⊢
              split at h
              · rename_i h4
                rw [if_pos h4]
                injection h with h
                injection h with e1 e2
                subst e1; subst e2
                rfl
              · cases h
          · rw [if_neg h3] at h
            cases h
theorem valsOf_ext : ∀ (n : Nat) (l l' t : List UInt8) (vs : List Tri), valsOf n l = some (vs, l') → valsOf n (l ++ t) = some (vs, l' ++ t)
  | 0, l, l', t, vs => by
    intro h
    unfold valsOf at h ⊢
    injection h with h
    injection h with e1 e2
    subst e1; subst e2
    rfl
  | n + 1, l, l', t, vs => by
    intro h
    unfold valsOf at h ⊢
    cases hq : valsOf n l with
    | none => rw [hq] at h; cases h
    | some p =>
      obtain ⟨us, l1⟩ := p
      rw [hq] at h
      rw [valsOf_ext n l l1 t us hq]
      simp only at h ⊢
      cases hv : valOf l1 with
      | none => rw [hv] at h; cases h
      | some p =>
        obtain ⟨u, l2⟩ := p
        rw [hv] at h
        rw [valOf_ext t hv]
        injection h with h
        injection h with e1 e2
        subst e1; subst e2
        rfl
theorem rowOf_ext {l l' : List UInt8} {vs : List Tri} (t : List UInt8) (h : rowOf l = some (vs, l')) : rowOf (l ++ t) = some (vs, l' ++ t) := by
  unfold rowOf at h ⊢
  cases hq : numOf l with
  | none => rw [hq] at h; cases h
  | some p =>
    obtain ⟨m, l1⟩ := p
    rw [hq] at h
    rw [numOf_ext t hq]
    simp only at h ⊢
    split at h
    · cases h
    · rename_i h1
      rw [if_neg h1]
      exact valsOf_ext m l1 l' t vs h

theorem valOf_vb (x : Tri) (hn : InRange x.2.1) (t : List UInt8) : valOf (vb (norm x) ++ t) = some (norm x, t) := by
  obtain ⟨k, n, s⟩ := x
  cases hp : Val.plainB k n s with
  | false =>
    rw [norm_bad hp]
    rfl
  | true =>
    rw [norm_plain hp]
    rcases plain_cases hp with ⟨rfl, rfl, rfl⟩ | ⟨rfl, rfl⟩ | ⟨rfl, rfl, h2⟩ | ⟨rfl, rfl | rfl, rfl⟩
    · rfl
    · rw [show vb (1, n, ⟨#[]⟩) = 1 :: grp (zig n) from rfl, List.cons_append, valOf_cons, if_neg (by decide), if_pos (by decide), wholeOf_grp n hn.1 hn.2]
    · rw [show vb (2, 0, s) = 2 :: txt s from rfl, List.cons_append, valOf_cons, if_neg (by decide), if_neg (by decide), if_pos (by decide), textOf_txt 200 s h2 (by omega)]
    · rfl
    · rfl
theorem packs_drop (xs : List Tri) (i : Nat) (h : i < xs.length) : packs (xs.drop i) = vb (norm xs[i]) ++ packs (xs.drop (i + 1)) := by
  rw [List.drop_eq_getElem_cons h]
  rfl
theorem valsOf_packs (xs : List Tri) (hr : ∀ i (h : i < xs.length), InRange xs[i].2.1) (t : List UInt8) : ∀ i, i ≤ xs.length → valsOf i (packs xs ++ t) = some ((xs.take i).map norm, packs (xs.drop i) ++ t)
  | 0, _ => by simp [valsOf]
  | i + 1, hi => by
    have h : i < xs.length := hi
    unfold valsOf
    rw [valsOf_packs xs hr t i (by omega)]
    simp only
    rw [packs_drop xs i h, List.append_assoc, valOf_vb _ (hr i h)]
    simp only
    rw [List.take_succ_eq_append_getElem h, List.map_append]
    rfl
theorem rowOf_rowB (xs : List Tri) (hr : ∀ i (h : i < xs.length), InRange xs[i].2.1) (hx : xs.length ≤ 1000) (t : List UInt8) : rowOf (rowB xs ++ t) = some (xs.map norm, t) := by
  unfold rowOf rowB
  rw [List.append_assoc, numOf_grp xs.length (by omega)]
  simp only
  rw [if_neg (by omega), valsOf_packs xs hr t xs.length (Nat.le_refl _), List.take_length, List.drop_length]
  rfl
/-- no beginning is a row. -/
theorem rowOf_cut (xs : List Tri) (hr : ∀ i (h : i < xs.length), InRange xs[i].2.1) (hx : xs.length ≤ 1000) (k : Nat) (hk : k < (rowB xs).length) : rowOf ((rowB xs).take k) = none := by
  cases hq : rowOf ((rowB xs).take k) with
  | none => rfl
  | some p =>
    obtain ⟨vs, l'⟩ := p
    have h1 := rowOf_ext ((rowB xs).drop k) hq
    rw [List.take_append_drop] at h1
    have h2 := rowOf_rowB xs hr hx []
    rw [List.append_nil] at h2
    rw [h2] at h1
    injection h1 with h1
    injection h1 with _ h3
    have := congrArg List.length h3
    rw [List.length_append, List.length_drop] at this
    simp at this
    omega
theorem rowB_length (xs : List Tri) (hr : ∀ i (h : i < xs.length), InRange xs[i].2.1) (hx : xs.length ≤ 1000) : 0 < (rowB xs).length ∧ (rowB xs).length ≤ 10 + 300 * xs.length := by
  have h1 : (grp xs.length).length ≤ 10 := grp_ten (by omega)
  have h2 := packs_length xs hr xs.length (Nat.le_refl _)
  rw [List.take_length] at h2
  have h3 := grp_pos xs.length
  unfold rowB
  rw [List.length_append]
  omega
end Go.Proofs.Ytmpiknaoocflcaa
