/- Plain: what is read as a value, or a row, stood there packed. -/
import Derived.Test.YtmpiknaoocflcaaG2
namespace Go.Proofs.Ytmpiknaoocflcaa

theorem zig_zag (m : Nat) (h : m < 18446744073709551616) : zig (zag m) = m ∧ InRange (zag m) := by
  unfold zig zag InRange
  by_cases hm : m % 2 = 1
  · rw [if_pos hm, if_pos (by omega)]; omega
  · rw [if_neg hm, if_neg (by omega)]; omega
theorem in0 : InRange 0 := by unfold InRange; omega
theorem in1 : InRange 1 := by unfold InRange; omega
theorem textOf_conv {most : Nat} {l l' : List UInt8} {s : ByteArray} (h : textOf most l = some (s, l')) : l = txt s ++ l' := by
  unfold textOf at h
  cases hq : numOf l with
  | none => rw [hq] at h; cases h
  | some p =>
    obtain ⟨m, l1⟩ := p
    rw [hq] at h
    simp only at h
    have hc := (numOf_conv hq).1
    split at h
    · cases h
    · rename_i h1
      injection h with h
      injection h with e1 e2
      subst e1; subst e2
      have hs : (⟨(l1.take m).toArray⟩ : ByteArray).size = m := by
        show (l1.take m).toArray.size = m
        simp
        omega
      unfold txt
      rw [hs, List.append_assoc]
      show l = grp m ++ (l1.take m ++ l1.drop m)
      rw [List.take_append_drop]
      exact hc
theorem byte_of {x : UInt8} {k : Nat} (h : x.toNat = k) : x = UInt8.ofNat k := by rw [← h]; exact UInt8.ofNat_toNat.symm
theorem valOf_conv {l l' : List UInt8} {v : Tri} (h : valOf l = some (v, l')) : l = vb v ++ l' ∧ norm v = v ∧ InRange v.2.1 ∧ v.2.2.size ≤ 200 := by
  cases l with
  | nil => unfold valOf at h; cases h
  | cons x l =>
    rw [valOf_cons] at h
    by_cases h0 : x.toNat = 0
    · rw [if_pos h0] at h
      injection h with h
      injection h with e1 e2
      subst e1; subst e2
      rw [byte_of h0]
      exact ⟨rfl, norm_plain (by simp [Val.plainB, Val.same_iff]), in0, Nat.zero_le 200⟩
    · rw [if_neg h0] at h
      by_cases h1 : x.toNat = 1
      · rw [if_pos h1] at h
        cases hq : numOf l with
        | none => unfold wholeOf at h; rw [hq] at h; cases h
        | some p =>
          obtain ⟨m, l1⟩ := p
          unfold wholeOf at h
          rw [hq] at h
          injection h with h
          injection h with e1 e2
          subst e1; subst e2
          obtain ⟨hc, hm⟩ := numOf_conv hq
          obtain ⟨hz, hr⟩ := zig_zag m hm
          refine ⟨?_, norm_plain (by simp [Val.plainB, Val.same_iff]), hr, Nat.zero_le 200⟩
          rw [show vb (1, zag m, ⟨#[]⟩) = 1 :: grp (zig (zag m)) from rfl, hz, byte_of h1, List.cons_append, ← hc]
          rfl
      · rw [if_neg h1] at h
        by_cases h2 : x.toNat = 2
        · rw [if_pos h2] at h
          cases hq : textOf 200 l with
          | none => rw [hq] at h; cases h
          | some p =>
            obtain ⟨s, l1⟩ := p
            rw [hq] at h
            injection h with h
            injection h with e1 e2
            subst e1; subst e2
            have hs := textOf_size hq
            have hc := textOf_conv hq
            refine ⟨?_, norm_plain (by simp [Val.plainB, Val.same_iff, Val.cut_small hs]), in0, hs⟩
            rw [show vb (2, 0, s) = 2 :: txt s from rfl, byte_of h2, List.cons_append, ← hc]
            rfl
        · rw [if_neg h2] at h
          by_cases h3 : x.toNat = 3
          · rw [if_pos h3] at h
            cases l with
            | nil => cases h
            | cons y l =>
              simp only at h
              split at h
              · rename_i h4
                injection h with h
                injection h with e1 e2
                subst e1; subst e2
                rw [byte_of h3]
                rcases Nat.lt_or_ge y.toNat 1 with h5 | h5
                · have h6 : y.toNat = 0 := by omega
                  rw [h6, byte_of h6]
                  exact ⟨rfl, norm_plain (by simp [Val.plainB, Val.same_iff, Val.bit]), in0, Nat.zero_le 200⟩
                · have h6 : y.toNat = 1 := by omega
                  rw [h6, byte_of h6]
                  exact ⟨rfl, norm_plain (by simp [Val.plainB, Val.same_iff, Val.bit]), in1, Nat.zero_le 200⟩
              · cases h
          · rw [if_neg h3] at h
            cases h
/-- what was read as a row is as it should be. -/
def AllRead (vs : List Tri) : Prop := ∀ i (h : i < vs.length), norm vs[i] = vs[i] ∧ InRange vs[i].2.1 ∧ vs[i].2.2.size ≤ 200
theorem packs_append (xs ys : List Tri) : packs (xs ++ ys) = packs xs ++ packs ys := by simp [packs]
theorem valsOf_conv : ∀ (n : Nat) (l l' : List UInt8) (vs : List Tri), valsOf n l = some (vs, l') → l = packs vs ++ l' ∧ AllRead vs
  | 0, l, l', vs => by
    intro h
    unfold valsOf at h
    injection h with h
    injection h with e1 e2
    subst e1; subst e2
    exact ⟨rfl, fun i hi => absurd hi (by simp)⟩
  | n + 1, l, l', vs => by
    intro h
    unfold valsOf at h
    cases hq : valsOf n l with
    | none => rw [hq] at h; cases h
    | some p =>
      obtain ⟨us, l1⟩ := p
      rw [hq] at h
      simp only at h
      obtain ⟨hc, hr⟩ := valsOf_conv n l l1 us hq
      cases hv : valOf l1 with
      | none => rw [hv] at h; cases h
      | some p =>
        obtain ⟨u, l2⟩ := p
        rw [hv] at h
        injection h with h
        injection h with e1 e2
        subst e1; subst e2
        obtain ⟨hc2, hn, hr2, hs2⟩ := valOf_conv hv
        refine ⟨?_, fun i hi => ?_⟩
        · rw [packs_append, List.append_assoc, show packs [u] = vb (norm u) by simp [packs], hn, ← hc2, ← hc]
        · rw [List.length_append, List.length_singleton] at hi
          rcases Nat.lt_or_ge i us.length with h1 | h1
          · rw [List.getElem_append_left h1]; exact hr i h1
          · have : i = us.length := by omega
            subst this
            rw [List.getElem_append_right (by omega)]
            simp only [Nat.sub_self, List.getElem_cons_zero]
            exact ⟨hn, hr2, hs2⟩
theorem rowOf_conv {l l' : List UInt8} {vs : List Tri} (h : rowOf l = some (vs, l')) : l = rowB vs ++ l' ∧ AllRead vs ∧ vs.length ≤ 1000 := by
  unfold rowOf at h
  cases hq : numOf l with
  | none => rw [hq] at h; cases h
  | some p =>
    obtain ⟨m, l1⟩ := p
    rw [hq] at h
    simp only at h
    split at h
    · cases h
    · rename_i h1
      obtain ⟨hc, hr⟩ := valsOf_conv m l1 l' vs h
      have hl := valsOf_length m l1 l' vs h
      refine ⟨?_, hr, by omega⟩
      unfold rowB
      rw [hl, List.append_assoc, ← hc]
      exact (numOf_conv hq).1
theorem drop_of_append {l a l' : List UInt8} {Q : Nat} (h : l.drop Q = a ++ l') (hQ : Q ≤ l.length) : ∃ R, R ≤ l.length ∧ l' = l.drop R ∧ l.length - l'.length = R := by
  have hlen := congrArg List.length h
  rw [List.length_drop, List.length_append] at hlen
  refine ⟨Q + a.length, by omega, ?_, by omega⟩
  have := congrArg (List.drop a.length) h
  rw [List.drop_drop, List.drop_left] at this
  exact this.symm
end Go.Proofs.Ytmpiknaoocflcaa
