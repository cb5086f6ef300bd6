/- Plain: how many pages records have at most; what the parts of records join to. -/
import Derived.Test.YtlkkfnimealbkaaNB
namespace Go.Proofs.Ytlkkfnimealbkaa
set_option linter.unusedVariables false
theorem spot_pot {whole m : Nat} {s : Nat × Nat} (hw : 11 ≤ whole) (hs : s.2 ≤ whole) :
    (spot whole m s).1 * (whole - 10) + (whole - (spot whole m s).2) + (if s.2 < 5 + min m 1 then 5 else 0) ≤ s.1 * (whole - 10) + (whole - s.2) := by
  unfold spot
  split
  · rename_i h
    rw [if_neg (by omega)]
    omega
  · rename_i h
    rw [if_pos (by omega)]
    show (s.1 + 1) * (whole - 10) + (whole - whole) + 5 ≤ _
    rw [Nat.add_mul]
    generalize s.1 * (whole - 10) = q
    omega
theorem cutF_pot {whole : Nat} (hw : 11 ≤ whole) : ∀ (f : Nat) (s : Nat × Nat) (r : List UInt8), s.2 ≤ whole → r.length < f →
    (stA whole s (cutF whole f s r)).1 * (whole - 10) + (whole - (stA whole s (cutF whole f s r)).2) + (if s.2 < 5 + min r.length 1 then 5 else 0) ≤ s.1 * (whole - 10) + (whole - s.2) + (r.length + 5)
  | 0, s, r, hs, hr => by omega
  | f + 1, s, r, hs, hr => by
    have h0 : s.2 < whole ∨ 5 + min r.length 1 ≤ s.2 := by omega
    have hp := spot_pot (m := r.length) hw hs
    have h5 := spot_room (whole := whole) (m := r.length) (s := s) (by omega)
    have hle := spot_le (m := r.length) hs
    unfold cutF
    split
    · rename_i h
      obtain ⟨h1, h2⟩ := spot_nx (by omega) hs h0 (t := true) h
      simp only [stA, List.foldl_cons, List.foldl_nil, h2]
      generalize (spot whole r.length s).1 * (whole - 10) = q at *
      generalize s.1 * (whole - 10) = q2 at *
      omega
    · rename_i h
      have ht : (r.take ((spot whole r.length s).2 - 5)).length = (spot whole r.length s).2 - 5 := by rw [List.length_take]; omega
      obtain ⟨h1, h2⟩ := spot_nx (by omega) hs h0 (b := r.take ((spot whole r.length s).2 - 5)) (t := false) (Nat.le_of_eq ht)
      rw [ht, Nat.sub_self] at h2
      have ih := cutF_pot hw f ((spot whole r.length s).1, 0) (r.drop ((spot whole r.length s).2 - 5)) (Nat.zero_le _) (by rw [List.length_drop]; omega)
      rw [if_pos (by simp only; omega), List.length_drop] at ih
      simp only [stA, List.foldl_cons, h2] at ih ⊢
      generalize (spot whole r.length s).1 * (whole - 10) = q at *
      generalize s.1 * (whole - 10) = q2 at *
      omega
def sumL : List (List UInt8) → Nat
  | [] => 0
  | r :: l => r.length + 5 + sumL l
theorem cutA_pot {whole : Nat} (hw : 11 ≤ whole) : ∀ (l : List (List UInt8)) (s : Nat × Nat), s.2 ≤ whole →
    (stA whole s (cutA whole s l)).1 * (whole - 10) + (whole - (stA whole s (cutA whole s l)).2) ≤ s.1 * (whole - 10) + (whole - s.2) + sumL l
  | [], s, hs => by simp [cutA, stA, sumL]
  | r :: l, s, hs => by
    have h1 := cutF_pot hw (r.length + 1) s r hs (Nat.lt_succ_self _)
    have h2 := (cutF_ok (whole := whole) (by omega) (r.length + 1) s r hs).2
    have h3 := cutA_pot hw l (stA whole s (cutF whole (r.length + 1) s r)) h2
    unfold cutA sumL
    rw [stA_append]
    generalize (stA whole (stA whole s (cutF whole (r.length + 1) s r)) (cutA whole (stA whole s (cutF whole (r.length + 1) s r)) l)).1 * (whole - 10) = q at *
    generalize (stA whole s (cutF whole (r.length + 1) s r)).1 * (whole - 10) = q1 at *
    generalize s.1 * (whole - 10) = q2 at *
    omega
/-- the parts of records, with sectors of that size; none, if that can't be a page's. -/
def partsL (size : Nat) (l : List (List UInt8)) : List Pb := cutA (size - 1) (0, size - 1) l
theorem partsL_ok {size : Nat} (h : 64 ≤ size) (l : List (List UInt8)) : OkT (size - 1) (0, size - 1) (partsL size l) := cutA_ok (by omega) l _ (Nat.le_refl _)
theorem partsL_pages {size : Nat} (h : 64 ≤ size) (l : List (List UInt8)) : PgsOk (size - 1) (partsL size l) := pgs_pre (by omega) (partsL_ok h l) _ (List.prefix_refl _)
theorem cutF_ne (whole f : Nat) (s : Nat × Nat) (r : List UInt8) : cutF whole (f + 1) s r ≠ [] := by
  unfold cutF
  split <;> simp
theorem partsL_nil {size : Nat} {l : List (List UInt8)} : partsL size l = [] ↔ l = [] := by
  cases l with
  | nil => simp [partsL, cutA]
  | cons r l => simp [partsL, cutA, cutF_ne]
def nPages (size : Nat) (l : List (List UInt8)) : Nat := (pagesOf (partsL size l)).length
theorem nPages_zero {size : Nat} (h : 64 ≤ size) (l : List (List UInt8)) : nPages size l = 0 ↔ l = [] := by
  have hp := partsL_pages h l
  unfold nPages
  refine ⟨fun e => ?_, fun e => ?_⟩
  · refine (partsL_nil (size := size)).1 (Classical.byContradiction fun hne => ?_)
    have := (hp.some hne).1
    omega
  · rw [(hp.zero (partsL_nil.2 e)).1]; rfl
theorem nPages_bound {size : Nat} (h : 64 ≤ size) (l : List (List UInt8)) : (nPages size l - 1) * (size - 11) ≤ sumL l := by
  have hp := partsL_pages h l
  by_cases e : partsL size l = []
  · unfold nPages
    rw [(hp.zero e).1]
    simp
  · have h1 := (hp.some e).1
    have h2 := cutA_pot (whole := size - 1) (by omega) l (0, size - 1) (Nat.le_refl _)
    unfold nPages
    rw [h1]
    rw [show size - 11 = size - 1 - 10 by omega]
    simp only [Nat.add_sub_cancel]
    change _ ≤ _ + _ at h2
    unfold partsL
    simp only [Nat.zero_mul, Nat.sub_self, Nat.zero_add] at h2
    omega
/-- what parts join to: the records that are whole, and what there is of the next; whether the last one told was a record's last. -/
def joinP : (List (List UInt8) × List UInt8 × Bool) → List (List UInt8 × Bool) → (List (List UInt8) × List UInt8 × Bool)
  | a, [] => a
  | (l, r, _), (b, t) :: ps => joinP (if t then (l ++ [r ++ b], [], true) else (l, r ++ b, false)) ps
theorem joinP_append : ∀ (a b : List (List UInt8 × Bool)) (s : List (List UInt8) × List UInt8 × Bool), joinP s (a ++ b) = joinP (joinP s a) b
  | [], b, s => rfl
  | (c, t) :: a, b, (l, r, w) => joinP_append a b _
def Pb.bt (x : Pb) : List UInt8 × Bool := (x.b, x.last)
theorem cutF_join {whole : Nat} (hw : 6 ≤ whole) : ∀ (f : Nat) (s : Nat × Nat) (r : List UInt8) (l : List (List UInt8)) (q : List UInt8) (t : Bool), r.length < f → joinP (l, q, t) ((cutF whole f s r).map Pb.bt) = (l ++ [q ++ r], [], true)
  | 0, s, r, l, q, t, hr => by omega
  | f + 1, s, r, l, q, t, hr => by
    have h5 := spot_room (whole := whole) (m := r.length) (s := s) (by omega)
    unfold cutF
    split
    · rename_i h
      simp [joinP, Pb.bt]
    · rename_i h
      simp only [List.map_cons, Pb.bt, joinP, Bool.false_eq_true, if_false]
      rw [cutF_join hw f _ _ _ _ _ (by rw [List.length_drop]; omega), List.append_assoc, List.take_append_drop]
theorem cutA_join {whole : Nat} (hw : 6 ≤ whole) : ∀ (l : List (List UInt8)) (s : Nat × Nat) (k : List (List UInt8)), joinP (k, [], true) ((cutA whole s l).map Pb.bt) = (k ++ l, [], true)
  | [], s, k => by simp [cutA, joinP]
  | r :: l, s, k => by
    unfold cutA
    rw [List.map_append, joinP_append, cutF_join hw _ _ _ _ _ _ (Nat.lt_succ_self _), cutA_join hw l]
    simp
theorem partsL_join {size : Nat} (h : 64 ≤ size) (l : List (List UInt8)) : joinP ([], [], true) ((partsL size l).map Pb.bt) = (l, [], true) := by
  have := cutA_join (whole := size - 1) (by omega) l (0, size - 1) []
  simpa [partsL] using this
end Go.Proofs.Ytlkkfnimealbkaa
