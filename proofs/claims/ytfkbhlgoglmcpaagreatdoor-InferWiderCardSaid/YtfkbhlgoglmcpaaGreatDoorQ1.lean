/- Texts in marks: plain lists. Of no program. -/
import Derived.Lib.Replace
import Derived.Lib.ReplaceLaws
import Derived.Lib.Strings
namespace Go.Proofs.YtfkbhlgoglmcpaaGreatDoor
open Go.Lib

theorem index_skip {c : UInt8} {l sub : List UInt8} (h : sub.isPrefixOf (c :: l) = false) : index (c :: l) sub = if index l sub == -1 then -1 else index l sub + 1 := by
  rw [index, h]; rfl
theorem rk_prefix {old new l : List UInt8} (hne : old ≠ []) (h : old.isPrefixOf l = true) : replaceK old new (count l old) l = new ++ replaceK old new (count (l.drop old.length) old) (l.drop old.length) := by
  have h0 : index l old = (0 : Nat) := index_first (Nat.zero_le _) (by simpa [occAt] using h) (fun j hj => absurd hj (Nat.not_lt_zero _))
  rw [count_hit hne h0, Nat.zero_add, Nat.add_comm 1, replaceK_hit old new _ l 0 h0]
  simp
theorem rk_skip {old new l : List UInt8} {c : UInt8} (hne : old ≠ []) (h : old.isPrefixOf (c :: l) = false) : replaceK old new (count (c :: l) old) (c :: l) = c :: replaceK old new (count l old) l := by
  have hi := index_skip h
  have hg := index_ge l old
  by_cases hm : index l old = -1
  · rw [count_miss hm, count_miss (by rw [hi, hm]; rfl)]; simp [replaceK]
  · obtain ⟨i, e⟩ : ∃ i : Nat, index l old = i := ⟨(index l old).toNat, by omega⟩
    have e2 : index (c :: l) old = ((i + 1 : Nat) : Int) := by
      rw [hi, e, if_neg (by first | (simp; done) | (simp; omega))]; first | rfl | simp
    rw [count_hit hne e, count_hit hne e2, Nat.add_comm 1, Nat.add_comm 1, replaceK_hit _ _ _ _ _ e, replaceK_hit _ _ _ _ _ e2]
    have : i + 1 + old.length = (i + old.length) + 1 := by omega
    rw [this]
    simp
theorem ra_nil {old new : List UInt8} (hne : old ≠ []) (hd : old ≠ new) : replaceAll [] old new = [] := by
  have : (old == new) = false := by simpa using hd
  rw [replaceAll, replace, this]
  have h1 : index [] old = -1 := by
    rw [index]; cases old with
    | nil => exact absurd rfl hne
    | cons a b => rfl
  simp [replaceNum, count_miss h1, replaceK]
theorem ra_eq {old new : List UInt8} (hd : old ≠ new) (l : List UInt8) : replaceAll l old new = replaceK old new (count l old) l := by
  have : (old == new) = false := by simpa using hd
  rw [replaceAll, replace, this]
  simp [replaceNum]
theorem ra_prefix {old new l : List UInt8} (hne : old ≠ []) (hd : old ≠ new) (h : old.isPrefixOf l = true) : replaceAll l old new = new ++ replaceAll (l.drop old.length) old new := by
  rw [ra_eq hd, ra_eq hd, rk_prefix hne h]
theorem ra_skip {old new l : List UInt8} {c : UInt8} (hne : old ≠ []) (hd : old ≠ new) (h : old.isPrefixOf (c :: l) = false) : replaceAll (c :: l) old new = c :: replaceAll l old new := by
  rw [ra_eq hd, ra_eq hd, rk_skip hne h]

/-- each mark twice. -/
def esc : List UInt8 → List UInt8
  | [] => []
  | c :: l => if c = 39 then 39 :: 39 :: esc l else c :: esc l
theorem esc_length_le : ∀ l : List UInt8, (esc l).length ≤ 2 * l.length
  | [] => by simp [esc]
  | c :: l => by
    have := esc_length_le l
    unfold esc
    split <;> simp <;> omega
theorem ra_esc : ∀ l : List UInt8, replaceAll l [39] [39, 39] = esc l
  | [] => ra_nil (by simp) (by simp)
  | c :: l => by
    by_cases h : c = 39
    · subst h
      rw [ra_prefix (by simp) (by simp) (by simp [List.isPrefixOf])]
      simp [esc, ra_esc l]
    · rw [ra_skip (by simp) (by simp) (by simp [List.isPrefixOf]; exact fun e => h e.symm), ra_esc l]
      simp [esc, h]
theorem ra_unesc : ∀ l : List UInt8, replaceAll (esc l) [39, 39] [39] = l
  | [] => ra_nil (by simp) (by simp)
  | c :: l => by
    by_cases h : c = 39
    · subst h
      simp only [esc, if_pos]
      rw [ra_prefix (by simp) (by simp) (by simp [List.isPrefixOf])]
      simp [ra_unesc l]
    · simp only [esc, if_neg h]
      rw [ra_skip (by simp) (by simp) (by simp [List.isPrefixOf]; intro e; exact absurd e.symm h), ra_unesc l]

/-- what stands in marks, behind the first one. -/
def unq : List UInt8 → Option (List UInt8)
  | [] => none
  | c :: l => if c = 39 then (match l with
      | [] => some []
      | d :: l => if d = 39 then (unq l).map (39 :: ·) else none) else (unq l).map (c :: ·)
theorem unq_esc : ∀ u : List UInt8, unq (esc u ++ [39]) = some u
  | [] => by simp [esc, unq]
  | c :: u => by
    by_cases h : c = 39
    · subst h
      simp [esc, unq, unq_esc u]
    · simp only [esc, if_neg h, List.cons_append]
      unfold unq
      rw [if_neg h, unq_esc u]
      rfl
theorem unq_some : ∀ (l u : List UInt8), unq l = some u → l = esc u ++ [39]
  | [], u, h => by simp [unq] at h
  | [c], u, h => by
    unfold unq at h
    split at h
    · rename_i hc; subst hc; simp at h; subst h; rfl
    · simp [unq] at h
  | c :: d :: l, u, h => by
    unfold unq at h
    split at h
    · rename_i hc
      subst hc
      simp only at h
      split at h
      · rename_i hd
        subst hd
        obtain ⟨v, hv, rfl⟩ := Option.map_eq_some_iff.1 h
        rw [unq_some l v hv]
        simp [esc]
      · cases h
    · rename_i hc
      obtain ⟨v, hv, rfl⟩ := Option.map_eq_some_iff.1 h
      rw [unq_some (d :: l) v hv]
      simp [esc, hc]
/-- a text in marks. -/
def quo (l : List UInt8) : List UInt8 := 39 :: (esc l ++ [39])
theorem quo_length (l : List UInt8) : (quo l).length ≤ 2 * l.length + 2 := by
  have := esc_length_le l
  simp [quo]; omega
theorem inside_quo (u : List UInt8) : trimSuffix (trimPrefix (quo u) [39]) [39] = esc u := by
  have h1 : trimPrefix (quo u) [39] = esc u ++ [39] := by simp [trimPrefix, hasPrefix, quo, List.isPrefixOf]
  rw [h1]
  have h2 : hasSuffix (esc u ++ [39]) [39] = true := by rw [hasSuffix, List.isSuffixOf_iff_suffix]; exact ⟨_, rfl⟩
  rw [trimSuffix, h2]
  simp
end Go.Proofs.YtfkbhlgoglmcpaaGreatDoor
