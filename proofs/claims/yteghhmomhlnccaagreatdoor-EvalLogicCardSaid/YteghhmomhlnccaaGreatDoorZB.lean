import Derived.Lib.Replace
import Derived.Lib.ReplaceLaws
import Derived.Lib.Strings
import Derived.Test.YteghhmomhlnccaaGreatDoorZC2

/- Texts in marks: plain lists. Of no program. -/
namespace Go.Proofs.YteghhmomhlnccaaGreatDoor
open Go.Lib

theorem index_skip {c : UInt8} {l sub : List UInt8} (h : sub.isPrefixOf (c :: l) = false) : index (c :: l) sub = if index l sub == -1 then -1 else index l sub + 1 := by
  rw [index, h]; rfl
theorem rk_prefix {old new l : List UInt8} (hne : old ≠ []) (h : old.isPrefixOf l = true) : replaceK old new (count l old) l = new ++ replaceK old new (count (l.drop old.length) old) (l.drop old.length) := by
  have h0 : index l old = (0 : Nat) := index_first (Nat.zero_le _) (by simpa [occAt] using h) (fun j hj => absurd hj (Nat.not_lt_zero _))
  rw [count_hit hne h0, Nat.zero_add, Nat.add_comm 1, replaceK_hit old new _ l 0 h0]
  simp
theorem rk_skip {old new l : List UInt8} {c : UInt8} (hne : old ≠ []) (h : old.isPrefixOf (c :: l) = false) : replaceK old new (count (c :: l) old) (c :: l) = c :: replaceK old new (count l old) l := by
  have hi := index_skip h
  have hg := index_ge l old
  by_cases hm : index l old = -1
  · rw [count_miss hm, count_miss (by rw [hi, hm]; rfl)]; simp [replaceK]
  · obtain ⟨i, e⟩ : ∃ i : Nat, index l old = i := ⟨(index l old).toNat, by omega⟩
    have e2 : index (c :: l) old = ((i + 1 : Nat) : Int) := by
      rw [hi, e, if_neg (by first | (simp; done) | (simp; omega))]; first | rfl | simp
    rw [count_hit hne e, count_hit hne e2, Nat.add_comm 1, Nat.add_comm 1, replaceK_hit _ _ _ _ _ e, replaceK_hit _ _ _ _ _ e2]
    have : i + 1 + old.length = (i + old.length) + 1 := by omega
    rw [this]
    simp
theorem ra_nil {old new : List UInt8} (hne : old ≠ []) (hd : old ≠ new) : replaceAll [] old new = [] := by
  have : (old == new) = false := by simpa using hd
  rw [replaceAll, replace, this]
  have h1 : index [] old = -1 := by
    rw [index]; cases old with
    | nil => exact absurd rfl hne
    | cons a b => rfl
  simp [replaceNum, count_miss h1, replaceK]
theorem ra_eq {old new : List UInt8} (hd : old ≠ new) (l : List UInt8) : replaceAll l old new = replaceK old new (count l old) l := by
  have : (old == new) = false := by simpa using hd
  rw [replaceAll, replace, this]
  simp [replaceNum]
theorem ra_prefix {old new l : List UInt8} (hne : old ≠ []) (hd : old ≠ new) (h : old.isPrefixOf l = true) : replaceAll l old new = new ++ replaceAll (l.drop old.length) old new := by
  rw [ra_eq hd, ra_eq hd, rk_prefix hne h]
theorem ra_skip {old new l : List UInt8} {c : UInt8} (hne : old ≠ []) (hd : old ≠ new) (h : old.isPrefixOf (c :: l) = false) : replaceAll (c :: l) old new = c :: replaceAll l old new := by
  rw [ra_eq hd, ra_eq hd, rk_skip hne h]

/-- each mark twice. -/
def esc : List UInt8 → List UInt8
  | [] => []
  | c :: l => if c = 39 then 39 :: 39 :: esc l else c :: esc l
theorem esc_length_le : ∀ l : List UInt8, (esc l).length ≤ 2 * l.length
  | [] => by simp [esc]
  | c :: l => by
    have := esc_length_le l
    unfold esc
    split <;> simp <;> omega
theorem ra_esc : ∀ l : List UInt8, replaceAll l [39] [39, 39] = esc l
  | [] => ra_nil (by simp) (by simp)
  | c :: l => by
    by_cases h : c = 39
    · subst h
      rw [ra_prefix (by simp) (by simp) (by simp [List.isPrefixOf])]
      simp [esc, ra_esc l]
    · rw [ra_skip (by simp) (by simp) (by simp [List.isPrefixOf]; exact fun e => h e.symm), ra_esc l]
      simp [esc, h]
theorem ra_unesc : ∀ l : List UInt8, replaceAll (esc l) [39, 39] [39] = l
  | [] => ra_nil (by simp) (by simp)
  | c :: l => by
    by_cases h : c = 39
    · subst h
      simp only [esc, if_pos]
      rw [ra_prefix (by simp) (by simp) (by simp [List.isPrefixOf])]
      simp [ra_unesc l]
    · simp only [esc, if_neg h]
      rw [ra_skip (by simp) (by simp) (by simp [List.isPrefixOf]; intro e; exact absurd e.symm h), ra_unesc l]

/-- what stands in marks, behind the first one. -/
def unq : List UInt8 → Option (List UInt8)
  | [] => none
  | c :: l => if c = 39 then (match l with
      | [] => some []
      | d :: l => if d = 39 then (unq l).map (39 :: ·) else none) else (unq l).map (c :: ·)
theorem unq_esc : ∀ u : List UInt8, unq (esc u ++ [39]) = some u
  | [] => by simp [esc, unq]
  | c :: u => by
    by_cases h : c = 39
    · subst h
      simp [esc, unq, unq_esc u]
    · simp only [esc, if_neg h, List.cons_append]
      unfold unq
      rw [if_neg h, unq_esc u]
      rfl
theorem unq_some : ∀ (l u : List UInt8), unq l = some u → l = esc u ++ [39]
  | [], u, h => by simp [unq] at h
  | [c], u, h => by
    unfold unq at h
    split at h
    · rename_i hc; subst hc; simp at h; subst h; rfl
    · simp [unq] at h
  | c :: d :: l, u, h => by
    unfold unq at h
    split at h
    · rename_i hc
      subst hc
      simp only at h
      split at h
      · rename_i hd
        subst hd
        obtain ⟨v, hv, rfl⟩ := Option.map_eq_some_iff.1 h
        rw [unq_some l v hv]
        simp [esc]
      · cases h
    · rename_i hc
      obtain ⟨v, hv, rfl⟩ := Option.map_eq_some_iff.1 h
      rw [unq_some (d :: l) v hv]
      simp [esc, hc]
/-- a text in marks. -/
def quo (l : List UInt8) : List UInt8 := 39 :: (esc l ++ [39])
theorem inside_quo (u : List UInt8) : trimSuffix (trimPrefix (quo u) [39]) [39] = esc u := by
  have h1 : trimPrefix (quo u) [39] = esc u ++ [39] := by simp [trimPrefix, hasPrefix, quo, List.isPrefixOf]
  rw [h1]
  have h2 : hasSuffix (esc u ++ [39]) [39] = true := by rw [hasSuffix, List.isSuffixOf_iff_suffix]; exact ⟨_, rfl⟩
  rw [trimSuffix, h2]
  simp
end Go.Proofs.YteghhmomhlnccaaGreatDoor

/- What Read tells of a text: plain lists. Of no program. -/
namespace Go.Proofs.YteghhmomhlnccaaGreatDoor
open Go.Lib

theorem ra2_nil : replaceAll [] [39, 39] [39] = [] := ra_nil (by simp) (by simp)
theorem ra2_length : ∀ (k : Nat) (l : List UInt8), l.length ≤ k → (replaceAll l [39, 39] [39]).length ≤ l.length
  | _, [], _ => by rw [ra2_nil]; simp
  | 0, _ :: _, h => by simp at h
  | k + 1, c :: l, h => by
    by_cases hp : ([39, 39] : List UInt8).isPrefixOf (c :: l) = true
    · rw [ra_prefix (by simp) (by simp) hp]
      have h2 := (List.isPrefixOf_iff_prefix.1 hp).length_le
      simp only [List.length_cons, List.length_nil] at h2 h
      have := ra2_length k ((c :: l).drop 2) (by simp; omega)
      have e : (([39, 39] : List UInt8)).length = 2 := rfl
      rw [e]
      simp only [List.length_append, List.length_cons, List.length_nil]
      simp only [List.length_drop, List.length_cons] at this
      omega
    · have hp' : ([39, 39] : List UInt8).isPrefixOf (c :: l) = false := Bool.eq_false_iff.2 hp
      rw [ra_skip (by simp) (by simp) hp']
      have := ra2_length k l (by simp at h; omega)
      simp only [List.length_cons]
      omega
theorem trim_length (l : List UInt8) : (trimSuffix (trimPrefix l [39]) [39]).length ≤ l.length := by
  unfold trimSuffix trimPrefix
  split <;> split <;> simp <;> omega

/-- what Read tells: the value's kind, number, text; the error. -/
structure Told where
  k : Int
  n : Int
  s : List UInt8
  e : Int
def toldText (l : List UInt8) : Told := match unq l.tail with
  | some u => if u.length ≤ 200 then ⟨2, 0, u, 0⟩ else ⟨0, 0, [], 7⟩
  | none => ⟨0, 0, [], 7⟩
def toldInt (l : List UInt8) : Told := if re l = 0 then ⟨1, rv l, [], 0⟩ else if re l = 4 then ⟨0, 0, [], 4⟩ else ⟨0, 0, [], 7⟩
def told (l : List UInt8) : Told := if l = [110, 117, 108, 108] then ⟨0, 0, [], 0⟩ else if l = [116, 114, 117, 101] then ⟨3, 1, [], 0⟩ else if l = [102, 97, 108, 115, 101] then ⟨3, 0, [], 0⟩
  else if l.head? = some 39 then toldText l else toldInt l
theorem toldText_quo (u : List UInt8) (h : u.length ≤ 200) : toldText (quo u) = ⟨2, 0, u, 0⟩ := by
  unfold toldText
  rw [show (quo u).tail = esc u ++ [39] from rfl, unq_esc]
  simp [h]
theorem toldText_not (l : List UInt8) (h : l.head? = some 39) (hn : ∀ u : List UInt8, u.length ≤ 200 → quo u ≠ l) : toldText l = ⟨0, 0, [], 7⟩ := by
  cases l with
  | nil => cases h
  | cons c r =>
    simp only [List.head?_cons, Option.some.injEq] at h
    subst h
    unfold toldText
    simp only [List.tail_cons]
    split
    · rename_i u hu
      rw [if_neg]
      intro hl
      apply hn u hl
      rw [quo, unq_some r u hu]
    · rfl
end Go.Proofs.YteghhmomhlnccaaGreatDoor
