/- What Read tells of a text: plain lists. Of no program. -/
import Derived.Test.YtfkbhlgoglmcpaaGreatDoorQ1
import Derived.Test.YtfkbhlgoglmcpaaGreatDoorC2
namespace Go.Proofs.YtfkbhlgoglmcpaaGreatDoor
open Go.Lib

theorem ra2_nil : replaceAll [] [39, 39] [39] = [] := ra_nil (by simp) (by simp)
theorem ra2_length : ∀ (k : Nat) (l : List UInt8), l.length ≤ k → (replaceAll l [39, 39] [39]).length ≤ l.length
  | _, [], _ => by rw [ra2_nil]; simp
  | 0, _ :: _, h => by simp at h
  | k + 1, c :: l, h => by
    by_cases hp : ([39, 39] : List UInt8).isPrefixOf (c :: l) = true
    · rw [ra_prefix (by simp) (by simp) hp]
      have h2 := (List.isPrefixOf_iff_prefix.1 hp).length_le
      simp only [List.length_cons, List.length_nil] at h2 h
      have := ra2_length k ((c :: l).drop 2) (by simp; omega)
      have e : (([39, 39] : List UInt8)).length = 2 := rfl
      rw [e]
      simp only [List.length_append, List.length_cons, List.length_nil]
      simp only [List.length_drop, List.length_cons] at this
      omega
    · have hp' : ([39, 39] : List UInt8).isPrefixOf (c :: l) = false := Bool.eq_false_iff.2 hp
      rw [ra_skip (by simp) (by simp) hp']
      have := ra2_length k l (by simp at h; omega)
      simp only [List.length_cons]
      omega
theorem trim_length (l : List UInt8) : (trimSuffix (trimPrefix l [39]) [39]).length ≤ l.length := by
  unfold trimSuffix trimPrefix
  split <;> split <;> simp <;> omega

/-- what Read tells: the value's kind, number, text; the error. -/
structure Told where
  k : Int
  n : Int
  s : List UInt8
  e : Int
def toldText (l : List UInt8) : Told := match unq l.tail with
  | some u => if u.length ≤ 200 then ⟨2, 0, u, 0⟩ else ⟨0, 0, [], 7⟩
  | none => ⟨0, 0, [], 7⟩
def toldInt (l : List UInt8) : Told := if re l = 0 then ⟨1, rv l, [], 0⟩ else if re l = 4 then ⟨0, 0, [], 4⟩ else ⟨0, 0, [], 7⟩
def told (l : List UInt8) : Told := if l = [110, 117, 108, 108] then ⟨0, 0, [], 0⟩ else if l = [116, 114, 117, 101] then ⟨3, 1, [], 0⟩ else if l = [102, 97, 108, 115, 101] then ⟨3, 0, [], 0⟩
  else if l.head? = some 39 then toldText l else toldInt l
theorem toldText_quo (u : List UInt8) (h : u.length ≤ 200) : toldText (quo u) = ⟨2, 0, u, 0⟩ := by
  unfold toldText
  rw [show (quo u).tail = esc u ++ [39] from rfl, unq_esc]
  simp [h]
theorem toldText_not (l : List UInt8) (h : l.head? = some 39) (hn : ∀ u : List UInt8, u.length ≤ 200 → quo u ≠ l) : toldText l = ⟨0, 0, [], 7⟩ := by
  cases l with
  | nil => cases h
  | cons c r =>
    simp only [List.head?_cons, Option.some.injEq] at h
    subst h
    unfold toldText
    simp only [List.tail_cons]
    split
    · rename_i u hu
      rw [if_neg]
      intro hl
      apply hn u hl
      rw [quo, unq_some r u hu]
    · rfl
end Go.Proofs.YtfkbhlgoglmcpaaGreatDoor
