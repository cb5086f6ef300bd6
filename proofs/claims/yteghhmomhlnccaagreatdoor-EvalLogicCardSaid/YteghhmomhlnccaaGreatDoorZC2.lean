import Derived.Lib.ItoaNum
import Derived.Lib.ParseIntB

/- Digits: what a list of them says, and the digits of a number. Of no program. -/
namespace Go.Proofs.YteghhmomhlnccaaGreatDoor
open Go.Lib

/-- a number of 64 bits. -/
def Fits (n : Int) : Prop := -9223372036854775808 ≤ n ∧ n ≤ 9223372036854775807
instance (n : Int) : Decidable (Fits n) := inferInstanceAs (Decidable (_ ∧ _))
def sv (n : Int) : Int := if Fits n then n else 0
def se (n : Int) : Int := if Fits n then 0 else 4
def signed (s : Bool) (n : Int) : Int := if s then -n else n

def dig (c : UInt8) : Bool := decide (48 ≤ c.toNat ∧ c.toNat ≤ 57)
def dv (acc : Nat) : List UInt8 → Nat
  | [] => acc
  | c :: r => dv (acc * 10 + (c.toNat - 48)) r

theorem dv_ge (l : List UInt8) (acc : Nat) : acc ≤ dv acc l := by
  induction l generalizing acc with
  | nil => exact Nat.le_refl _
  | cons a r ih => exact Nat.le_trans (by omega) (ih (acc * 10 + (a.toNat - 48)))

theorem parse_digits (M : Nat) (hM : M = 18446744073709551615) (l : List UInt8) (h : ∀ c ∈ l, dig c = true) (acc : Nat) (ha : acc ≤ M) :
    parseUintM M acc l = if dv acc l ≤ M then .ok (dv acc l) else .range := by
  induction l generalizing acc with
  | nil =>
    have e : dv acc [] = acc := rfl
    have e2 : parseUintM M acc [] = .ok acc := by rw [parseUintM]
    rw [e, e2, if_pos ha]
  | cons c r ih =>
    have hc : 48 ≤ c.toNat ∧ c.toNat ≤ 57 := by simpa [dig] using h c (by simp)
    have hg := dv_ge r (acc * 10 + (c.toNat - 48))
    have hi := ih (fun c hc => h c (by simp [hc])) (acc * 10 + (c.toNat - 48))
    have e : dv acc (c :: r) = dv (acc * 10 + (c.toNat - 48)) r := rfl
    rw [e, parseUintM, if_pos hc]
    generalize dv (acc * 10 + (c.toNat - 48)) r = z at *
    by_cases h1 : 1844674407370955162 ≤ acc
    · rw [if_pos h1, if_neg (by omega)]
    · rw [if_neg h1]
      by_cases h2 : M < acc * 10 + (c.toNat - 48)
      · rw [if_pos h2, if_neg (by omega)]
      · rw [if_neg h2]
        exact hi (by omega)

/-- is it a minus? the digits behind it. -/
def minus (l : List UInt8) : Bool := l.head?.map (·.toNat) == some 45
def body (l : List UInt8) : List UInt8 := if minus l then l.tail else l
/-- does it look like a print? -/
def looks (l : List UInt8) : Bool := body l != [] && (body l).all dig && (((body l).head?.map (·.toNat) != some 48) || ((body l).length == 1 && !minus l))
def rv (l : List UInt8) : Int := if looks l then sv (signed (minus l) (dv 0 (body l))) else 0
def re (l : List UInt8) : Int := if looks l then se (signed (minus l) (dv 0 (body l))) else 6

theorem parse_looks (l : List UInt8) (h : looks l = true) :
    parseIntB 64 l = if Fits (signed (minus l) (dv 0 (body l))) then .ok (signed (minus l) (dv 0 (body l))) else .range := by
  simp only [looks, Bool.and_eq_true, bne_iff_ne, ne_eq, List.all_eq_true] at h
  obtain ⟨⟨h1, h2⟩, -⟩ := h
  have hp := parse_digits 18446744073709551615 rfl (body l) h2 0 (by omega)
  have hu : parseUintB 64 (body l) = parseUintM 18446744073709551615 0 (body l) := by
    simp [parseUintB, h1]
  match l, h1, h2, hp, hu with
  | [], h1, _, _, _ => exact absurd rfl h1
  | c :: r, h1, h2, hp, hu =>
    by_cases hm : c.toNat = 45
    · have hmin : minus (c :: r) = true := by simp [minus, hm]
      have hb : body (c :: r) = r := by simp [body, hmin]
      rw [hb] at hp hu ⊢
      simp only [parseIntB]
      rw [if_pos (Or.inr hm), hu, hp, hmin]
      simp only [signed, if_true, hm]
      generalize dv 0 r = u
      by_cases hf : Fits (-(u : Int))
      · rw [if_pos hf]
        unfold Fits at hf
        rw [if_pos (by omega)]
        simp
        omega
      · rw [if_neg hf]
        unfold Fits at hf
        by_cases h3 : u ≤ 18446744073709551615
        · rw [if_pos h3]; simp; omega
        · rw [if_neg h3]
    · have hmin : minus (c :: r) = false := by simp [minus, hm]
      have hb : body (c :: r) = c :: r := by simp [body, hmin]
      have hc : 48 ≤ c.toNat ∧ c.toNat ≤ 57 := by rw [hb] at h2; simpa [dig] using h2 c (by simp)
      rw [hb] at hp hu ⊢
      simp only [parseIntB]
      rw [if_neg (by omega), hu, hp, hmin]
      simp only [signed, Bool.false_eq_true, if_false, hm]
      generalize dv 0 (c :: r) = u
      by_cases hf : Fits (u : Int)
      · rw [if_pos hf]
        unfold Fits at hf
        rw [if_pos (by omega)]
        simp
        omega
      · rw [if_neg hf]
        unfold Fits at hf
        by_cases h3 : u ≤ 18446744073709551615
        · rw [if_pos h3]; simp; omega
        · rw [if_neg h3]

end Go.Proofs.YteghhmomhlnccaaGreatDoor
