/- Digits: what a list of them says, and the digits of a number. Of no program. -/
import Derived.Lib.ItoaNum
import Derived.Lib.ParseIntB
namespace Go.Proofs.YtfkbhlgoglmcpaaGreatDoor
open Go.Lib

/-- a number of 64 bits. -/
def Fits (n : Int) : Prop := -9223372036854775808 ≤ n ∧ n ≤ 9223372036854775807
instance (n : Int) : Decidable (Fits n) := inferInstanceAs (Decidable (_ ∧ _))
def sv (n : Int) : Int := if Fits n then n else 0
def se (n : Int) : Int := if Fits n then 0 else 4
def signed (s : Bool) (n : Int) : Int := if s then -n else n

def dig (c : UInt8) : Bool := decide (48 ≤ c.toNat ∧ c.toNat ≤ 57)
def dv (acc : Nat) : List UInt8 → Nat
  | [] => acc
  | c :: r => dv (acc * 10 + (c.toNat - 48)) r

theorem dv_snoc (l : List UInt8) (c : UInt8) (acc : Nat) : dv acc (l ++ [c]) = dv acc l * 10 + (c.toNat - 48) := by
  induction l generalizing acc with
  | nil => rfl
  | cons a r ih => exact ih _
theorem dv_ge (l : List UInt8) (acc : Nat) : acc ≤ dv acc l := by
  induction l generalizing acc with
  | nil => exact Nat.le_refl _
  | cons a r ih => exact Nat.le_trans (by omega) (ih (acc * 10 + (a.toNat - 48)))

theorem parse_digits (M : Nat) (hM : M = 18446744073709551615) (l : List UInt8) (h : ∀ c ∈ l, dig c = true) (acc : Nat) (ha : acc ≤ M) :
    parseUintM M acc l = if dv acc l ≤ M then .ok (dv acc l) else .range := by
  induction l generalizing acc with
  | nil =>
    have e : dv acc [] = acc := rfl
    have e2 : parseUintM M acc [] = .ok acc := by rw [parseUintM]
    rw [e, e2, if_pos ha]
  | cons c r ih =>
    have hc : 48 ≤ c.toNat ∧ c.toNat ≤ 57 := by simpa [dig] using h c (by simp)
    have hg := dv_ge r (acc * 10 + (c.toNat - 48))
    have hi := ih (fun c hc => h c (by simp [hc])) (acc * 10 + (c.toNat - 48))
    have e : dv acc (c :: r) = dv (acc * 10 + (c.toNat - 48)) r := rfl
    rw [e, parseUintM, if_pos hc]
    generalize dv (acc * 10 + (c.toNat - 48)) r = z at *
    by_cases h1 : 1844674407370955162 ≤ acc
    · rw [if_pos h1, if_neg (by omega)]
    · rw [if_neg h1]
      by_cases h2 : M < acc * 10 + (c.toNat - 48)
      · rw [if_pos h2, if_neg (by omega)]
      · rw [if_neg h2]
        exact hi (by omega)

/-- is it a minus? the digits behind it. -/
def minus (l : List UInt8) : Bool := l.head?.map (·.toNat) == some 45
def body (l : List UInt8) : List UInt8 := if minus l then l.tail else l
/-- does it look like a print? -/
def looks (l : List UInt8) : Bool := body l != [] && (body l).all dig && (((body l).head?.map (·.toNat) != some 48) || ((body l).length == 1 && !minus l))
def rv (l : List UInt8) : Int := if looks l then sv (signed (minus l) (dv 0 (body l))) else 0
def re (l : List UInt8) : Int := if looks l then se (signed (minus l) (dv 0 (body l))) else 6

theorem parse_looks (l : List UInt8) (h : looks l = true) :
    parseIntB 64 l = if Fits (signed (minus l) (dv 0 (body l))) then .ok (signed (minus l) (dv 0 (body l))) else .range := by
  simp only [looks, Bool.and_eq_true, bne_iff_ne, ne_eq, List.all_eq_true] at h
  obtain ⟨⟨h1, h2⟩, -⟩ := h
  have hp := parse_digits 18446744073709551615 rfl (body l) h2 0 (by omega)
  have hu : parseUintB 64 (body l) = parseUintM 18446744073709551615 0 (body l) := by
    simp [parseUintB, h1]
  match l, h1, h2, hp, hu with
  | [], h1, _, _, _ => exact absurd rfl h1
  | c :: r, h1, h2, hp, hu =>
    by_cases hm : c.toNat = 45
    · have hmin : minus (c :: r) = true := by simp [minus, hm]
      have hb : body (c :: r) = r := by simp [body, hmin]
      rw [hb] at hp hu ⊢
      simp only [parseIntB]
      rw [if_pos (Or.inr hm), hu, hp, hmin]
      simp only [signed, if_true, hm]
      generalize dv 0 r = u
      by_cases hf : Fits (-(u : Int))
      · rw [if_pos hf]
        unfold Fits at hf
        rw [if_pos (by omega)]
        simp
        omega
      · rw [if_neg hf]
        unfold Fits at hf
        by_cases h3 : u ≤ 18446744073709551615
        · rw [if_pos h3]; simp; omega
        · rw [if_neg h3]
    · have hmin : minus (c :: r) = false := by simp [minus, hm]
      have hb : body (c :: r) = c :: r := by simp [body, hmin]
      have hc : 48 ≤ c.toNat ∧ c.toNat ≤ 57 := by rw [hb] at h2; simpa [dig] using h2 c (by simp)
      rw [hb] at hp hu ⊢
      simp only [parseIntB]
      rw [if_neg (by omega), hu, hp, hmin]
      simp only [signed, Bool.false_eq_true, if_false, hm]
      generalize dv 0 (c :: r) = u
      by_cases hf : Fits (u : Int)
      · rw [if_pos hf]
        unfold Fits at hf
        rw [if_pos (by omega)]
        simp
        omega
      · rw [if_neg hf]
        unfold Fits at hf
        by_cases h3 : u ≤ 18446744073709551615
        · rw [if_pos h3]; simp; omega
        · rw [if_neg h3]

theorem dec_step {u : Nat} (h : ¬ u < 10) : decDigits u = decDigits (u / 10) ++ [UInt8.ofNat (48 + u % 10)] := by
  rw [decDigits, dif_neg h]
theorem dec_one {u : Nat} (h : u < 10) : decDigits u = [UInt8.ofNat (48 + u)] := by
  rw [decDigits, dif_pos h]
theorem ofNat_dig (k : Nat) (h : k < 10) : (UInt8.ofNat (48 + k)).toNat = 48 + k := by
  rw [UInt8.toNat_ofNat']; omega

/-- the digits of a number: digits, at least one, no nought ahead, and they say it. -/
theorem dec_says (u : Nat) : dv 0 (decDigits u) = u ∧ (∀ c ∈ decDigits u, dig c = true) ∧ decDigits u ≠ [] ∧ (u ≠ 0 → (decDigits u).head?.map (·.toNat) ≠ some 48) ∧ (u < 10 → (decDigits u).length = 1) := by
  induction u using Nat.strongRecOn with
  | ind u ih =>
    by_cases h : u < 10
    · rw [dec_one h]
      have e := ofNat_dig u h
      refine ⟨by show 0 * 10 + ((UInt8.ofNat (48 + u)).toNat - 48) = u; rw [e]; omega, by simp only [List.mem_singleton, forall_eq, dig, e]; simp; omega, by simp, fun hz => by simp only [List.head?_cons, Option.map_some, e]; intro hh; injection hh; omega, fun _ => rfl⟩
    · obtain ⟨h1, h2, h3, h4, -⟩ := ih (u / 10) (by omega)
      rw [dec_step h]
      have e := ofNat_dig (u % 10) (by omega)
      refine ⟨by rw [dv_snoc, h1, e]; omega, ?_, by simp, fun _ => ?_, fun hh => absurd hh h⟩
      · intro c hc
        rw [List.mem_append] at hc
        rcases hc with hc | hc
        · exact h2 c hc
        · simp only [List.mem_singleton] at hc; subst hc; simp only [dig, e]; simp; omega
      · have h5 := h4 (by omega)
        match hq : decDigits (u / 10), h3, h5 with
        | a :: r, _, h5 => simpa using h5

theorem ofNat_back (c : UInt8) (h : 48 ≤ c.toNat) : UInt8.ofNat (48 + (c.toNat - 48)) = c := by
  rw [show 48 + (c.toNat - 48) = c.toNat by omega]; exact UInt8.ofNat_toNat
/-- digits without a nought ahead are the digits of what they say. -/
theorem dec_of (n : Nat) : ∀ d : List UInt8, d.length = n → (∀ c ∈ d, dig c = true) → d ≠ [] → (d.length = 1 ∨ d.head?.map (·.toNat) ≠ some 48) → decDigits (dv 0 d) = d ∧ (d.head?.map (·.toNat) ≠ some 48 → dv 0 d ≠ 0) := by
  induction n with
  | zero => intro d hl _ hne _; exact absurd (List.eq_nil_of_length_eq_zero hl) hne
  | succ n ih =>
    intro d hl hd hne hz
    obtain ⟨d', c, rfl⟩ : ∃ d' c, d = d' ++ [c] := ⟨d.dropLast, d.getLast hne, (List.dropLast_concat_getLast hne).symm⟩
    have hc : 48 ≤ c.toNat ∧ c.toNat ≤ 57 := by simpa [dig] using hd c (by simp)
    rw [dv_snoc]
    by_cases hn : d' = []
    · subst hn
      have e0 : dv 0 ([] : List UInt8) = 0 := rfl
      rw [e0, List.nil_append, Nat.zero_mul, Nat.zero_add]
      refine ⟨by rw [dec_one (by omega), ofNat_back c hc.1], fun hh => ?_⟩
      simp only [List.head?_cons, Option.map_some] at hh
      intro h0; apply hh; congr 1; omega
    · have hl' : d'.length = n := by simpa using hl
      have hz' : d'.head?.map (·.toNat) ≠ some 48 := by
        rcases hz with hz | hz
        · exfalso
          rw [List.length_append, List.length_singleton] at hz
          exact hn (List.eq_nil_of_length_eq_zero (by omega))
        · match d', hn, hz with
          | a :: r, _, hz => simpa using hz
      obtain ⟨g1, g2⟩ := ih d' hl' (fun c hc => hd c (by simp [hc])) hn (Or.inr hz')
      have g3 := g2 hz'
      have hge : ¬ dv 0 d' * 10 + (c.toNat - 48) < 10 := by omega
      refine ⟨?_, fun _ => by omega⟩
      rw [dec_step hge, show (dv 0 d' * 10 + (c.toNat - 48)) / 10 = dv 0 d' by omega, show (dv 0 d' * 10 + (c.toNat - 48)) % 10 = c.toNat - 48 by omega, g1, ofNat_back c hc.1]

theorem itoa_minus (a : Int) : minus (itoa a) = decide (a < 0) ∧ body (itoa a) = decDigits a.natAbs := by
  by_cases h : a < 0
  · have e : itoa a = 45 :: decDigits a.natAbs := by simp [itoa, h]
    have hm : minus (itoa a) = true := by rw [e]; rfl
    exact ⟨by rw [hm]; simp [h], by simp [body, hm]; rw [e]; rfl⟩
  · have e : itoa a = decDigits a.natAbs := by simp [itoa, h]; congr 1; omega
    obtain ⟨-, h2, h3, -, -⟩ := dec_says a.natAbs
    have hm : minus (itoa a) = false := by
      rw [e]
      match hq : decDigits a.natAbs, h3, h2 with
      | c :: r, _, h2 =>
        have := h2 c (by simp)
        simp [dig] at this
        simp [minus]; omega
    exact ⟨by rw [hm]; simp [h], by rw [body, hm]; simpa using e⟩
theorem itoa_looks (a : Int) : looks (itoa a) = true := by
  obtain ⟨h1, h2⟩ := itoa_minus a
  obtain ⟨-, g2, g3, g4, g5⟩ := dec_says a.natAbs
  simp only [looks, h1, h2, Bool.and_eq_true, bne_iff_ne, ne_eq, List.all_eq_true, Bool.or_eq_true]
  refine ⟨⟨g3, g2⟩, ?_⟩
  by_cases hz : a = 0
  · subst hz; right; exact ⟨by rw [g5 (by decide)]; rfl, by decide⟩
  · left; exact g4 (by omega)
theorem rv_itoa (a : Int) (h : Fits a) : rv (itoa a) = a ∧ re (itoa a) = 0 := by
  obtain ⟨h1, h2⟩ := itoa_minus a
  obtain ⟨g1, -⟩ := dec_says a.natAbs
  have e : signed (minus (itoa a)) (dv 0 (body (itoa a))) = a := by
    rw [h1, h2, g1]
    by_cases hz : a < 0
    · simp [signed, hz]; omega
    · simp [signed, hz]; omega
  simp only [rv, re, itoa_looks, if_true, e, sv, se, if_pos h, and_self]

theorem itoa_rv (l : List UInt8) (h : re l = 0) : itoa (rv l) = l := by
  unfold re at h
  by_cases hl : looks l = true
  · rw [if_pos hl] at h
    have hf : Fits (signed (minus l) (dv 0 (body l))) := by
      unfold se at h
      by_cases hf : Fits (signed (minus l) (dv 0 (body l)))
      · exact hf
      · rw [if_neg hf] at h; cases h
    rw [rv, if_pos hl, sv, if_pos hf]
    have hl2 := hl
    simp only [looks, Bool.and_eq_true, bne_iff_ne, ne_eq, List.all_eq_true, Bool.or_eq_true, beq_iff_eq, Bool.not_eq_true'] at hl2
    obtain ⟨⟨k1, k2⟩, k3⟩ := hl2
    obtain ⟨g1, g2⟩ := dec_of (body l).length (body l) rfl k2 k1 (by rcases k3 with k | k; exact Or.inr k; exact Or.inl k.1)
    match l, k1, g1, g2, k3 with
    | [], k1, _, _, _ => exact absurd rfl k1
    | c :: r, k1, g1, g2, k3 =>
      by_cases hm : minus (c :: r) = true
      · have hb : body (c :: r) = r := by simp [body, hm]
        have hc : c = 45 := by
          simp [minus] at hm
          exact UInt8.toNat_inj.1 hm
        rw [hb] at g1 g2 k3 ⊢
        have h0 : dv 0 r ≠ 0 := g2 (by rcases k3 with k | k; exact k; rw [hm] at k; exact absurd k.2 (by decide))
        rw [hm]
        simp only [signed, if_true, itoa]
        rw [if_pos (by omega), show (-(dv 0 r : Int)).natAbs = dv 0 r by omega, g1, hc]
      · have hm' : minus (c :: r) = false := by simpa using hm
        have hb : body (c :: r) = c :: r := by simp [body, hm']
        rw [hb] at g1 ⊢
        rw [hm']
        simp only [signed, Bool.false_eq_true, if_false, itoa]
        rw [if_neg (by omega)]
        simpa using g1
  · rw [if_neg hl] at h; cases h
end Go.Proofs.YtfkbhlgoglmcpaaGreatDoor
