/- Values: the order is one. awake. -/
import Derived.Test.YthomkdgpmmgdoaaDoorV8
namespace Go.Proofs.YthomkdgpmmgdoaaDoor
open Go.RowKit

theorem cmpS_zero {a b : List UInt8} : cmpS a b = 0 ↔ a = b := by
  unfold cmpS
  by_cases h : Op.bytesLess a b = true
  · rw [if_pos h]
    constructor
    · intro k; omega
    · rintro rfl; rw [bl_irr] at h; cases h
  · rw [if_neg h]
    by_cases e : a = b
    · simp [e]
    · have : (a == b) = false := by simpa using e
      simp [this, e]
theorem cmpS_neg (a b : List UInt8) : cmpS b a = - cmpS a b := by
  unfold cmpS
  by_cases h : Op.bytesLess a b = true
  · have h2 := bl_asymm a b h
    have hne : b ≠ a := by rintro rfl; rw [bl_irr] at h; cases h
    have : (b == a) = false := by simpa using hne
    simp [h, h2, this]
  · have h' : Op.bytesLess a b = false := by simpa using h
    by_cases e : a = b
    · subst e; simp [bl_irr]
    · have h3 : Op.bytesLess b a = true := by
        cases k : Op.bytesLess b a
        · exact absurd (bl_total a b h' k) e
        · rfl
      have : (a == b) = false := by simpa using e
      simp [h', h3, this]
theorem cmpS_le {a b : List UInt8} : cmpS a b ≤ 0 ↔ Op.bytesLess a b = true ∨ a = b := by
  unfold cmpS
  by_cases h : Op.bytesLess a b = true
  · simp [h]
  · have h' : Op.bytesLess a b = false := by simpa using h
    by_cases e : a = b
    · subst e; simp [bl_irr]
    · have : (a == b) = false := by simpa using e
      simp [h', this, e]
theorem cmpS_trans {a b c : List UInt8} (h : cmpS a b ≤ 0) (k : cmpS b c ≤ 0) : cmpS a c ≤ 0 := by
  rw [cmpS_le] at *
  rcases h with h | rfl
  · rcases k with k | rfl
    · exact .inl (bl_trans _ _ _ h k)
    · exact .inl h
  · exact k
theorem cmpI_neg (a b : Int) : cmpI b a = - cmpI a b := by unfold cmpI; split <;> split <;> omega
theorem cmpI_zero {a b : Int} : cmpI a b = 0 ↔ a = b := by unfold cmpI; split <;> (try split) <;> omega
theorem ord_neg (k n : Int) (s : ByteArray) (k' n' : Int) (s' : ByteArray) : ord k' n' s' k n s = - ord k n s k' n' s' := by
  unfold ord
  rw [cmpI_neg k k', cmpI_neg n n', cmpS_neg s.toList s'.toList]
  generalize cmpI k k' = x
  generalize cmpI n n' = y
  generalize cmpS s.toList s'.toList = z
  unfold or3
  split <;> split <;> (try split) <;> (try split) <;> omega
theorem ord_same {k n : Int} {s : ByteArray} {k' n' : Int} {s' : ByteArray} : ord k n s k' n' s' = 0 ↔ same k n s k' n' s' = true := by
  rw [same_iff, ← cmpI_zero (a := k), ← cmpI_zero (a := n), ← cmpS_zero]
  unfold ord or3
  split
  · split
    · constructor
      · intro h; exact ⟨by assumption, by assumption, h⟩
      · intro h; exact h.2.2
    · constructor
      · intro h; contradiction
      · intro h; exact absurd h.2.1 (by assumption)
  · constructor
    · intro h; contradiction
    · intro h; exact absurd h.1 (by assumption)
theorem ord_le {k n : Int} {s : ByteArray} {k' n' : Int} {s' : ByteArray} : ord k n s k' n' s' ≤ 0 ↔ k < k' ∨ (k = k' ∧ (n < n' ∨ (n = n' ∧ cmpS s.toList s'.toList ≤ 0))) := by
  unfold ord or3
  generalize cmpS s.toList s'.toList = z
  unfold cmpI
  by_cases h1 : k < k'
  · simp [h1]
  · by_cases h2 : k' < k
    · simp [h1, h2]; omega
    · have : k = k' := by omega
      subst this
      by_cases h3 : n < n'
      · simp [h3]
      · by_cases h4 : n' < n
        · simp [h3, h4]; omega
        · have : n = n' := by omega
          subst this
          simp
theorem ord_trans {k n : Int} {s : ByteArray} {k' n' : Int} {s' : ByteArray} {l m : Int} {t : ByteArray} (h : ord k n s k' n' s' ≤ 0) (g : ord k' n' s' l m t ≤ 0) : ord k n s l m t ≤ 0 := by
  rw [ord_le] at *
  rcases h with h | ⟨rfl, h⟩
  · rcases g with g | ⟨rfl, g⟩
    · left; omega
    · left; exact h
  · rcases g with g | ⟨rfl, g⟩
    · left; exact g
    · right
      refine ⟨rfl, ?_⟩
      rcases h with h | ⟨rfl, h⟩
      · rcases g with g | ⟨rfl, g⟩
        · left; omega
        · left; exact h
      · rcases g with g | ⟨rfl, g⟩
        · left; exact g
        · right; exact ⟨rfl, cmpS_trans h g⟩
theorem same_empty {s s' : ByteArray} (h : s.size = 0) (h' : s'.size = 0) : s.toList = s'.toList := by
  rw [← size_list, List.length_eq_zero_iff] at h h'
  rw [h, h']
theorem ord_bef {k n : Int} {s : ByteArray} {k' n' : Int} {s' : ByteArray} (h : plainB k n s = true) (h' : plainB k' n' s' = true) : befB k n s k' n' s' = true ↔ ord k n s k' n' s' < 0 := by
  rw [plainB_iff] at h h'
  unfold befB ord or3
  by_cases hk : k = k'
  · subst hk
    rw [if_pos rfl, if_pos (cmpI_zero.2 rfl)]
    by_cases h2 : k = 2
    · subst h2
      have hn : n = n' := by omega
      subst hn
      rw [if_pos rfl, if_pos (cmpI_zero.2 rfl)]
      unfold cmpS
      split
      · simp [*]
      · split <;> simp [*]
    · have hs : s.toList = s'.toList := same_empty (by omega) (by omega)
      rw [if_neg h2, hs, cmpS_zero.2 rfl]
      unfold cmpI
      by_cases h3 : n < n'
      · simp [h3]
      · by_cases h4 : n' < n
        · simp [h3, h4]
        · simp [h3, h4]
  · rw [if_neg hk, if_neg (fun e => hk (cmpI_zero.1 e))]
    unfold cmpI
    by_cases h3 : k < k'
    · simp [h3]
    · have h4 : k' < k := by omega
      simp [h3, h4]

set_option maxRecDepth 100000 in
theorem awake_ok (w : World) (m : Int) (hm : MaxAt w m) : Calls Tryd.prog 6 #[] w fun e w' => e = .returned (.bool true) ∧ Below w.heap.size w w' := by
  have P := fun w (hm : MaxAt w m) => print_text ⟨#[73, 116, 39, 115]⟩ w (by decide) m hm
  rw [show str (quo (⟨#[73, 116, 39, 115]⟩ : ByteArray).data.toList) = ⟨#[39, 73, 116, 39, 39, 115, 39]⟩ from rfl] at P
  have PP := Lib.hid P
  have HM := Lib.hid hm
  clear P hm
  go_enter Tryd.func6, Tryd.ntmps6
  go_wp2_with fail
  refine (text_small _ _ (by decide)).mono ?_
  rintro e w1 ⟨rfl, hb1⟩
  have B1 := Lib.hid hb1
  clear hb1
  go_wp2_with fail
  refine (PP.out _ (HM.out.below B1.out)).mono ?_
  rintro e w2 ⟨rfl, hb2⟩
  have B2 := Lib.hid (bstep B1.out hb2)
  clear hb2
  go_wp2
  go_ret
  exact ⟨rfl, B2.out⟩
end Go.Proofs.YthomkdgpmmgdoaaDoor
