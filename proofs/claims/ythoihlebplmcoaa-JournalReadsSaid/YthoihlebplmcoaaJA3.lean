/- Plain: a row that is cut behind its last record; what JournalReads asks of the sectors. -/
import Derived.Test.YthoihlebplmcoaaJA2
namespace Go.Proofs.Ythoihlebplmcoaa
open Go.RowKit
set_option linter.unusedVariables false
theorem openE_front (e : Nat) (he : e < 4294967296) (l : List UInt8) (hl : l.length ≤ 10000) (h : openE e l = 0) : l.take (openN e l) = sealed e (openB e l) ∧ (openB e l).length ≤ 10000 := by
  have hN : openN e l = num4 l + 12 := if_pos h
  have hB : openB e l = (l.drop 12).take (num4 l) := if_pos h
  have hp := openN_pos h
  have h12 : 12 ≤ l.length := by omega
  have hs : num4 l + 12 ≤ l.length := by omega
  have hO := openE_sealed e he l h12 hs
  rw [h] at hO
  have hq : sealed e ((l.drop 12).take (num4 l)) = l.take (num4 l + 12) := by
    by_cases hq : sealed e ((l.drop 12).take (num4 l)) = l.take (num4 l + 12)
    · exact hq
    · rw [if_neg hq] at hO
      omega
  rw [hN, hB]
  exact ⟨hq.symm, by rw [List.length_take, List.length_drop]; omega⟩
theorem openE_take (e : Nat) (he : e < 4294967296) (l : List UInt8) (hl : l.length ≤ 10000) (h : openE e l = 0) (k : Nat) (hk : openN e l ≤ k) : openE e (l.take k) = 0 ∧ openB e (l.take k) = openB e l ∧ openN e (l.take k) = openN e l := by
  obtain ⟨h1, h2⟩ := openE_front e he l hl h
  have hN : openN e l = (openB e l).length + 12 := by
    have := congrArg List.length h1
    rw [sealed_length, List.length_take] at this
    have := openN_pos h
    omega
  have h3 : l.take k = sealed e (openB e l) ++ (l.take k).drop (openN e l) := by
    rw [← h1]
    have : (l.take k).take (openN e l) = l.take (openN e l) := by rw [List.take_take, Nat.min_eq_left hk]
    rw [← this, List.take_append_drop]
  obtain ⟨o1, o2, o3⟩ := opens_sealed e he (openB e l) ((l.take k).drop (openN e l)) h2
  rw [← h3] at o1 o2 o3
  exact ⟨o1, o2, by rw [o3, hN]⟩
theorem standA_cut (e f : Nat) (he : e < 4294967296) (hf : 12 ≤ f) (T : List UInt8) (hT : T.length ≤ 10000) (E : Nat) : ∀ (k at_ : Nat), T.length < at_ + k → (∀ x ∈ standA e f T k at_, x.2 ≤ E) → (standA e f T k at_ = [] → E ≤ at_) → (∀ x, (standA e f T k at_).getLast? = some x → x.2 = E) → E ≤ T.length →
    standA e f (T.take E) k at_ = standA e f T k at_
  | 0, _, _, _, _, _, _ => rfl
  | k + 1, at_, hk, h1, h2, h3, hE => by
    have e1 : ∀ R : List UInt8, standA e f R (k + 1) at_ = if at_ < R.length ∧ openE e (R.drop at_) = 0 then (openB e (R.drop at_), at_ + openN e (R.drop at_)) :: standA e f R k (beg f (at_ + openN e (R.drop at_))) else [] := fun R => rfl
    by_cases hc : at_ < T.length ∧ openE e (T.drop at_) = 0
    · have eT := e1 T
      rw [if_pos hc] at eT
      rw [eT] at h1 h2 h3
      have hx := h1 _ List.mem_cons_self
      have hx' : at_ + openN e (T.drop at_) ≤ E := hx
      have hp := openN_pos hc.2
      have hdt : (T.take E).drop at_ = (T.drop at_).take (E - at_) := by rw [List.drop_take]
      obtain ⟨o1, o2, o3⟩ := openE_take e he (T.drop at_) (by rw [List.length_drop]; omega) hc.2 (E - at_) (by omega)
      have eC := e1 (T.take E)
      rw [hdt, if_pos ⟨by rw [List.length_take]; omega, o1⟩, o2, o3] at eC
      rw [eC, eT]
      have hbb := beg_bounds f (at_ + openN e (T.drop at_)) hf
      congr 1
      refine standA_cut e f he hf T hT E k _ (by omega) (fun x hx => h1 x (List.mem_cons_of_mem _ hx)) (fun hn => ?_) (fun x hx => ?_) hE
      · rw [hn] at h3
        have : at_ + openN e (T.drop at_) = E := h3 _ rfl
        omega
      · refine h3 x ?_
        cases hs : standA e f T k (beg f (at_ + openN e (T.drop at_))) with
        | nil => rw [hs] at hx; simp at hx
        | cons y r =>
          rw [hs] at hx
          rw [List.getLast?_cons_cons]
          exact hx
    · have eT := e1 T
      rw [if_neg hc] at eT
      have hEa := h2 eT
      rw [eT, e1, if_neg]
      rintro ⟨q1, -⟩
      rw [List.length_take] at q1
      omega
theorem standR_cut (e f : Nat) (he : e < 4294967296) (hf : 12 ≤ f) (T : List UInt8) (hT : T.length ≤ 10000) : standR e f (T.take (lastEnd (standR e f T))) = standR e f T := by
  have hle := lastEnd_le e f T
  obtain ⟨E, hE⟩ : ∃ E, lastEnd (standR e f T) = E := ⟨_, rfl⟩
  rw [hE] at hle ⊢
  have hlast : ∀ x, (standR e f T).getLast? = some x → x.2 = E := fun x hx => by
    unfold lastEnd at hE
    rw [hx] at hE
    exact hE
  have hlen : (T.take E).length = E := by rw [List.length_take]; omega
  by_cases hn : standR e f T = []
  · have h0 : E = 0 := by rw [hn] at hE; exact hE.symm
    subst h0
    rw [hn]
    rfl
  have hrise : ∀ (k at_ : Nat) (x y : List UInt8 × Nat), x ∈ standA e f T k at_ → (standA e f T k at_).getLast? = some y → x.2 ≤ y.2 ∧ at_ ≤ y.2 := by
    intro k
    induction k with
    | zero => intro at_ x y hx; simp [standA] at hx
    | succ k ih =>
      intro at_ x y hx hy
      have e1 : standA e f T (k + 1) at_ = if at_ < T.length ∧ openE e (T.drop at_) = 0 then (openB e (T.drop at_), at_ + openN e (T.drop at_)) :: standA e f T k (beg f (at_ + openN e (T.drop at_))) else [] := rfl
      by_cases hc : at_ < T.length ∧ openE e (T.drop at_) = 0
      · rw [if_pos hc] at e1
        rw [e1] at hx hy
        have hbb := beg_bounds f (at_ + openN e (T.drop at_)) hf
        cases hs : standA e f T k (beg f (at_ + openN e (T.drop at_))) with
        | nil =>
          rw [hs] at hx hy
          simp at hx hy
          subst hx
          subst hy
          exact ⟨Nat.le_refl _, Nat.le_add_right _ _⟩
        | cons z r =>
          rw [hs] at hx hy
          rw [List.getLast?_cons_cons] at hy
          have h2 := ih (beg f (at_ + openN e (T.drop at_))) z y (by rw [hs]; exact List.mem_cons_self) (by rw [hs]; exact hy)
          rcases List.mem_cons.1 hx with rfl | hx
          · exact ⟨by show at_ + openN e (T.drop at_) ≤ y.2; omega, by omega⟩
          · have h3 := ih (beg f (at_ + openN e (T.drop at_))) x y (by rw [hs]; exact hx) (by rw [hs]; exact hy)
            exact ⟨h3.1, by omega⟩
      · rw [if_neg hc] at e1
        rw [e1] at hx
        simp at hx
  have hall : ∀ x ∈ standR e f T, x.2 ≤ E := fun x hx => by
    cases hg : (standR e f T).getLast? with
    | none => rw [List.getLast?_eq_none_iff] at hg; exact absurd hg hn
    | some y =>
      rw [← hlast y hg]
      exact (hrise _ _ x y hx hg).1
  have h := standA_cut e f he hf T hT E (T.length + 1) 0 (by omega) hall (fun h => absurd h hn) hlast hle
  have h2 : standR e f (T.take E) = standA e f (T.take E) (T.length + 1) 0 := by
    unfold standR
    rw [hlen]
    exact (standA_enough e f (T.take E) hf (T.length + 1) (E + 1) 0 (by rw [hlen]; omega) (by rw [hlen]; omega)).symm
  rw [h2, h]
  rfl
theorem write_lit {m : Mod} (hd : m.dark = false) (hf : m.fused = false) (i : Int) (b : List UInt8) : (m.write i b).dark = false ∧ (m.write i b).fused = false := by
  have hb : m.blown = false := by unfold Mod.blown; rw [hf]; rfl
  unfold Mod.write Mod.deed
  rw [if_neg (show ¬ m.blown = true by rw [hb]; simp)]
  split
  · rw [if_neg (by rw [hb]; simp)]
    exact ⟨hd, hf⟩
  · exact ⟨hd, hf⟩
theorem looks_part (m : Mod) (fr tt : Nat) (h2 : tt ≤ m.n) (i : Nat) (hi : i < tt - fr) : (looks m)[fr + i]? = some (look m (fr + i)) := by
  unfold looks
  rw [List.getElem?_map, List.getElem?_range (by omega)]
  rfl
theorem fields_opR (m : Mod) (e fr tt : Nat) : rowO (((List.range (tt - fr)).map fun i => look m (fr + i)).map (fldS e)) = opR m fr tt e := by
  unfold opR opF fldsC
  rw [List.map_map]
  rfl
end Go.Proofs.Ythoihlebplmcoaa
