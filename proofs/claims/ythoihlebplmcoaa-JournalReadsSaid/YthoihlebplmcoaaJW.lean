/- Plain: what a commit leaves. -/
import Derived.Test.YthoihlebplmcoaaJV
namespace Go.Proofs.Ythoihlebplmcoaa
open Go.RowKit
set_option linter.unusedVariables false
theorem no_err_w {m : Mod} {i : Nat} {b : List UInt8} (hd : m.dark = false) (hi : i < m.n) (hl : b.length ≤ m.size) (hf : m.fused = false) : m.writeR (i : Nat) b.length = 0 := by
  have ht : m.takes (i : Nat) b.length = 0 := by
    unfold Mod.takes
    rw [hd, if_neg (by simp), if_neg (by omega)]
  unfold Mod.writeR Mod.blown
  rw [if_pos ht, hf]
  rfl
theorem no_err_f {m : Mod} (hd : m.dark = false) (hf : m.fused = false) : m.flushR = 0 := by
  unfold Mod.flushR Mod.blown
  rw [hd, hf]
  rfl
def putN (J : Jd) : (Nat → Option (List UInt8)) → Nat → Nat → (Nat → Option (List UInt8))
  | N, _, 0 => N
  | N, i, n + 1 => putN J (updN N (J.fr + i) (J.sec i)) (i + 1) n
theorem putN_at (J : Jd) : ∀ (n i : Nat) (N : Nat → Option (List UInt8)) (j : Nat), putN J N i n (J.fr + j) = if i ≤ j ∧ j < i + n then some (J.sec j) else N (J.fr + j)
  | 0, i, N, j => by rw [if_neg (by omega)]; rfl
  | n + 1, i, N, j => by
    show putN J (updN N (J.fr + i) (J.sec i)) (i + 1) n (J.fr + j) = _
    rw [putN_at J n (i + 1) _ j]
    by_cases hij : i = j
    · subst hij
      rw [if_neg (by omega), if_pos ⟨Nat.le_refl _, by omega⟩]
      unfold updN
      rw [if_pos rfl]
    · have e1 : updN N (J.fr + i) (J.sec i) (J.fr + j) = N (J.fr + j) := by unfold updN; rw [if_neg (by omega)]
      rw [e1]
      by_cases hc : i + 1 ≤ j ∧ j < i + 1 + n
      · rw [if_pos hc, if_pos ⟨by omega, by omega⟩]
      · rw [if_neg hc, if_neg (fun x => hc ⟨by omega, by omega⟩)]
theorem putN_mono (J : Jd) : ∀ (n i : Nat) (N : Nat → Option (List UInt8)), (∀ j, i ≤ j → N (J.fr + j) = none) → ∀ (k : Nat) (b : List UInt8), N k = some b → putN J N i n k = some b
  | 0, _, _, _, _, _, h => h
  | n + 1, i, N, hN, k, b, h => by
    show putN J (updN N (J.fr + i) (J.sec i)) (i + 1) n k = _
    refine putN_mono J n (i + 1) _ (fun j hj => by unfold updN; rw [if_neg (by omega)]; exact hN j (by omega)) k b ?_
    unfold updN
    rw [if_neg, h]
    intro e
    subst e
    rw [hN i (Nat.le_refl _)] at h
    cases h
theorem putsM_out (J : Jd) (c : Nat → List UInt8) : ∀ (n i : Nat) (m : Mod) (N : Nat → Option (List UInt8)), Mx m c N → (∀ j, i ≤ j → N (J.fr + j) = none) → J.fr + i + n ≤ m.n → (∀ j, (J.sec j).length ≤ m.size) →
    ((putsM J m i n).2 = 0 → Mx (putsM J m i n).1 c (putN J N i n) ∧ (putsM J m i n).1.fused = m.fused) ∧
    ((putsM J m i n).2 ≠ 0 → (putsM J m i n).2 = 17 ∧ Torn (putsM J m i n).1 c (putN J N i n) ∧ m.fused = true) ∧
    (putsM J m i n).1.n = m.n ∧ (putsM J m i n).1.size = m.size
  | 0, i, m, N, hm, hN, hn, hz => ⟨fun _ => ⟨hm, rfl⟩, fun h => absurd rfl h, rfl, rfl⟩
  | n + 1, i, m, N, hm, hN, hn, hz => by
    have hst : putsM J m i (n + 1) = if putR J m i = 0 then putsM J (putM J m i) (i + 1) n else (putM J m i, putR J m i) := rfl
    by_cases hr : putR J m i = 0
    · rw [if_pos hr] at hst
      rw [hst]
      obtain ⟨w1, w2, w3, w4, w5⟩ := write_ok (m := m) (i := J.fr + i) (b := J.sec i) hr
      have ih := putsM_out J c n (i + 1) (putM J m i) (updN N (J.fr + i) (J.sec i)) (hm.write (hN i (Nat.le_refl _)) hr) (fun j hj => by unfold updN; rw [if_neg (by omega)]; exact hN j (by omega)) (by show J.fr + (i + 1) + n ≤ (m.write _ _).n; rw [w1]; omega) (fun j => by show _ ≤ (m.write _ _).size; rw [w2]; exact hz j)
      rw [← w1, ← w2, ← w3]
      exact ih
    · rw [if_neg hr] at hst
      rw [hst]
      obtain ⟨w1, w2⟩ := write_no (m := m) (i := J.fr + i) (b := J.sec i) hm.dark (by omega) (hz i) hr
      refine ⟨fun h => absurd h hr, fun _ => ⟨w1, ?_, ?_⟩, (mod_write_n _ _ _).1, (mod_write_n _ _ _).2⟩
      · show Torn (m.write _ _) c _
        rw [w2]
        refine ⟨rfl, fun p k => ?_⟩
        rcases hm.any p k with e | e
        · exact .inl e
        · exact .inr (putN_mono J (n + 1) i N hN k _ e)
      · cases hf : m.fused with
        | true => rfl
        | false => exact absurd (no_err_w hm.dark (by omega) (hz i) hf) hr
/-- what a commit leaves: all that was to be written; or, when it went dark, all but the first sector's may stand or not, or all but the first one's stand, which may or may not. -/
theorem wrM_out {J : Jd} {m : Mod} {c : Nat → List UInt8} (h : Quiet m c) (hb : J.fr + J.last ≤ m.n) (hfl : J.first < J.last) (hz : ∀ j, (J.sec j).length ≤ m.size) :
    ((wrM J m).2 = 0 → ∃ c', Quiet (wrM J m).1 c' ∧ (wrM J m).1.fused = m.fused ∧ ∀ j, c' (J.fr + j) = if J.first ≤ j ∧ j < J.last then J.sec j else c (J.fr + j)) ∧
    ((wrM J m).2 ≠ 0 → (wrM J m).2 = 17 ∧ (wrM J m).1.dark = true ∧ m.fused = true ∧ ∀ p,
      (∀ j, (J.first < j ∧ j < J.last ∧ (wrM J m).1.cont p (J.fr + j) = J.sec j) ∨ (wrM J m).1.cont p (J.fr + j) = c (J.fr + j)) ∨
      (∀ j, (wrM J m).1.cont p (J.fr + j) = if J.first ≤ j ∧ j < J.last then J.sec j else c (J.fr + j))) ∧
    (wrM J m).1.n = m.n ∧ (wrM J m).1.size = m.size := by
  obtain ⟨p1, p2, p3, p4⟩ := putsM_out J c (J.last - (J.first + 1)) (J.first + 1) m (fun _ => none) h.mx (fun _ _ => rfl) (by omega) hz
  have hput := putN_at J (J.last - (J.first + 1)) (J.first + 1) (fun _ => none)
  have hrng : ∀ j, (J.first + 1 ≤ j ∧ j < J.first + 1 + (J.last - (J.first + 1))) ↔ (J.first < j ∧ j < J.last) := fun j => by omega
  obtain ⟨x, hx⟩ : ∃ x, putsM J m (J.first + 1) (J.last - (J.first + 1)) = x := ⟨_, rfl⟩
  have hwr : wrM J m = andM x (tlM J) := by unfold wrM; rw [hx]
  rw [hx] at p1 p2 p3 p4
  obtain ⟨m1, r1⟩ := x
  dsimp only at p1 p2 p3 p4
  by_cases hr1 : r1 = 0
  · rw [andM_zero _ hr1] at hwr
    obtain ⟨q1, q2⟩ := p1 hr1
    -- the second step
    obtain ⟨y, hy⟩ : ∃ y : Mod × Int, (if J.first + 1 < J.last then (m1.flush, m1.flushR) else (m1, 0)) = y := ⟨_, rfl⟩
    have htl : tlM J m1 = andM y (tl2 J) := by unfold tlM; rw [hy]
    rw [htl] at hwr
    have hstep : (y.2 = 0 → ∃ c2, Quiet y.1 c2 ∧ y.1.fused = m.fused ∧ ∀ j, c2 (J.fr + j) = if J.first < j ∧ j < J.last then J.sec j else c (J.fr + j)) ∧ (y.2 ≠ 0 → y.2 = 17 ∧ y.1.dark = true ∧ m.fused = true ∧ ∀ p j, (J.first < j ∧ j < J.last ∧ y.1.cont p (J.fr + j) = J.sec j) ∨ y.1.cont p (J.fr + j) = c (J.fr + j)) ∧ y.1.n = m.n ∧ y.1.size = m.size := by
      by_cases h2 : J.first + 1 < J.last
      · rw [if_pos h2] at hy
        subst hy
        refine ⟨fun hr => ⟨_, q1.flush hr, (flush_ok hr).2.2.1.trans q2, fun j => ?_⟩, fun hr => ?_, (mod_flush_n m1).1.trans p3, (mod_flush_n m1).2.trans p4⟩
        · unfold over
          rw [hput]
          by_cases hc : J.first < j ∧ j < J.last
          · rw [if_pos ((hrng j).2 hc), if_pos hc]; rfl
          · rw [if_neg (fun x => hc ((hrng j).1 x)), if_neg hc]; rfl
        · obtain ⟨f1, f2⟩ := flush_no q1.dark hr
          refine ⟨f1, ?_, ?_, fun p j => ?_⟩
          · show m1.flush.dark = true
            rw [f2]
          · cases hf : m.fused with
            | true => rfl
            | false => exact absurd (no_err_f q1.dark (q2.trans hf)) hr
          · show _ ∨ m1.flush.cont p (J.fr + j) = _
            rw [f2]
            rcases q1.any p (J.fr + j) with e | e
            · exact .inr e
            · rw [hput] at e
              by_cases hc : J.first < j ∧ j < J.last
              · rw [if_pos ((hrng j).2 hc)] at e
                injection e with e
                exact .inl ⟨hc.1, hc.2, e.symm⟩
              · rw [if_neg (fun x => hc ((hrng j).1 x))] at e
                cases e
      · rw [if_neg h2] at hy
        subst hy
        have hx0 : J.last - (J.first + 1) = 0 := by omega
        rw [hx0] at hx
        have hm1 : m1 = m := by have := congrArg Prod.fst hx; exact this.symm
        subst hm1
        exact ⟨fun _ => ⟨c, h, rfl, fun j => by rw [if_neg (by omega)]⟩, fun hr => absurd rfl hr, rfl, rfl⟩
    obtain ⟨s1, s2, s3, s4⟩ := hstep
    obtain ⟨m2, r2⟩ := y
    dsimp only at s1 s2 s3 s4
    by_cases hr2 : r2 = 0
    · rw [andM_zero _ hr2] at hwr
      obtain ⟨c2, t1, t2, t3⟩ := s1 hr2
      have hz2 : (J.sec J.first).length ≤ m2.size := by rw [s4]; exact hz _
      have hi2 : J.fr + J.first < m2.n := by rw [s3]; omega
      have ht2 : tl2 J m2 = andM (putM J m2 J.first, putR J m2 J.first) fun m3 => (m3.flush, m3.flushR) := rfl
      rw [ht2] at hwr
      by_cases hr3 : putR J m2 J.first = 0
      · rw [andM_zero _ hr3] at hwr
        rw [hwr]
        have hm3 := t1.mx.write (i := J.fr + J.first) (b := J.sec J.first) rfl hr3
        obtain ⟨w1, w2, w3, w4, w5⟩ := write_ok (m := m2) (i := J.fr + J.first) (b := J.sec J.first) hr3
        have hfin : ∀ j, (if (J.fr + j = J.fr + J.first) then J.sec J.first else c2 (J.fr + j)) = if J.first ≤ j ∧ j < J.last then J.sec j else c (J.fr + j) := fun j => by
          by_cases hj : j = J.first
          · subst hj
            rw [if_pos rfl, if_pos ⟨Nat.le_refl _, hfl⟩]
          · rw [if_neg (by omega), t3]
            by_cases hc : J.first < j ∧ j < J.last
            · rw [if_pos hc, if_pos ⟨by omega, hc.2⟩]
            · rw [if_neg hc, if_neg (fun x => hc ⟨by omega, x.2⟩)]
        refine ⟨fun hr => ⟨_, hm3.flush hr, (flush_ok hr).2.2.1.trans (w3.trans t2), fun j => ?_⟩, fun hr => ?_, (mod_flush_n _).1.trans (w1.trans s3), (mod_flush_n _).2.trans (w2.trans s4)⟩
        · rw [← hfin j]
          unfold over updN
          split <;> rfl
        · obtain ⟨f1, f2⟩ := flush_no hm3.dark hr
          refine ⟨f1, ?_, ?_, fun p => ?_⟩
          · show (putM J m2 J.first).flush.dark = true
            rw [show (putM J m2 J.first).flush = _ from f2]
          · cases hf : m.fused with
            | true => rfl
            | false => exact absurd (no_err_f hm3.dark (w3.trans (t2.trans hf))) hr
          · show (∀ j, _ ∨ (putM J m2 J.first).flush.cont p (J.fr + j) = _) ∨ (∀ j, (putM J m2 J.first).flush.cont p (J.fr + j) = _)
            rw [show (putM J m2 J.first).flush = _ from f2]
            show (∀ j, (_ ∧ _ ∧ (m2.write _ _).cont p (J.fr + j) = _) ∨ (m2.write _ _).cont p (J.fr + j) = _) ∨ (∀ j, (m2.write _ _).cont p (J.fr + j) = _)
            by_cases hbit : bit p m2.waits = true
            · right
              intro j
              rw [w5, ← hfin j]
              by_cases hj : J.fr + j = J.fr + J.first
              · rw [if_pos ⟨hj, hbit⟩, if_pos hj]
              · rw [if_neg (fun x => hj x.1), if_neg hj]
                exact t1.cont p _
            · left
              intro j
              rw [w5, if_neg (fun x => hbit x.2), t1.cont p _, t3]
              by_cases hc : J.first < j ∧ j < J.last
              · rw [if_pos hc]; exact .inl ⟨hc.1, hc.2, rfl⟩
              · rw [if_neg hc]; exact .inr rfl
      · rw [andM_err _ hr3] at hwr
        rw [hwr]
        obtain ⟨w1, w2⟩ := write_no (m := m2) (i := J.fr + J.first) (b := J.sec J.first) t1.dark hi2 hz2 hr3
        refine ⟨fun hr => absurd hr hr3, fun _ => ⟨w1, ?_, ?_, fun p => .inl fun j => ?_⟩, (mod_write_n _ _ _).1.trans s3, (mod_write_n _ _ _).2.trans s4⟩
        · show (m2.write _ _).dark = true
          rw [w2]
        · cases hf : m.fused with
          | true => rfl
          | false => exact absurd (no_err_w t1.dark hi2 hz2 (t2.trans hf)) hr3
        · show (_ ∧ _ ∧ (m2.write _ _).cont p (J.fr + j) = _) ∨ (m2.write _ _).cont p (J.fr + j) = _
          rw [w2]
          show (_ ∧ _ ∧ m2.cont p (J.fr + j) = _) ∨ m2.cont p (J.fr + j) = _
          rw [t1.cont p _, t3]
          by_cases hc : J.first < j ∧ j < J.last
          · rw [if_pos hc]; exact .inl ⟨hc.1, hc.2, rfl⟩
          · rw [if_neg hc]; exact .inr rfl
    · rw [andM_err _ hr2] at hwr
      rw [hwr]
      obtain ⟨u1, u2, u3, u4⟩ := s2 hr2
      exact ⟨fun hr => absurd hr hr2, fun _ => ⟨u1, u2, u3, fun p => .inl (u4 p)⟩, s3, s4⟩
  · rw [andM_err _ hr1] at hwr
    rw [hwr]
    obtain ⟨u1, u2, u3⟩ := p2 hr1
    refine ⟨fun hr => absurd hr hr1, fun _ => ⟨u1, u2.1, u3, fun p => .inl fun j => ?_⟩, p3, p4⟩
    rcases u2.2 p (J.fr + j) with e | e
    · exact .inr e
    · rw [hput] at e
      by_cases hc : J.first < j ∧ j < J.last
      · rw [if_pos ((hrng j).2 hc)] at e
        injection e with e
        exact .inl ⟨hc.1, hc.2, e.symm⟩
      · rw [if_neg (fun x => hc ((hrng j).1 x))] at e
        cases e
end Go.Proofs.Ythoihlebplmcoaa
