/- Plain: what the calls of a journal leave on a disk that may go dark. -/
import Derived.Test.YthoihlebplmcoaaJU
namespace Go.Proofs.Ythoihlebplmcoaa
open Go.RowKit
set_option linter.unusedVariables false
theorem bit_ones (n : Nat) : bit ones n = true := by
  have h : ∀ k : Fin 64, bit ones k.val = true := by decide +kernel
  have := h ⟨n % 64, Nat.mod_lt _ (by omega)⟩
  unfold bit at *
  simpa using this
theorem deed_same {m : Mod} (h : m.blown = false) : m.deed.n = m.n ∧ m.deed.size = m.size ∧ m.deed.waits = m.waits ∧ m.deed.fused = m.fused ∧ m.deed.dark = m.dark ∧ m.deed.cont = m.cont := by
  unfold Mod.deed
  rw [if_neg (by rw [h]; simp)]
  exact ⟨rfl, rfl, rfl, rfl, rfl, rfl⟩
theorem write_ok {m : Mod} {i : Nat} {b : List UInt8} (h : m.writeR (i : Nat) b.length = 0) :
    (m.write (i : Nat) b).n = m.n ∧ (m.write (i : Nat) b).size = m.size ∧ (m.write (i : Nat) b).fused = m.fused ∧ (m.write (i : Nat) b).dark = false ∧ ∀ p k, (m.write (i : Nat) b).cont p k = if k = i ∧ bit p m.waits = true then b else m.cont p k := by
  have ht : m.takes (i : Nat) b.length = 0 := by
    unfold Mod.writeR at h
    split at h
    · assumption
    · exact h
  have hb : m.blown = false := by
    unfold Mod.writeR at h
    rw [if_pos ht] at h
    cases hb : m.blown with
    | false => rfl
    | true => rw [hb] at h; simp at h
  have hd : m.dark = false := by
    unfold Mod.takes at ht
    cases hd : m.dark with
    | false => rfl
    | true => rw [hd] at ht; simp at ht
  obtain ⟨d1, d2, d3, d4, d5, d6⟩ := deed_same hb
  unfold Mod.write
  rw [if_pos ht, if_neg (by rw [hb]; simp)]
  refine ⟨d1, d2, d4, d5.trans hd, fun p k => ?_⟩
  show (if (k : Int) = (i : Nat) ∧ _ then b else m.cont p k) = _
  simp only [Int.natCast_inj]
theorem write_no {m : Mod} {i : Nat} {b : List UInt8} (hd : m.dark = false) (hi : i < m.n) (hl : b.length ≤ m.size) (h : m.writeR (i : Nat) b.length ≠ 0) :
    m.writeR (i : Nat) b.length = 17 ∧ m.write (i : Nat) b = { m with dark := true } := by
  have ht : m.takes (i : Nat) b.length = 0 := by
    unfold Mod.takes
    rw [hd, if_neg (by simp), if_neg (by omega)]
  unfold Mod.writeR at *
  rw [if_pos ht] at *
  cases hb : m.blown with
  | false => rw [hb] at h; simp at h
  | true =>
    refine ⟨by simp, ?_⟩
    unfold Mod.write Mod.deed
    rw [if_pos ht, if_pos hb, if_pos hb]
theorem flush_ok {m : Mod} (h : m.flushR = 0) : m.flush.n = m.n ∧ m.flush.size = m.size ∧ m.flush.fused = m.fused ∧ m.flush.dark = false ∧ m.flush.waits = 0 ∧ ∀ p k, m.flush.cont p k = m.cont ones k := by
  unfold Mod.flushR at h
  have hd : m.dark = false := by
    cases hd : m.dark with
    | false => rfl
    | true => rw [hd] at h; simp at h
  rw [hd, if_neg (by simp)] at h
  have hb : m.blown = false := by
    cases hb : m.blown with
    | false => rfl
    | true => rw [hb] at h; simp at h
  obtain ⟨d1, d2, d3, d4, d5, d6⟩ := deed_same hb
  unfold Mod.flush
  rw [if_neg (by rw [hd]; simp), if_neg (by rw [hb]; simp)]
  exact ⟨d1, d2, d4, d5.trans hd, rfl, fun _ _ => rfl⟩
theorem flush_no {m : Mod} (hd : m.dark = false) (h : m.flushR ≠ 0) : m.flushR = 17 ∧ m.flush = { m with dark := true } := by
  unfold Mod.flushR at h ⊢
  rw [hd, if_neg (by simp)] at h ⊢
  cases hb : m.blown with
  | false => rw [hb] at h; simp at h
  | true =>
    refine ⟨by simp, ?_⟩
    unfold Mod.flush Mod.deed
    rw [if_neg (by rw [hd]; simp), if_pos hb, if_pos hb]
/-- nothing waits; the sectors have these bytes. -/
structure Quiet (m : Mod) (c : Nat → List UInt8) : Prop where
  waits : m.waits = 0
  dark : m.dark = false
  cont : ∀ p k, m.cont p k = c k
/-- some sectors were written, and wait. -/
structure Mx (m : Mod) (c : Nat → List UInt8) (N : Nat → Option (List UInt8)) : Prop where
  dark : m.dark = false
  any : ∀ p k, m.cont p k = c k ∨ N k = some (m.cont p k)
  seen : ∀ k, m.cont ones k = (N k).getD (c k)
def updN (N : Nat → Option (List UInt8)) (i : Nat) (b : List UInt8) : Nat → Option (List UInt8) := fun k => if k = i then some b else N k
def over (N : Nat → Option (List UInt8)) (c : Nat → List UInt8) (k : Nat) : List UInt8 := (N k).getD (c k)
/-- what may stand, when it went dark. -/
def Torn (m : Mod) (c : Nat → List UInt8) (N : Nat → Option (List UInt8)) : Prop := m.dark = true ∧ ∀ p k, m.cont p k = c k ∨ N k = some (m.cont p k)
theorem Quiet.mx {m : Mod} {c : Nat → List UInt8} (h : Quiet m c) : Mx m c (fun _ => none) := ⟨h.dark, fun p k => .inl (h.cont p k), fun k => h.cont ones k⟩
theorem Quiet.crash {m : Mod} (p : Nat) : Quiet (m.crash p) (fun k => m.cont p k) := ⟨rfl, rfl, fun _ _ => rfl⟩
section
variable {m : Mod} {c : Nat → List UInt8} {N : Nat → Option (List UInt8)}
theorem Mx.torn (h : Mx m c N) : Torn { m with dark := true } c N := ⟨rfl, h.any⟩
theorem Mx.write (h : Mx m c N) {i : Nat} {b : List UInt8} (hN : N i = none) (h0 : m.writeR (i : Nat) b.length = 0) : Mx (m.write (i : Nat) b) c (updN N i b) := by
  obtain ⟨_, _, _, w4, w5⟩ := write_ok h0
  refine ⟨w4, fun p k => ?_, fun k => ?_⟩
  · rw [w5]
    unfold updN
    by_cases hk : k = i
    · by_cases hb : bit p m.waits = true
      · right; rw [if_pos hk, if_pos ⟨hk, hb⟩]
      · left
        rw [if_neg (fun hh => hb hh.2)]
        rcases h.any p k with e | e
        · exact e
        · rw [hk, hN] at e; cases e
    · rw [if_neg (fun hh => hk hh.1), if_neg hk]
      exact h.any p k
  · rw [w5, bit_ones]
    unfold updN
    by_cases hk : k = i
    · rw [if_pos hk, if_pos ⟨hk, rfl⟩]; rfl
    · rw [if_neg hk, if_neg (fun hh => hk hh.1)]; exact h.seen k
theorem Mx.flush (h : Mx m c N) (h0 : m.flushR = 0) : Quiet m.flush (over N c) := by
  obtain ⟨_, _, _, f4, f5, f6⟩ := flush_ok h0
  exact ⟨f5, f4, fun p k => by rw [f6]; exact h.seen k⟩
end
/-- which sectors clear writes. -/
def addN (fr : Nat) (has : Nat → Bool) : (Nat → Option (List UInt8)) → Nat → Nat → (Nat → Option (List UInt8))
  | N, _, 0 => N
  | N, i, n + 1 => addN fr has (if has i then updN N (fr + i) [] else N) (i + 1) n
theorem addN_at (fr : Nat) (has : Nat → Bool) : ∀ (n i : Nat) (N : Nat → Option (List UInt8)) (j : Nat), addN fr has N i n (fr + j) = if i ≤ j ∧ j < i + n ∧ has j = true then some [] else N (fr + j)
  | 0, i, N, j => by rw [if_neg (by omega)]; rfl
  | n + 1, i, N, j => by
    show addN fr has (if has i then updN N (fr + i) [] else N) (i + 1) n (fr + j) = _
    rw [addN_at fr has n (i + 1) _ j]
    by_cases hij : i = j
    · subst hij
      rw [if_neg (by omega)]
      by_cases hh : has i = true
      · rw [if_pos hh, if_pos ⟨Nat.le_refl _, by omega, hh⟩]
        unfold updN
        rw [if_pos rfl]
      · rw [if_neg hh, if_neg (fun x => hh x.2.2)]
    · have e1 : (if has i then updN N (fr + i) [] else N) (fr + j) = N (fr + j) := by
        split
        · unfold updN; rw [if_neg (by omega)]
        · rfl
      rw [e1]
      by_cases hc : i + 1 ≤ j ∧ j < i + 1 + n ∧ has j = true
      · rw [if_pos hc, if_pos ⟨by omega, by omega, hc.2.2⟩]
      · rw [if_neg hc, if_neg (fun x => hc ⟨by omega, by omega, x.2.2⟩)]
theorem addN_low (fr : Nat) (has : Nat → Bool) : ∀ (n i : Nat) (N : Nat → Option (List UInt8)) (k : Nat), k < fr → addN fr has N i n k = N k
  | 0, i, N, k, _ => rfl
  | n + 1, i, N, k, h => by
    show addN fr has (if has i then updN N (fr + i) [] else N) (i + 1) n k = _
    rw [addN_low fr has n (i + 1) _ k h]
    split
    · unfold updN; rw [if_neg (by omega)]
    · rfl
theorem addN_mono (fr : Nat) (has : Nat → Bool) (n i : Nat) (N : Nat → Option (List UInt8)) (hN : ∀ j, i ≤ j → N (fr + j) = none) (k : Nat) (b : List UInt8) (h : N k = some b) : addN fr has N i n k = some b := by
  by_cases hk : k < fr
  · rw [addN_low fr has n i N k hk]; exact h
  · obtain ⟨j, rfl⟩ : ∃ j, k = fr + j := ⟨k - fr, by omega⟩
    rw [addN_at, if_neg]
    · exact h
    · rintro ⟨h1, _⟩
      rw [hN j h1] at h
      cases h
theorem clrF_out (fr : Nat) (has : Nat → Bool) (c : Nat → List UInt8) : ∀ (n i : Nat) (m : Mod) (N : Nat → Option (List UInt8)) (wt : Bool), Mx m c N → (∀ j, i ≤ j → N (fr + j) = none) → fr + i + n ≤ m.n → (wt = false → Quiet m c ∧ ∀ k, N k = none) →
    ((clrF fr has m wt i n).2 = 0 → Quiet (clrF fr has m wt i n).1 (over (addN fr has N i n) c) ∧ (clrF fr has m wt i n).1.fused = m.fused) ∧
    ((clrF fr has m wt i n).2 ≠ 0 → (clrF fr has m wt i n).2 = 17 ∧ Torn (clrF fr has m wt i n).1 c (addN fr has N i n) ∧ m.fused = true) ∧
    (clrF fr has m wt i n).1.n = m.n ∧ (clrF fr has m wt i n).1.size = m.size
  | 0, i, m, N, wt, hm, hN, hn, hw => by
    show ((if wt then (m.flush, m.flushR) else (m, 0) : Mod × Int).2 = 0 → _) ∧ _
    cases wt with
    | false =>
      obtain ⟨h1, h2⟩ := hw rfl
      have e1 : clrF fr has m false i 0 = (m, 0) := rfl
      rw [e1]
      refine ⟨fun _ => ⟨⟨h1.waits, h1.dark, fun p k => ?_⟩, rfl⟩, fun h => absurd rfl h, rfl, rfl⟩
      show _ = (N k).getD (c k)
      rw [h2 k]
      exact h1.cont p k
    | true =>
      have e1 : clrF fr has m true i 0 = (m.flush, m.flushR) := rfl
      rw [e1]
      refine ⟨fun h => ⟨hm.flush h, (flush_ok h).2.2.1⟩, fun h => ?_, (mod_flush_n m).1, (mod_flush_n m).2⟩
      obtain ⟨f1, f2⟩ := flush_no hm.dark h
      refine ⟨f1, ?_, ?_⟩
      · show Torn m.flush c N
        rw [f2]
        exact hm.torn
      · cases hf : m.fused with
        | true => rfl
        | false =>
          exfalso
          apply h
          show m.flushR = 0
          unfold Mod.flushR Mod.blown
          rw [hm.dark, hf]
          rfl
  | n + 1, i, m, N, wt, hm, hN, hn, hw => by
    by_cases hh : has i = true
    · by_cases hr : m.writeR ((fr + i : Nat) : Int) (0 : Nat) = 0
      · have e1 : clrF fr has m wt i (n + 1) = clrF fr has (m.write ((fr + i : Nat) : Int) []) true (i + 1) n := by
          show (if has i then (if _ = 0 then _ else _) else _) = _
          rw [if_pos hh, if_pos hr]
        have e2 : addN fr has N i (n + 1) = addN fr has (updN N (fr + i) []) (i + 1) n := by
          show addN fr has (if has i then updN N (fr + i) [] else N) (i + 1) n = _
          rw [if_pos hh]
        obtain ⟨w1, w2, w3, w4, w5⟩ := write_ok (m := m) (i := fr + i) (b := []) hr
        have ih := clrF_out fr has c n (i + 1) _ (updN N (fr + i) []) true (hm.write (hN i (Nat.le_refl _)) hr) (fun j hj => by unfold updN; rw [if_neg (by omega)]; exact hN j (by omega)) (by rw [w1]; omega) (fun h => by cases h)
        rw [e1, e2, ← w1, ← w2, ← w3]
        exact ih
      · have e1 : clrF fr has m wt i (n + 1) = (m.write ((fr + i : Nat) : Int) [], m.writeR ((fr + i : Nat) : Int) (0 : Nat)) := by
          show (if has i then (if _ = 0 then _ else _) else _) = _
          rw [if_pos hh, if_neg hr]
        obtain ⟨w1, w2⟩ := write_no (m := m) (i := fr + i) (b := []) hm.dark (by omega) (by simp) hr
        rw [e1]
        refine ⟨fun h => absurd h hr, fun _ => ⟨w1, ?_, ?_⟩, (mod_write_n _ _ _).1, (mod_write_n _ _ _).2⟩
        · show Torn (m.write _ []) c _
          rw [w2]
          refine ⟨rfl, fun p k => ?_⟩
          rcases hm.any p k with e | e
          · exact .inl e
          · exact .inr (addN_mono fr has (n + 1) i N hN k _ e)
        · cases hf : m.fused with
          | true => rfl
          | false =>
            exfalso
            apply hr
            have ht : m.takes ((fr + i : Nat) : Int) (0 : Nat) = 0 := by
              unfold Mod.takes
              rw [hm.dark, if_neg (by simp), if_neg (by omega)]
            unfold Mod.writeR Mod.blown
            rw [if_pos ht, hf]
            rfl
    · have e1 : clrF fr has m wt i (n + 1) = clrF fr has m wt (i + 1) n := by
        show (if has i then (if _ = 0 then _ else _) else _) = _
        rw [if_neg hh]
      have e2 : addN fr has N i (n + 1) = addN fr has N (i + 1) n := by
        show addN fr has (if has i then updN N (fr + i) [] else N) (i + 1) n = _
        rw [if_neg hh]
      rw [e1, e2]
      exact clrF_out fr has c n (i + 1) m N wt hm (fun j hj => hN j (by omega)) (by omega) hw
end Go.Proofs.Ythoihlebplmcoaa
