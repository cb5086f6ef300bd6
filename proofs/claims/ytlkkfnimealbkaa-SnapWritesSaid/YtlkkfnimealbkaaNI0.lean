/- Plain: what writes leave on a disk; pages written one behind the other. -/
import Derived.Test.YtlkkfnimealbkaaNH
import Derived.Test.YtlkkfnimealbkaaJS
namespace Go.Proofs.Ytlkkfnimealbkaa
open Go.RowKit
set_option linter.unusedVariables false
theorem bit_ones (n : Nat) : bit ones n = true := by
  have h : ∀ k : Fin 64, bit ones k.val = true := by decide +kernel
  have := h ⟨n % 64, Nat.mod_lt _ (by omega)⟩
  unfold bit at *
  simpa using this
theorem deed_same {m : Mod} (h : m.blown = false) : m.deed.n = m.n ∧ m.deed.size = m.size ∧ m.deed.waits = m.waits ∧ m.deed.fused = m.fused ∧ m.deed.dark = m.dark ∧ m.deed.cont = m.cont := by
  unfold Mod.deed
  rw [if_neg (by rw [h]; simp)]
  exact ⟨rfl, rfl, rfl, rfl, rfl, rfl⟩
theorem write_ok {m : Mod} {i : Nat} {b : List UInt8} (h : m.writeR (i : Nat) b.length = 0) :
    (m.write (i : Nat) b).n = m.n ∧ (m.write (i : Nat) b).size = m.size ∧ (m.write (i : Nat) b).fused = m.fused ∧ (m.write (i : Nat) b).dark = false ∧ ∀ p k, (m.write (i : Nat) b).cont p k = if k = i ∧ bit p m.waits = true then b else m.cont p k := by
  have ht : m.takes (i : Nat) b.length = 0 := by
    unfold Mod.writeR at h
    split at h
    · assumption
    · exact h
  have hb : m.blown = false := by
    unfold Mod.writeR at h
    rw [if_pos ht] at h
    cases hb : m.blown with
    | false => rfl
    | true => rw [hb] at h; simp at h
  have hd : m.dark = false := by
    unfold Mod.takes at ht
    cases hd : m.dark with
    | false => rfl
    | true => rw [hd] at ht; simp at ht
  obtain ⟨d1, d2, d3, d4, d5, d6⟩ := deed_same hb
  unfold Mod.write
  rw [if_pos ht, if_neg (by rw [hb]; simp)]
  refine ⟨d1, d2, d4, d5.trans hd, fun p k => ?_⟩
  show (if (k : Int) = (i : Nat) ∧ _ then b else m.cont p k) = _
  simp only [Int.natCast_inj]
theorem write_no {m : Mod} {i : Nat} {b : List UInt8} (hd : m.dark = false) (hi : i < m.n) (hl : b.length ≤ m.size) (h : m.writeR (i : Nat) b.length ≠ 0) :
    m.writeR (i : Nat) b.length = 17 ∧ m.write (i : Nat) b = { m with dark := true } := by
  have ht : m.takes (i : Nat) b.length = 0 := by
    unfold Mod.takes
    rw [hd, if_neg (by simp), if_neg (by omega)]
  unfold Mod.writeR at *
  rw [if_pos ht] at *
  cases hb : m.blown with
  | false => rw [hb] at h; simp at h
  | true =>
    refine ⟨by simp, ?_⟩
    unfold Mod.write Mod.deed
    rw [if_pos ht, if_pos hb, if_pos hb]
theorem flush_ok {m : Mod} (h : m.flushR = 0) : m.flush.n = m.n ∧ m.flush.size = m.size ∧ m.flush.fused = m.fused ∧ m.flush.dark = false ∧ m.flush.waits = 0 ∧ ∀ p k, m.flush.cont p k = m.cont ones k := by
  unfold Mod.flushR at h
  have hd : m.dark = false := by
    cases hd : m.dark with
    | false => rfl
    | true => rw [hd] at h; simp at h
  rw [hd, if_neg (by simp)] at h
  have hb : m.blown = false := by
    cases hb : m.blown with
    | false => rfl
    | true => rw [hb] at h; simp at h
  obtain ⟨d1, d2, d3, d4, d5, d6⟩ := deed_same hb
  unfold Mod.flush
  rw [if_neg (by rw [hd]; simp), if_neg (by rw [hb]; simp)]
  exact ⟨d1, d2, d4, d5.trans hd, rfl, fun _ _ => rfl⟩
theorem flush_no {m : Mod} (hd : m.dark = false) (h : m.flushR ≠ 0) : m.flushR = 17 ∧ m.flush = { m with dark := true } := by
  unfold Mod.flushR at h ⊢
  rw [hd, if_neg (by simp)] at h ⊢
  cases hb : m.blown with
  | false => rw [hb] at h; simp at h
  | true =>
    refine ⟨by simp, ?_⟩
    unfold Mod.flush Mod.deed
    rw [if_neg (by rw [hd]; simp), if_pos hb, if_pos hb]
theorem no_err_w {m : Mod} {i : Nat} {b : List UInt8} (hd : m.dark = false) (hi : i < m.n) (hl : b.length ≤ m.size) (hf : m.fused = false) : m.writeR (i : Nat) b.length = 0 := by
  have ht : m.takes (i : Nat) b.length = 0 := by
    unfold Mod.takes
    rw [hd, if_neg (by simp), if_neg (by omega)]
  unfold Mod.writeR Mod.blown
  rw [if_pos ht, hf]
  rfl
theorem no_err_f {m : Mod} (hd : m.dark = false) (hf : m.fused = false) : m.flushR = 0 := by
  unfold Mod.flushR Mod.blown
  rw [hd, hf]
  rfl
/-- so many deeds more may be done. -/
structure LowS (m : Mod) (n : Nat) : Prop where
  waits : m.waits + n ≤ 1000000
  deeds : m.deeds + n ≤ 4611686018427387904
  fuse : m.fuse ≤ 9223372036854775807
theorem LowS.low {m : Mod} {n : Nat} (h : LowS m (n + 1)) : m.Low := ⟨by have := h.waits; omega, by have := h.deeds; omega, h.fuse⟩
theorem LowS.mono {m : Mod} {n k : Nat} (h : LowS m n) (hk : k ≤ n) : LowS m k := ⟨by have := h.waits; omega, by have := h.deeds; omega, h.fuse⟩
theorem deed_fuse (m : Mod) : m.deed.fuse ≤ m.fuse ∧ m.deed.deeds ≤ m.deeds + 1 ∧ m.deed.waits = m.waits := by
  unfold Mod.deed
  split
  · exact ⟨Nat.le_refl _, Nat.le_succ _, rfl⟩
  · refine ⟨?_, Nat.le_refl _, rfl⟩
    show (if m.fused = true then m.fuse - 1 else m.fuse) ≤ m.fuse
    split <;> omega
theorem LowS.write {m : Mod} {n : Nat} (h : LowS m (n + 1)) (i : Int) (b : List UInt8) : LowS (m.write i b) n := by
  obtain ⟨h1, h2, h3⟩ := h
  obtain ⟨k1, k2, k3⟩ := deed_fuse m
  unfold Mod.write
  split
  · split
    · exact ⟨by omega, by omega, by omega⟩
    · exact ⟨by show m.waits + 1 + n ≤ _; omega, by show m.deed.deeds + n ≤ _; omega, by show m.deed.fuse ≤ _; omega⟩
  · exact ⟨by omega, by omega, by omega⟩
theorem LowS.flush {m : Mod} {n : Nat} (h : LowS m (n + 1)) : LowS m.flush n := by
  obtain ⟨h1, h2, h3⟩ := h
  obtain ⟨k1, k2, k3⟩ := deed_fuse m
  unfold Mod.flush
  split
  · exact ⟨by omega, by omega, by omega⟩
  · split
    · exact ⟨by omega, by omega, by omega⟩
    · exact ⟨by show 0 + n ≤ _; omega, by show m.deed.deeds + n ≤ _; omega, by show m.deed.fuse ≤ _; omega⟩
theorem write_waits {m : Mod} {i : Nat} {b : List UInt8} (h : m.writeR (i : Nat) b.length = 0) : (m.write (i : Nat) b).waits = m.waits + 1 := by
  have ht : m.takes (i : Nat) b.length = 0 := by
    unfold Mod.writeR at h
    split at h
    · assumption
    · exact h
  have hb : m.blown = false := by
    unfold Mod.writeR at h
    rw [if_pos ht] at h
    cases hb : m.blown with
    | false => rfl
    | true => rw [hb] at h; simp at h
  unfold Mod.write
  rw [if_pos ht, if_neg (by rw [hb]; simp)]
/-- pages are written, one behind the other, until one may not be. -/
def wrP (fr size : Nat) : Nat → Mod → List (List (List UInt8)) → Mod × Int
  | _, m, [] => (m, 0)
  | i, m, L :: r => if m.writeR ((fr + i : Nat) : Int) (Pag.pageB size L).length = 0 then wrP fr size (i + 1) (m.write ((fr + i : Nat) : Int) (Pag.pageB size L)) r else (m.write ((fr + i : Nat) : Int) (Pag.pageB size L), m.writeR ((fr + i : Nat) : Int) (Pag.pageB size L).length)
theorem wrP_lit (fr size : Nat) : ∀ (Ls : List (List (List UInt8))) (i : Nat) (m : Mod), m.dark = false → m.fused = false → m.size = size → fr + i + Ls.length ≤ m.n → (∀ L ∈ Ls, (Pag.pageB size L).length = size) →
    (wrP fr size i m Ls).2 = 0 ∧ (wrP fr size i m Ls).1.dark = false ∧ (wrP fr size i m Ls).1.fused = false ∧ (wrP fr size i m Ls).1.n = m.n ∧ (wrP fr size i m Ls).1.size = m.size ∧ (wrP fr size i m Ls).1.waits = m.waits + Ls.length ∧
      ∀ k, (wrP fr size i m Ls).1.cont ones k = if fr + i ≤ k ∧ k < fr + i + Ls.length then Pag.pageB size (Ls.getD (k - (fr + i)) []) else m.cont ones k
  | [], i, m, hd, hf, hs, hn, hL => ⟨rfl, hd, hf, rfl, rfl, rfl, fun k => by show m.cont ones k = _; rw [if_neg (by simp)]⟩
  | L :: r, i, m, hd, hf, hs, hn, hL => by
    have hpl := hL L (by simp)
    have hlen : (L :: r).length = r.length + 1 := rfl
    rw [hlen] at hn ⊢
    have h0 : m.writeR ((fr + i : Nat) : Int) (Pag.pageB size L).length = 0 := no_err_w hd (by omega) (by omega) hf
    have e : wrP fr size i m (L :: r) = wrP fr size (i + 1) (m.write ((fr + i : Nat) : Int) (Pag.pageB size L)) r := if_pos h0
    rw [e]
    obtain ⟨c1, c2, c3, c4, c5⟩ := write_ok h0
    have c6 := write_waits h0
    obtain ⟨g1, g2, g3, g4, g5, g6, g7⟩ := wrP_lit fr size r (i + 1) _ c4 (c3.trans hf) (c2.trans hs) (by rw [c1]; omega) (fun L' h' => hL L' (by simp [h']))
    refine ⟨g1, g2, g3, g4.trans c1, g5.trans c2, by rw [g6, c6]; omega, fun k => ?_⟩
    rw [g7 k]
    by_cases h1 : fr + (i + 1) ≤ k ∧ k < fr + (i + 1) + r.length
    · rw [if_pos h1, if_pos ⟨by omega, by omega⟩, show k - (fr + i) = (k - (fr + (i + 1))) + 1 by omega, List.getD_cons_succ]
    · rw [if_neg h1, c5]
      by_cases hk : k = fr + i
      · subst hk
        rw [if_pos ⟨rfl, bit_ones _⟩, if_pos ⟨by omega, by omega⟩, Nat.sub_self, List.getD_cons_zero]
      · rw [if_neg fun h => hk h.1, if_neg fun h => h1 ⟨by omega, by omega⟩]
end Go.Proofs.Ytlkkfnimealbkaa
