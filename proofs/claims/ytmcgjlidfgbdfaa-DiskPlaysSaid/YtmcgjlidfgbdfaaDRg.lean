/- The disk and the reference beside each other (plain). -/
import Derived.Test.YtmcgjlidfgbdfaaDRe
import Derived.Test.YtmcgjlidfgbdfaaDRf
namespace Go.Proofs.Ytmcgjlidfgbdfaa
open Go.RowKit

structure Same (m : Mod) (r : Rf) : Prop where
  n : r.last.length = m.n
  size : r.size = m.size
  ws : r.ws.length = m.waits
  dark : r.dark = m.dark
  deeds : r.deeds = m.deeds
  fuse : r.fuse = if m.fused then (m.fuse : Int) else -1
  seen : ∀ p k, k < m.n → (seenR r.last r.ws p)[k]? = some (padS m.size (m.cont p k))
theorem seenR_length (last : List ByteArray) (ws : List (Nat × ByteArray)) (p : Nat) : (seenR last ws p).length = last.length := seenFrom_length p 0 ws last
theorem Same.blown {m : Mod} {r : Rf} (h : Same m r) : m.blown = decide (r.fuse = 0) := by
  unfold Mod.blown
  rw [h.fuse]
  cases m.fused <;> simp
theorem Same.new (p : Nat) (lv : Value) (n size : Nat) : Same (Mod.new n size) (newR p lv n size) := by
  refine ⟨by simp [newR, Mod.new], rfl, rfl, rfl, rfl, rfl, fun p k hk => ?_⟩
  show (List.replicate n _)[k]? = _
  rw [List.getElem?_replicate, if_pos (show k < n from hk)]
  show _ = some (padS size [])
  simp [padS, pad]
theorem Same.deed {m : Mod} {r : Rf} (h : Same m r) : Same m.deed (deedR r) := by
  have hb := h.blown
  unfold Mod.deed deedR
  rw [hb]
  by_cases hz : r.fuse = 0
  · simp only [hz, decide_true, if_true]
    exact ⟨h.n, h.size, h.ws, rfl, h.deeds, by rw [← hz]; exact h.fuse, h.seen⟩
  · simp only [hz, decide_false, if_false, Bool.false_eq_true]
    refine ⟨h.n, h.size, h.ws, h.dark, by show r.deeds + 1 = m.deeds + 1; rw [h.deeds], ?_, h.seen⟩
    show (if 0 < r.fuse then r.fuse - 1 else r.fuse) = if m.fused then ((if m.fused then m.fuse - 1 else m.fuse : Nat) : Int) else -1
    have hf := h.fuse
    cases hfu : m.fused with
    | false =>
      rw [hfu] at hf
      simp only [if_false, Bool.false_eq_true] at hf ⊢
      rw [hf]; simp
    | true =>
      rw [hfu] at hf
      simp only [if_true] at hf ⊢
      rw [if_pos (by omega)]
      omega
theorem Same.takes {m : Mod} {r : Rf} (h : Same m r) (i n : Int) : m.takes i n = rtakes r i n := by
  unfold Mod.takes rtakes
  rw [h.n, h.size, h.dark]
theorem Same.write {m : Mod} {r : Rf} (h : Same m r) (k : Nat) (hk : k < m.n) (vw : Value) (b : List UInt8) :
    Same { m.deed with waits := m.waits + 1, cont := fun p x => if (x : Int) = (k : Nat) ∧ bit p m.waits = true then b else m.cont p x } (rwriteD (deedR r) k vw (padS r.size b)) := by
  have hd := h.deed
  have hn : m.deed.n = m.n := by unfold Mod.deed; split <;> rfl
  have hs : m.deed.size = m.size := by unfold Mod.deed; split <;> rfl
  refine ⟨hd.n, hd.size, ?_, hd.dark, hd.deeds, hd.fuse, fun p x hx => ?_⟩
  · show ((deedR r).ws ++ [(k, padS r.size b)]).length = m.waits + 1
    rw [List.length_append, deedR_ws, h.ws]
    rfl
  · show (seenR (deedR r).last ((deedR r).ws ++ [(k, padS r.size b)]) p)[x]? = _
    have hx' : x < m.n := by rw [← hn]; exact hx
    rw [deedR_last, deedR_ws]
    unfold seenR
    rw [seenFrom_snoc, Nat.zero_add, h.ws]
    have hsx := h.seen p x hx'
    unfold seenR at hsx
    show _ = some (padS m.deed.size (if (x : Int) = (k : Nat) ∧ bit p m.waits = true then b else m.cont p x))
    rw [hs]
    cases hb : bit p m.waits with
    | false => simp only [if_false, Bool.false_eq_true, and_false]; exact hsx
    | true =>
      simp only [if_true, and_true]
      by_cases e : x = k
      · subst e
        rw [List.getElem?_set_self (by rw [seenFrom_length, h.n]; exact hx'), if_pos rfl, h.size]
      · rw [List.getElem?_set_ne (fun e' => e e'.symm), if_neg (by omega)]
        exact hsx
theorem Same.lasts {m : Mod} {r : Rf} (h : Same m r) (p : Nat) (lv : Value) : Same { m with waits := 0, cont := fun _ k => m.cont p k } (lastR r p lv) := by
  refine ⟨?_, h.size, rfl, h.dark, h.deeds, h.fuse, fun p' k hk => h.seen p k hk⟩
  show (seenR r.last r.ws p).length = m.n
  rw [seenR_length, h.n]
theorem Same.fuseTo {m : Mod} {r : Rf} (h : Same m r) (n : Int) : Same (m.fuseTo n) { r with fuse := if n < 0 then -1 else n } := by
  refine ⟨h.n, h.size, h.ws, h.dark, h.deeds, ?_, h.seen⟩
  show (if n < 0 then -1 else n) = if decide (0 ≤ n) = true then ((n.toNat : Nat) : Int) else -1
  by_cases hn : n < 0
  · rw [if_pos hn, if_neg (by simp; omega)]
  · rw [if_neg hn, if_pos (by simp; omega)]
    omega
theorem Same.crash {m : Mod} {r : Rf} (h : Same m r) (p : Nat) (lv : Value) : Same (m.crash p) (crashR r p lv) := by
  have := h.lasts p lv
  exact ⟨this.n, this.size, rfl, rfl, this.deeds, rfl, this.seen⟩

/-- both in memory. -/
structure Both (w0 w : World) (p q : Nat) (F : List Nat) (m : Mod) (r : Rf) : Prop where
  d : IsD w p F m
  rf : RefAt w r
  q : r.p = q
  fd : ∀ k ∈ F, w0.heap.size ≤ k
  fr : ∀ k ∈ footR r, w0.heap.size ≤ k
  same : Same m r
  bel : Below w0.heap.size w0 w
def PairD (w0 w : World) (p q : Nat) (m : Mod) : Prop := ∃ F r, Both w0 w p q F m r
theorem RefAt.still {w w' : World} {r : Rf} (h : RefAt w r) (hs : Still w w') : RefAt w' r :=
  ⟨h.top.still hs (by decide) (by decide) (by decide), h.last.still hs, h.waits.of_heap (fun b e => by
    obtain ⟨cur, hc⟩ := row_kind h.waits e
    exact hs.block b _ _ _ hc (by decide) (by decide) (by decide)), h.fit, h.few, h.many⟩
theorem apart_kinds {w : World} {r : Rf} {p : Nat} {F : List Nat} {m : Mod} (hd : IsD w p F m) (hr : RefAt w r) : ∀ k ∈ F, k ∉ footR r := fun k hk hk' => by
  obtain ⟨cs, t, e, ht⟩ := hr.kinds hk'
  rcases ht with rfl | rfl
  · exact hd.not_kind e (by decide) (by decide) (by decide) hk
  · exact hd.not_kind e (by decide) (by decide) (by decide) hk
theorem bytes_kinds {w : World} {r : Rf} (hr : RefAt w r) : ∀ k, Bytes w k → k ∉ footR r := fun k hb hk' => by
  obtain ⟨cs, t, e, ht⟩ := hr.kinds hk'
  obtain ⟨cs', z, e'⟩ := hb
  rw [e] at e'
  simp at e'
  rcases ht with rfl | rfl
  · exact absurd e'.2.1 (by decide)
  · exact absurd e'.2.1 (by decide)
/-- the disk has turned, the reference not yet. -/
structure Half (w0 w : World) (p q : Nat) (F : List Nat) (m : Mod) (r : Rf) : Prop where
  d : IsD w p F m
  rf : RefAt w r
  q : r.p = q
  fd : ∀ k ∈ F, w0.heap.size ≤ k
  fr : ∀ k ∈ footR r, w0.heap.size ≤ k
  bel : Below w0.heap.size w0 w
theorem Both.half {w0 w w' : World} {p q : Nat} {F : List Nat} {m m' : Mod} {r : Rf} (h : Both w0 w p q F m r) (hg : GoesM w w' p F m') : ∃ F', Half w0 w' p q F' m' r := by
  have hs := hg.still h.d
  obtain ⟨F', k1, k2, k3⟩ := hg
  exact ⟨F', k1, h.rf.still hs, h.q, fun k hk => (k2 k hk).elim (h.fd k) (fun hh => Nat.le_trans h.bel.size hh), h.fr, Touch.fresh h.bel k3 h.fd⟩
theorem Half.both {w0 w w' : World} {p q : Nat} {F : List Nat} {m : Mod} {r r' : Rf} (h : Half w0 w p q F m r) (hg : RGoes w w' r r') (hs : Same m r') : Both w0 w' p q F m r' := by
  obtain ⟨g1, g2, g3, g4⟩ := hg
  exact ⟨h.d.touch g4 (apart_kinds h.d h.rf) (bytes_kinds h.rf), g1, g2.trans h.q, h.fd, fun k hk => (g3 k hk).elim (h.fr k) (fun hh => Nat.le_trans h.bel.size hh), hs, Touch.fresh h.bel g4 h.fr⟩
theorem Both.below {w0 w w' : World} {p q : Nat} {F : List Nat} {m : Mod} {r : Rf} (h : Both w0 w p q F m r) (hb : Below w.heap.size w w') : Both w0 w' p q F m r :=
  ⟨h.d.below hb, h.rf.below hb, h.q, h.fd, h.fr, h.same, below_next h.bel hb⟩
theorem Both.toHalf {w0 w : World} {p q : Nat} {F : List Nat} {m : Mod} {r : Rf} (h : Both w0 w p q F m r) : Half w0 w p q F m r := ⟨h.d, h.rf, h.q, h.fd, h.fr, h.bel⟩
theorem Far.offR {w0 w : World} {A : Option Addr} (h : Far w0 w A) {r : Rf} (hr : RefAt w r) (hF : ∀ k ∈ footR r, w0.heap.size ≤ k) : Off A (footR r) := fun q e hq => by
  rcases h q e with h1 | h1
  · have := hF _ hq; omega
  · exact bytes_kinds hr _ h1 hq
end Go.Proofs.Ytmcgjlidfgbdfaa
