/- A page of the law's own beside its list of strings. -/
import Derived.Test.YtjnblkibejmdjaaPC3
namespace Go.Proofs.Ytjnblkibejmdjaa
open Go.RowKit
set_option linter.unusedVariables false
structure Own (w0 w : World) (p size : Nat) (L : List (List UInt8)) : Prop where
  pg : ∃ P, PgAt w P ∧ P.p = p ∧ P.size = size ∧ P.L = L ∧ ∀ k ∈ foot P, w0.heap.size ≤ k
  bel : Below w0.heap.size w0 w
theorem SRow.still {w w' : World} {base : Nat} {v : Value} {ss : List ByteArray} (h : SRow w base v ss) (hs : Still w w') : SRow w' base v ss := h.of_heap fun b hb => by
  obtain ⟨cur, hc⟩ := row_kind h hb
  exact hs.block b cur _ _ hc (by decide) (by decide)
theorem SRow.asStrs {w : World} {base : Nat} {v : Value} {ss : List ByteArray} (h : SRow w base v ss) : ∃ A c, v = .slice A ss.length c ∧ Strs w A ss ∧ ss.length ≤ c := by
  obtain ⟨A, c, e, h1, h2⟩ := h.shape
  refine ⟨A, c, e, fun i hi => ?_, h1⟩
  obtain ⟨g, e1, -, e3, e4⟩ := h2 i hi
  exact ⟨g, 0, e1, e3, by rw [Nat.zero_add]; exact e4⟩
theorem SRow.cut {w : World} {base : Nat} {A : Option Addr} {n c : Nat} {ss : List ByteArray} (h : SRow w base (.slice A n c) ss) (k : Nat) (hk : k ≤ ss.length) : SRow w base (.slice A k c) (ss.take k) := by
  have hl : (ss.take k).length = k := by rw [List.length_take]; omega
  unfold SRow
  rw [hl, show strs (ss.take k) = (strs ss).take k by simp [strs, List.map_take]]
  refine ⟨by rw [List.length_take]; simp [strs]; omega, ?_⟩
  rcases h.2 with ⟨e, h0⟩ | ⟨g, cap, cur, e, hb, hh, hn, hm, hs, ht⟩
  · simp only [Value.slice.injEq] at e
    have hk0 : k = 0 := by omega
    subst hk0
    exact .inl ⟨by rw [e.1, e.2.2], rfl⟩
  · simp only [Value.slice.injEq] at e
    obtain ⟨e1, e2, e3⟩ := e
    refine .inr ⟨g, cap, cur, by rw [e1, e3], hb, hh, by omega, hm, hs, ?_⟩
    rw [← ht, List.take_take]
    congr 1
    omega
theorem SRow.store {w : World} {base : Nat} {A : Option Addr} {n c : Nat} {ss : List ByteArray} (h : SRow w base (.slice A n c) ss) (i : Nat) (hi : i < ss.length) (s : ByteArray) : ∃ g, A = some ⟨g, 0, none⟩ ∧ base ≤ g ∧ g < w.heap.size ∧ (∃ z, w.cell? ⟨g, i, none⟩ = some (.string z)) ∧ w.frozen? ⟨g, i, none⟩ = false ∧ SRow (w.setCell ⟨g, i, none⟩ (.string s)) base (.slice A n c) (ss.set i s) ∧ (∃ cs, w.heap[g]? = some (.cells cs 9 (0, 0))) := by
  have hr := h
  obtain ⟨_, h2⟩ := h
  rcases h2 with ⟨e, h0⟩ | ⟨g, cap, cur, e, hb, hh, hn, hm, hs, ht⟩
  · omega
  · simp only [Value.slice.injEq] at e
    obtain ⟨e1, e2, e3⟩ := e
    have hown : (Value.slice A n c).ownBlock = some g := by rw [e1]; rfl
    refine ⟨g, e1, hb, (Array.getElem?_eq_some_iff.1 hh).1, ⟨ss[i], ?_⟩, by simp [World.frozen?, hh], ?_, _, hh⟩
    · have hu : (strs ss)[i]? = some (.string ss[i]) := by simp [strs, hi]
      rw [cell_of_row w g i cur 9 (0, 0) hh, ← hu, ← ht, List.getElem?_take, if_pos (by omega)]
      simp
    · have := ownsRow_set hr hown i (.string s)
      unfold SRow
      rw [List.length_set, show strs (ss.set i s) = (strs ss).set i (.string s) by simp [strs, List.map_set]]
      exact this
theorem strL_set (L : List (List UInt8)) (i : Nat) (b : List UInt8) : strL (L.set i b) = (strL L).set i ⟨b.toArray⟩ := by simp [strL, List.map_set]
theorem strL_take (L : List (List UInt8)) (k : Nat) : strL (L.take k) = (strL L).take k := by simp [strL, List.map_take]
theorem strL_snoc (L : List (List UInt8)) (b : List UInt8) : strL (L ++ [b]) = strL L ++ [⟨b.toArray⟩] := by simp [strL]
section
variable {w0 w w' : World} {p size : Nat} {L : List (List UInt8)}
theorem Own.below (h : Own w0 w p size L) (hb : Below w.heap.size w w') : Own w0 w' p size L := by
  obtain ⟨⟨P, h1, h2⟩, h3⟩ := h
  exact ⟨⟨P, h1.below hb, h2⟩, below_next h3 hb⟩
theorem Own.goes {P P' : Pg} {L' : List (List UInt8)} (h1 : PgAt w P) (hp : P.p = p) (hs : P.size = size) (hf : ∀ k ∈ foot P, w0.heap.size ≤ k) (hb : Below w0.heap.size w0 w) (hg : Goes w w' P P') (hL : P'.L = L') : Own w0 w' p size L' ∧ Still w w' :=
  ⟨⟨⟨P', hg.1, hg.2.1.trans hp, hg.2.2.1.trans hs, hL, fun k hk => (hg.2.2.2.1 k hk).elim (hf k) (fun h => Nat.le_trans hb.size h)⟩, Touch.fresh hb hg.2.2.2.2 hf⟩, hg.still h1⟩
/-- own blocks of other kinds turn. -/
theorem Own.touch (h : Own w0 w p size L) {G : List Nat} (ht : Touch G w w') (hG : ∀ k ∈ G, w0.heap.size ≤ k ∧ (w.heap.size ≤ k ∨ ∃ cs z, w.heap[k]? = some (.cells cs 9 z))) : Own w0 w' p size L := by
  obtain ⟨⟨P, h1, hp, hs, hL, hf⟩, h3⟩ := h
  refine ⟨⟨P, h1.of_heap (fun k hk => ht.block k (h1.footlt hk) fun hm => ?_) (fun k hk => ht.block k hk.lt fun hm => ?_), hp, hs, hL, hf⟩, Touch.fresh h3 ht fun k hk => (hG k hk).1⟩
  · rcases (hG k hm).2 with hh | ⟨cs, z, e⟩
    · have := h1.footlt hk; omega
    · obtain ⟨cs', t, e', ht'⟩ := h1.kinds hk
      rw [e] at e'
      simp at e'
      rcases ht' with hh | hh
      · exact absurd (e'.2.1.trans hh) (by decide)
      · exact absurd (e'.2.1.trans hh) (by decide)
  · rcases (hG k hm).2 with hh | ⟨cs, z, e⟩
    · have := hk.lt; omega
    · obtain ⟨cs', z', e'⟩ := hk
      rw [e] at e'
      simp at e'
/-- how many bytes are left. -/
def leftL (size : Nat) (L : List (List UInt8)) : Nat := size - 1 - 4 * L.length - used L
theorem left_eq (P : Pg) : P.left = leftL P.size P.L := by
  unfold Pg.left leftL
  rw [show P.L.length = P.xs.length from bbs_len _]
theorem Own.fits (h : Own w0 w p size L) : 64 ≤ size ∧ size ≤ 1024 ∧ L.length ≤ 250 ∧ 1 + 4 * L.length + used L ≤ size := by
  obtain ⟨⟨P, h1, rfl, rfl, rfl, hf⟩, h3⟩ := h
  have hl : P.L.length = P.xs.length := bbs_len _
  exact ⟨h1.sz1, h1.sz2, by rw [hl]; exact h1.few, by rw [hl]; exact h1.fit⟩
theorem Own.add_none (h : Own w0 w p size L) (A : Option Addr) (c : Nat) : Calls Try.prog 8 #[.pointer (some ⟨p, 0, none⟩), .slice A 0 c] w fun e w' => e = .returned (.tuple #[.int .i64 0, .int .i64 1]) ∧ Own w0 w' p size L ∧ Still w w' := by
  have h' := h
  obtain ⟨⟨P, h1, rfl, rfl, rfl, hf⟩, h3⟩ := h
  exact (Go.Proofs.Ytjnblkibejmdjaa.add_none h1 A c).mono (by rintro e w' ⟨rfl, rfl⟩; exact ⟨rfl, h', Still.refl _⟩)
theorem Own.add_full (h : Own w0 w p size L) (A : Option Addr) (n c : Nat) (hn : 0 < n) (hn2 : n ≤ 9223372036854775807) (hc : L.length = 250 ∨ leftL size L < 4 + n) : Calls Try.prog 8 #[.pointer (some ⟨p, 0, none⟩), .slice A n c] w fun e w' => e = .returned (.tuple #[.int .i64 0, .int .i64 12]) ∧ Own w0 w' p size L ∧ Still w w' := by
  have h' := h
  obtain ⟨⟨P, h1, rfl, rfl, rfl, hf⟩, h3⟩ := h
  refine (Go.Proofs.Ytjnblkibejmdjaa.add_full h1 A n c hn hn2 (by rw [left_eq, ← show P.L.length = P.xs.length from bbs_len _]; exact hc)).mono ?_
  rintro e w' ⟨rfl, k, rfl⟩
  exact ⟨rfl, h'.below (below_drewN (Below.refl _ _) k), Still.of_below (below_drewN (Below.refl _ _) k)⟩
theorem Own.add_ok (h : Own w0 w p size L) (A : Option Addr) (c : Nat) (b : List UInt8) (hA : Holds w A b) (hb : b ≠ []) (hn : L.length < 250) (hc : 4 + b.length ≤ leftL size L) : Calls Try.prog 8 #[.pointer (some ⟨p, 0, none⟩), .slice A b.length c] w fun e w' => e = .returned (.tuple #[.int .i64 (L.length : Nat), .int .i64 0]) ∧ Own w0 w' p size (L ++ [b]) ∧ Still w w' := by
  obtain ⟨⟨P, h1, rfl, rfl, rfl, hf⟩, h3⟩ := h
  have hl : P.L.length = P.xs.length := bbs_len _
  refine (Go.Proofs.Ytjnblkibejmdjaa.add_ok h1 A c b hA hb (by rw [← hl]; exact hn) (by rw [left_eq]; exact hc)).mono ?_
  rintro e w' ⟨rfl, P', hg, hL⟩
  exact ⟨by rw [hl], Own.goes h1 rfl rfl hf h3 hg hL⟩
theorem Own.set_no (h : Own w0 w p size L) (i : Int) (hi : i < 0 ∨ (L.length : Int) ≤ i) (A : Option Addr) (n c : Nat) : Calls Try.prog 9 #[.pointer (some ⟨p, 0, none⟩), .int .i64 i, .slice A n c] w fun e w' => e = .returned (.int .i64 1) ∧ Own w0 w' p size L ∧ Still w w' := by
  have h' := h
  obtain ⟨⟨P, h1, rfl, rfl, rfl, hf⟩, h3⟩ := h
  exact (Go.Proofs.Ytjnblkibejmdjaa.set_no h1 i (by unfold noSlot; rw [← show P.L.length = P.xs.length from bbs_len _]; exact hi) A n c).mono (by rintro e w' ⟨rfl, rfl⟩; exact ⟨rfl, h', Still.refl _⟩)
theorem Own.set_none (h : Own w0 w p size L) (i : Nat) (hi : i < L.length) (A : Option Addr) (c : Nat) : Calls Try.prog 9 #[.pointer (some ⟨p, 0, none⟩), .int .i64 (i : Nat), .slice A 0 c] w fun e w' => e = .returned (.int .i64 1) ∧ Own w0 w' p size L ∧ Still w w' := by
  have h' := h
  obtain ⟨⟨P, h1, rfl, rfl, rfl, hf⟩, h3⟩ := h
  exact (Go.Proofs.Ytjnblkibejmdjaa.set_none h1 i (by rw [← show P.L.length = P.xs.length from bbs_len _]; exact hi) A c).mono (by rintro e w' ⟨rfl, rfl⟩; exact ⟨rfl, h', Still.refl _⟩)
theorem Own.set_full (h : Own w0 w p size L) (i : Nat) (hi : i < L.length) (A : Option Addr) (n c : Nat) (hn : 0 < n) (hn2 : n ≤ 9223372036854775807) (hc : leftL size L + L[i].length < n) : Calls Try.prog 9 #[.pointer (some ⟨p, 0, none⟩), .int .i64 (i : Nat), .slice A n c] w fun e w' => e = .returned (.int .i64 12) ∧ Own w0 w' p size L ∧ Still w w' := by
  have h' := h
  obtain ⟨⟨P, h1, rfl, rfl, rfl, hf⟩, h3⟩ := h
  have hl : P.L.length = P.xs.length := bbs_len _
  refine (Go.Proofs.Ytjnblkibejmdjaa.set_full h1 i (by rw [← hl]; exact hi) A n c hn hn2 (by rw [left_eq, ← show P.L[i] = (P.xs[i]'(by rw [← hl]; exact hi)).b from bbs_at _ _ _]; exact hc)).mono ?_
  rintro e w' ⟨rfl, k, rfl⟩
  exact ⟨rfl, h'.below (below_drewN (Below.refl _ _) k), Still.of_below (below_drewN (Below.refl _ _) k)⟩
theorem Own.set_ok (h : Own w0 w p size L) (i : Nat) (hi : i < L.length) (A : Option Addr) (c : Nat) (b : List UInt8) (hA : Holds w A b) (hb : b ≠ []) (hc : b.length ≤ leftL size L + L[i].length) : Calls Try.prog 9 #[.pointer (some ⟨p, 0, none⟩), .int .i64 (i : Nat), .slice A b.length c] w fun e w' => e = .returned (.int .i64 0) ∧ Own w0 w' p size (L.set i b) ∧ Still w w' := by
  obtain ⟨⟨P, h1, rfl, rfl, rfl, hf⟩, h3⟩ := h
  have hl : P.L.length = P.xs.length := bbs_len _
  refine (Go.Proofs.Ytjnblkibejmdjaa.set_ok h1 i (by rw [← hl]; exact hi) A c b hA hb (by rw [left_eq, ← show P.L[i] = (P.xs[i]'(by rw [← hl]; exact hi)).b from bbs_at _ _ _]; exact hc)).mono ?_
  rintro e w' ⟨rfl, P', hg, hL⟩
  exact ⟨rfl, Own.goes h1 rfl rfl hf h3 hg hL⟩
theorem Own.drop_no (h : Own w0 w p size L) (i : Int) (hi : i < 0 ∨ (L.length : Int) ≤ i) : Calls Try.prog 10 #[.pointer (some ⟨p, 0, none⟩), .int .i64 i] w fun e w' => e = .returned (.int .i64 1) ∧ Own w0 w' p size L ∧ Still w w' := by
  have h' := h
  obtain ⟨⟨P, h1, rfl, rfl, rfl, hf⟩, h3⟩ := h
  exact (Go.Proofs.Ytjnblkibejmdjaa.drop_no h1 i (by unfold noSlot; rw [← show P.L.length = P.xs.length from bbs_len _]; exact hi)).mono (by rintro e w' ⟨rfl, rfl⟩; exact ⟨rfl, h', Still.refl _⟩)
theorem Own.drop_empty (h : Own w0 w p size L) (i : Nat) (hi : i < L.length) (hb : L[i] = []) : Calls Try.prog 10 #[.pointer (some ⟨p, 0, none⟩), .int .i64 (i : Nat)] w fun e w' => e = .returned (.int .i64 13) ∧ Own w0 w' p size L ∧ Still w w' := by
  have h' := h
  obtain ⟨⟨P, h1, rfl, rfl, rfl, hf⟩, h3⟩ := h
  have hl : P.L.length = P.xs.length := bbs_len _
  exact (Go.Proofs.Ytjnblkibejmdjaa.drop_empty h1 i (by rw [← hl]; exact hi) (by rw [← show P.L[i] = (P.xs[i]'(by rw [← hl]; exact hi)).b from bbs_at _ _ _]; exact hb)).mono (by rintro e w' ⟨rfl, rfl⟩; exact ⟨rfl, h', Still.refl _⟩)
theorem Own.drop_ok (h : Own w0 w p size L) (i : Nat) (hi : i < L.length) (hb : L[i] ≠ []) : Calls Try.prog 10 #[.pointer (some ⟨p, 0, none⟩), .int .i64 (i : Nat)] w fun e w' => e = .returned (.int .i64 0) ∧ Own w0 w' p size (trimL (L.set i [])) ∧ Still w w' := by
  obtain ⟨⟨P, h1, rfl, rfl, rfl, hf⟩, h3⟩ := h
  have hl : P.L.length = P.xs.length := bbs_len _
  refine (Go.Proofs.Ytjnblkibejmdjaa.drop_ok h1 i (by rw [← hl]; exact hi) (by rw [← show P.L[i] = (P.xs[i]'(by rw [← hl]; exact hi)).b from bbs_at _ _ _]; exact hb)).mono ?_
  rintro e w' ⟨rfl, P', hg, hL⟩
  exact ⟨rfl, Own.goes h1 rfl rfl hf h3 hg hL⟩
theorem Own.same (h : Own w0 w p size L) (A : Option Addr) (c : Nat) (hS : Strs w A (strL L)) : Calls Try.prog 11 #[.pointer (some ⟨p, 0, none⟩), .slice A L.length c, .int .i64 (size : Nat)] w fun e w' => e = .returned (.bool true) ∧ Below w.heap.size w w' := by
  obtain ⟨⟨P, h1, rfl, rfl, rfl, hf⟩, h3⟩ := h
  exact same_any h1 A c hS
theorem Own.bytes (h : Own w0 w p size L) : Calls Try.prog 13 #[.pointer (some ⟨p, 0, none⟩)] w fun e w' => ∃ g, e = .returned (.slice (some ⟨g, 0, none⟩) size size) ∧ BB w' g (pageB size L) ∧ Below w.heap.size w w' := by
  obtain ⟨⟨P, h1, rfl, rfl, rfl, hf⟩, h3⟩ := h
  exact (bytes_at h1).mono (by rintro e w' ⟨g, rfl, -, h2, h3⟩; exact ⟨g, rfl, h2, h3⟩)
theorem own_read (size : Nat) {L : List (List UInt8)} (h1 : 64 ≤ size) (h2 : size ≤ 1024) (hf : 1 + 4 * L.length + used L ≤ size) (hn : L.length ≤ 250) (ht : trimL L = L) (g : Nat) (hB : BB w g (pageB size L)) :
    Calls Try.prog 12 #[.slice (some ⟨g, 0, none⟩) size size] w fun e w' => ∃ q, e = .returned (.tuple #[.pointer (some ⟨q, 0, none⟩), .int .i64 0]) ∧ Own w w' q size L ∧ Below w.heap.size w w' :=
  (read_ok w size h1 h2 hf hn ht g hB).mono (by
    rintro e w' ⟨P', rfl, p1, p2, p3, p4, p5⟩
    exact ⟨P'.p, rfl, ⟨⟨P', p1, rfl, p2, p3, p4⟩, p5⟩, p5⟩)
end
theorem own_new (w : World) (n : Nat) (h1 : 64 ≤ n) (h2 : n ≤ 1024) (w0 : World) (hb : Below w0.heap.size w0 w) : Calls Try.prog 6 #[.int .i64 (n : Nat)] w fun e w' => ∃ p, e = .returned (.tuple #[.pointer (some ⟨p, 0, none⟩), .int .i64 0]) ∧ Own w0 w' p n [] :=
  (new_good n h1 h2 w).mono (by
    rintro e w' ⟨rfl, hp, hb2⟩
    refine ⟨w.heap.size, rfl, ⟨⟨_, hp, rfl, rfl, rfl, fun k hk => ?_⟩, below_next hb hb2⟩⟩
    rcases foot_cases hk with rfl | e
    · exact hb.size
    · simp [newP, Value.ownBlock] at e)
end Go.Proofs.Ytjnblkibejmdjaa
