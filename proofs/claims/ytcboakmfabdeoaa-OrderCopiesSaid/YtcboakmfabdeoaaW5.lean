/- slices.Insert at pairs, in one sentence; the smaller readers of a node. -/
import Derived.Test.YtcboakmfabdeoaaW4
namespace Go.Proofs.Ytcboakmfabdeoaa
open Go.RowKit

theorem PRow.cases {w : World} {v : Value} {l : List (Int × ByteArray)} (h : PRow w v l) :
    (v = .slice none 0 0 ∧ l = []) ∨ ∃ g cap cur, v = .slice (some ⟨g, 0, none⟩) l.length cap ∧ w.heap[g]? = some (.cells cur 61 (0, 0)) ∧ l.length ≤ cap ∧ cap ≤ maxLen ∧ cur.size = cap * 2 ∧ cur.toList.take (l.length * 2) = encP l := by
  rcases h.2 with ⟨h1, h2⟩ | ⟨g, cap, cur, h1, _, h2, h3, h4, h5, h6⟩
  · exact .inl ⟨h1, List.eq_nil_of_length_eq_zero h2⟩
  · exact .inr ⟨g, cap, cur, h1, h2, h3, h4, h5, h6⟩

theorem PRow.row {w : World} {g n cap : Nat} {l : List (Int × ByteArray)} (h : PRow w (.slice (some ⟨g, 0, none⟩) n cap) l) : RowP w g l := by
  intro j hj
  have hc := World.ownsRow.cells h (g := g) rfl
  have e : ∀ (r : List (Int × ByteArray)) (j : Nat), j < r.length → (encP r)[j * 2]? = some (.int .i64 (r[j]?.getD (0, ByteArray.empty)).1) ∧ (encP r)[j * 2 + 1]? = some (.string (r[j]?.getD (0, ByteArray.empty)).2) := by
    intro r
    induction r with
    | nil => intro j hj; simp at hj
    | cons p r ih =>
      intro j hj
      have hcons : encP (p :: r) = .int .i64 p.1 :: .string p.2 :: encP r := by simp [encP]
      cases j with
      | zero => rw [hcons]; simp
      | succ j =>
        have := ih j (by simpa using hj)
        rw [hcons, show (j + 1) * 2 = j * 2 + 1 + 1 by omega]
        simpa using this
  have h1 := hc _ _ (e l j hj).1
  have h2 := hc _ _ (e l j hj).2
  rw [Addr.add_lit, Nat.zero_add] at h1 h2
  exact ⟨h1, h2⟩

theorem PRow.lt {w : World} {v : Value} {l : List (Int × ByteArray)} (h : PRow w v l) {k : Nat} (hk : v.ownBlock = some k) : k < w.heap.size := (World.ownsRow.lt h k hk).2

theorem insertP_any (v : Value) (i vb : Nat) (l : List (Int × ByteArray)) (x : Int × ByteArray) (w : World) (hi : i ≤ l.length) (hn : l.length ≤ 1000000) (hr : PRow w v l)
    (hv : w.heap[vb]? = some (.cells #[.int .i64 x.1, .string x.2] 61 (0, 0))) (hne : v.ownBlock ≠ some vb) :
    Calls Try.prog 47 #[v, .int .i64 i, .slice (some ⟨vb, 0, none⟩) 1 1] w fun e w' =>
      ∃ v', e = .returned v' ∧ PRow w' v' (l.take i ++ x :: l.drop i) ∧ w.grownBy w' v.ownBlock ∧ OwnNew w v v' := by
  by_cases hin : i = l.length
  · subst hin
    rcases hr.cases with ⟨rfl, rfl⟩ | ⟨g, cap, cur, rfl, _⟩
    · refine (insertP_end _ 0 0 vb [] x w none rfl rfl (by omega) hr hv).mono ?_
      rintro e w' ⟨v', rfl, h1, h2⟩
      exact ⟨v', rfl, by simpa using h1, h2⟩
    · refine (insertP_end _ l.length cap vb l x w _ rfl rfl hn hr hv).mono ?_
      rintro e w' ⟨v', rfl, h1, h2⟩
      exact ⟨v', rfl, by simpa using h1, h2⟩
  · rcases hr.cases with ⟨rfl, rfl⟩ | ⟨g, cap, cur, rfl, _, hnc, _⟩
    · simp at hi hin; omega
    · by_cases hc : l.length + 1 ≤ cap
      · refine (insertP_shift g l.length cap i vb l x w rfl (by omega) hc hn hr hv (fun e => hne (by rw [e]; rfl))).mono ?_
        rintro e w' ⟨rfl, h1, h2⟩
        exact ⟨_, rfl, h1, h2, fun g hg => .inl hg⟩
      · refine (insertP_grow g l.length cap i vb l x w rfl (by omega) hnc (by omega) hn hr hv (fun e => hne (by rw [e]; rfl))).mono ?_
        rintro e w' ⟨c', rfl, h1, h2⟩
        exact ⟨_, rfl, h1, ⟨h2.os, h2.tape, h2.output, h2.size, fun k hk _ => h2.block k hk⟩, fun g hg => .inr (by have : w.heap.size = g := by {simpa [Value.ownBlock] using hg}; omega)⟩

theorem full_no (p n cap t : Nat) (a : Option Addr) (w : World) (h0 : w.cell? ⟨p, 0, none⟩ = some (.slice a n cap)) (hn : n ≤ 1000000) (ht : t ≤ 1000) (h : n + 1 < 2 * t) :
    Calls Try.prog 45 #[.pointer (some ⟨p, 0, none⟩), .int .i64 t] w fun e w' => e = .returned (.bool false) ∧ w = w' :=
  (full_any p n cap t a w h0 hn ht).mono fun e w' h' => by
    rw [show decide (2 * t ≤ n + 1) = false by simp; omega] at h'; exact h'

theorem full_yes (p n cap t : Nat) (a : Option Addr) (w : World) (h0 : w.cell? ⟨p, 0, none⟩ = some (.slice a n cap)) (hn : n ≤ 1000000) (ht : t ≤ 1000) (h : 2 * t ≤ n + 1) :
    Calls Try.prog 45 #[.pointer (some ⟨p, 0, none⟩), .int .i64 t] w fun e w' => e = .returned (.bool true) ∧ w = w' :=
  (full_any p n cap t a w h0 hn ht).mono fun e w' h' => by
    rw [show decide (2 * t ≤ n + 1) = true by simp; omega] at h'; exact h'

theorem leaf_yes (p cap : Nat) (a : Option Addr) (w : World) (h1 : w.cell? ⟨p, 1, none⟩ = some (.slice a 0 cap)) :
    Calls Try.prog 43 #[.pointer (some ⟨p, 0, none⟩)] w fun e w' => e = .returned (.bool true) ∧ w = w' := leaf_any p 0 cap a w h1

theorem leaf_no (p n cap : Nat) (a : Option Addr) (w : World) (h1 : w.cell? ⟨p, 1, none⟩ = some (.slice a n cap)) (hn : 0 < n) :
    Calls Try.prog 43 #[.pointer (some ⟨p, 0, none⟩)] w fun e w' => e = .returned (.bool false) ∧ w = w' :=
  (leaf_any p n cap a w h1).mono fun e w' h => by rw [show decide (n = 0) = false by simp; omega] at h; exact h
end Go.Proofs.Ytcboakmfabdeoaa
