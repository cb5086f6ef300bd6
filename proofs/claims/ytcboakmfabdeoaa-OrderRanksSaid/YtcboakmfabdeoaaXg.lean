/- A node in two halves: plain facts, for split and merge. -/
import Derived.Test.YtcboakmfabdeoaaX2
namespace Go.Proofs.Ytcboakmfabdeoaa
open Go.RowKit

theorem join_cut : ∀ (A : List Pr) (L1 : List (List Pr)) (m : Pr) (L2 : List (List Pr)) (B : List Pr), L1.length = A.length + 1 → L2.length = B.length + 1 → join (L1 ++ L2) (A ++ m :: B) = join L1 A ++ m :: join L2 B
  | [], L1, m, L2, B, h1, h2 => by
    obtain ⟨l, rfl⟩ := List.length_eq_one_iff.1 (by simpa using h1)
    cases L2 with
    | nil => simp at h2
    | cons u r => simp [join, joinR]
  | a :: A, L1, m, L2, B, h1, h2 => by
    match L1, h1 with
    | l :: l2 :: L1, h1 =>
      have ih := join_cut A (l2 :: L1) m L2 B (by simpa using h1) h2
      simp only [join, List.cons_append, joinR] at ih ⊢
      simp only [List.append_assoc, List.cons_append] at ih ⊢
      rw [ih]

/-- the tree of a node, out of its parts. -/
theorem IsT.make {t : Nat} {w : World} {h p : Nat} {vp vk : Value} {ps : List Pr} {ks : List Kid} (h1 : Rec w p vp vk (join (ks.map Kid.l) ps).length) (h2 : PRow w vp ps) (h3 : KRow w vk ks) (h4 : ks.length = ps.length + 1) (h5 : ∀ y ∈ ks, IsT t w h y ∧ t - 1 ≤ y.c) :
    IsT t w (h + 1) ⟨p, join (ks.map Kid.l) ps, p :: (rows vp vk ++ fpAll ks), ps.length⟩ :=
  ⟨vp, vk, ps, ks, h1, h2, h3, h4, rfl, rfl, rfl, h5⟩

/-- a node's kids and pairs about its middle pair. -/
theorem node_halves {ks : List Kid} {ps : List Pr} (hlen : ks.length = ps.length + 1) (i : Nat) (hi : i < ps.length) :
    ∃ q, ps[i]? = some q ∧ ps = ps.take i ++ q :: ps.drop (i + 1) ∧ (ks.take (i + 1)).length = (ps.take i).length + 1 ∧ (ks.drop (i + 1)).length = (ps.drop (i + 1)).length + 1 ∧
      join (ks.map Kid.l) ps = join ((ks.take (i + 1)).map Kid.l) (ps.take i) ++ q :: join ((ks.drop (i + 1)).map Kid.l) (ps.drop (i + 1)) := by
  have e : ps = ps.take i ++ ps[i] :: ps.drop (i + 1) := by rw [List.getElem_cons_drop, List.take_append_drop]
  have l1 : (ks.take (i + 1)).length = (ps.take i).length + 1 := by simp; omega
  have l2 : (ks.drop (i + 1)).length = (ps.drop (i + 1)).length + 1 := by simp; omega
  refine ⟨ps[i], List.getElem?_eq_getElem hi, e, l1, l2, ?_⟩
  have hk : ks.map Kid.l = (ks.take (i + 1)).map Kid.l ++ (ks.drop (i + 1)).map Kid.l := by rw [← List.map_append, List.take_append_drop]
  rw [← join_cut _ _ _ _ _ (by simpa using l1) (by simpa using l2), ← hk, ← e]

/-- a full kid in two: what stands about the pair that goes up. -/
theorem join_split_kid (K1 K2 : List (List Pr)) (P1 P2 : List Pr) (a b : List Pr) (q : Pr) (h : K1.length = P1.length) :
    join (K1 ++ (a ++ q :: b) :: K2) (P1 ++ P2) = join (K1 ++ a :: b :: K2) (P1 ++ q :: P2) := by
  rw [join_split _ _ _ _ _ h, join_split _ _ _ _ _ h]
  simp [joinR]
end Go.Proofs.Ytcboakmfabdeoaa
