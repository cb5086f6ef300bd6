/- The way down a tree: what stands about the node that one has come to. -/
import Derived.Test.YtcboakmfabdeoaaW6
namespace Go.Proofs.Ytcboakmfabdeoaa
open Go.RowKit

/-- From tree x one has come down to y, on the way to k; R: the blocks of x that are not y's; what is put in y's place, longer by δ, makes a tree of all. -/
def Ctx (t δ : Nat) (k : Int) (w : World) (h : Nat) (x : Kid) (R : List Nat) (h' : Nat) (y : Kid) : Prop :=
  ∃ A B, x.l = A ++ y.l ++ B ∧ (∀ q ∈ A, q.1 < k) ∧ (∀ q ∈ B, k < q.1) ∧
    ∀ w2 z, IsT t w2 h' z → z.p = y.p → y.c ≤ z.c → z.l.length = y.l.length + δ → (∀ b ∈ R, w2.heap[b]? = w.heap[b]?) →
      ∃ fp3 c3, IsT t w2 h ⟨x.p, A ++ z.l ++ B, fp3, c3⟩ ∧ x.c ≤ c3 ∧ fp3.Perm (z.fp ++ R)

theorem Ctx.start (t δ : Nat) (k : Int) (w : World) (h : Nat) (x : Kid) : Ctx t δ k w h x [] h x :=
  ⟨[], [], by simp, by simp, by simp, fun w2 z hz hp hc hl _ => ⟨z.fp, z.c, by simpa [← hp] using hz, hc, by simp⟩⟩

theorem Ctx.frame {t δ : Nat} {k : Int} {w w' : World} {h : Nat} {x : Kid} {R : List Nat} {h' : Nat} {y : Kid} (hc : Ctx t δ k w h x R h' y) (hR : ∀ b ∈ R, w'.heap[b]? = w.heap[b]?) : Ctx t δ k w' h x R h' y := by
  obtain ⟨A, B, h1, h2, h3, h4⟩ := hc
  exact ⟨A, B, h1, h2, h3, fun w2 z hz hp hcz hl hb => h4 w2 z hz hp hcz hl (fun b hbR => (hb b hbR).trans (hR b hbR))⟩

/-- One node further down: the node's record holds already the size that it will have. -/
theorem Ctx.down {t δ : Nat} {k : Int} {w : World} {h : Nat} {x : Kid} {R : List Nat} {h' : Nat} {y : Kid} (hc : Ctx t δ k w h x R (h' + 1) y)
    {vp vk : Value} {P1 P2 : List Pr} {K1 K2 : List Kid} {z : Kid}
    (r1 : Rec w y.p vp vk (y.l.length + δ)) (r2 : PRow w vp (P1 ++ P2)) (r3 : KRow w vk (K1 ++ z :: K2)) (hl : y.l = join ((K1 ++ z :: K2).map Kid.l) (P1 ++ P2))
    (h1 : K1.length = P1.length) (h2 : K2.length = P2.length) (hcc : y.c ≤ (P1 ++ P2).length) (hk : ∀ v ∈ K1 ++ z :: K2, IsT t w h' v ∧ t - 1 ≤ v.c)
    (hA : ∀ q ∈ joinL (K1.map Kid.l) P1, q.1 < k) (hB : ∀ q ∈ joinR P2 (K2.map Kid.l), k < q.1) :
    Ctx t δ k w h x (y.p :: (rows vp vk ++ fpAll K1 ++ fpAll K2) ++ R) h' z := by
  obtain ⟨A, B, e1, e2, e3, e4⟩ := hc
  have hj : ∀ zl : List Pr, join ((K1.map Kid.l) ++ zl :: (K2.map Kid.l)) (P1 ++ P2) = joinL (K1.map Kid.l) P1 ++ zl ++ joinR P2 (K2.map Kid.l) := fun zl => join_split _ _ _ _ _ (by simpa using h1)
  have hyl : y.l = joinL (K1.map Kid.l) P1 ++ z.l ++ joinR P2 (K2.map Kid.l) := by rw [hl, ← hj]; simp
  refine ⟨A ++ joinL (K1.map Kid.l) P1, joinR P2 (K2.map Kid.l) ++ B, by rw [e1, hyl]; simp, ?_, ?_, ?_⟩
  · intro q hq; rcases List.mem_append.1 hq with hq | hq; exact e2 q hq; exact hA q hq
  · intro q hq; rcases List.mem_append.1 hq with hq | hq; exact hB q hq; exact e3 q hq
  · intro w2 u hu hp hcu hlu hbu
    have hw : ∀ b, b = y.p ∨ b ∈ rows vp vk ∨ b ∈ fpAll K1 ∨ b ∈ fpAll K2 ∨ b ∈ R → w2.heap[b]? = w.heap[b]? := fun b hb => hbu b (by simp; rcases hb with h | h | h | h | h <;> simp [h])
    have hzc := (hk z (by simp)).2
    have hu2 : IsT t w2 (h' + 1) ⟨y.p, joinL (K1.map Kid.l) P1 ++ u.l ++ joinR P2 (K2.map Kid.l), y.p :: (rows vp vk ++ fpAll (K1 ++ u :: K2)), (P1 ++ P2).length⟩ := by
      refine ⟨vp, vk, P1 ++ P2, K1 ++ u :: K2, ?_, ?_, ?_, ?_, ?_, rfl, rfl, ?_⟩
      · have : (joinL (K1.map Kid.l) P1 ++ u.l ++ joinR P2 (K2.map Kid.l)).length = y.l.length + δ := by rw [hyl]; simp only [List.length_append] at hlu ⊢; omega
        show w2.heap[y.p]? = _
        rw [hw y.p (.inl rfl)]
        show _ = some (Obj.cells #[vp, vk, .int .i64 ((joinL (K1.map Kid.l) P1 ++ u.l ++ joinR P2 (K2.map Kid.l)).length : Nat)] 68 (0, 0))
        rw [this]; exact r1
      · exact ownsRow_of_heap r2 fun b hb => hw b (by simp [mem_rows, hb])
      · have : ptrs (K1 ++ u :: K2) = ptrs (K1 ++ z :: K2) := by simp [ptrs, hp]
        unfold KRow
        rw [this, show (K1 ++ u :: K2).length = (K1 ++ z :: K2).length by simp]
        exact ownsRow_of_heap r3 fun b hb => hw b (by simp [mem_rows, hb])
      · simp; omega
      · show _ = join _ _
        rw [List.map_append, List.map_cons, hj]
      · intro v hv
        rcases List.mem_append.1 hv with hv | hv
        · have := hk v (by simp [hv])
          exact ⟨this.1.frame fun b hb => hw b (.inr (.inr (.inl (mem_fpAll.2 ⟨v, hv, hb⟩)))), this.2⟩
        · rcases List.mem_cons.1 hv with rfl | hv
          · exact ⟨hu, by omega⟩
          · have := hk v (by simp [hv])
            exact ⟨this.1.frame fun b hb => hw b (.inr (.inr (.inr (.inl (mem_fpAll.2 ⟨v, hv, hb⟩))))), this.2⟩
    obtain ⟨fp3, c3, g1, g2, g3⟩ := e4 w2 _ hu2 rfl (by show y.c ≤ (P1 ++ P2).length; exact hcc) (by show (joinL (K1.map Kid.l) P1 ++ u.l ++ joinR P2 (K2.map Kid.l)).length = _; rw [hyl]; simp only [List.length_append] at hlu ⊢; omega) (fun b hb => hw b (by simp [hb]))
    refine ⟨fp3, c3, by simpa [List.append_assoc] using g1, g2, g3.trans ?_⟩
    show (y.p :: (rows vp vk ++ fpAll (K1 ++ u :: K2)) ++ R).Perm (u.fp ++ (y.p :: (rows vp vk ++ fpAll K1 ++ fpAll K2) ++ R))
    have hf : fpAll (K1 ++ u :: K2) = fpAll K1 ++ (u.fp ++ fpAll K2) := by simp [fpAll]
    rw [hf]
    have p1 : (rows vp vk ++ (fpAll K1 ++ (u.fp ++ fpAll K2))).Perm (u.fp ++ (rows vp vk ++ fpAll K1 ++ fpAll K2)) := by
      have := List.perm_append_comm_assoc (rows vp vk ++ fpAll K1) u.fp (fpAll K2)
      simpa [List.append_assoc] using this
    have p2 : (y.p :: (rows vp vk ++ (fpAll K1 ++ (u.fp ++ fpAll K2)))).Perm (u.fp ++ (y.p :: (rows vp vk ++ fpAll K1 ++ fpAll K2))) := (p1.cons y.p).trans List.perm_middle.symm
    simpa [List.append_assoc] using p2.append_right R

/-- the parts of a node about place i. -/
theorem split_at {α : Type} (l : List α) (i : Nat) (hi : i ≤ l.length) : ∃ a b, l = a ++ b ∧ a.length = i := ⟨l.take i, l.drop i, (List.take_append_drop i l).symm, by simp; omega⟩
theorem split_at_cons {α : Type} (l : List α) (i : Nat) (hi : i < l.length) : ∃ a x b, l = a ++ x :: b ∧ a.length = i := ⟨l.take i, l[i], l.drop (i + 1), by rw [List.getElem_cons_drop, List.take_append_drop], by simp; omega⟩

/-- where k belongs in a node: what stands ahead of that kid is below k; and, if k is none of the node's own, what stands behind is above. -/
theorem node_split {k : Int} {ps : List Pr} {ks : List Kid} (hlen : ks.length = ps.length + 1) (hs : Rising (join (ks.map Kid.l) ps)) :
    ∃ P1 P2 K1 z K2, ps = P1 ++ P2 ∧ ks = K1 ++ z :: K2 ∧ P1.length = pos ps k ∧ K1.length = P1.length ∧ K2.length = P2.length ∧
      join (ks.map Kid.l) ps = joinL (K1.map Kid.l) P1 ++ z.l ++ joinR P2 (K2.map Kid.l) ∧ (∀ q ∈ joinL (K1.map Kid.l) P1, q.1 < k) ∧ (∀ q ∈ P2, k ≤ q.1) ∧ (hasB ps k = false → ∀ q ∈ joinR P2 (K2.map Kid.l), k < q.1) := by
  have hle := pos_le ps k
  obtain ⟨P1, P2, e1, e2⟩ := split_at ps (pos ps k) hle
  obtain ⟨K1, z, K2, e3, e4⟩ := split_at_cons ks (pos ps k) (by omega)
  have hl2 : K2.length = P2.length := by
    have h1 : ks.length = K1.length + (K2.length + 1) := by rw [e3]; simp
    have h2 : ps.length = P1.length + P2.length := by rw [e1]; simp
    omega
  have hj : join (ks.map Kid.l) ps = joinL (K1.map Kid.l) P1 ++ z.l ++ joinR P2 (K2.map Kid.l) := by
    rw [e3, e1, List.map_append, List.map_cons]; exact join_split _ _ _ _ _ (by simp; omega)
  have hs0 := hs
  rw [hj] at hs
  have r1 := rising_append.1 hs
  have r2 := rising_append.1 r1.1
  have hps : Rising ps := by
    have hs2 := hs0
    rw [hj] at hs2
    cases ks with
    | nil => simp at hlen
    | cons a r => exact hs0.sublist (by simpa using join_sub a.l (r.map Kid.l) ps (by simp at hlen ⊢; omega))
  have ht : ps.take P1.length = P1 := by rw [e1]; exact List.take_left' rfl
  have hd : ps.drop P1.length = P2 := by rw [e1]; exact List.drop_left' rfl
  have hP1 : ∀ q ∈ P1, q.1 < k := fun q hq => pos_below hps k q (by rw [← e2, ht]; exact hq)
  have hP2 : ∀ q ∈ P2, k ≤ q.1 := fun q hq => pos_above hps k q (by rw [← e2, hd]; exact hq)
  refine ⟨P1, P2, K1, z, K2, e1, e3, e2, by omega, hl2, hj, joinL_below _ _ (by simp; omega) r2.1 hP1, hP2, fun hn => joinR_above _ _ (by simp; omega) r1.2.1 ?_⟩
  intro q hq
  have h1 := hP2 q hq
  have h2 := hasB_no.1 hn q (by rw [e1]; simp [hq])
  omega
end Go.Proofs.Ytcboakmfabdeoaa
