/- insert at any height: the walk of an inner node. -/
import Derived.Test.YtcboakmfabdeoaaXm
namespace Go.Proofs.Ytcboakmfabdeoaa
open Go.RowKit

theorem Ins.keep {t : Nat} {k : Int} {W0 : World} {h : Nat} {x : Kid} {wr : World} {gk : Nat} {y : Kid} {R : List Nat} (I : Ins t k W0 h x wr gk y R) {pb : Nat} (h1 : pb < W0.heap.size) (h2 : pb ∉ x.fp) : wr.heap[pb]? = W0.heap[pb]? ∧ pb ∉ y.fp ∧ pb < wr.heap.size := by
  refine ⟨I.touch.block pb h1 h2, fun hm => ?_, Nat.lt_of_lt_of_le h1 I.touch.size⟩
  rcases I.hf pb (by simp [hm]) with e | e
  · exact h2 e
  · omega

/-- what the walk must know of an inner node ahead of its round. -/
structure InnerAt (t : Nat) (k : Int) (wr : World) (h' : Nat) (y : Kid) (vp vk : Value) (P1 P2 : List Pr) (K1 K2 : List Kid) (z : Kid) : Prop where
  r1 : Rec wr y.p vp vk y.l.length
  r2 : PRow wr vp (P1 ++ P2)
  r3 : KRow wr vk (K1 ++ z :: K2)
  hps : Rising (P1 ++ P2)
  hf : y.fp = y.p :: (rows vp vk ++ fpAll (K1 ++ z :: K2))
  hyc : y.c = (P1 ++ P2).length
  hz : ∀ v ∈ K1 ++ z :: K2, IsT t wr h' v ∧ t - 1 ≤ v.c
  hl : y.l = join ((K1 ++ z :: K2).map Kid.l) (P1 ++ P2)
  h1 : K1.length = P1.length
  h2 : K2.length = P2.length
  hA : ∀ q ∈ joinL (K1.map Kid.l) P1, q.1 < k
  hB : ∀ q ∈ joinR P2 (K2.map Kid.l), k < q.1
  pos : pos (P1 ++ P2) k = P1.length
  no : hasB (P1 ++ P2) k = false
  zr : Rising z.l
  zl : z.l.length ≤ y.l.length
  pl : (P1 ++ P2).length ≤ y.l.length
  kl : (K1 ++ z :: K2).length ≤ y.l.length + 1

theorem Ins.inner {t : Nat} {k : Int} {W0 : World} {h : Nat} {x : Kid} {wr : World} {h' : Nat} {y : Kid} {R : List Nat} (I : Ins t k W0 h x wr (h' + 1) y R) :
    ∃ vp vk P1 P2 K1 K2 z, InnerAt t k wr h' y vp vk P1 P2 K1 K2 z := by
  obtain ⟨vp, vk, ps, r1, r2, hps, hpl, hyc, hkids⟩ := I.ty.node I.rise
  rcases hkids with ⟨e, _⟩ | ⟨h2, ks, e, hK, hlen, hj, hf, _, hz⟩
  · cases e
  · have e2 : h2 = h' := by omega
    subst e2
    have hno : hasB ps k = false := by
      refine hasB_no.2 (fun q hq => hasB_no.1 I.no q ?_)
      have hsub : ps.Sublist y.l := by
        cases ks with
        | nil => simp at hlen
        | cons a r => rw [hj]; simpa using join_sub a.l (r.map Kid.l) ps (by simp at hlen ⊢; omega)
      exact hsub.subset hq
    obtain ⟨P1, P2, K1, z, K2, rfl, rfl, s3, s4, s5, s6, s7, s8, s9⟩ := node_split (k := k) hlen (by rw [← hj]; exact I.rise)
    have hr := I.rise
    rw [hj, s6] at hr
    exact ⟨vp, vk, P1, P2, K1, K2, z, r1, r2, hK, hps, hf, hyc, hz, hj, s4, s5, s7, s9 hno, s3.symm, hno, (rising_append.1 (rising_append.1 hr).1).2.1, by rw [hj, s6]; simp; omega, hpl, by omega⟩

/-- the node's own parts lie apart. -/
theorem InnerAt.apart {t : Nat} {k : Int} {wr : World} {h' : Nat} {y : Kid} {vp vk : Value} {P1 P2 : List Pr} {K1 K2 : List Kid} {z : Kid} (N : InnerAt t k wr h' y vp vk P1 P2 K1 K2 z) (nd : y.fp.Nodup) {bk : Nat} (hb : vk.ownBlock = some bk) :
    (∀ b ∈ z.fp, b ≠ y.p ∧ b ≠ bk ∧ vp.ownBlock ≠ some b) ∧ y.p ≠ bk ∧ vp.ownBlock ≠ some y.p ∧ vp.ownBlock ≠ some bk ∧ z.fp.Nodup := by
  rw [N.hf] at nd
  obtain ⟨n1, n2, n3, n4⟩ := fp_parts nd
  have hzm : ∀ b ∈ z.fp, b ∈ fpAll (K1 ++ z :: K2) := fun b hb => mem_fpAll.2 ⟨z, by simp, hb⟩
  refine ⟨fun b hm => ⟨fun e => n3 (e ▸ hzm b hm), fun e => (n2 bk hb).2 (e ▸ hzm b hm), fun e => (n1 b e).2.2 (hzm b hm)⟩, fun e => (n2 bk hb).1 e.symm, fun e => (n1 _ e).1 rfl, fun e => (n1 _ e).2.1 hb, ?_⟩
  have : fpAll (K1 ++ z :: K2) = fpAll K1 ++ (z.fp ++ fpAll K2) := by simp [fpAll]
  rw [this] at n4
  exact (List.nodup_append.1 (List.nodup_append.1 n4).2.1).1

/-- the world behind size++ and place. -/
structure InnerAt2 (t : Nat) (k : Int) (wr w2 : World) (h' : Nat) (y : Kid) (vp vk : Value) (P1 P2 : List Pr) (K1 K2 : List Kid) (z : Kid) : Prop where
  t2 : Touch [y.p] wr w2
  r1 : Rec w2 y.p vp vk (y.l.length + 1)
  r2 : PRow w2 vp (P1 ++ P2)
  r3 : KRow w2 vk (K1 ++ z :: K2)
  hz : ∀ v ∈ K1 ++ z :: K2, IsT t w2 h' v ∧ t - 1 ≤ v.c

theorem InnerAt.after {t : Nat} {k : Int} {wr W1 w2 : World} {h' : Nat} {y : Kid} {vp vk : Value} {P1 P2 : List Pr} {K1 K2 : List Kid} {z : Kid} (N : InnerAt t k wr h' y vp vk P1 P2 K1 K2 z) (nd : y.fp.Nodup) (hW1 : W1 = wr.setCell ⟨y.p, 2, none⟩ (.int .i64 ((y.l.length + 1 : Nat) : Int))) (hb : Below W1.heap.size W1 w2) :
    InnerAt2 t k wr w2 h' y vp vk P1 P2 K1 K2 z := by
  have r1 : Rec W1 y.p vp vk (y.l.length + 1) := by rw [hW1]; exact rec_size N.r1 _
  have T : Touch [y.p] wr w2 := ((Touch.refl [y.p] wr).setCell (q := ⟨y.p, 2, none⟩) (.inl (by simp)) (.int .i64 ((y.l.length + 1 : Nat) : Int))).belowTo (by rw [← hW1]; exact hb)
  rw [N.hf] at nd
  obtain ⟨n1, n2, n3, n4⟩ := fp_parts nd
  refine ⟨T, (hb.block _ (Array.getElem?_eq_some_iff.1 r1).1).trans r1, N.r2.touch T (fun b hb2 => by simp; exact (n1 b hb2).1), N.r3.touch T (fun b hb2 => by simp; exact (n2 b hb2).1), fun v hv => ⟨(N.hz v hv).1.touch T (fun b hb2 hm => ?_), (N.hz v hv).2⟩⟩
  simp at hm
  exact n3 (mem_fpAll.2 ⟨v, hv, hm ▸ hb2⟩)

/-- down into a kid that is not full. -/
theorem Ins.down {t : Nat} {k : Int} {W0 : World} {h : Nat} {x : Kid} {wr w2 : World} {h' : Nat} {y : Kid} {R : List Nat} (I : Ins t k W0 h x wr (h' + 1) y R) {vp vk : Value} {P1 P2 : List Pr} {K1 K2 : List Kid} {z : Kid} (N : InnerAt t k wr h' y vp vk P1 P2 K1 K2 z) (M : InnerAt2 t k wr w2 h' y vp vk P1 P2 K1 K2 z) :
    Ins t k W0 h x w2 h' z (y.p :: (rows vp vk ++ fpAll K1 ++ fpAll K2) ++ R) := by
  have nd := (List.nodup_append.1 I.nodup).1
  exact I.step (M.t2.mono (fun b hb => .inl (by simp at hb; rw [hb]; exact I.ty.p_mem))) M.r1 M.r2 M.r3 N.hl N.h1 N.h2 (by rw [N.hyc]; exact Nat.le_refl _) M.hz N.hA N.hB (by rw [← N.hf]; exact nd) (fun b hb => .inl (by rw [N.hf]; exact List.mem_cons_of_mem _ hb))

end Go.Proofs.Ytcboakmfabdeoaa
