/- What split leaves behind: plain facts about worlds, no walk. -/
import Derived.Test.YtcboakmfabdeoaaWd
import Derived.Test.YtcboakmfabdeoaaWf
import Derived.Test.YtcboakmfabdeoaaXg
namespace Go.Proofs.Ytcboakmfabdeoaa
open Go.RowKit

/-- x is in two: y keeps its place, z is new, m stood between them. -/
structure Halves (t h : Nat) (w w6 : World) (x y z : Kid) (m : Pr) : Prop where
  ty : IsT t w6 h y
  tz : IsT t w6 h z
  py : y.p = x.p
  cy : t - 1 ≤ y.c
  cz : t - 1 ≤ z.c
  ls : x.l = y.l ++ m :: z.l
  touch : Touch x.fp w w6
  hf : ∀ b ∈ y.fp ++ z.fp, b ∈ x.fp ∨ w.heap.size ≤ b
  nodup : (y.fp ++ z.fp).Nodup

/-- what the node p is behind split. -/
structure Split (t h p sz : Nat) (vp vk : Value) (P1 P2 : List Pr) (K1 K2 : List Kid) (w W : World) (x y z : Kid) (m : Pr) (vp' vk' : Value) : Prop where
  hr : Rec W p vp' vk' sz
  hps : PRow W vp' (P1 ++ m :: P2)
  hks : KRow W vk' (K1 ++ y :: z :: K2)
  ty : IsT t W h y
  tz : IsT t W h z
  py : y.p = x.p
  cy : t - 1 ≤ y.c
  cz : t - 1 ≤ z.c
  ls : x.l = y.l ++ m :: z.l
  touch : Touch (p :: (rows vp vk ++ x.fp)) w W
  hf : ∀ b ∈ rows vp' vk' ++ (y.fp ++ z.fp), b ∈ rows vp vk ++ x.fp ∨ w.heap.size ≤ b
  nodup : (p :: (rows vp' vk' ++ (y.fp ++ z.fp))).Nodup

theorem KRow.ptrs_eq {w : World} {v : Value} {ks ks' : List Kid} (h : KRow w v ks) (e : ptrs ks = ptrs ks') : KRow w v ks' := by
  have hl : ks.length = ks'.length := by have := congrArg List.length e; simpa [ptrs] using this
  unfold KRow at *
  rw [← e, ← hl]; exact h

theorem halves_leaf {t nb lp rp cl cr nx : Nat} {w w2 wc w5 w6 : World} {x : Kid} {L1 L2 : List Pr} {m : Pr} (ht : 2 ≤ t) (el : x.l = L1 ++ m :: L2) (elen : L1.length = t - 1) (hnx : x.l.length = nx) (hn : 2 * t ≤ nx + 1) (hnb : w2.heap.size = nb)
    (fx : x.fp = x.p :: (Value.ownBlock (.slice (some ⟨lp, 0, none⟩) nx cl)).toList) (e3 : x.p ≠ lp) (x_lt : x.p < w.heap.size) (lp_lt : lp < w.heap.size)
    (B2 : Below w.heap.size w w2) (rp_ge : w.heap.size + 1 ≤ rp) (rp_lt : rp < w2.heap.size) (VR : PRow w2 (.slice (some ⟨rp, 0, none⟩) (nx - t) cr) (x.l.drop t)) (T26 : Touch [x.p, lp] w2 w6)
    (Y2 : PRow wc (.slice (some ⟨lp, 0, none⟩) (t - 1) cl) (x.l.take (t - 1))) (Z1 : Rec w5 x.p (.slice (some ⟨lp, 0, none⟩) (t - 1) cl) (.slice none 0 0) (t - 1)) (Z2 : Touch [x.p] wc w5)
    (Z3 : Rec w6 nb (.slice (some ⟨rp, 0, none⟩) (nx - t) cr) (.slice none 0 0) (nx - t)) (Z4 : Touch [nb] w5 w6) :
    Halves t 0 w w6 x ⟨x.p, L1, [x.p, lp], t - 1⟩ ⟨nb, L2, [nb, rp], nx - t⟩ m := by
  have hd : x.l.drop t = L2 := by
    rw [el, show t = (L1 ++ [m]).length by simp; omega, show L1 ++ m :: L2 = (L1 ++ [m]) ++ L2 by simp]
    exact List.drop_left' rfl
  have htk : x.l.take (t - 1) = L1 := by rw [el, ← elen]; exact List.take_left' rfl
  have hl2 : L2.length = nx - t := by rw [← hd, List.length_drop, hnx]
  have fx' : x.fp = [x.p, lp] := by rw [fx]; rfl
  have hs := B2.size
  rw [hd] at VR
  rw [htk] at Y2
  refine ⟨⟨.slice (some ⟨lp, 0, none⟩) (t - 1) cl, ?_, ?_, rfl, elen.symm⟩, ⟨.slice (some ⟨rp, 0, none⟩) (nx - t) cr, ?_, ?_, rfl, hl2.symm⟩, rfl, Nat.le_refl _, by show t - 1 ≤ nx - t; omega, el, ?_, ?_, ?_⟩
  · show Rec w6 x.p _ _ L1.length
    rw [elen]
    exact Z1.touch Z4 (by simp; omega)
  · exact (Y2.touch Z2 (fun b hb => by have : lp = b := by {simpa [Value.ownBlock] using hb}; subst this; simp; exact fun e => e3 e.symm)).touch Z4 (fun b hb => by have : lp = b := by {simpa [Value.ownBlock] using hb}; subst this; simp; omega)
  · show Rec w6 nb _ _ L2.length
    rw [hl2]; exact Z3
  · exact VR.touch T26 (fun b hb => by have : rp = b := by {simpa [Value.ownBlock] using hb}; subst this; simp; omega)
  · rw [fx']; exact (Touch.of_below B2 [x.p, lp]).trans T26 (fun b hb => .inl hb)
  · intro b hb
    rw [fx']
    simp at hb ⊢
    omega
  · simp
    omega

theorem split_done {t h p i sz bk nk ck g9 c9 g10 c10 nb : Nat} {vp : Value} {P1 P2 : List Pr} {K1 K2 : List Kid} {w w6 wc w10 : World} {x y z : Kid} {m : Pr}
    (H : Halves t h w w6 x y z m) (h1 : K1.length = i) (hp_lt : p < w.heap.size) (bk_lt : bk < w.heap.size) (vp_lt : ∀ b, vp.ownBlock = some b → b < w.heap.size)
    (hd1 : ∀ b ∈ x.fp, b ≠ p ∧ b ≠ bk ∧ vp.ownBlock ≠ some b) (hd2 : p ≠ bk) (hd3 : vp.ownBlock ≠ some p) (hd4 : vp.ownBlock ≠ some bk) (hz : z.p = nb)
    (s2 : PRow wc (.slice (some ⟨g9, 0, none⟩) (P1.length + P2.length + 1) c9) (P1 ++ m :: P2)) (s3 : vp.ownBlock = some g9 ∨ w6.heap.size ≤ g9) (s4 : Touch (p :: vp.ownBlock.toList) w6 wc)
    (v1 : KRow w10 (.slice (some ⟨g10, 0, none⟩) (nk + 1) c10) ((K1 ++ x :: K2).take (i + 1) ++ ⟨nb, [], [], 0⟩ :: (K1 ++ x :: K2).drop (i + 1))) (v2 : Touch [bk] wc w10) (v3 : bk = g10 ∨ wc.heap.size ≤ g10)
    (r10 : Rec w10 p (.slice (some ⟨g9, 0, none⟩) (P1.length + P2.length + 1) c9) (.slice (some ⟨bk, 0, none⟩) nk ck) sz) :
    Split t h p sz vp (.slice (some ⟨bk, 0, none⟩) nk ck) P1 P2 K1 K2 w (w10.setCell ⟨p, 1, none⟩ (.slice (some ⟨g10, 0, none⟩) (nk + 1) c10)) x y z m (.slice (some ⟨g9, 0, none⟩) (P1.length + P2.length + 1) c9) (.slice (some ⟨g10, 0, none⟩) (nk + 1) c10) := by
  have z1 := H.touch.size
  have z2 := s4.size
  have z3 := v2.size
  have g9lt : g9 < wc.heap.size := s2.lt rfl
  have n1 : g9 ≠ p := by rcases s3 with e | e; exact fun e2 => hd3 (e2 ▸ e); omega
  have n2 : g9 ≠ bk := by rcases s3 with e | e; exact fun e2 => hd4 (e2 ▸ e); omega
  have n3 : g10 ≠ p := by rcases v3 with e | e; exact fun e2 => hd2 (by omega); omega
  have n4 : g9 ≠ g10 := by rcases v3 with e | e <;> omega
  have old : ∀ b, b ∈ y.fp ++ z.fp → b ≠ p ∧ b ≠ bk ∧ vp.ownBlock ≠ some b := fun b hb => by
    rcases H.hf b hb with e | e
    · exact hd1 b e
    · exact ⟨by omega, by omega, fun e2 => by have := vp_lt b e2; omega⟩
  have lt6 : ∀ b, b ∈ y.fp ++ z.fp → b < w6.heap.size := fun b hb => by
    rcases List.mem_append.1 hb with e | e
    · exact H.ty.lt b e
    · exact H.tz.lt b e
  have T : Touch (p :: (vp.ownBlock.toList ++ [bk])) w6 (w10.setCell ⟨p, 1, none⟩ (.slice (some ⟨g10, 0, none⟩) (nk + 1) c10)) :=
    ((s4.mono (G := p :: (vp.ownBlock.toList ++ [bk])) (fun b hb => .inl (by simp at hb ⊢; rcases hb with e | e <;> simp [e]))).trans v2 (fun b hb => .inl (by simp at hb; simp [hb]))).setCell (.inl (by simp)) _
  have hdis : ∀ b, b ∈ y.fp ++ z.fp → b ∉ p :: (vp.ownBlock.toList ++ [bk]) := fun b hb hm => by
    obtain ⟨o1, o2, o3⟩ := old b hb
    simp at hm
    rcases hm with e | e | e
    · exact o1 e
    · exact o3 e
    · exact o2 e
  refine ⟨r10.set1 _, ?_, ?_, H.ty.touch T (fun b hb => hdis b (by simp [hb])), H.tz.touch T (fun b hb => hdis b (by simp [hb])), H.py, H.cy, H.cz, H.ls, ?_, ?_, ?_⟩
  · have a1 : PRow w10 _ _ := s2.touch v2 (fun b hb => by have : g9 = b := by {simpa [Value.ownBlock] using hb}; subst this; simpa using n2)
    exact a1.touch ((Touch.refl [p] w10).setCell (q := ⟨p, 1, none⟩) (.inl (by simp)) _) (fun b hb => by have : g9 = b := by {simpa [Value.ownBlock] using hb}; subst this; simpa using n1)
  · have a1 : KRow w10 _ (K1 ++ y :: z :: K2) := v1.ptrs_eq (by
      have e1 : (K1 ++ x :: K2).take (i + 1) = K1 ++ [x] := by
        rw [← h1, show K1 ++ x :: K2 = (K1 ++ [x]) ++ K2 by simp]; exact List.take_left' (by simp)
      have e2 : (K1 ++ x :: K2).drop (i + 1) = K2 := by
        rw [← h1, show K1 ++ x :: K2 = (K1 ++ [x]) ++ K2 by simp]; exact List.drop_left' (by simp)
      rw [e1, e2]; simp [ptrs, H.py, hz])
    exact a1.touch ((Touch.refl [p] w10).setCell (q := ⟨p, 1, none⟩) (.inl (by simp)) _) (fun b hb => by have : g10 = b := by {simpa [Value.ownBlock] using hb}; subst this; simpa using n3)
  · refine (H.touch.mono (G := p :: (rows vp (.slice (some ⟨bk, 0, none⟩) nk ck) ++ x.fp)) (fun b hb => .inl (by simp [hb]))).trans T (fun b hb => .inl ?_)
    simp at hb
    simp only [List.mem_cons, List.mem_append, mem_rows]
    rcases hb with e | e | e
    · exact .inl e
    · exact .inr (.inl (.inl e))
    · exact .inr (.inl (.inr (by simp [Value.ownBlock, e])))
  · intro b hb
    simp only [List.mem_append, mem_rows] at hb ⊢
    rcases hb with (e | e) | e
    · have : g9 = b := by simpa [Value.ownBlock] using e
      subst this
      rcases s3 with e2 | e2
      · exact .inl (.inl (.inl e2))
      · exact .inr (by omega)
    · have : g10 = b := by simpa [Value.ownBlock] using e
      subst this
      rcases v3 with e2 | e2
      · exact .inl (.inl (.inr (by simp [Value.ownBlock, e2])))
      · exact .inr (by omega)
    · rcases H.hf b (by simp [e]) with e2 | e2
      · exact .inl (.inr e2)
      · exact .inr e2
  · have er : rows (.slice (some ⟨g9, 0, none⟩) (P1.length + P2.length + 1) c9) (.slice (some ⟨g10, 0, none⟩) (nk + 1) c10) = [g9, g10] := rfl
    rw [er]
    have k9 : g9 ∉ y.fp ++ z.fp := fun hm => by
      rcases s3 with e | e
      · exact (old g9 hm).2.2 e
      · have := lt6 g9 hm; omega
    have k10 : g10 ∉ y.fp ++ z.fp := fun hm => by
      rcases v3 with e | e
      · exact (old g10 hm).2.1 e.symm
      · have := lt6 g10 hm; omega
    have kp : p ∉ y.fp ++ z.fp := fun hm => (old p hm).1 rfl
    have hn := H.nodup
    generalize y.fp ++ z.fp = F at *
    simp [k9, k10, kp, hn, n4, Ne.symm n1, Ne.symm n3]
end Go.Proofs.Ytcboakmfabdeoaa
