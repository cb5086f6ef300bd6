/- split of a kid that has kids: what it leaves behind, plain. -/
import Derived.Test.YtcboakmfabdeoaaXh
namespace Go.Proofs.Ytcboakmfabdeoaa
open Go.RowKit

/-- behind the cut of the left node's pairs: it has kids. -/
def Cut3I (p lp n cl sx : Nat) (vq : Value) (l : List Pr) (W2 wc : World) : Prop :=
  Touch [p, lp] W2 wc ∧ Rec wc p (.slice (some ⟨lp, 0, none⟩) n cl) vq sx ∧ PRow wc (.slice (some ⟨lp, 0, none⟩) n cl) l

theorem cut3I {p lp n cl nx sx : Nat} {vq : Value} {l : List Pr} {W2 w4 : World} (hne : p ≠ lp) (hl : l.length = nx) (hd : PRow w4 (.slice (some ⟨lp, 0, none⟩) (n + (nx - nx)) cl) (l.take n ++ l.drop nx)) (hg : W2.grownBy w4 (some lp)) (hr : Rec w4 p (.slice (some ⟨lp, 0, none⟩) nx cl) vq sx) :
    Cut3I p lp n cl sx vq (l.take n) W2 (w4.setCell ⟨p, 0, none⟩ (.slice (some ⟨lp, 0, none⟩) n cl)) := by
  have e : n + (nx - nx) = n := by omega
  rw [e] at hd
  rw [← hl, List.drop_length, List.append_nil] at hd
  exact ⟨((Touch.of_grown hg).mono (fun b hb => .inl (by simp at hb; simp [hb]))).setCell (.inl (by simp)) _, hr.set0 _, ownsRow_of_heap hd fun b hb => heap_setCell_other w4 _ b _ (fun e => by
    have h1 : lp = b := by simpa [Value.ownBlock] using hb
    exact hne (by rw [h1]; exact e.symm))⟩

theorem deleteK_ZN (zj : Int) (n g cap i : Nat) (l : List Kid) (w : World) (hzj : zj = n) (hij : i < n) (hn : n ≤ 1000000) (hr : KRow w (.slice (some ⟨g, 0, none⟩) n cap) l) :
    Calls Try.prog 60 #[.slice (some ⟨g, 0, none⟩) n cap, .int .i64 i, .int .i64 zj] w fun e w' =>
      e = .returned (.slice (some ⟨g, 0, none⟩) (i + (n - n)) cap) ∧ KRow w' (.slice (some ⟨g, 0, none⟩) (i + (n - n)) cap) (l.take i ++ l.drop n) ∧ w.grownBy w' (some g) :=
  deleteK_Z _ _ g n cap i n l w rfl hzj hij (Nat.le_refl _) hn hr

/-- behind the cut of the left node's kids. -/
def CutK (xp nb kp lp cl cq rp cr rk crk t nx sx : Nat) (ys : List Kid) (wc wf : World) : Prop :=
  Touch [xp, nb, kp] wc wf ∧ Rec wf xp (.slice (some ⟨lp, 0, none⟩) (t - 1) cl) (.slice (some ⟨kp, 0, none⟩) t cq) sx ∧ Rec wf nb (.slice (some ⟨rp, 0, none⟩) (nx - t) cr) (.slice (some ⟨rk, 0, none⟩) (nx + 1 - t) crk) 0 ∧
    KRow wf (.slice (some ⟨kp, 0, none⟩) t cq) (ys.take t) ∧ KRow wf (.slice (some ⟨rk, 0, none⟩) (nx + 1 - t) crk) (ys.drop t)

theorem cutK {xp nb kp lp cl cq rp cr rk crk t nx sx nq : Nat} {ys : List Kid} {wc wk w4 : World} {u : Value} (hu : u = .slice (some ⟨rk, 0, none⟩) (nx + 1 - t) crk) (hl : ys.length = nq) (n1 : xp ≠ kp) (n2 : xp ≠ nb) (n3 : nb ≠ kp) (n4 : kp < wc.heap.size) (n5 : nb < wc.heap.size) (n6 : wc.heap.size ≤ rk) (n7 : xp < wc.heap.size)
    (hd : KRow w4 (.slice (some ⟨kp, 0, none⟩) (t + (nq - nq)) cq) (ys.take t ++ ys.drop nq)) (hg : (wk.setCell ⟨nb, 1, none⟩ u).grownBy w4 (some kp)) (r4 : Rec w4 xp (.slice (some ⟨lp, 0, none⟩) (t - 1) cl) (.slice (some ⟨kp, 0, none⟩) nq cq) sx)
    (VK : KRow wk (.slice (some ⟨rk, 0, none⟩) (nx + 1 - t) crk) (ys.drop t)) (BK : Below wc.heap.size wc wk) (YK2 : Rec wk nb (.slice (some ⟨rp, 0, none⟩) (nx - t) cr) (.slice none 0 0) 0) :
    CutK xp nb kp lp cl cq rp cr rk crk t nx sx ys wc (w4.setCell ⟨xp, 1, none⟩ (.slice (some ⟨kp, 0, none⟩) t cq)) := by
  subst hu
  have e : t + (nq - nq) = t := by omega
  rw [e] at hd
  rw [← hl, List.drop_length, List.append_nil] at hd
  have T1 : Touch [nb] wk (wk.setCell ⟨nb, 1, none⟩ (.slice (some ⟨rk, 0, none⟩) (nx + 1 - t) crk)) := (Touch.refl [nb] wk).setCell (q := ⟨nb, 1, none⟩) (.inl (by simp)) _
  have T3 : Touch [xp] w4 (w4.setCell ⟨xp, 1, none⟩ (.slice (some ⟨kp, 0, none⟩) t cq)) := (Touch.refl [xp] w4).setCell (q := ⟨xp, 1, none⟩) (.inl (by simp)) _
  have T2 : Touch [kp] _ w4 := Touch.of_grown hg
  refine ⟨(((Touch.of_below BK [xp, nb, kp]).trans T1 (fun b hb => .inl (by simp at hb; simp [hb]))).trans T2 (fun b hb => .inl (by simp at hb; simp [hb]))).trans T3 (fun b hb => .inl (by simp at hb; simp [hb])), r4.set1 _, ?_, ?_, ?_⟩
  · exact ((YK2.set1 _).touch T2 (by simpa using n3)).touch T3 (by simpa using fun e => n2 e.symm)
  · exact KRow.touch hd T3 (fun b hb => by have : kp = b := by {simpa [Value.ownBlock] using hb}; subst this; simpa using fun e => n1 e.symm)
  · exact ((KRow.touch VK T1 (fun b hb => by have : rk = b := by {simpa [Value.ownBlock] using hb}; subst this; simp; omega)).touch T2 (fun b hb => by have : rk = b := by {simpa [Value.ownBlock] using hb}; subst this; simp; omega)).touch T3 (fun b hb => by have : rk = b := by {simpa [Value.ownBlock] using hb}; subst this; simp; omega)

theorem IsT.record {t : Nat} {w : World} : ∀ {h : Nat} {x : Kid}, IsT t w h x → ∃ a b, Rec w x.p a b x.l.length
  | 0, _, ⟨vp, h1, _⟩ => ⟨vp, _, h1⟩
  | _ + 1, _, ⟨vp, vk, _, _, h1, _⟩ => ⟨vp, vk, h1⟩

theorem nodup6 {a b c d e f n : Nat} {A B : List Nat} (h : (a :: b :: c :: (A ++ B)).Nodup) (hlt : ∀ x ∈ a :: b :: c :: (A ++ B), x < n) (hd : n ≤ d) (he : n ≤ e) (hf : n ≤ f) (h1 : d ≠ e) (h2 : d ≠ f) (h3 : e ≠ f) :
    ((a :: b :: c :: A) ++ d :: e :: f :: B).Nodup := by
  have hp := List.perm_append_comm_assoc (a :: b :: c :: A) [d, e, f] B
  refine (List.Perm.nodup_iff hp).2 ?_
  refine List.nodup_append.2 ⟨by simp [h1, h2, h3], by simpa using h, fun x hx y hy e => ?_⟩
  have := hlt y (by simpa using hy)
  simp at hx
  omega

/-- the numbers of an inner node's two halves. -/
theorem halves_num {t nx sx : Nat} {x : Kid} {xs L1 L2 : List Pr} {m : Pr} {ys : List Kid} (ht : 2 ≤ t) (hn : t ≤ nx) (el : xs = L1 ++ m :: L2) (elen : L1.length = t - 1) (hnx : xs.length = nx) (rl : ys.length = nx + 1) (rj : x.l = join (ys.map Kid.l) xs) (hsx : x.l.length = sx) (hb : sx ≤ 500000) :
    (ys.take t).length = L1.length + 1 ∧ (ys.drop t).length = L2.length + 1 ∧ L2.length = nx - t ∧ (t - 1) + total (ys.take t) = (join ((ys.take t).map Kid.l) L1).length ∧ (nx - t) + total (ys.drop t) = (join ((ys.drop t).map Kid.l) L2).length ∧ (t - 1) + total (ys.take t) ≤ 1000000 ∧ (nx - t) + total (ys.drop t) ≤ 1000000 ∧ x.l = join ((ys.take t).map Kid.l) L1 ++ m :: join ((ys.drop t).map Kid.l) L2 := by
  have hl2 : L2.length = nx - t := by have := congrArg List.length el; simp at this; omega
  have a1 : (ys.take t).length = L1.length + 1 := by rw [List.length_take]; omega
  have a2 : (ys.drop t).length = L2.length + 1 := by rw [List.length_drop]; omega
  have j1 := join_length _ _ a1
  have j2 := join_length _ _ a2
  have j3 := join_length ys xs (by omega)
  have e : x.l = join ((ys.take t).map Kid.l) L1 ++ m :: join ((ys.drop t).map Kid.l) L2 := by
    rw [← join_cut _ _ _ _ _ (by simpa using a1) (by simpa using a2), ← el, ← List.map_append, List.take_append_drop, rj]
  have e2 : x.l.length = (join ((ys.take t).map Kid.l) L1).length + 1 + (join ((ys.drop t).map Kid.l) L2).length := by rw [e]; simp; omega
  refine ⟨a1, a2, hl2, by omega, by omega, by omega, by omega, e⟩

theorem halves_inner {t h nb lp rp kp rk cl cr cq crk nx sx : Nat} {w w2 wa wb w5 w6 : World} {x : Kid} {xs L1 L2 : List Pr} {m : Pr} {ys : List Kid} (ht : 2 ≤ t) (el : xs = L1 ++ m :: L2) (elen : L1.length = t - 1) (hnx : xs.length = nx) (hn : 2 * t ≤ nx + 1) (rl : ys.length = nx + 1) (rj : x.l = join (ys.map Kid.l) xs) (hsx : x.l.length = sx) (hb : sx ≤ 500000) (hnb : w2.heap.size = nb)
    (r8 : ∀ y ∈ ys, IsT t w h y ∧ t - 1 ≤ y.c)
    (fx : x.fp = x.p :: (rows (.slice (some ⟨lp, 0, none⟩) nx cl) (.slice (some ⟨kp, 0, none⟩) (nx + 1) cq) ++ fpAll ys)) (hnd : (x.p :: (rows (.slice (some ⟨lp, 0, none⟩) nx cl) (.slice (some ⟨kp, 0, none⟩) (nx + 1) cq) ++ fpAll ys)).Nodup)
    (x_lt : x.p < w.heap.size) (lp_lt : lp < w.heap.size) (kp_lt : kp < w.heap.size)
    (B2 : Below w.heap.size w w2) (rp_ge : w.heap.size + 1 ≤ rp) (rp_lt : rp < w2.heap.size) (rk_ge : nb + 1 ≤ rk) (VR : PRow w2 (.slice (some ⟨rp, 0, none⟩) (nx - t) cr) (xs.drop t)) (T26 : Touch [x.p, lp, kp] w2 w6)
    (Y2 : PRow wa (.slice (some ⟨lp, 0, none⟩) (t - 1) cl) (xs.take (t - 1))) (TK : Touch [x.p, nb, kp] wa wb) (K3 : KRow wb (.slice (some ⟨kp, 0, none⟩) t cq) (ys.take t))
    (Z1 : Rec w5 x.p (.slice (some ⟨lp, 0, none⟩) (t - 1) cl) (.slice (some ⟨kp, 0, none⟩) t cq) (t - 1 + total (ys.take t))) (Z2 : Touch [x.p] wb w5) (K5 : KRow w5 (.slice (some ⟨rk, 0, none⟩) (nx + 1 - t) crk) (ys.drop t))
    (Z3 : Rec w6 nb (.slice (some ⟨rp, 0, none⟩) (nx - t) cr) (.slice (some ⟨rk, 0, none⟩) (nx + 1 - t) crk) (nx - t + total (ys.drop t))) (Z4 : Touch [nb] w5 w6) :
    Halves t (h + 1) w w6 x ⟨x.p, join ((ys.take t).map Kid.l) L1, x.p :: (rows (.slice (some ⟨lp, 0, none⟩) (t - 1) cl) (.slice (some ⟨kp, 0, none⟩) t cq) ++ fpAll (ys.take t)), L1.length⟩
      ⟨nb, join ((ys.drop t).map Kid.l) L2, nb :: (rows (.slice (some ⟨rp, 0, none⟩) (nx - t) cr) (.slice (some ⟨rk, 0, none⟩) (nx + 1 - t) crk) ++ fpAll (ys.drop t)), L2.length⟩ m := by
  obtain ⟨a1, a2, hl2, j1, j2, _, _, ee⟩ := halves_num ht (by omega) el elen hnx rl rj hsx hb
  have hd : xs.drop t = L2 := by
    rw [el, show t = (L1 ++ [m]).length by simp; omega, show L1 ++ m :: L2 = (L1 ++ [m]) ++ L2 by simp]
    exact List.drop_left' rfl
  have htk : xs.take (t - 1) = L1 := by rw [el, ← elen]; exact List.take_left' rfl
  rw [hd] at VR
  rw [htk] at Y2
  have hs := B2.size
  have er : rows (.slice (some ⟨lp, 0, none⟩) nx cl) (.slice (some ⟨kp, 0, none⟩) (nx + 1) cq) = [lp, kp] := rfl
  rw [er] at fx hnd
  have fy : fpAll ys = fpAll (ys.take t) ++ fpAll (ys.drop t) := by
    rw [fpAll, fpAll, fpAll, ← List.flatMap_append, List.take_append_drop]
  have hnd2 : (x.p :: lp :: kp :: (fpAll (ys.take t) ++ fpAll (ys.drop t))).Nodup := by rw [← fy]; exact hnd
  have hold : ∀ b ∈ fpAll ys, b < w.heap.size := fun b hb => by
    obtain ⟨y, hy, hby⟩ := mem_fpAll.1 hb
    exact (r8 y hy).1.lt b hby
  have hkid : ∀ y ∈ ys, IsT t w6 h y ∧ t - 1 ≤ y.c := fun y hy => ⟨(((r8 y hy).1.touch (Touch.of_below B2 []) (by simp))).touch T26 (fun b hb hm => by
    have hbm : b ∈ fpAll ys := mem_fpAll.2 ⟨y, hy, hb⟩
    rw [fy] at hbm
    have q := hnd2
    simp only [List.nodup_cons, List.mem_cons, not_or] at q
    simp at hm
    rcases hm with e | e | e
    · exact q.1.2.2 (e ▸ hbm)
    · exact q.2.1.2 (e ▸ hbm)
    · exact q.2.2.1 (e ▸ hbm)), (r8 y hy).2⟩
  have q := hnd2
  simp only [List.nodup_cons, List.mem_cons, not_or] at q
  have n1 : x.p ≠ lp := q.1.1
  have n2 : x.p ≠ kp := q.1.2.1
  have n3 : lp ≠ kp := q.2.1.1
  refine ⟨?_, ?_, rfl, by show t - 1 ≤ L1.length; omega, by show t - 1 ≤ L2.length; omega, ee, ?_, ?_, ?_⟩
  · refine IsT.make ?_ ?_ ?_ a1 (fun y hy => hkid y (List.mem_of_mem_take hy))
    · rw [← j1]; exact Z1.touch Z4 (by simp; omega)
    · exact ((Y2.touch TK (fun b hb => by have : lp = b := by {simpa [Value.ownBlock] using hb}; subst this; simp; omega)).touch Z2 (fun b hb => by have : lp = b := by {simpa [Value.ownBlock] using hb}; subst this; simp; omega)).touch Z4 (fun b hb => by have : lp = b := by {simpa [Value.ownBlock] using hb}; subst this; simp; omega)
    · exact (K3.touch Z2 (fun b hb => by have : kp = b := by {simpa [Value.ownBlock] using hb}; subst this; simp; omega)).touch Z4 (fun b hb => by have : kp = b := by {simpa [Value.ownBlock] using hb}; subst this; simp; omega)
  · refine IsT.make ?_ ?_ ?_ a2 (fun y hy => hkid y (List.mem_of_mem_drop hy))
    · rw [← j2]; exact Z3
    · exact VR.touch T26 (fun b hb => by have : rp = b := by {simpa [Value.ownBlock] using hb}; subst this; simp; omega)
    · exact K5.touch Z4 (fun b hb => by have : rk = b := by {simpa [Value.ownBlock] using hb}; subst this; simp; omega)
  · rw [fx]
    refine ((Touch.of_below B2 [x.p, lp, kp]).trans T26 (fun b hb => .inl hb)).mono (fun b hb => .inl ?_)
    simp at hb
    rcases hb with e | e | e <;> simp [e]
  · intro b hb
    rw [fx, fy]
    simp [rows, Value.ownBlock] at hb ⊢
    rcases hb with e | e | e | e | e | e | e | e
    · exact .inl (.inl e)
    · exact .inl (.inr (.inl e))
    · exact .inl (.inr (.inr (.inl e)))
    · exact .inl (.inr (.inr (.inr (.inl e))))
    · exact .inr (by omega)
    · exact .inr (by omega)
    · exact .inr (by omega)
    · exact .inl (.inr (.inr (.inr (.inr e))))
  · show ((x.p :: lp :: kp :: fpAll (ys.take t)) ++ (nb :: rp :: rk :: fpAll (ys.drop t))).Nodup
    refine nodup6 hnd2 (n := w.heap.size) (fun b hb => ?_) (by omega) (by omega) (by omega) (by omega) (by omega) (by omega)
    rw [← fy] at hb
    simp at hb
    rcases hb with e | e | e | e
    · omega
    · omega
    · omega
    · exact hold b e
end Go.Proofs.Ytcboakmfabdeoaa
