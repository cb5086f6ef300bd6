import Derived.Test.YtcboakmfabdeoaaY7
import Derived.Deep.RegionHeld3

/- remove: what it leaves behind, plain. -/
namespace Go.Proofs.Ytcboakmfabdeoaa
open Go.RowKit

theorem del_mid1 {A B : List Pr} {m : Pr} {k : Int} (hA : ∀ q ∈ A, q.1 < k) (hB : ∀ q ∈ B, k < q.1) (hm : m.1 = k) : del (A ++ m :: B) k = A ++ B := by
  have := del_mid (A := A) (x := [m]) (B := B) hA hB
  rw [show A ++ [m] ++ B = A ++ m :: B by simp] at this
  rw [this]
  simp [del, hm]

theorem del_length {l : List Pr} {k : Int} (hs : Rising l) (h : hasB l k = true) : (del l k).length + 1 = l.length := by
  obtain ⟨m, hm, hk⟩ := hasB_iff.1 h
  obtain ⟨A, B, rfl⟩ := List.append_of_mem hm
  have r := rising_append.1 hs
  have r2 := rising_cons.1 r.2.1
  rw [del_mid1 (fun q hq => by have := r.2.2 q hq m (by simp); omega) (fun q hq => by have := r2.1 q hq; omega) hk]
  simp; omega

def RemPost (t : Nat) (k : Int) (w : World) (h : Nat) (x : Kid) (w' : World) : Prop :=
  ∃ fp3 c3, IsT t w' h ⟨x.p, del x.l k, fp3, c3⟩ ∧ Touch x.fp w w' ∧ fp3.Nodup ∧ (∀ b ∈ fp3, b ∈ x.fp ∨ w.heap.size ≤ b) ∧ x.c ≤ c3 + 1

/-- all is laid for going down: from kid u the key k' is to go. -/
structure Ready (t h : Nat) (w : World) (x : Kid) (k k' : Int) (W : World) (vp vk : Value) (Q1 Q2 : List Pr) (J1 J2 : List Kid) (u : Kid) : Prop where
  I : Inn t h W x.p vp vk (x.l.length - 1) (Q1 ++ Q2) (J1 ++ u :: J2)
  S : Stepped w W x.fp (ifp x.p vp vk (J1 ++ u :: J2))
  h1 : J1.length = Q1.length
  uc : t ≤ u.c
  has : hasB u.l k' = true
  rise : Rising u.l
  len : u.l.length ≤ x.l.length
  res : joinL (J1.map Kid.l) Q1 ++ del u.l k' ++ joinR Q2 (J2.map Kid.l) = del x.l k
  pc : x.c ≤ (Q1 ++ Q2).length + 1

theorem Ready.done {t h : Nat} {w W W2 : World} {x : Kid} {k k' : Int} {vp vk : Value} {Q1 Q2 : List Pr} {J1 J2 : List Kid} {u : Kid} (R : Ready t h w x k k' W vp vk Q1 Q2 J1 J2 u) (hr : Rising x.l) (hk : hasB x.l k = true) (P : RemPost t k' W h u W2) : RemPost t k w (h + 1) x W2 := by
  obtain ⟨fp3, c3, p1, p2, p3, p4, p5⟩ := P
  have nd := R.I.nd
  have f1 : fpAll (J1 ++ u :: J2) = fpAll J1 ++ (u.fp ++ fpAll J2) := by simp [fpAll]
  have f2 : fpAll (J1 ++ ⟨u.p, del u.l k', fp3, c3⟩ :: J2) = fpAll J1 ++ (fp3 ++ fpAll J2) := by simp [fpAll]
  have pm : (ifp x.p vp vk (J1 ++ u :: J2)).Perm (u.fp ++ (x.p :: (rows vp vk ++ (fpAll J1 ++ fpAll J2)))) := by
    unfold ifp; rw [f1]; exact List.perm_iff_count.2 (fun c => by simp only [List.count_append, List.count_cons]; omega)
  have pm2 : (x.p :: (rows vp vk ++ fpAll (J1 ++ ⟨u.p, del u.l k', fp3, c3⟩ :: J2))).Perm (fp3 ++ (x.p :: (rows vp vk ++ (fpAll J1 ++ fpAll J2)))) := by
    rw [f2]; exact List.perm_iff_count.2 (fun c => by simp only [List.count_append, List.count_cons]; omega)
  have nd1 := List.nodup_append.1 (pm.nodup_iff.1 nd)
  have hd : ∀ b ∈ x.p :: (rows vp vk ++ (fpAll J1 ++ fpAll J2)), b ∉ u.fp := fun b hb hm => nd1.2.2 b hm b hb rfl
  have hold : ∀ b ∈ x.p :: (rows vp vk ++ (fpAll J1 ++ fpAll J2)), b < W.heap.size := fun b hb => by
    rcases List.mem_cons.1 hb with e | e
    · rw [e]; exact (Array.getElem?_eq_some_iff.1 R.I.r).1
    · simp only [List.mem_append] at e
      rcases e with e | e | e
      · rcases mem_rows.1 e with e | e
        · exact R.I.pr.lt e
        · exact (World.ownsRow.lt R.I.kr b e).2
      · obtain ⟨v, hv, hb⟩ := mem_fpAll.1 e
        exact (R.I.hz v (by simp [hv])).1.lt b hb
      · obtain ⟨v, hv, hb⟩ := mem_fpAll.1 e
        exact (R.I.hz v (by simp [hv])).1.lt b hb
  have e1 : join ((J1 ++ ⟨u.p, del u.l k', fp3, c3⟩ :: J2).map Kid.l) (Q1 ++ Q2) = del x.l k := by
    rw [List.map_append, List.map_cons, join_split _ _ _ _ _ (by simpa using R.h1)]; exact R.res
  have hlen := del_length hr hk
  have mk : IsT t W2 (h + 1) ⟨x.p, join ((J1 ++ ⟨u.p, del u.l k', fp3, c3⟩ :: J2).map Kid.l) (Q1 ++ Q2), x.p :: (rows vp vk ++ fpAll (J1 ++ ⟨u.p, del u.l k', fp3, c3⟩ :: J2)), (Q1 ++ Q2).length⟩ := by
    refine IsT.make ?_ (R.I.pr.touch p2 (fun b hb => hd b (by simp [mem_rows, hb]))) (KRow.ptrs_eq (R.I.kr.touch p2 (fun b hb => hd b (by simp [mem_rows, hb]))) (by simp [ptrs])) (by have := R.I.len; simp at this ⊢; omega) (fun v hv => ?_)
    · rw [e1, show (del x.l k).length = x.l.length - 1 by omega]
      exact R.I.r.touch p2 (hd _ (by simp))
    · have hv2 : v ∈ J1 ∨ v = ⟨u.p, del u.l k', fp3, c3⟩ ∨ v ∈ J2 := by simpa using hv
      rcases hv2 with e | e | e
      · have q := R.I.hz v (by simp [e])
        exact ⟨q.1.touch p2 (fun b hb => hd b (by simp only [List.mem_cons, List.mem_append]; exact .inr (.inr (.inl (mem_fpAll.2 ⟨v, e, hb⟩))))), q.2⟩
      · subst e
        exact ⟨p1, by have := R.uc; show t - 1 ≤ c3; omega⟩
      · have q := R.I.hz v (by simp [e])
        exact ⟨q.1.touch p2 (fun b hb => hd b (by simp only [List.mem_cons, List.mem_append]; exact .inr (.inr (.inr (mem_fpAll.2 ⟨v, e, hb⟩))))), q.2⟩
  have hs := R.S.touch.size
  refine ⟨_, _, by rw [e1] at mk; exact mk, R.S.touch.trans p2 (fun b hb => R.S.own b (pm.mem_iff.2 (by simp [hb]))), ?_, ?_, R.pc⟩
  · refine pm2.nodup_iff.2 (List.nodup_append.2 ⟨p3, nd1.2.1, fun a ha b hb e => ?_⟩)
    subst e
    rcases p4 a ha with e2 | e2
    · exact hd a hb e2
    · have := hold a hb; omega
  · intro b hb
    rcases List.mem_append.1 (pm2.mem_iff.1 hb) with e | e
    · rcases p4 b e with e2 | e2
      · exact R.S.own b (pm.mem_iff.2 (by simp [e2]))
      · exact .inr (by omega)
    · exact R.S.own b (pm.mem_iff.2 (List.mem_append.2 (.inr e)))

/-- the node ahead of going down, its size lowered. -/
structure Start (t h : Nat) (w : World) (x : Kid) (W : World) (vp vk : Value) (ps : List Pr) (ks : List Kid) : Prop where
  I : Inn t h W x.p vp vk (x.l.length - 1) ps ks
  T : Touch [x.p] w W
  fp : x.fp = ifp x.p vp vk ks
  l : x.l = join (ks.map Kid.l) ps
  c : x.c = ps.length

theorem Start.stepped {t h : Nat} {w : World} {x : Kid} {W W2 : World} {vp vk vp' vk' : Value} {ps : List Pr} {ks ks' : List Kid} (S : Start t h w x W vp vk ps ks) (St : Stepped W W2 (ifp x.p vp vk ks) (ifp x.p vp' vk' ks')) : Stepped w W2 x.fp (ifp x.p vp' vk' ks') := by
  have e := S.fp
  refine ⟨?_, fun b hb => ?_⟩
  · rw [e]
    exact (S.T.mono (fun b hb => .inl (by simp at hb; simp [ifp, hb]))).trans St.touch (fun b hb => .inl hb)
  · rw [e]
    exact (St.own b hb).imp id (fun h => Nat.le_trans S.T.size h)

/-- the key is not the node's own: behind fill. -/
theorem ready_fill {t h : Nat} {w W W2 : World} {x : Kid} {k : Int} {vp vk : Value} {P1 P2 : List Pr} {K1 K2 : List Kid} {z : Kid} {j : Nat} (S : Start t h w x W vp vk (P1 ++ P2) (K1 ++ z :: K2)) (hl : K1.length = P1.length) (hs : Rising x.l) (hk : hasB x.l k = true)
    (hA : ∀ q ∈ joinL (K1.map Kid.l) P1, q.1 < k) (hB : ∀ q ∈ joinR P2 (K2.map Kid.l), k < q.1) (F : Filled t h W x.p vp vk (x.l.length - 1) P1 P2 K1 K2 z j W2) :
    ∃ vp' vk' Q1 Q2 J1 J2 u, J1.length = j ∧ Ready t h w x k k W2 vp' vk' Q1 Q2 J1 J2 u := by
  obtain ⟨vp', vk', Q1, Q2, J1, J2, u, I, St, j1, j2, uc, pc, hj, a1, a2⟩ := F
  have e : x.l = joinL (J1.map Kid.l) Q1 ++ u.l ++ joinR Q2 (J2.map Kid.l) := by
    rw [hj, S.l, List.map_append, List.map_cons]; exact join_split _ _ _ _ _ (by simpa using hl)
  have hA' : ∀ q ∈ joinL (J1.map Kid.l) Q1, q.1 < k := fun q hq => hA q (a1 q hq)
  have hB' : ∀ q ∈ joinR Q2 (J2.map Kid.l), k < q.1 := fun q hq => hB q (a2 q hq)
  refine ⟨vp', vk', Q1, Q2, J1, J2, u, j1, I, S.stepped St, by omega, uc, ?_, ?_, ?_, ?_, by rw [S.c]; exact pc⟩
  · rw [e, hasB_mid hA' hB'] at hk; exact hk
  · rw [e] at hs; exact (rising_append.1 (rising_append.1 hs).1).2.1
  · rw [e]; simp; omega
  · rw [e, del_mid hA' hB']

/-- the key is the node's own: the parts about it. -/
theorem own_parts {t h : Nat} {w W : World} {x : Kid} {k : Int} {vp vk : Value} {P1 P2 : List Pr} {K1 K2 : List Kid} {z b : Kid} {m : Pr} (S : Start t h w x W vp vk (P1 ++ m :: P2) (K1 ++ z :: b :: K2)) (hl : K1.length = P1.length) (hs : Rising x.l) (hm : m.1 = k) :
    x.l = joinL (K1.map Kid.l) P1 ++ z.l ++ (m :: b.l ++ joinR P2 (K2.map Kid.l)) ∧ del x.l k = joinL (K1.map Kid.l) P1 ++ z.l ++ (b.l ++ joinR P2 (K2.map Kid.l)) ∧ Rising z.l ∧ Rising b.l ∧ (∀ q ∈ z.l, q.1 < k) ∧ (∀ q ∈ b.l, k < q.1) := by
  have e : x.l = joinL (K1.map Kid.l) P1 ++ z.l ++ (m :: b.l ++ joinR P2 (K2.map Kid.l)) := by
    rw [S.l, List.map_append, List.map_cons, join_split _ _ _ _ _ (by simpa using hl)]; simp [joinR]
  have hs2 := hs
  rw [e] at hs2
  have r := rising_append.1 hs2
  have r1 := rising_append.1 r.1
  have r2 := rising_cons.1 r.2.1
  have r3 := rising_append.1 r2.2
  have hA : ∀ q ∈ joinL (K1.map Kid.l) P1 ++ z.l, q.1 < k := fun q hq => by have := r.2.2 q hq m (by simp); omega
  have hB : ∀ q ∈ b.l ++ joinR P2 (K2.map Kid.l), k < q.1 := fun q hq => by have := r2.1 q hq; omega
  refine ⟨e, ?_, r1.2.1, r3.1, fun q hq => hA q (by simp [hq]), fun q hq => hB q (by simp [hq])⟩
  rw [e, List.cons_append, del_mid1 hA hB hm]

/-- the node's pair becomes another one. -/
theorem Inn.setPair {t h : Nat} {w W : World} {p : Nat} {gp np cp i : Nat} {vk : Value} {sz : Nat} {P1 P2 : List Pr} {ks : List Kid} {m : Pr} (I : Inn t h w p (.slice (some ⟨gp, 0, none⟩) np cp) vk sz (P1 ++ m :: P2) ks) (h1 : P1.length = i) (q : Pr) (T : Touch [] w W) :
    Inn t h ((W.setCell ⟨gp, i * 2, none⟩ (.int .i64 q.1)).setCell ⟨gp, i * 2 + 1, none⟩ (.string q.2)) p (.slice (some ⟨gp, 0, none⟩) np cp) vk sz (P1 ++ q :: P2) ks ∧
      Stepped w ((W.setCell ⟨gp, i * 2, none⟩ (.int .i64 q.1)).setCell ⟨gp, i * 2 + 1, none⟩ (.string q.2)) (ifp p (.slice (some ⟨gp, 0, none⟩) np cp) vk ks) (ifp p (.slice (some ⟨gp, 0, none⟩) np cp) vk ks) := by
  obtain ⟨n1, n2, n3, n4⟩ := fp_parts I.nd
  have T2 : Touch [gp] w ((W.setCell ⟨gp, i * 2, none⟩ (.int .i64 q.1)).setCell ⟨gp, i * 2 + 1, none⟩ (.string q.2)) := ((T.mono (G := [gp]) (by simp)).setCell (q := ⟨gp, i * 2, none⟩) (.inl (by simp)) _).setCell (q := ⟨gp, i * 2 + 1, none⟩) (.inl (by simp)) _
  have g := n1 gp rfl
  refine ⟨⟨I.r.touch T2 (by simp; exact fun e => g.1 e.symm), ?_, I.kr.touch T2 (fun b hb hm => ?_), by have := I.len; simp at this ⊢; omega, fun v hv => ⟨(I.hz v hv).1.touch T2 (fun b hb hm => ?_), (I.hz v hv).2⟩, I.nd⟩, ⟨T2.mono (fun b hb => .inl (by simp at hb; simp [ifp, mem_rows, hb, Value.ownBlock])), fun b hb => .inl hb⟩⟩
  · have := PRow.setPair (i := i) (PRow.touch I.pr T (by simp)) (by rw [← h1]; simp) q
    rw [← h1] at this ⊢
    simpa using this
  · simp at hm; exact g.2.1 (hm ▸ hb)
  · simp at hm; exact g.2.2 (hm ▸ mem_fpAll.2 ⟨v, hv, hb⟩)

theorem ready_left {t h : Nat} {w W W2 : World} {x : Kid} {k : Int} {vp vk : Value} {P1 P2 : List Pr} {K1 K2 : List Kid} {z b : Kid} {m q : Pr} {l' : List Pr} (S : Start t h w x W vp vk (P1 ++ m :: P2) (K1 ++ z :: b :: K2)) (hl : K1.length = P1.length) (hs : Rising x.l) (hm : m.1 = k) (hz : t ≤ z.c) (hq : z.l = l' ++ [q])
    (I2 : Inn t h W2 x.p vp vk (x.l.length - 1) (P1 ++ q :: P2) (K1 ++ z :: b :: K2)) (St : Stepped W W2 (ifp x.p vp vk (K1 ++ z :: b :: K2)) (ifp x.p vp vk (K1 ++ z :: b :: K2))) :
    Ready t h w x k q.1 W2 vp vk P1 (q :: P2) K1 (b :: K2) z := by
  obtain ⟨e1, e2, e3, e4, e5, e6⟩ := own_parts S hl hs hm
  have r := e3
  rw [hq] at r
  have r1 := rising_append.1 r
  refine ⟨I2, S.stepped St, hl, hz, hasB_iff.2 ⟨q, by rw [hq]; simp, rfl⟩, e3, by rw [e1]; simp; omega, ?_, by rw [S.c]; simp⟩
  rw [e2, hq, del_mid1 (A := l') (B := []) (fun y hy => r1.2.2 y hy q (by simp)) (by simp) rfl]
  simp [joinR]

theorem ready_right {t h : Nat} {w W W2 : World} {x : Kid} {k : Int} {vp vk : Value} {P1 P2 : List Pr} {K1 K2 : List Kid} {z b : Kid} {m q : Pr} {l' : List Pr} (S : Start t h w x W vp vk (P1 ++ m :: P2) (K1 ++ z :: b :: K2)) (hl : K1.length = P1.length) (hs : Rising x.l) (hm : m.1 = k) (hz : t ≤ b.c) (hq : b.l = q :: l')
    (I2 : Inn t h W2 x.p vp vk (x.l.length - 1) (P1 ++ q :: P2) (K1 ++ z :: b :: K2)) (St : Stepped W W2 (ifp x.p vp vk (K1 ++ z :: b :: K2)) (ifp x.p vp vk (K1 ++ z :: b :: K2))) :
    Ready t h w x k q.1 W2 vp vk (P1 ++ [q]) P2 (K1 ++ [z]) K2 b := by
  obtain ⟨e1, e2, e3, e4, e5, e6⟩ := own_parts S hl hs hm
  have r := e4
  rw [hq] at r
  have r1 := rising_cons.1 r
  refine ⟨by simpa using I2, by simpa using S.stepped St, by simp [hl], hz, hasB_iff.2 ⟨q, by rw [hq]; simp, rfl⟩, e4, by rw [e1]; simp; omega, ?_, by rw [S.c]; simp⟩
  rw [e2, hq, show q :: l' = [] ++ q :: l' from rfl, del_mid1 (A := []) (B := l') (by simp) (fun y hy => r1.1 y hy) rfl]
  rw [List.map_append, List.map_cons, List.map_nil, joinL_snoc _ _ _ _ (by simpa using hl)]
  simp

theorem ready_merge {t h : Nat} {w W W2 : World} {x : Kid} {k : Int} {vp vk : Value} {P1 P2 : List Pr} {K1 K2 : List Kid} {z b : Kid} {m : Pr} (S : Start t h w x W vp vk (P1 ++ m :: P2) (K1 ++ z :: b :: K2)) (hl : K1.length = P1.length) (hs : Rising x.l) (hm : m.1 = k) (hz : t - 1 ≤ z.c) (hb : t - 1 ≤ b.c) (ht : 2 ≤ t)
    (M : MergedI t h W x.p vp vk (x.l.length - 1) P1 P2 K1 K2 z b m W2) :
    ∃ vp' vk' y, Ready t h w x k k W2 vp' vk' P1 P2 K1 K2 y := by
  obtain ⟨vp', vk', y, I, St, y1, y2⟩ := M
  obtain ⟨e1, e2, e3, e4, e5, e6⟩ := own_parts S hl hs hm
  have ry : Rising y.l := by
    have hs2 := hs
    rw [e1] at hs2
    rw [y1]
    have : (z.l ++ m :: b.l).Sublist (joinL (K1.map Kid.l) P1 ++ z.l ++ (m :: b.l ++ joinR P2 (K2.map Kid.l))) := by
      rw [List.append_assoc, ← List.append_assoc z.l]
      exact (List.sublist_append_left _ _).trans (List.sublist_append_right _ _)
    exact hs2.sublist this
  refine ⟨vp', vk', y, I, S.stepped St, hl, by omega, hasB_iff.2 ⟨m, by rw [y1]; simp, hm⟩, ry, by rw [e1, y1]; simp; omega, ?_, by rw [S.c]; simp; omega⟩
  rw [e2, y1, del_mid1 e5 e6 hm]
  simp
end Go.Proofs.Ytcboakmfabdeoaa

/- remove: the walk. -/
namespace Go.Proofs.Ytcboakmfabdeoaa
open Go.RowKit

set_option maxHeartbeats 1000000 in
set_option maxRecDepth 100000 in
theorem remove_leaf (t : Nat) (x : Kid) (k : Int) (w : World) (hx : IsT t w 0 x) (hs : Rising x.l) (hnd : x.fp.Nodup) (hn : x.l.length ≤ 200000) (hk : hasB x.l k = true) :
    Calls Try.prog 36 #[.pointer (some ⟨x.p, 0, none⟩), .int .i64 k, .int .i64 t] w fun e w' => e = .returned (.tuple #[]) ∧ RemPost t k w 0 x w' := by
  obtain ⟨vp, r1, r2, r3, r4⟩ := hx
  have hlen := del_length hs hk
  obtain ⟨g, cap, rfl, _⟩ := r2.own (by intro e; rw [e] at hlen; simp at hlen)
  obtain ⟨m, hm, hmk⟩ := hasB_iff.1 hk
  obtain ⟨P1, P2, hl, hp⟩ : ∃ P1 P2, x.l = P1 ++ m :: P2 ∧ P1.length = pos x.l k := by
    obtain ⟨A, B, e⟩ := List.append_of_mem hm
    refine ⟨A, B, e, ?_⟩
    have r := rising_append.1 (e ▸ hs)
    have r2 := rising_cons.1 r.2.1
    have q := pos_mid (A := A) (x := [m]) (B := B) (k := k) (fun q hq => by have := r.2.2 q hq m (by simp); omega) (fun q hq => by have := r2.1 q hq; omega)
    rw [e, show A ++ m :: B = A ++ [m] ++ B by simp, q]
    simp [pos, hmk]
  have hdel : del x.l k = P1 ++ P2 := by
    have r := rising_append.1 (hl ▸ hs)
    have r2 := rising_cons.1 r.2.1
    rw [hl]
    exact del_mid1 (fun q hq => by have := r.2.2 q hq m (by simp); omega) (fun q hq => by have := r2.1 q hq; omega) hmk
  have c2 := r1.c2
  have f2 := r1.fr 2
  have x_lt : x.p < w.heap.size := (Array.getElem?_eq_some_iff.1 r1).1
  have hgx : g ≠ x.p := by
    rw [r3] at hnd
    simp [Value.ownBlock] at hnd
    exact fun e => hnd e.symm
  obtain ⟨W1, hW1⟩ : ∃ W1, W1 = w.setCell ⟨x.p, 2, none⟩ (.int .i64 ((x.l.length - 1 : Nat) : Int)) := ⟨_, rfl⟩
  have r11 : Rec W1 x.p (.slice (some ⟨g, 0, none⟩) x.l.length cap) (.slice none 0 0) (x.l.length - 1) := by rw [hW1]; exact rec_size r1 _
  have r21 : PRow W1 (.slice (some ⟨g, 0, none⟩) x.l.length cap) x.l := ownsRow_of_heap r2 fun b hb => by rw [hW1]; exact heap_setCell_other w _ b _ (fun e => hgx (by have : g = b := by {simpa [Value.ownBlock] using hb}; rw [this]; exact e))
  have T1 : Touch x.fp w W1 := by rw [hW1]; exact (Touch.refl _ w).setCell (.inl (by rw [r3]; simp)) _
  have hcast : ((x.l.length - 1 : Nat) : Int) = (x.l.length : Int) - 1 := by omega
  rw [hcast] at hW1
  have hw1 := hW1.symm
  have R1 := Lib.hid r11
  have R2 := Lib.hid r21
  have TT := Lib.hid T1
  have R3 := Lib.hid r3
  have R4 := Lib.hid r4
  have HS := Lib.hid hs
  have HK := Lib.hid hk
  have HL := Lib.hid hl
  have HP := Lib.hid hp
  have HD := Lib.hid hdel
  have HLEN := Lib.hid hlen
  clear r1 r2 r3 r4 r11 r21 T1 hW1 hcast hs hk hl hp hdel hlen hm hmk hnd
  generalize hnx : x.l.length = nx at *
  have NX := Lib.hid hnx
  clear hnx
  have hnx1 : 1 ≤ nx := by have := HLEN.out; omega
  go_enter Try.func36, Try.ntmps36
  go_wp2_with fail
  refine (place_at x.p _ _ _ x.l k true _ R1.out R2.out HS.out (by rw [NX.out]; omega) HK.out).mono ?_
  rintro e W2 ⟨rfl, hb2⟩
  rw [← HP.out]
  have r12 : Rec W2 x.p (.slice (some ⟨g, 0, none⟩) nx cap) (.slice none 0 0) (nx - 1) := (hb2.block _ (Array.getElem?_eq_some_iff.1 R1.out).1).trans R1.out
  have r22 : PRow W2 (.slice (some ⟨g, 0, none⟩) nx cap) x.l := ownsRow_of_heap R2.out fun b hb => hb2.block b (R2.out.lt hb)
  have t2 : Touch x.fp w W2 := TT.out.belowTo hb2
  have c1' := r12.c1
  have c0' := r12.c0
  have T2 := Lib.hid t2
  have R12 := Lib.hid r12
  have r22' : PRow W2 (.slice (some ⟨g, 0, none⟩) nx cap) (P1 ++ m :: P2) := by rw [← HL.out]; exact r22
  have R22 := Lib.hid r22'
  have hin : P1.length < nx := by rw [← NX.out, HL.out]; simp
  clear hb2 r12 r22 r22' t2 c2 f2 hw1
  go_wp2_with fail
  refine (leaf_yes x.p 0 none _ c1').mono ?_
  rintro e w' ⟨rfl, rfl⟩
  go_wp2_with fail
  refine (deleteP_1 _ _ g nx cap P1.length P1 P2 m _ rfl ?_ rfl (by rw [← HL.out]; exact NX.out) (by omega) R22.out).mono ?_
  · first | rfl | omega
  rintro e w4 ⟨rfl, hd, hg⟩
  have r4 : Rec w4 x.p (.slice (some ⟨g, 0, none⟩) nx cap) (.slice none 0 0) (nx - 1) := R12.out.touch hg (by simp; exact fun e => hgx e.symm)
  have q1 := r4.c0
  have q2 := r4.fr 0
  have FIN : Hid (RemPost t k w 0 x (w4.setCell ⟨x.p, 0, none⟩ (.slice (some ⟨g, 0, none⟩) (nx - 1) cap))) := Lib.hid (by
    have hdl : (del x.l k).length = nx - 1 := by have := HLEN.out; omega
    have TF : Touch [x.p] w4 (w4.setCell ⟨x.p, 0, none⟩ (.slice (some ⟨g, 0, none⟩) (nx - 1) cap)) := (Touch.refl [x.p] w4).setCell (q := ⟨x.p, 0, none⟩) (.inl (by simp)) _
    refine ⟨[x.p, g], nx - 1, ⟨.slice (some ⟨g, 0, none⟩) (nx - 1) cap, ?_, ?_, rfl, by show nx - 1 = (del x.l k).length; omega⟩, ?_, ?_, ?_, ?_⟩
    · show Rec _ x.p _ _ (del x.l k).length
      rw [hdl]; exact r4.set0 _
    · show PRow _ _ (del x.l k)
      rw [HD.out]
      exact hd.touch TF (fun b hb => by have : g = b := by {simpa [Value.ownBlock] using hb}; subst this; simpa using hgx)
    · exact (T2.out.trans hg (fun b hb => .inl (by rw [R3.out]; simp at hb; simp [hb, Value.ownBlock]))).trans TF (fun b hb => .inl (by rw [R3.out]; simp at hb; simp [hb]))
    · simp; exact fun e => hgx e.symm
    · intro b hb
      rw [R3.out]
      exact .inl (by simpa [Value.ownBlock] using hb)
    · have := R4.out; have := NX.out; omega)
  clear hd hg r4
  go_wp2_with fail
  go_end0
  exact ⟨rfl, FIN.out⟩
end Go.Proofs.Ytcboakmfabdeoaa

/- remove from an inner node. -/
namespace Go.Proofs.Ytcboakmfabdeoaa
open Go.RowKit

def RemAt (t h : Nat) : Prop := ∀ (x : Kid) (k : Int) (w : World), IsT t w h x → Rising x.l → x.fp.Nodup → x.l.length ≤ 200000 → hasB x.l k = true → (h = 0 ∨ 1 ≤ x.c) →
    Calls Try.prog 36 #[.pointer (some ⟨x.p, 0, none⟩), .int .i64 k, .int .i64 t] w fun e w' => e = .returned (.tuple #[]) ∧ RemPost t k w h x w'

theorem IsT.c_le {t : Nat} {w : World} {h : Nat} {x : Kid} (hx : IsT t w h x) : x.c ≤ x.l.length := by
  obtain ⟨n, e, g⟩ := hx.good
  subst e
  rw [Nd.kid_c, Nd.size_eq g.fit]; omega

theorem mem_total : ∀ (ks : List Kid) (v : Kid), v ∈ ks → v.l.length ≤ total ks
  | [], v, h => by simp at h
  | u :: r, v, h => by
    have e : total (u :: r) = u.l.length + total r := by simp [total]
    rcases List.mem_cons.1 h with rfl | h
    · omega
    · have := mem_total r v h; omega

/-- a kid is no longer than the node. -/
theorem kid_le {ks : List Kid} {ps : List Pr} (hlen : ks.length = ps.length + 1) : ∀ v ∈ ks, v.l.length ≤ (join (ks.map Kid.l) ps).length := fun v hv => by
  rw [join_length ks ps hlen]
  have := mem_total ks v hv
  omega

theorem start_of {t h : Nat} {w W1 W2 : World} {x : Kid} {vp vk : Value} {ps : List Pr} {ks : List Kid} (r1 : Rec w x.p vp vk x.l.length) (r2 : PRow w vp ps) (r3 : KRow w vk ks) (r4 : ks.length = ps.length + 1) (r5 : x.l = join (ks.map Kid.l) ps) (r6 : x.fp = ifp x.p vp vk ks) (r7 : x.c = ps.length) (r8 : ∀ y ∈ ks, IsT t w h y ∧ t - 1 ≤ y.c) (hnd : x.fp.Nodup)
    (hW1 : W1 = w.setCell ⟨x.p, 2, none⟩ (.int .i64 ((x.l.length - 1 : Nat) : Int))) (hb : Below W1.heap.size W1 W2) : Start t h w x W2 vp vk ps ks := by
  rw [r6] at hnd
  obtain ⟨n1, n2, n3, n4⟩ := fp_parts hnd
  have T1 : Touch [x.p] w W1 := by rw [hW1]; exact (Touch.refl [x.p] w).setCell (q := ⟨x.p, 2, none⟩) (.inl (by simp)) _
  have T : Touch [x.p] w W2 := T1.belowTo hb
  have rr : Rec W1 x.p vp vk (x.l.length - 1) := by rw [hW1]; exact rec_size r1 _
  exact ⟨⟨(hb.block _ (Array.getElem?_eq_some_iff.1 rr).1).trans rr, r2.touch T (fun b hb => by simp; exact (n1 b hb).1), r3.touch T (fun b hb => by simp; exact (n2 b hb).1), r4, fun v hv => ⟨(r8 v hv).1.touch T (fun b hb hm => n3 (by simp at hm; exact hm ▸ mem_fpAll.2 ⟨v, hv, hb⟩)), (r8 v hv).2⟩, hnd⟩, T, r6, r5, r7⟩

theorem Ready.bound {t h : Nat} {w W : World} {x : Kid} {k k' : Int} {vp vk : Value} {Q1 Q2 : List Pr} {J1 J2 : List Kid} {u : Kid} (R : Ready t h w x k k' W vp vk Q1 Q2 J1 J2 u) (hs : Rising x.l) (hk : hasB x.l k = true) : (J1 ++ u :: J2).length ≤ x.l.length + 1 := by
  have h1 := join_length (J1 ++ u :: J2) (Q1 ++ Q2) R.I.len
  rw [List.map_append, List.map_cons, join_split _ _ _ _ _ (by simpa using R.h1)] at h1
  have h2 := congrArg List.length R.res
  have h3 := del_length hs hk
  have h4 := del_length R.rise R.has
  have h5 := R.I.len
  simp only [List.length_append] at h1 h2 h5 ⊢
  omega

/-- from there on. -/
theorem Ready.go {t h : Nat} {w W : World} {x : Kid} {k k' : Int} {vp vk : Value} {Q1 Q2 : List Pr} {J1 J2 : List Kid} {u : Kid} (R : Ready t h w x k k' W vp vk Q1 Q2 J1 J2 u) (hs : Rising x.l) (hk : hasB x.l k = true) (hn : x.l.length ≤ 200000) (ht : 2 ≤ t) (IH : RemAt t h) :
    Calls Try.prog 36 #[.pointer (some ⟨u.p, 0, none⟩), .int .i64 k', .int .i64 t] W fun e w' => e = .returned (.tuple #[]) ∧ RemPost t k w (h + 1) x w' := by
  have nd := R.I.nd
  obtain ⟨n1, n2, n3, n4⟩ := fp_parts nd
  have f1 : fpAll (J1 ++ u :: J2) = fpAll J1 ++ (u.fp ++ fpAll J2) := by simp [fpAll]
  rw [f1] at n4
  refine (IH u k' W (R.I.hz u (by simp)).1 R.rise (List.nodup_append.1 (List.nodup_append.1 n4).2.1).1 (Nat.le_trans R.len hn) R.has (.inr (by have := R.uc; omega))).mono ?_
  rintro e w' ⟨h1, h2⟩
  exact ⟨h1, R.done hs hk h2⟩

set_option maxHeartbeats 1000000 in
set_option maxRecDepth 100000 in
theorem remove_no (t h : Nat) (ht : 2 ≤ t) (ht2 : t ≤ 1000) (IHH : Hid (RemAt t h)) (x : Kid) (k : Int) (w : World) (gp cp bk ck nx : Nat) (ps : List Pr) (ks : List Kid) (W1 : World) (HS : Hid (Rising x.l)) (HK : Hid (hasB x.l k = true)) (hn : nx ≤ 200000) (HLEN : Hid ((del x.l k).length + 1 = nx)) (NX : Hid (x.l.length = nx)) (hnx1 : 1 ≤ nx) (hps : 1 ≤ ps.length) (hpl : ps.length ≤ nx) (RPS : Hid (Rising ps)) (HKL : Hid (∀ v ∈ ks, v.l.length ≤ nx)) (HCL : Hid (∀ v ∈ ks, v.c ≤ 200000)) (R4 : Hid (ks.length = ps.length + 1)) (R5 : Hid (x.l = join (ks.map Kid.l) ps))
    (START : Hid (∀ W2, Below W1.heap.size W1 W2 → Start t h w x W2 (.slice (some ⟨gp, 0, none⟩) ps.length cp) (.slice (some ⟨bk, 0, none⟩) ks.length ck) ps ks)) (c2 : w.cell? ⟨x.p, 2, none⟩ = some (.int .i64 nx)) (f2 : w.frozen? ⟨x.p, 2, none⟩ = false) (x_lt : x.p < w.heap.size)
    (R1 : Hid (Rec W1 x.p (.slice (some ⟨gp, 0, none⟩) ps.length cp) (.slice (some ⟨bk, 0, none⟩) ks.length ck) (nx - 1))) (R2 : Hid (PRow W1 (.slice (some ⟨gp, 0, none⟩) ps.length cp) ps)) (hw1 : w.setCell ⟨x.p, 2, none⟩ (.int .i64 ((nx : Int) - 1)) = W1) (hh : hasB ps k = false) :
    Calls Try.prog 36 #[.pointer (some ⟨x.p, 0, none⟩), .int .i64 k, .int .i64 t] w fun e w' => e = .returned (.tuple #[]) ∧ RemPost t k w (h + 1) x w' := by
  have HH := Lib.hid hh
  obtain ⟨P1, P2, K1, z, K2, rfl, rfl, s3, s4, s5, s6, s7, s8, s9⟩ := node_split (k := k) R4.out (by rw [← R5.out]; exact HS.out)
  have S9 := Lib.hid (s9 hh)
  have S7 := Lib.hid s7
  have S4 := Lib.hid s4
  have S3 := Lib.hid s3
  have FILL : Hid (∀ W2, Below W1.heap.size W1 W2 → Calls Try.prog 50 #[.pointer (some ⟨x.p, 0, none⟩), .int .i64 P1.length, .int .i64 t] W2 fun e w' => ∃ j : Nat, e = .returned (.int .i64 j) ∧ ∃ bk' nk' ck' vp' Q1 Q2 J1 J2 u, J1.length = j ∧ j < nk' ∧ nk' ≤ 400000 ∧ Ready t h w x k k w' vp' (.slice (some ⟨bk', 0, none⟩) nk' ck') Q1 Q2 J1 J2 u) := Lib.hid (fun W2 hb => by
    have S := START.out W2 hb
    refine (fill_any S.I P1.length rfl s4 (by omega) ht ht2 (by omega) (fun a ha b hb => ?_) (fun a ha => Nat.le_trans (HCL.out a ha) (by decide))).mono ?_
    · have := HKL.out a ha; have := HKL.out b hb; omega
    · rintro e w' ⟨j, rfl, F⟩
      obtain ⟨vp', vk', Q1, Q2, J1, J2, u, j1, R⟩ := ready_fill S s4 HS.out HK.out s7 (s9 hh) F
      obtain ⟨bk', ck', e⟩ := R.I.kr.slice_of (by simp; omega)
      subst e
      have hb2 := R.bound HS.out HK.out
      rw [NX.out] at hb2
      exact ⟨j, rfl, bk', _, ck', vp', Q1, Q2, J1, J2, u, j1, by simp; omega, by omega, R⟩)
  clear hh s3 s4 s6 s7 s9
  go_enter Try.func36, Try.ntmps36
  go_wp2_with fail
  refine (place_at x.p _ _ _ (P1 ++ P2) k false _ R1.out R2.out RPS.out (by omega) HH.out).mono ?_
  rintro e W2 ⟨rfl, hb2⟩
  rw [← S3.out]
  have c1 := (START.out W2 hb2).I.r.c1
  have FI := Lib.hid (FILL.out W2 hb2)
  clear hb2 c2 f2 hw1
  go_wp2_with fail
  refine (leaf_no x.p _ _ _ _ c1 (by simp; omega)).mono ?_
  rintro e w' ⟨rfl, rfl⟩
  go_wp2_with fail
  refine FI.out.mono ?_
  rintro e W3 ⟨j, rfl, bk', nk', ck', vp', Q1, Q2, J1, J2, u, j1, jn, jb, R⟩
  have RR := Lib.hid R
  have d1 := R.I.r.c1
  have du := R.I.kr.cell j u (by rw [← j1]; simp)
  have GO := Lib.hid (R.go HS.out HK.out (by rw [NX.out]; exact hn) ht IHH.out)
  clear R c1
  go_wp2_with fail
  refine GO.out.mono ?_
  rintro e W4 ⟨rfl, hp⟩
  have FIN := Lib.hid hp
  clear hp
  go_wp2_with fail
  go_end0
  exact ⟨rfl, FIN.out⟩
end Go.Proofs.Ytcboakmfabdeoaa

/- What is held while a node's pair is turned: plain. -/
namespace Go.Proofs.Ytcboakmfabdeoaa
open Go.RowKit

/-- what a cell holds, under a name. -/
def cellOr (w : World) (a : Addr) : Value := (w.cell? a).getD undef

/-- a row of pairs lies at gp, with a pair number i. -/
def GP (gp i : Nat) (w : World) : Prop := ∃ cs, w.heap[gp]? = some (.cells cs 61 (0, 0)) ∧ i * 2 + 1 < cs.size

theorem GP.cells {gp i : Nat} {w : World} (h : GP gp i w) : w.cell? ⟨gp, i * 2, none⟩ = some (cellOr w ⟨gp, i * 2, none⟩) ∧ w.cell? ⟨gp, i * 2 + 1, none⟩ = some (cellOr w ⟨gp, i * 2 + 1, none⟩) ∧ w.frozen? ⟨gp, i * 2, none⟩ = false ∧ w.frozen? ⟨gp, i * 2 + 1, none⟩ = false := by
  obtain ⟨cs, h1, h2⟩ := h
  have e1 := cell_of_row w gp (i * 2) _ _ _ h1
  have e2 := cell_of_row w gp (i * 2 + 1) _ _ _ h1
  rw [Array.getElem?_eq_getElem (by omega)] at e1
  rw [Array.getElem?_eq_getElem h2] at e2
  exact ⟨by rw [cellOr, e1]; rfl, by rw [cellOr, e2]; rfl, by simp [World.frozen?, h1], by simp [World.frozen?, h1]⟩

theorem GP.of {gp n cap i : Nat} {w : World} {l : List Pr} (h : PRow w (.slice (some ⟨gp, 0, none⟩) n cap) l) (hi : i < l.length) : GP gp i w := by
  rcases h.2 with ⟨h1, _⟩ | ⟨g', cap', cur, h1, h2, h3, h4, h5, h6, h7⟩
  · cases h1
  · simp only [Value.slice.injEq, Option.some.injEq, Addr.mk.injEq] at h1
    obtain ⟨⟨rfl, _⟩, rfl, rfl⟩ := h1
    refine ⟨cur, h3, ?_⟩
    have : cur.size = cap * 2 := by simpa using h6
    omega

theorem GP.set {gp i j : Nat} {w : World} (h : GP gp i w) (v : Value) : GP gp i (w.setCell ⟨gp, j, none⟩ v) := by
  obtain ⟨cs, h1, h2⟩ := h
  exact ⟨_, heap_setCell_same w gp j cs _ v h1, by simpa using h2⟩

theorem GP.touch {gp i : Nat} {w w' : World} {F : List Nat} (h : GP gp i w) (T : Touch F w w') (hF : gp ∉ F) : GP gp i w' := by
  obtain ⟨cs, h1, h2⟩ := h
  exact ⟨cs, (T.block gp (Array.getElem?_eq_some_iff.1 h1).1 hF).trans h1, h2⟩

theorem cell_touch {w w' : World} {F : List Nat} (T : Touch F w w') {b o : Nat} {v : Value} (h : w.cell? ⟨b, o, none⟩ = some v) (hb : b ∉ F) : w'.cell? ⟨b, o, none⟩ = some v := by
  have hlt := World.block_lt_of_cell? w _ h
  have e := T.block b hlt hb
  unfold World.cell? at h ⊢
  rw [e]; exact h

/-- what stands about the turned pair. -/
theorem held_of {x gp np cp bk nk ck i kz kp : Nat} {W2 W' : World} (T : Touch [gp] W2 W') (G : GP gp i W') (c0 : W2.cell? ⟨x, 0, none⟩ = some (.slice (some ⟨gp, 0, none⟩) np cp)) (c1 : W2.cell? ⟨x, 1, none⟩ = some (.slice (some ⟨bk, 0, none⟩) nk ck)) (kc : W2.cell? ⟨bk, kz, none⟩ = some (.pointer (some ⟨kp, 0, none⟩))) (n1 : x ≠ gp) (n2 : bk ≠ gp) :
    W'.cell? ⟨x, 0, none⟩ = some (.slice (some ⟨gp, 0, none⟩) np cp) ∧ W'.cell? ⟨x, 1, none⟩ = some (.slice (some ⟨bk, 0, none⟩) nk ck) ∧ W'.cell? ⟨bk, kz, none⟩ = some (.pointer (some ⟨kp, 0, none⟩)) ∧ W'.cell? ⟨gp, i * 2, none⟩ = some (cellOr W' ⟨gp, i * 2, none⟩) ∧ W'.cell? ⟨gp, i * 2 + 1, none⟩ = some (cellOr W' ⟨gp, i * 2 + 1, none⟩) ∧ W'.frozen? ⟨gp, i * 2, none⟩ = false ∧ W'.frozen? ⟨gp, i * 2 + 1, none⟩ = false :=
  ⟨cell_touch T c0 (by simpa using n1), cell_touch T c1 (by simpa using n1), cell_touch T kc (by simpa using n2), G.cells⟩

theorem held_size {gp kp n : Nat} {W2 W' : World} (T : Touch [gp] W2 W') (h : W2.cell? ⟨kp, 2, none⟩ = some (.int .i64 n)) (n3 : kp ≠ gp) : W'.cell? ⟨kp, 2, none⟩ = some (.int .i64 n) := cell_touch T h (by simpa using n3)

theorem touch_set2 {gp j k : Nat} {W2 W : World} (T : Touch [] W2 W) (u v : Value) : Touch [gp] W2 ((W.setCell ⟨gp, j, none⟩ u).setCell ⟨gp, k, none⟩ v) :=
  ((T.mono (G := [gp]) (by simp)).setCell (q := ⟨gp, j, none⟩) (.inl (by simp)) _).setCell (q := ⟨gp, k, none⟩) (.inl (by simp)) _
theorem Ready.touch {t h : Nat} {w W W2 : World} {x : Kid} {k k' : Int} {vp vk : Value} {Q1 Q2 : List Pr} {J1 J2 : List Kid} {u : Kid} (R : Ready t h w x k k' W vp vk Q1 Q2 J1 J2 u) (T : Touch [] W W2) : Ready t h w x k k' W2 vp vk Q1 Q2 J1 J2 u :=
  ⟨⟨R.I.r.touch T (by simp), R.I.pr.touch T (by simp), R.I.kr.touch T (by simp), R.I.len, fun v hv => ⟨(R.I.hz v hv).1.touch T (by simp), (R.I.hz v hv).2⟩, R.I.nd⟩, ⟨R.S.touch.trans T (by simp), R.S.own⟩, R.h1, R.uc, R.has, R.rise, R.len, R.res, R.pc⟩
end Go.Proofs.Ytcboakmfabdeoaa

/- remove from an inner node that has the key itself. -/
namespace Go.Proofs.Ytcboakmfabdeoaa
open Go.RowKit

set_option maxHeartbeats 1000000 in
set_option maxRecDepth 100000 in
theorem remove_yes (t h : Nat) (ht : 2 ≤ t) (ht2 : t ≤ 1000) (IHH : Hid (RemAt t h)) (x : Kid) (k : Int) (w : World) (gp cp bk ck nx : Nat) (ps : List Pr) (ks : List Kid) (W1 : World) (HS : Hid (Rising x.l)) (HK : Hid (hasB x.l k = true)) (hn : nx ≤ 200000) (HLEN : Hid ((del x.l k).length + 1 = nx)) (NX : Hid (x.l.length = nx)) (hnx1 : 1 ≤ nx) (hps : 1 ≤ ps.length) (hpl : ps.length ≤ nx) (RPS : Hid (Rising ps)) (HKL : Hid (∀ v ∈ ks, v.l.length ≤ nx)) (HCL : Hid (∀ v ∈ ks, v.c ≤ 200000)) (R4 : Hid (ks.length = ps.length + 1)) (R5 : Hid (x.l = join (ks.map Kid.l) ps))
    (START : Hid (∀ W2, Below W1.heap.size W1 W2 → Start t h w x W2 (.slice (some ⟨gp, 0, none⟩) ps.length cp) (.slice (some ⟨bk, 0, none⟩) ks.length ck) ps ks)) (c2 : w.cell? ⟨x.p, 2, none⟩ = some (.int .i64 nx)) (f2 : w.frozen? ⟨x.p, 2, none⟩ = false) (x_lt : x.p < w.heap.size)
    (R1 : Hid (Rec W1 x.p (.slice (some ⟨gp, 0, none⟩) ps.length cp) (.slice (some ⟨bk, 0, none⟩) ks.length ck) (nx - 1))) (R2 : Hid (PRow W1 (.slice (some ⟨gp, 0, none⟩) ps.length cp) ps)) (hw1 : w.setCell ⟨x.p, 2, none⟩ (.int .i64 ((nx : Int) - 1)) = W1) (hh : hasB ps k = true) :
    Calls Try.prog 36 #[.pointer (some ⟨x.p, 0, none⟩), .int .i64 k, .int .i64 t] w fun e w' => e = .returned (.tuple #[]) ∧ RemPost t k w (h + 1) x w' := by
  have HH := Lib.hid hh
  obtain ⟨m, hm, hmk⟩ := hasB_iff.1 hh
  obtain ⟨P1, P2, hl, hp⟩ : ∃ P1 P2, ps = P1 ++ m :: P2 ∧ P1.length = pos ps k := by
    obtain ⟨A, B, e⟩ := List.append_of_mem hm
    refine ⟨A, B, e, ?_⟩
    have r := rising_append.1 (e ▸ RPS.out)
    have r2 := rising_cons.1 r.2.1
    have q := pos_mid (A := A) (x := [m]) (B := B) (k := k) (fun q hq => by have := r.2.2 q hq m (by simp); omega) (fun q hq => by have := r2.1 q hq; omega)
    rw [e, show A ++ m :: B = A ++ [m] ++ B by simp, q]
    simp [pos, hmk]
  subst hl
  obtain ⟨K1, z, K3, eK, l1⟩ := split_at_cons ks P1.length (by have := R4.out; simp at this; omega)
  obtain ⟨b, K2, rfl⟩ : ∃ b K2, K3 = b :: K2 := by
    cases K3 with
    | nil => have := R4.out; rw [eK] at this; simp at this; omega
    | cons q r => exact ⟨q, r, rfl⟩
  subst eK
  have HP := Lib.hid hp
  have HMK := Lib.hid hmk
  have L1 := Lib.hid l1
  obtain ⟨i, hi⟩ : ∃ i, P1.length = i := ⟨_, rfl⟩
  have P1n : i < (P1 ++ m :: P2).length := by rw [← hi]; simp
  have K1n : i + 1 < (K1 ++ z :: b :: K2).length := by rw [← hi, ← l1]; simp
  have II := Lib.hid hi
  clear hi
  have knb : (K1 ++ z :: b :: K2).length ≤ 400000 := by have := R4.out; omega
  clear hh hp hmk hm l1
  generalize hnk : (K1 ++ z :: b :: K2).length = nK at *
  generalize hnp : (P1 ++ m :: P2).length = nP at *
  have NK := Lib.hid hnk
  have NP := Lib.hid hnp
  clear hnk hnp
  have K0n : i < nK := by omega
  go_enter Try.func36, Try.ntmps36
  go_wp2_with fail
  refine (place_at x.p _ _ _ (P1 ++ m :: P2) k true _ R1.out R2.out RPS.out (by rw [NP.out]; omega) HH.out).mono ?_
  rintro e W2 ⟨rfl, hb2⟩
  rw [← HP.out, II.out]
  have ST := Lib.hid (START.out W2 hb2)
  have c0 := ST.out.I.r.c0
  have c1 := ST.out.I.r.c1
  have kz : W2.cell? ⟨bk, i, none⟩ = some (.pointer (some ⟨z.p, 0, none⟩)) := ST.out.I.kr.cell i z (by rw [← II.out, ← L1.out]; simp)
  have kb : W2.cell? ⟨bk, i + 1, none⟩ = some (.pointer (some ⟨b.p, 0, none⟩)) := ST.out.I.kr.cell (i + 1) b (by rw [← II.out, ← L1.out, List.getElem?_append_right (by omega)]; simp)
  obtain ⟨az, cz, zc⟩ := (ST.out.I.hz z (by simp)).1.count
  obtain ⟨ab, cb, bc⟩ := (ST.out.I.hz b (by simp)).1.count
  have zcb := HCL.out z (by simp)
  have bcb := HCL.out b (by simp)
  have m0 := ST.out.I.pr.row.get
  rw [II.out] at m0
  obtain ⟨m1, m2⟩ := m0
  have gf1 := ST.out.I.pr.fr (i * 2)
  have gf2 := ST.out.I.pr.fr (i * 2 + 1)
  have gplt : gp < W2.heap.size := ST.out.I.pr.lt rfl
  have xlt2 : x.p < W2.heap.size := (Array.getElem?_eq_some_iff.1 ST.out.I.r).1
  obtain ⟨o1, o2, rz, rb, _, _⟩ := own_parts ST.out L1.out HS.out HMK.out
  have zlen : z.l.length ≤ 200000 := Nat.le_trans (HKL.out z (by simp)) hn
  have blen : b.l.length ≤ 200000 := Nat.le_trans (HKL.out b (by simp)) hn
  have zs := (ST.out.I.hz z (by simp)).1.size
  have bs := (ST.out.I.hz b (by simp)).1.size
  have zc1 : t - 1 ≤ z.c ∧ z.c ≤ z.l.length := ⟨(ST.out.I.hz z (by simp)).2, (ST.out.I.hz z (by simp)).1.c_le⟩
  have bc1 : t - 1 ≤ b.c ∧ b.c ≤ b.l.length := ⟨(ST.out.I.hz b (by simp)).2, (ST.out.I.hz b (by simp)).1.c_le⟩
  have RZ := Lib.hid rz
  have RB := Lib.hid rb
  obtain ⟨fq1, fq2, fq3, _⟩ := fp_parts ST.out.I.nd
  have N1 : x.p ≠ gp := fun e => (fq1 gp rfl).1 e.symm
  have N2 : bk ≠ gp := fun e => (fq1 gp rfl).2.1 (by rw [← e]; rfl)
  have N3 : z.p ≠ gp := fun e => (fq1 gp rfl).2.2 (mem_fpAll.2 ⟨z, by simp, e ▸ (ST.out.I.hz z (by simp)).1.p_mem⟩)
  have GP0 : Hid (GP gp i W2) := Lib.hid (GP.of ST.out.I.pr (by rw [← II.out]; simp))
  clear fq1 fq2 fq3
  have FB : Hid (∀ W w4 : World, Below W.heap.size W w4 → W.heap = W2.heap → Rec w4 x.p (.slice (some ⟨gp, 0, none⟩) nP cp) (.slice (some ⟨bk, 0, none⟩) nK ck) (nx - 1) ∧ w4.cell? ⟨gp, i * 2, none⟩ = some (.int .i64 m.1) ∧ w4.cell? ⟨gp, i * 2 + 1, none⟩ = some (.string m.2) ∧ ∀ o, w4.frozen? ⟨gp, o, none⟩ = false) := Lib.hid (fun W w4 hb hW => by
    have pr : PRow w4 (.slice (some ⟨gp, 0, none⟩) nP cp) (P1 ++ m :: P2) := ownsRow_of_heap ST.out.I.pr fun c hc => by
      have hlt : c < W2.heap.size := ST.out.I.pr.lt hc
      rw [hb.block c (by rw [hW]; exact hlt), hW]
    have rr : Rec w4 x.p (.slice (some ⟨gp, 0, none⟩) nP cp) (.slice (some ⟨bk, 0, none⟩) nK ck) (nx - 1) := by
      have q := ST.out.I.r
      unfold Rec at q ⊢
      rw [hb.block _ (by rw [hW]; exact xlt2), hW, q, NX.out]
    have pg := pr.row.get
    rw [II.out] at pg
    exact ⟨rr, pg.1, pg.2, fun o => pr.fr o⟩)
  clear hb2 c2 f2 hw1 o1 o2 rz rb
  go_wp2_with fail
  refine (leaf_no x.p _ _ _ _ c1 (by omega)).mono ?_
  rintro e w' ⟨rfl, rfl⟩
  by_cases hz : t ≤ z.c
  · obtain ⟨l', q, hq⟩ : ∃ l' q, z.l = l' ++ [q] := ⟨z.l.dropLast, z.l.getLast (by intro e; rw [e] at zc1; simp at zc1; omega), (List.dropLast_concat_getLast _).symm⟩
    have hzl : z.l.length = l'.length + 1 := by rw [hq]; simp
    have hzi : (z.l.length : Int) - 1 = ((l'.length : Nat) : Int) := by omega
    have HQ := Lib.hid hq
    have call : Calls Try.prog 30 #[.pointer (some ⟨z.p, 0, none⟩), .int .i64 (l'.length : Nat)] W2.drew fun e wq => e = .returned (.agg #[.int .i64 q.1, .string q.2]) ∧ Hid (wq.cell? ⟨x.p, 0, none⟩ = some (.slice (some ⟨gp, 0, none⟩) nP cp) ∧ wq.cell? ⟨x.p, 1, none⟩ = some (.slice (some ⟨bk, 0, none⟩) nK ck) ∧ wq.cell? ⟨bk, i, none⟩ = some (.pointer (some ⟨z.p, 0, none⟩)) ∧ wq.cell? ⟨gp, i * 2, none⟩ = some (cellOr wq ⟨gp, i * 2, none⟩) ∧ wq.cell? ⟨gp, i * 2 + 1, none⟩ = some (cellOr wq ⟨gp, i * 2 + 1, none⟩) ∧ wq.frozen? ⟨gp, i * 2, none⟩ = false ∧ wq.frozen? ⟨gp, i * 2 + 1, none⟩ = false ∧ wq.cell? ⟨z.p, 2, none⟩ = some (.int .i64 z.l.length)) ∧ Hid (((wq.setCell ⟨gp, i * 2, none⟩ (.int .i64 q.1)).setCell ⟨gp, i * 2 + 1, none⟩ (.string q.2)).cell? ⟨x.p, 0, none⟩ = some (.slice (some ⟨gp, 0, none⟩) nP cp) ∧ ((wq.setCell ⟨gp, i * 2, none⟩ (.int .i64 q.1)).setCell ⟨gp, i * 2 + 1, none⟩ (.string q.2)).cell? ⟨x.p, 1, none⟩ = some (.slice (some ⟨bk, 0, none⟩) nK ck) ∧ ((wq.setCell ⟨gp, i * 2, none⟩ (.int .i64 q.1)).setCell ⟨gp, i * 2 + 1, none⟩ (.string q.2)).cell? ⟨bk, i, none⟩ = some (.pointer (some ⟨z.p, 0, none⟩)) ∧ ((wq.setCell ⟨gp, i * 2, none⟩ (.int .i64 q.1)).setCell ⟨gp, i * 2 + 1, none⟩ (.string q.2)).cell? ⟨gp, i * 2, none⟩ = some (cellOr ((wq.setCell ⟨gp, i * 2, none⟩ (.int .i64 q.1)).setCell ⟨gp, i * 2 + 1, none⟩ (.string q.2)) ⟨gp, i * 2, none⟩) ∧ ((wq.setCell ⟨gp, i * 2, none⟩ (.int .i64 q.1)).setCell ⟨gp, i * 2 + 1, none⟩ (.string q.2)).cell? ⟨gp, i * 2 + 1, none⟩ = some (cellOr ((wq.setCell ⟨gp, i * 2, none⟩ (.int .i64 q.1)).setCell ⟨gp, i * 2 + 1, none⟩ (.string q.2)) ⟨gp, i * 2 + 1, none⟩) ∧ ((wq.setCell ⟨gp, i * 2, none⟩ (.int .i64 q.1)).setCell ⟨gp, i * 2 + 1, none⟩ (.string q.2)).frozen? ⟨gp, i * 2, none⟩ = false ∧ ((wq.setCell ⟨gp, i * 2, none⟩ (.int .i64 q.1)).setCell ⟨gp, i * 2 + 1, none⟩ (.string q.2)).frozen? ⟨gp, i * 2 + 1, none⟩ = false ∧ ((wq.setCell ⟨gp, i * 2, none⟩ (.int .i64 q.1)).setCell ⟨gp, i * 2 + 1, none⟩ (.string q.2)).cell? ⟨z.p, 2, none⟩ = some (.int .i64 z.l.length)) ∧ Hid (Ready t h w x k q.1 ((wq.setCell ⟨gp, i * 2, none⟩ (.int .i64 q.1)).setCell ⟨gp, i * 2 + 1, none⟩ (.string q.2)) (.slice (some ⟨gp, 0, none⟩) nP cp) (.slice (some ⟨bk, 0, none⟩) nK ck) P1 (q :: P2) K1 (b :: K2) z) := by
      refine (at_any t h z l'.length q W2.drew ((ST.out.I.hz z (by simp)).1.frame fun b hb => rfl) RZ.out (by rw [HQ.out]; simp) (by omega)).mono ?_
      rintro e w4 ⟨rfl, hb4⟩
      have T4 : Touch [] W2 w4 := ((Touch.refl [] W2).drew).trans (Touch.of_below hb4 []) (by simp)
      obtain ⟨i2, s2⟩ := Inn.setPair ST.out.I II.out q T4
      have T5 := touch_set2 (gp := gp) (j := i * 2) (k := i * 2 + 1) T4 (.int .i64 q.1) (.string q.2)
      have T4' : Touch [gp] W2 w4 := T4.mono (by simp)
      have G4 : GP gp i w4 := GP0.out.touch T4 (by simp)
      refine ⟨rfl, Lib.hid ?_, Lib.hid ?_, Lib.hid (ready_left ST.out L1.out HS.out HMK.out hz HQ.out i2 s2)⟩
      · obtain ⟨v1, v2, v3, v4, v5, v6, v7⟩ := held_of T4' G4 c0 c1 kz N1 N2
        exact ⟨v1, v2, v3, v4, v5, v6, v7, held_size T4' zs N3⟩
      · obtain ⟨v1, v2, v3, v4, v5, v6, v7⟩ := held_of T5 ((G4.set _).set _) c0 c1 kz N1 N2
        exact ⟨v1, v2, v3, v4, v5, v6, v7, held_size T5 zs N3⟩
    have S0 : Hid (W2.drew.cell? ⟨x.p, 0, none⟩ = some (.slice (some ⟨gp, 0, none⟩) nP cp) ∧ W2.drew.cell? ⟨x.p, 1, none⟩ = some (.slice (some ⟨bk, 0, none⟩) nK ck) ∧ W2.drew.cell? ⟨bk, i, none⟩ = some (.pointer (some ⟨z.p, 0, none⟩)) ∧ W2.drew.cell? ⟨gp, i * 2, none⟩ = some (cellOr W2.drew ⟨gp, i * 2, none⟩) ∧ W2.drew.cell? ⟨gp, i * 2 + 1, none⟩ = some (cellOr W2.drew ⟨gp, i * 2 + 1, none⟩) ∧ W2.drew.frozen? ⟨gp, i * 2, none⟩ = false ∧ W2.drew.frozen? ⟨gp, i * 2 + 1, none⟩ = false ∧ W2.drew.cell? ⟨z.p, 2, none⟩ = some (.int .i64 z.l.length)) := Lib.hid (by
      have T4' : Touch [gp] W2 W2.drew := (Touch.refl _ W2).drew
      obtain ⟨v1, v2, v3, v4, v5, v6, v7⟩ := held_of T4' (GP0.out.touch (Touch.refl [] W2).drew (by simp)) c0 c1 kz N1 N2
      exact ⟨v1, v2, v3, v4, v5, v6, v7, held_size T4' zs N3⟩)
    have CALL := Lib.hid call
    clear call
    clear hq
    go_wp2_with fail
    refine (spare_yes z.p z.c cz t az _ zc (by omega) ht2 hz).mono ?_
    rintro e w' ⟨rfl, rfl⟩
    go_wp2_with fail
    go_cut [] (fun wc => Ready t h w x k q.1 wc (.slice (some ⟨gp, 0, none⟩) nP cp) (.slice (some ⟨bk, 0, none⟩) nK ck) P1 (q :: P2) K1 (b :: K2) z)
    case first =>
      have w1 : IntKind.i64.wrap ((l'.length : Nat) : Int) = ((l'.length : Nat) : Int) := IntWalk.i64_in _ (by omega)
      go_region_held3 (fun W' => W'.cell? ⟨x.p, 0, none⟩ = some (.slice (some ⟨gp, 0, none⟩) nP cp) ∧ W'.cell? ⟨x.p, 1, none⟩ = some (.slice (some ⟨bk, 0, none⟩) nK ck) ∧ W'.cell? ⟨bk, i, none⟩ = some (.pointer (some ⟨z.p, 0, none⟩)) ∧ W'.cell? ⟨gp, i * 2, none⟩ = some (cellOr W' ⟨gp, i * 2, none⟩) ∧ W'.cell? ⟨gp, i * 2 + 1, none⟩ = some (cellOr W' ⟨gp, i * 2 + 1, none⟩) ∧ W'.frozen? ⟨gp, i * 2, none⟩ = false ∧ W'.frozen? ⟨gp, i * 2 + 1, none⟩ = false ∧ W'.cell? ⟨z.p, 2, none⟩ = some (.int .i64 z.l.length)) (first | exact S0.out | exact S1.out | exact S2.out)
        (first | (go_at_call 30; (with_reducible refine CALL.out.mono ?_); rintro e wq ⟨rfl, S1, S2, FIN⟩))
      all_goals
        go_wp2_with fail
        go_meet
        case rel => exact FIN.out
    case rest =>
      have R := hcut
      have d0 := R.I.r.c0
      have d1 := R.I.r.c1
      have dk : wc.cell? ⟨bk, i, none⟩ = some (.pointer (some ⟨z.p, 0, none⟩)) := R.I.kr.cell i z (by rw [← II.out, ← L1.out]; simp)
      have dp : wc.cell? ⟨gp, i * 2, none⟩ = some (.int .i64 q.1) := by
        have := R.I.pr.row.get
        rw [II.out] at this
        exact this.1
      have GO := Lib.hid ((R.touch (Touch.refl [] wc).drew).go HS.out HK.out (by rw [NX.out]; exact hn) ht IHH.out)
      clear hcut R S0 CALL c0 c1 kz kb zc bc m1 m2 gf1 gf2 zs bs hzi GP0
      go_wp2_with fail
      go_still_tail 16, (by kernel_rfl)
      change wpList _ _ _ _ _ wc.drew
      go_wp2_with fail
      refine GO.out.mono ?_
      rintro e W4 ⟨rfl, hp⟩
      have FIN := Lib.hid hp
      clear hp
      go_wp2_with fail
      go_end0
      exact ⟨rfl, FIN.out⟩
  · have hz2 : z.c < t := by omega
    by_cases hb : t ≤ b.c
    · obtain ⟨q, l', hq⟩ : ∃ q l', b.l = q :: l' := by
        cases e : b.l with
        | nil => rw [e] at bc1; simp at bc1; omega
        | cons q r => exact ⟨q, r, rfl⟩
      have HQ := Lib.hid hq
      clear hq
      have call : Calls Try.prog 30 #[.pointer (some ⟨b.p, 0, none⟩), .int .i64 0] W2.drew fun e wq => e = .returned (.agg #[.int .i64 q.1, .string q.2]) ∧ Hid (wq.cell? ⟨x.p, 0, none⟩ = some (.slice (some ⟨gp, 0, none⟩) nP cp) ∧ wq.cell? ⟨x.p, 1, none⟩ = some (.slice (some ⟨bk, 0, none⟩) nK ck) ∧ wq.cell? ⟨bk, i + 1, none⟩ = some (.pointer (some ⟨b.p, 0, none⟩)) ∧ wq.cell? ⟨gp, i * 2, none⟩ = some (cellOr wq ⟨gp, i * 2, none⟩) ∧ wq.cell? ⟨gp, i * 2 + 1, none⟩ = some (cellOr wq ⟨gp, i * 2 + 1, none⟩) ∧ wq.frozen? ⟨gp, i * 2, none⟩ = false ∧ wq.frozen? ⟨gp, i * 2 + 1, none⟩ = false) ∧ Hid (((wq.setCell ⟨gp, i * 2, none⟩ (.int .i64 q.1)).setCell ⟨gp, i * 2 + 1, none⟩ (.string q.2)).cell? ⟨x.p, 0, none⟩ = some (.slice (some ⟨gp, 0, none⟩) nP cp) ∧ ((wq.setCell ⟨gp, i * 2, none⟩ (.int .i64 q.1)).setCell ⟨gp, i * 2 + 1, none⟩ (.string q.2)).cell? ⟨x.p, 1, none⟩ = some (.slice (some ⟨bk, 0, none⟩) nK ck) ∧ ((wq.setCell ⟨gp, i * 2, none⟩ (.int .i64 q.1)).setCell ⟨gp, i * 2 + 1, none⟩ (.string q.2)).cell? ⟨bk, i + 1, none⟩ = some (.pointer (some ⟨b.p, 0, none⟩)) ∧ ((wq.setCell ⟨gp, i * 2, none⟩ (.int .i64 q.1)).setCell ⟨gp, i * 2 + 1, none⟩ (.string q.2)).cell? ⟨gp, i * 2, none⟩ = some (cellOr ((wq.setCell ⟨gp, i * 2, none⟩ (.int .i64 q.1)).setCell ⟨gp, i * 2 + 1, none⟩ (.string q.2)) ⟨gp, i * 2, none⟩) ∧ ((wq.setCell ⟨gp, i * 2, none⟩ (.int .i64 q.1)).setCell ⟨gp, i * 2 + 1, none⟩ (.string q.2)).cell? ⟨gp, i * 2 + 1, none⟩ = some (cellOr ((wq.setCell ⟨gp, i * 2, none⟩ (.int .i64 q.1)).setCell ⟨gp, i * 2 + 1, none⟩ (.string q.2)) ⟨gp, i * 2 + 1, none⟩) ∧ ((wq.setCell ⟨gp, i * 2, none⟩ (.int .i64 q.1)).setCell ⟨gp, i * 2 + 1, none⟩ (.string q.2)).frozen? ⟨gp, i * 2, none⟩ = false ∧ ((wq.setCell ⟨gp, i * 2, none⟩ (.int .i64 q.1)).setCell ⟨gp, i * 2 + 1, none⟩ (.string q.2)).frozen? ⟨gp, i * 2 + 1, none⟩ = false) ∧ Hid (Ready t h w x k q.1 ((wq.setCell ⟨gp, i * 2, none⟩ (.int .i64 q.1)).setCell ⟨gp, i * 2 + 1, none⟩ (.string q.2)) (.slice (some ⟨gp, 0, none⟩) nP cp) (.slice (some ⟨bk, 0, none⟩) nK ck) (P1 ++ [q]) P2 (K1 ++ [z]) K2 b) := by
        refine (at_any t h b 0 q W2.drew ((ST.out.I.hz b (by simp)).1.frame fun b hb => rfl) RB.out (by rw [HQ.out]; simp) (by omega)).mono ?_
        rintro e w4 ⟨rfl, hb4⟩
        have T4 : Touch [] W2 w4 := ((Touch.refl [] W2).drew).trans (Touch.of_below hb4 []) (by simp)
        obtain ⟨i2, s2⟩ := Inn.setPair ST.out.I II.out q T4
        have T5 := touch_set2 (gp := gp) (j := i * 2) (k := i * 2 + 1) T4 (.int .i64 q.1) (.string q.2)
        have T4' : Touch [gp] W2 w4 := T4.mono (by simp)
        have G4 : GP gp i w4 := GP0.out.touch T4 (by simp)
        refine ⟨rfl, Lib.hid ?_, Lib.hid ?_, Lib.hid (ready_right ST.out L1.out HS.out HMK.out hb HQ.out i2 s2)⟩
        · exact held_of T4' G4 c0 c1 kb N1 N2
        · exact held_of T5 ((G4.set _).set _) c0 c1 kb N1 N2
      have S0 : Hid (W2.drew.cell? ⟨x.p, 0, none⟩ = some (.slice (some ⟨gp, 0, none⟩) nP cp) ∧ W2.drew.cell? ⟨x.p, 1, none⟩ = some (.slice (some ⟨bk, 0, none⟩) nK ck) ∧ W2.drew.cell? ⟨bk, i + 1, none⟩ = some (.pointer (some ⟨b.p, 0, none⟩)) ∧ W2.drew.cell? ⟨gp, i * 2, none⟩ = some (cellOr W2.drew ⟨gp, i * 2, none⟩) ∧ W2.drew.cell? ⟨gp, i * 2 + 1, none⟩ = some (cellOr W2.drew ⟨gp, i * 2 + 1, none⟩) ∧ W2.drew.frozen? ⟨gp, i * 2, none⟩ = false ∧ W2.drew.frozen? ⟨gp, i * 2 + 1, none⟩ = false) := Lib.hid (by
        have T4' : Touch [gp] W2 W2.drew := (Touch.refl _ W2).drew
        exact held_of T4' (GP0.out.touch (Touch.refl [] W2).drew (by simp)) c0 c1 kb N1 N2)
      have CALL := Lib.hid call
      clear call
      go_wp2_with fail
      refine (spare_no z.p z.c cz t az _ zc (by omega) ht2 hz2).mono ?_
      rintro e w' ⟨rfl, rfl⟩
      go_wp2_with fail
      refine (spare_yes b.p b.c cb t ab _ bc (by omega) ht2 hb).mono ?_
      rintro e w' ⟨rfl, rfl⟩
      go_wp2_with fail
      go_cut [] (fun wc => Ready t h w x k q.1 wc (.slice (some ⟨gp, 0, none⟩) nP cp) (.slice (some ⟨bk, 0, none⟩) nK ck) (P1 ++ [q]) P2 (K1 ++ [z]) K2 b)
      case first =>
        have w1 : IntKind.i64.wrap ((i : Int) + 1) = (i : Int) + 1 := IntWalk.i64_in _ (by omega)
        have w2 : 0 ≤ (i : Int) + 1 := by omega
        have w3 : ((i : Int) + 1).toNat = i + 1 := by omega
        have w4 : (i : Int) + 1 < (nK : Int) := by omega
        go_region_held3 (fun W' => W'.cell? ⟨x.p, 0, none⟩ = some (.slice (some ⟨gp, 0, none⟩) nP cp) ∧ W'.cell? ⟨x.p, 1, none⟩ = some (.slice (some ⟨bk, 0, none⟩) nK ck) ∧ W'.cell? ⟨bk, i + 1, none⟩ = some (.pointer (some ⟨b.p, 0, none⟩)) ∧ W'.cell? ⟨gp, i * 2, none⟩ = some (cellOr W' ⟨gp, i * 2, none⟩) ∧ W'.cell? ⟨gp, i * 2 + 1, none⟩ = some (cellOr W' ⟨gp, i * 2 + 1, none⟩) ∧ W'.frozen? ⟨gp, i * 2, none⟩ = false ∧ W'.frozen? ⟨gp, i * 2 + 1, none⟩ = false) (first | exact S0.out | exact S1.out | exact S2.out)
          (first | (go_at_call 30; (with_reducible refine CALL.out.mono ?_); rintro e wq ⟨rfl, S1, S2, FIN⟩))
        all_goals
          go_wp2_with fail
          go_meet
          case rel => exact FIN.out
      case rest =>
        have R := hcut
        have d0 := R.I.r.c0
        have d1 := R.I.r.c1
        have dk : wc.cell? ⟨bk, i + 1, none⟩ = some (.pointer (some ⟨b.p, 0, none⟩)) := R.I.kr.cell (i + 1) b (by rw [← II.out, ← L1.out, List.getElem?_append_right (by simp)]; simp)
        have dp : wc.cell? ⟨gp, i * 2, none⟩ = some (.int .i64 q.1) := by
          have pr : PRow wc (.slice (some ⟨gp, 0, none⟩) nP cp) (P1 ++ q :: P2) := by simpa using R.I.pr
          have := pr.row.get
          rw [II.out] at this
          exact this.1
        have GO := Lib.hid ((R.touch (Touch.refl [] wc).drew).go HS.out HK.out (by rw [NX.out]; exact hn) ht IHH.out)
        clear hcut R S0 CALL c0 c1 kz kb zc bc m1 m2 gf1 gf2 zs bs GP0
        go_wp2_with fail
        have w1 : IntKind.i64.wrap ((i : Int) + 1) = (i : Int) + 1 := IntWalk.i64_in _ (by omega)
        have w2 : 0 ≤ (i : Int) + 1 := by omega
        have w3 : ((i : Int) + 1).toNat = i + 1 := by omega
        have w4 : (i : Int) + 1 < (nK : Int) := by omega
        go_still_tail 17, (by kernel_rfl)
        change wpList _ _ _ _ _ wc.drew
        clear w1 w2 w3
        go_wp2_with fail
        refine GO.out.mono ?_
        rintro e W4 ⟨rfl, hp⟩
        have FIN := Lib.hid hp
        clear hp
        go_wp2_with fail
        go_end0
        exact ⟨rfl, FIN.out⟩
    · have hb2 : b.c < t := by omega
      have MERGE : Hid (Calls Try.prog 52 #[.pointer (some ⟨x.p, 0, none⟩), .int .i64 i] W2 fun e w' => e = .returned (.tuple #[]) ∧ ∃ bk' nk' ck' vp' y, i < nk' ∧ nk' ≤ 400000 ∧ Ready t h w x k k w' vp' (.slice (some ⟨bk', 0, none⟩) nk' ck') P1 P2 K1 K2 y) :=
        Lib.hid ((ST.out.I.merge i II.out (by rw [L1.out, II.out]) ht (by rw [NP.out]; omega) (by omega)).mono fun e w' ⟨h1, h2⟩ => by
          obtain ⟨vp', vk', y, R⟩ := ready_merge ST.out L1.out HS.out HMK.out zc1.1 bc1.1 ht h2
          obtain ⟨bk', ck', e⟩ := R.I.kr.slice_of (by simp; omega)
          subst e
          have hb2 := R.bound HS.out HK.out
          rw [NX.out] at hb2
          exact ⟨h1, bk', _, ck', vp', y, by rw [← II.out, ← L1.out]; simp, by omega, R⟩)
      go_wp2_with fail
      refine (spare_no z.p z.c cz t az _ zc (by omega) ht2 hz2).mono ?_
      rintro e w' ⟨rfl, rfl⟩
      go_wp2_with fail
      refine (spare_no b.p b.c cb t ab _ bc (by omega) ht2 hb2).mono ?_
      rintro e w' ⟨rfl, rfl⟩
      go_wp2_with fail
      refine MERGE.out.mono ?_
      rintro e W3 ⟨rfl, bk', nk', ck', vp', y, jn, jb, R⟩
      have d1 := R.I.r.c1
      have dk : W3.cell? ⟨bk', i, none⟩ = some (.pointer (some ⟨y.p, 0, none⟩)) := R.I.kr.cell i y (by rw [← II.out, ← L1.out]; simp)
      have GO := Lib.hid (R.go HS.out HK.out (by rw [NX.out]; exact hn) ht IHH.out)
      clear R MERGE c0 c1 kz kb zc bc m1 m2 gf1 gf2 zs bs GP0
      go_wp2_with fail
      refine GO.out.mono ?_
      rintro e W4 ⟨rfl, hp⟩
      have FIN := Lib.hid hp
      clear hp
      go_wp2_with fail
      go_end0
      exact ⟨rfl, FIN.out⟩
end Go.Proofs.Ytcboakmfabdeoaa

/- remove, at any height. -/
namespace Go.Proofs.Ytcboakmfabdeoaa
open Go.RowKit

set_option maxHeartbeats 1000000 in
set_option maxRecDepth 100000 in
theorem remove_inner (t h : Nat) (ht : 2 ≤ t) (ht2 : t ≤ 1000) (IH : RemAt t h) : RemAt t (h + 1) := by
  intro x k w hx hs hnd hn hk hc
  obtain ⟨vp, vk, ps, ks, r1, r2, r3, r4, r5, r6, r7, r8⟩ := hx
  have hps : 1 ≤ ps.length := by omega
  obtain ⟨gp, cp, hvp⟩ := r2.slice_of (by omega)
  obtain ⟨bk, ck, hvk⟩ := r3.slice_of (by omega)
  have hkl := kid_le r4
  rw [← r5] at hkl
  have hpl : ps.length ≤ x.l.length := by rw [r5, join_length ks ps r4]; omega
  have hlen := del_length hs hk
  have hrps : Rising ps := by
    have hs2 := hs
    rw [r5] at hs2
    cases ks with
    | nil => simp at r4
    | cons a r => exact hs2.sublist (by simpa using join_sub a.l (r.map Kid.l) ps (by simp at r4 ⊢; omega))
  have hcl : ∀ v ∈ ks, v.c ≤ 200000 := fun v hv => Nat.le_trans (r8 v hv).1.c_le (Nat.le_trans (hkl v hv) hn)
  obtain ⟨W1, hW1⟩ : ∃ W1, W1 = w.setCell ⟨x.p, 2, none⟩ (.int .i64 ((x.l.length - 1 : Nat) : Int)) := ⟨_, rfl⟩
  have START : Hid (∀ W2, Below W1.heap.size W1 W2 → Start t h w x W2 vp vk ps ks) := Lib.hid (fun W2 hb => start_of r1 r2 r3 r4 r5 r6 r7 r8 hnd hW1 hb)
  have c2 := r1.c2
  have f2 := r1.fr 2
  have x_lt : x.p < w.heap.size := (Array.getElem?_eq_some_iff.1 r1).1
  have r11 : Rec W1 x.p vp vk (x.l.length - 1) := by rw [hW1]; exact rec_size r1 _
  have hvpx : ∀ b, vp.ownBlock = some b → b ≠ x.p := fun b hb => by
    have q := hnd
    rw [r6] at q
    exact ((fp_parts q).1 b hb).1
  have r21 : PRow W1 vp ps := ownsRow_of_heap r2 fun b hb => by rw [hW1]; exact heap_setCell_other w _ b _ (hvpx b hb)
  have hcast : ((x.l.length - 1 : Nat) : Int) = (x.l.length : Int) - 1 := by omega
  rw [hcast] at hW1
  have hw1 := hW1.symm
  have R1 := Lib.hid r11
  have R2 := Lib.hid r21
  have HS := Lib.hid hs
  have HK := Lib.hid hk
  have HLEN := Lib.hid hlen
  have HKL := Lib.hid hkl
  have HCL := Lib.hid hcl
  have R5 := Lib.hid r5
  have R4 := Lib.hid r4
  have RPS := Lib.hid hrps
  have IHH := Lib.hid IH
  subst hvp
  subst hvk
  clear r1 r2 r3 r4 r5 r6 r7 r8 r11 r21 hW1 hcast hs hk hlen hkl hcl hrps hnd hvpx IH hc
  generalize hnx : x.l.length = nx at *
  have NX := Lib.hid hnx
  clear hnx
  have hnx1 : 1 ≤ nx := by have := HLEN.out; omega
  cases hh : hasB ps k with
  | false => exact remove_no t h ht ht2 IHH x k w gp cp bk ck nx ps ks W1 HS HK hn HLEN NX hnx1 hps hpl RPS HKL HCL R4 R5 START c2 f2 x_lt R1 R2 hw1 hh
  | true => exact remove_yes t h ht ht2 IHH x k w gp cp bk ck nx ps ks W1 HS HK hn HLEN NX hnx1 hps hpl RPS HKL HCL R4 R5 START c2 f2 x_lt R1 R2 hw1 hh

theorem remove_any (t : Nat) (ht : 2 ≤ t) (ht2 : t ≤ 1000) : ∀ h, RemAt t h
  | 0 => fun x k w hx hs hnd hn hk _ => remove_leaf t x k w hx hs hnd hn hk
  | h + 1 => remove_inner t h ht ht2 (remove_any t ht ht2 h)

def DropPost (t m : Nat) (l : List Pr) (fp : List Nat) (k : Int) (w w' : World) : Prop :=
  ∃ rp' fp', TreeM t m w' (del l k) rp' fp' ∧ Touch (m :: fp) w w' ∧ ∀ b ∈ fp', b ∈ fp ∨ w.heap.size ≤ b
end Go.Proofs.Ytcboakmfabdeoaa
