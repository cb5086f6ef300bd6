/- insert at any height: the way down, plain. -/
import Derived.Test.YtcboakmfabdeoaaXl
namespace Go.Proofs.Ytcboakmfabdeoaa
open Go.RowKit

/-- On the way down to where k belongs one has come to y: R are the blocks of the whole that are not y's. -/
structure Ins (t : Nat) (k : Int) (W0 : World) (h : Nat) (x : Kid) (wr : World) (gk : Nat) (y : Kid) (R : List Nat) : Prop where
  ty : IsT t wr gk y
  ctx : Ctx t 1 k wr h x R gk y
  touch : Touch x.fp W0 wr
  nodup : (y.fp ++ R).Nodup
  hf : ∀ b ∈ y.fp ++ R, b ∈ x.fp ∨ W0.heap.size ≤ b
  lt : ∀ b ∈ R, b < wr.heap.size
  no : hasB y.l k = false
  rise : Rising y.l
  len : y.l.length ≤ x.l.length

theorem Ins.start {t : Nat} {k : Int} {W0 : World} {h : Nat} {x : Kid} (hx : IsT t W0 h x) (hs : Rising x.l) (hnd : x.fp.Nodup) (hk : hasB x.l k = false) : Ins t k W0 h x W0 h x [] :=
  ⟨hx, Ctx.start _ _ _ _ _ _, Touch.refl _ _, by simpa using hnd, fun b hb => .inl (by simpa using hb), by simp, hk, hs, Nat.le_refl _⟩

/-- what the leaf's row becomes makes the whole. -/
theorem Ins.done {t : Nat} {k : Int} {s : ByteArray} {W0 : World} {h : Nat} {x : Kid} {wr : World} {gk : Nat} {y : Kid} {R : List Nat} (I : Ins t k W0 h x wr gk y R) {wf : World} {fp' : List Nat} {c : Nat} (hy : IsT t wf gk ⟨y.p, ins y.l k s, fp', c⟩) (hc : y.c ≤ c) (hT : Touch y.fp wr wf) (hnd : fp'.Nodup) (hfp : ∀ b ∈ fp', b ∈ y.fp ∨ wr.heap.size ≤ b) :
    ∃ fp3 c3, IsT t wf h ⟨x.p, ins x.l k s, fp3, c3⟩ ∧ Touch x.fp W0 wf ∧ fp3.Nodup ∧ (∀ b ∈ fp3, b ∈ x.fp ∨ W0.heap.size ≤ b) ∧ x.c ≤ c3 := by
  obtain ⟨A, B, e1, e2, e3, e4⟩ := I.ctx
  have nd := List.nodup_append.1 I.nodup
  obtain ⟨fp3, c3, g1, g2, g3⟩ := e4 wf _ hy rfl hc (ins_length s I.no) (fun b hb => hT.block b (I.lt b hb) (fun hm => nd.2.2 b hm b hb rfl))
  have hs := I.touch.size
  refine ⟨fp3, c3, ?_, I.touch.trans hT (fun b hb => I.hf b (by simp [hb])), ?_, ?_, g2⟩
  · rw [e1, ins_mid e2 e3]; exact g1
  · refine g3.nodup_iff.2 (List.nodup_append.2 ⟨hnd, nd.2.1, fun a ha b hb e => ?_⟩)
    subst e
    rcases hfp a ha with h1 | h1
    · exact nd.2.2 a h1 a hb rfl
    · have := I.lt a hb; omega
  · intro b hb
    rcases List.mem_append.1 (g3.mem_iff.1 hb) with h1 | h1
    · rcases hfp b h1 with h2 | h2
      · exact I.hf b (by simp [h2])
      · exact .inr (by omega)
    · exact I.hf b (by simp [h1])

/-- one node further down. -/
theorem Ins.step {t : Nat} {k : Int} {W0 : World} {h : Nat} {x : Kid} {wr : World} {h' : Nat} {y : Kid} {R : List Nat} (I : Ins t k W0 h x wr (h' + 1) y R) {w3 : World} {vp vk : Value} {Q1 Q2 : List Pr} {J1 J2 : List Kid} {u : Kid}
    (hT : Touch y.fp wr w3) (r1 : Rec w3 y.p vp vk (y.l.length + 1)) (r2 : PRow w3 vp (Q1 ++ Q2)) (r3 : KRow w3 vk (J1 ++ u :: J2)) (hl : y.l = join ((J1 ++ u :: J2).map Kid.l) (Q1 ++ Q2))
    (h1 : J1.length = Q1.length) (h2 : J2.length = Q2.length) (hcc : y.c ≤ (Q1 ++ Q2).length) (hk : ∀ v ∈ J1 ++ u :: J2, IsT t w3 h' v ∧ t - 1 ≤ v.c)
    (hA : ∀ q ∈ joinL (J1.map Kid.l) Q1, q.1 < k) (hB : ∀ q ∈ joinR Q2 (J2.map Kid.l), k < q.1)
    (hnd : (y.p :: (rows vp vk ++ fpAll (J1 ++ u :: J2))).Nodup) (hfp : ∀ b ∈ rows vp vk ++ fpAll (J1 ++ u :: J2), b ∈ y.fp ∨ wr.heap.size ≤ b) :
    Ins t k W0 h x w3 h' u (y.p :: (rows vp vk ++ fpAll J1 ++ fpAll J2) ++ R) := by
  have nd := List.nodup_append.1 I.nodup
  have hs := I.touch.size
  have hs3 := hT.size
  have hyp := I.ty.p_mem
  have c1 : Ctx t 1 k w3 h x R (h' + 1) y := I.ctx.frame (fun b hb => hT.block b (I.lt b hb) (fun hm => nd.2.2 b hm b hb rfl))
  have c2 := c1.down r1 r2 r3 hl h1 h2 hcc hk hA hB
  have hff : fpAll (J1 ++ u :: J2) = fpAll J1 ++ (u.fp ++ fpAll J2) := by simp [fpAll]
  have hperm : (u.fp ++ (y.p :: (rows vp vk ++ fpAll J1 ++ fpAll J2) ++ R)).Perm ((y.p :: (rows vp vk ++ fpAll (J1 ++ u :: J2))) ++ R) := by
    rw [hff]
    generalize rows vp vk = r
    have p1 : (r ++ (fpAll J1 ++ (u.fp ++ fpAll J2))).Perm (u.fp ++ (r ++ fpAll J1 ++ fpAll J2)) := by
      have := List.perm_append_comm_assoc (r ++ fpAll J1) u.fp (fpAll J2)
      simpa [List.append_assoc] using this
    have p2 : (y.p :: (r ++ (fpAll J1 ++ (u.fp ++ fpAll J2)))).Perm (u.fp ++ (y.p :: (r ++ fpAll J1 ++ fpAll J2))) := (p1.cons y.p).trans List.perm_middle.symm
    simpa [List.append_assoc] using (p2.append_right R).symm
  have hnew : ∀ b ∈ (y.p :: (rows vp vk ++ fpAll (J1 ++ u :: J2))), b ∈ y.fp ∨ wr.heap.size ≤ b := fun b hb => by
    rcases List.mem_cons.1 hb with e | e
    · exact .inl (e ▸ hyp)
    · exact hfp b e
  have hj : y.l = joinL (J1.map Kid.l) Q1 ++ u.l ++ joinR Q2 (J2.map Kid.l) := by
    rw [hl, List.map_append, List.map_cons]; exact join_split _ _ _ _ _ (by simpa using h1)
  refine ⟨(hk u (by simp)).1, c2, I.touch.trans hT (fun b hb => I.hf b (by simp [hb])), ?_, ?_, ?_, ?_, ?_, ?_⟩
  · refine hperm.nodup_iff.2 (List.nodup_append.2 ⟨hnd, nd.2.1, fun a ha b hb e => ?_⟩)
    subst e
    rcases hnew a ha with e1 | e1
    · exact nd.2.2 a e1 a hb rfl
    · have := I.lt a hb; omega
  · intro b hb
    rcases List.mem_append.1 (hperm.mem_iff.1 hb) with e | e
    · rcases hnew b e with e1 | e1
      · exact I.hf b (by simp [e1])
      · exact .inr (by omega)
    · exact I.hf b (by simp [e])
  · intro b hb
    rcases List.mem_append.1 hb with e | e
    · rcases List.mem_cons.1 e with e | e
      · subst e; exact (Array.getElem?_eq_some_iff.1 r1).1
      · simp only [List.mem_append] at e
        rcases e with (e | e) | e
        · rcases mem_rows.1 e with e | e
          · exact r2.lt e
          · exact (World.ownsRow.lt r3 b e).2
        · obtain ⟨v, hv, hb2⟩ := mem_fpAll.1 e
          exact (hk v (by simp [hv])).1.lt b hb2
        · obtain ⟨v, hv, hb2⟩ := mem_fpAll.1 e
          exact (hk v (by simp [hv])).1.lt b hb2
    · have := I.lt b e; omega
  · refine hasB_no.2 (fun q hq => hasB_no.1 I.no q (by rw [hj]; simp [hq]))
  · have hr := I.rise
    rw [hj] at hr
    exact (rising_append.1 (rising_append.1 hr).1).2.1
  · have := I.len
    rw [hj] at this
    simp at this
    omega
/-- down into a half of a kid that was full. -/
theorem Ins.split {t : Nat} {k : Int} {W0 : World} {h : Nat} {x : Kid} {wr : World} {h' : Nat} {y : Kid} {R : List Nat} (I : Ins t k W0 h x wr (h' + 1) y R) {w2 w3 : World} {vp vk vp' vk' : Value} {P1 P2 : List Pr} {K1 K2 : List Kid} {z a b : Kid} {m : Pr}
    (hf : y.fp = y.p :: (rows vp vk ++ fpAll (K1 ++ z :: K2))) (hyc : y.c = (P1 ++ P2).length) (hz : ∀ v ∈ K1 ++ z :: K2, IsT t wr h' v ∧ t - 1 ≤ v.c) (hl : y.l = join ((K1 ++ z :: K2).map Kid.l) (P1 ++ P2)) (h1 : K1.length = P1.length) (h2 : K2.length = P2.length)
    (hA : ∀ q ∈ joinL (K1.map Kid.l) P1, q.1 < k) (hB : ∀ q ∈ joinR P2 (K2.map Kid.l), k < q.1) (T2 : Touch [y.p] wr w2) (S : Split t h' y.p (y.l.length + 1) vp vk P1 P2 K1 K2 w2 w3 z a b m vp' vk') :
    m.1 ≠ k ∧ (m.1 < k → Ins t k W0 h x w3 h' b (y.p :: (rows vp' vk' ++ fpAll (K1 ++ [a]) ++ fpAll K2) ++ R)) ∧ (k < m.1 → Ins t k W0 h x w3 h' a (y.p :: (rows vp' vk' ++ fpAll K1 ++ fpAll (b :: K2)) ++ R)) := by
  have hs2 := T2.size
  have f1 : fpAll (K1 ++ z :: K2) = fpAll K1 ++ (z.fp ++ fpAll K2) := by simp [fpAll]
  have f2 : fpAll (K1 ++ a :: b :: K2) = fpAll K1 ++ (a.fp ++ (b.fp ++ fpAll K2)) := by simp [fpAll]
  have nd := (List.nodup_append.1 I.nodup).1
  rw [hf, f1] at nd
  have p1 : (y.p :: (rows vp vk ++ (fpAll K1 ++ (z.fp ++ fpAll K2)))).Perm ((y.p :: (rows vp vk ++ z.fp)) ++ (fpAll K1 ++ fpAll K2)) := List.perm_iff_count.2 (fun c => by simp only [List.count_append, List.count_cons]; omega)
  have nd1 := List.nodup_append.1 (p1.nodup_iff.1 nd)
  have hold : ∀ c ∈ fpAll K1 ++ fpAll K2, c < wr.heap.size := fun c hc => by
    rcases List.mem_append.1 hc with e | e
    · obtain ⟨v, hv, hb⟩ := mem_fpAll.1 e
      exact (hz v (by simp [hv])).1.lt c hb
    · obtain ⟨v, hv, hb⟩ := mem_fpAll.1 e
      exact (hz v (by simp [hv])).1.lt c hb
  have hkeep : ∀ v, v ∈ K1 ∨ v ∈ K2 → IsT t w3 h' v ∧ t - 1 ≤ v.c := fun v hv => by
    have hv2 : v ∈ K1 ++ z :: K2 := by rcases hv with e | e <;> simp [e]
    have hm : ∀ c ∈ v.fp, c ∈ fpAll K1 ++ fpAll K2 := fun c hc => by
      rcases hv with e | e
      · exact List.mem_append.2 (.inl (mem_fpAll.2 ⟨v, e, hc⟩))
      · exact List.mem_append.2 (.inr (mem_fpAll.2 ⟨v, e, hc⟩))
    exact ⟨((hz v hv2).1.touch T2 (fun c hc e => nd1.2.2 c (by simp at e; simp [e]) c (hm c hc) rfl)).touch S.touch (fun c hc e => nd1.2.2 c e c (hm c hc) rfl), (hz v hv2).2⟩
  have hin : ∀ c ∈ y.p :: (rows vp vk ++ z.fp), c ∈ y.fp := fun c hc => by
    rw [hf, f1]; exact p1.mem_iff.2 (List.mem_append.2 (.inl hc))
  have hin2 : ∀ c ∈ fpAll K1 ++ fpAll K2, c ∈ y.fp := fun c hc => by
    rw [hf, f1]; exact p1.mem_iff.2 (List.mem_append.2 (.inr hc))
  have hT : Touch y.fp wr w3 := (T2.mono (G := y.fp) (fun c hc => .inl (hin c (by simp at hc; simp [hc])))).trans S.touch (fun c hc => .inl (hin c hc))
  have hnew : ∀ c ∈ y.p :: (rows vp' vk' ++ (a.fp ++ b.fp)), c ∈ y.p :: (rows vp vk ++ z.fp) ∨ wr.heap.size ≤ c := fun c hc => by
    rcases List.mem_cons.1 hc with e | e
    · exact .inl (by simp [e])
    · rcases S.hf c e with e1 | e1
      · exact .inl (List.mem_cons_of_mem _ e1)
      · exact .inr (by omega)
  have p2 : (y.p :: (rows vp' vk' ++ fpAll (K1 ++ a :: b :: K2))).Perm ((y.p :: (rows vp' vk' ++ (a.fp ++ b.fp))) ++ (fpAll K1 ++ fpAll K2)) := by
    rw [f2]; exact List.perm_iff_count.2 (fun c => by simp only [List.count_append, List.count_cons]; omega)
  have hnd : (y.p :: (rows vp' vk' ++ fpAll (K1 ++ a :: b :: K2))).Nodup := p2.nodup_iff.2 (List.nodup_append.2 ⟨S.nodup, nd1.2.1, fun c hc d hd e => by
    subst e
    rcases hnew c hc with e1 | e1
    · exact nd1.2.2 c e1 c hd rfl
    · have := hold c hd; omega⟩)
  have hfp : ∀ c ∈ rows vp' vk' ++ fpAll (K1 ++ a :: b :: K2), c ∈ y.fp ∨ wr.heap.size ≤ c := fun c hc => by
    rcases List.mem_append.1 (p2.mem_iff.1 (List.mem_cons_of_mem _ hc)) with e | e
    · rcases hnew c e with e1 | e1
      · exact .inl (hin c e1)
      · exact .inr e1
    · exact .inl (hin2 c e)
  have hl2 : y.l = join ((K1 ++ a :: b :: K2).map Kid.l) (P1 ++ m :: P2) := by
    rw [hl, List.map_append, List.map_cons, S.ls, join_split_kid _ _ _ _ _ _ _ (by simpa using h1)]; simp
  have hj : y.l = joinL (K1.map Kid.l) P1 ++ z.l ++ joinR P2 (K2.map Kid.l) := by
    rw [hl, List.map_append, List.map_cons]; exact join_split _ _ _ _ _ (by simpa using h1)
  have hr := I.rise
  rw [hj] at hr
  have hrz := (rising_append.1 (rising_append.1 hr).1).2.1
  rw [S.ls] at hrz
  have hr1 := rising_append.1 hrz
  have hr2 := rising_cons.1 hr1.2.1
  have hkids : ∀ v ∈ K1 ++ a :: b :: K2, IsT t w3 h' v ∧ t - 1 ≤ v.c := fun v hv => by
    simp at hv
    rcases hv with e | e | e | e
    · exact hkeep v (.inl e)
    · subst e; exact ⟨S.ty, S.cy⟩
    · subst e; exact ⟨S.tz, S.cz⟩
    · exact hkeep v (.inr e)
  refine ⟨fun e => hasB_no.1 I.no m (by rw [hj, S.ls]; simp) e, fun hm => ?_, fun hm => ?_⟩
  · have e1 : K1 ++ a :: b :: K2 = (K1 ++ [a]) ++ b :: K2 := by simp
    have e2 : P1 ++ m :: P2 = (P1 ++ [m]) ++ P2 := by simp
    have i2 := S.hps
    have i3 := S.hks
    rw [e1] at hnd hfp hl2 hkids i3
    rw [e2] at hl2 i2
    refine I.step hT S.hr i2 i3 hl2 (by simpa using h1) h2 (by rw [hyc]; simp) hkids ?_ hB hnd hfp
    rw [List.map_append, List.map_cons, List.map_nil, joinL_snoc _ _ _ _ (by simpa using h1)]
    intro q hq
    simp only [List.mem_append, List.mem_singleton] at hq
    rcases hq with (e | e) | e
    · exact hA q e
    · have := hr1.2.2 q e m (by simp); omega
    · subst e; exact hm
  · refine I.step hT S.hr S.hps S.hks hl2 h1 (by simpa using h2) (by rw [hyc]; simp) hkids hA ?_ hnd hfp
    intro q hq
    simp only [List.map_cons, joinR, List.mem_cons, List.mem_append] at hq
    rcases hq with (e | e) | e
    · subst e; exact hm
    · have := hr2.1 q e; omega
    · exact hB q e
end Go.Proofs.Ytcboakmfabdeoaa
