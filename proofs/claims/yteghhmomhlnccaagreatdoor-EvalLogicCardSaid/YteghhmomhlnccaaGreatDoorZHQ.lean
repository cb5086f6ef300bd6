import Derived.Test.YteghhmomhlnccaaGreatDoorZE
import Derived.Test.YteghhmomhlnccaaGreatDoorZHMB
import Derived.Deep.CutRange
import Derived.Deep.DeepCutAuto
import Derived.Deep.CutBlock

/- The reference's Names. -/
namespace Go.Proofs.YteghhmomhlnccaaGreatDoor
open Go.RowKit Go.Lib
set_option linter.unusedVariables false
set_option linter.unusedSimpArgs false
set_option maxRecDepth 100000
open Ex (Tree)

theorem step_append_runI {P : Program} {ops : Array Oper} {o : Oper} {a : Act} {w : World} {K : Act → World → Prop} {Q : Exit → Act → World → Prop} {E : Prop}
    (hg : o.guard = none) (d x : Operand) (dT sT : TypeId) (hop : o.op = Op.call { callee := Callee.builtin Builtin.append, args := #[d, x], argTypes := #[dT, sT] })
    (v u : Value) (hd : a.eval d = v) (hx : a.eval x = u) {v' : Value} {w' : World} (hr : (Builtin.append_ #[dT, sT] o.type #[v, u]).run P w = .ok v' w') (hK : K (a.put o.dst v') w') :
    if Region.wanted o (yielded ops a.tmps) = true then Oper.wp P o a w K Q else E := by
  have hw : Region.wanted o (yielded ops a.tmps) = true := by simp [Region.wanted, hg]
  rw [if_pos hw]
  unfold Oper.wp
  simp [execOp, hop, resolve, invoke, builtin, hd, hx, hr, Result.andThen]
  exact hK
/-- the kids of a tree, then the rest. -/
theorem kids_rest {S : Nat → Prop} {w : World} {B A : Option Addr} {ks l : List Tree} {c c' : Nat} (hk : SrcT S w B ks) (hl : SrcT S w A l) (hn : ks.length + l.length ≤ 1000000) (hS : ∀ k, S k → k < w.heap.size) (hA : ∀ b o, A = some ⟨b, o, none⟩ → b < w.heap.size) :
    ∃ v1 w1, Sem.run Tryz.prog (Builtin.append_ #[24, 24] 24 #[.slice (some ⟨w.heap.size, 0, none⟩) 0 0, .slice B ks.length c]) (w.alloc (.cells #[] 26)) = .ok v1 w1 ∧ Below w.heap.size w w1 ∧
      ∃ v2 w2, Sem.run Tryz.prog (Builtin.append_ #[24, 24] 24 #[v1, .slice A l.length c']) w1 = .ok v2 w2 ∧ Below w.heap.size w w2 ∧ RowT S w2 w.heap.size v2 (ks ++ l) := by
  have b0 : Below w.heap.size w (w.alloc (.cells #[] 26)) := (Below.refl _ _).alloc (Nat.le_refl _) _
  have r0 := RowT.new (S := S) (w := w) (fun h => absurd (hS _ h) (Nat.lt_irrefl _))
  obtain ⟨v1, w1, hr1, r1, t1, o1⟩ := append_trees r0 (hk.below b0) (A := B) (c := c) (by simp; omega) (by simp) (fun h => by have := hS _ h; simp at this; omega)
  have b1 : Below w.heap.size w w1 := t1.fresh b0 (fun k hk => by simp [Value.ownBlock] at hk; omega)
  obtain ⟨v2, w2, hr2, r2, t2, o2⟩ := append_trees r1 ((hl.below b1)) (A := A) (c := c') (by simpa using hn) b1.size (fun h => by have := hS _ h; have := b1.size; omega)
  exact ⟨v1, w1, hr1, b1, v2, w2, hr2, t2.fresh b1 (fun k hk => (r1.block k (by simpa using hk)).1), by simpa using r2⟩
theorem tx_beq (a b : List UInt8) : ((tx a).toList == (tx b).toList) = (a == b) := by
  rw [ByteArray.toList_eq, ByteArray.toList_eq]
def hasC (N : List (List UInt8)) (t : List UInt8) : Bool := N.contains t
theorem contains_take (N : List (List UInt8)) (i : Nat) (h : i < N.length) (t : List UInt8) : hasC (N.take (i + 1)) t = (hasC (N.take i) t || N[i] == t) := by
  rw [hasC, hasC, List.take_succ_eq_append_getElem h, Bool.eq_iff_iff]
  simp only [Bool.or_eq_true, List.contains_iff_mem, List.mem_append, List.mem_singleton, beq_iff_eq]
  exact or_congr_right eq_comm
/-- where the telling stands: names told, trees that are left. -/
structure NmAt (w : World) (T : Tree) (j : Nat) (s3 s4 : Value) (wr : World) (N : List (List UInt8)) (td : List Tree) (At : Option Addr) (ct : Nat) : Prop where
  meas : Ex.counts td < j
  all : Ex.once N (Ex.flats td) = Ex.names T
  row : SRow wr w.heap.size s3 (N.map tx)
  val : s4 = .slice At td.length ct
  cap : td.length ≤ ct
  src : SrcT (· < w.heap.size) wr At td
  far : ∀ b o, At = some ⟨b, o, none⟩ → s3.ownBlock ≠ some b ∧ b < wr.heap.size
  below : Below w.heap.size w wr
  few : N.length + Ex.counts td ≤ 500000
set_option maxHeartbeats 2000000 in
theorem refNames_any (T : Tree) (v : Value) (w : World) (h : NodeV w v T) (hc : Ex.count T ≤ 500000) :
    Calls Tryz.prog 21 #[v] w fun e w' => ∃ u, e = .returned u ∧ SRow w' w.heap.size u ((Ex.names T).map tx) ∧ Below w.heap.size w w' := by
  cases T with
  | node op t vk vn vs ks =>
  obtain ⟨A, c, rfl, hcc, hk⟩ := h
  obtain ⟨T, hT⟩ : ∃ T, (.node op t vk vn vs ks : Tree) = T := ⟨_, rfl⟩
  rw [hT] at hc ⊢
  have b0 : Below w.heap.size w (((w.alloc (.cells (ncells op t vk vn vs A ks.length c) 26)).alloc (.cells #[] 9)).alloc (.cells (ncells op t vk vn vs A ks.length c) 26)) := (((Below.refl _ w).alloc (Nat.le_refl _) _).alloc (by simp) _).alloc (by simp; omega) _
  have r0 : SRow (((w.alloc (.cells (ncells op t vk vn vs A ks.length c) 26)).alloc (.cells #[] 9)).alloc (.cells (ncells op t vk vn vs A ks.length c) 26)) w.heap.size (.slice (some ⟨w.heap.size + 1, 0, none⟩) 0 0) [] := by
    have := (SRow.new (w.alloc (.cells (ncells op t vk vn vs A ks.length c) 26))).below ((Below.refl _ _).alloc (Nat.le_refl _) (.cells (ncells op t vk vn vs A ks.length c) 26))
    simp only [World.size_alloc] at this
    exact this.le (by omega)
  have k2 := Whole.new ((w.alloc (.cells (ncells op t vk vn vs A ks.length c) 26)).alloc (.cells #[] 9)) 26 (ncells op t vk vn vs A ks.length c)
  simp only [World.size_alloc] at k2
  unfold ncells at *
  have R0 := Lib.hid r0
  have B0 := Lib.hid b0
  have K2 := Lib.hid k2
  have HT := Lib.hid hT
  have HK := Lib.hid hk
  clear r0 b0 k2 hT hk
  go_enter Tryz.func21, Tryz.ntmps21
  go_wp2_with fail
  generalize (((w.alloc (.cells #[.int .i64 op, .string (tx t), .int .i64 vk, .int .i64 vn, .string (tx vs), .slice A ks.length c] 26)).alloc (.cells #[] 9)).alloc (.cells #[.int .i64 op, .string (tx t), .int .i64 vk, .int .i64 vn, .string (tx vs), .slice A ks.length c] 26)) = W0 at *
  go_loopg [3, 4, 5, 6, 7] (Ex.count T + 1) (fun j s3 s4 s5 s6 s7 wr => ∃ N td At ct, Hid (NmAt w T j s3 s4 wr N td At ct))
  case atStart =>
    refine ⟨[], [T], some ⟨w.heap.size + 1 + 1, 0, none⟩, 1, Lib.hid ⟨by rw [Ex.counts, Ex.counts]; omega, by rw [Ex.flats, Ex.flats, List.append_nil]; rfl, R0.out, rfl, Nat.le_refl _, ?_, fun b o e => by cases e; exact ⟨by simp [Value.ownBlock], K2.out.lt⟩, B0.out, by rw [Ex.counts, Ex.counts]; simp; omega⟩⟩
    rw [← HT.out]
    exact ⟨_, ⟨A, c, [], rfl, hcc, HK.out.old B0.out, rfl⟩, fun j u hu => ⟨w.heap.size + 1 + 1, 0, rfl, by rw [Nat.zero_add, K2.out.cell, ← hu]; simp⟩⟩
  case round =>
    obtain ⟨N, td, At, ct, HM⟩ := hrel
    obtain ⟨A3, c3, hs3, -⟩ := HM.out.row.shape
    obtain ⟨n3, hn3⟩ : ∃ n3, (N.map tx).length = n3 := ⟨_, rfl⟩
    rw [hn3] at hs3
    have HN3 := Lib.hid hn3
    clear hn3
    have hs4 := HM.out.val
    subst hs3
    subst hs4
    match td, HM with
    | [], HM =>
      go_wp2_with fail
      go_ret
      exact ⟨_, rfl, by have := HM.out.all; rw [Ex.flats] at this; rw [← this]; exact HM.out.row, HM.out.below⟩
    | .node op' t' vk' vn' vs' ks' :: td, HM =>
      obtain ⟨b, o, B, c', hAt, hblt, d0, d1, d2, d3, d4, d5, hc', hkk, hrest⟩ := HM.out.src.head
      subst hAt
      have hcap := HM.out.cap
      have hmeas := HM.out.meas
      have hfew := HM.out.few
      simp only [Ex.counts, Ex.count, List.length_cons] at hcap hmeas hfew
      have hl0 := Ex.length_counts td
      have hl1 := Ex.length_counts ks'
      have hr1 : (0 : Int) < ((td.length + 1 : Nat) : Int) := by omega
      have hr3 : (1 : Int) ≤ (td.length : Int) + 1 := by omega
      have b1 : Below wr.heap.size wr (wr.alloc (.cells (ncells op' t' vk' vn' vs' B ks'.length c') 26)) := (Below.refl _ _).alloc (Nat.le_refl _) _
      have w1 := Whole.new wr 26 (ncells op' t' vk' vn' vs' B ks'.length c')
      unfold ncells at b1 w1
      dsimp only [List.length_cons]
      obtain ⟨n4, hn4⟩ : ∃ n4, td.length = n4 := ⟨_, rfl⟩
      rw [hn4] at hr1 hr3 ⊢
      have HN4 := Lib.hid hn4
      rw [hn4] at hcap
      clear hn4
      have hsz1 : (wr.alloc (.cells #[.int .i64 op', .string (tx t'), .int .i64 vk', .int .i64 vn', .string (tx vs'), .slice B ks'.length c'] 26)).heap.size = wr.heap.size + 1 := by simp
      go_wp2_with fail
      obtain ⟨W1, hW1⟩ : ∃ W1, wr.alloc (.cells #[.int .i64 op', .string (tx t'), .int .i64 vk', .int .i64 vn', .string (tx vs'), .slice B ks'.length c'] 26) = W1 := ⟨_, rfl⟩
      rw [hW1] at b1 w1 hsz1 ⊢
      have hd1 : Below W1.heap.size W1 W1.drew := (Below.refl _ _).drew
      have srest := (hrest.below b1).below hd1
      have skids := ((hkk.src).below b1).below hd1
      have hS : ∀ k, k < w.heap.size → k < W1.drew.heap.size := fun k hk => by have := HM.out.below.size; have := b1.size; show k < W1.heap.size; omega
      obtain ⟨e0, e1, e2, e3, e4, e5⟩ := six_of w1
      go_upto_region 5 with fail
      go_cut [4] from 17 to 24 (fun s4 wc => ∃ A2 m2 c2, s4 = .slice A2 m2 c2 ∧ Hid (m2 = (ks' ++ td).length ∧ SrcT (· < w.heap.size) wc A2 (ks' ++ td) ∧ (ks' ++ td).length ≤ c2 ∧ Below W1.heap.size W1 wc ∧ ∀ b o, A2 = some ⟨b, o, none⟩ → W1.heap.size ≤ b ∧ b < wc.heap.size))
      case first =>
        by_cases hct : ct = 1
        · subst hct
          have htd : td = [] := List.eq_nil_of_length_eq_zero (by have := HN4.out; omega)
          have stn : SrcT (· < w.heap.size) W1.drew (some ⟨b, o, none⟩) td := by rw [htd]; exact SrcT.nil _ _ _
          obtain ⟨v1, w4, s1, bb1, v2, w5, s2, bb2, rr⟩ := kids_rest (w := W1.drew) (A := some ⟨b, o, none⟩) (l := td) (c := c') (c' := 0) skids stn (by omega) hS (fun b2 o2 e => by cases e; have := (HM.out.far _ _ rfl).2; have := b1.size; show b < W1.heap.size; omega)
          obtain ⟨A2, c2, hv2, h1, -, h2, h3⟩ := rr.src
          obtain ⟨m2, hm2⟩ : ∃ m2, (ks' ++ td).length = m2 := ⟨_, rfl⟩
          rw [hm2] at hv2
          subst hv2
          have FIN : Hid (m2 = (ks' ++ td).length ∧ SrcT (· < w.heap.size) w5 A2 (ks' ++ td) ∧ (ks' ++ td).length ≤ c2 ∧ Below W1.heap.size W1 w5 ∧ ∀ b o, A2 = some ⟨b, o, none⟩ → W1.heap.size ≤ b ∧ b < w5.heap.size) := Lib.hid ⟨hm2.symm, h2, h1, bdrew1 bb2, fun b o e => rr.block _ (h3 b o e)⟩
          have f5 : W1.cell? ⟨wr.heap.size, 5, none⟩ = some (.slice B ks'.length c') := e5
          have f5a : (W1.alloc (.cells #[] 26)).cell? ⟨wr.heap.size, 5, none⟩ = some (.slice B ks'.length c') := (((Below.refl _ W1).alloc (Nat.le_refl _) _).cell (p := ⟨wr.heap.size, 5, none⟩) (by show wr.heap.size < W1.heap.size; omega)).trans e5
          have f5b : w4.cell? ⟨wr.heap.size, 5, none⟩ = some (.slice B ks'.length c') := (bb1.cell (p := ⟨wr.heap.size, 5, none⟩) (by show wr.heap.size < W1.heap.size; omega)).trans e5
          have s1' : Sem.run Tryz.prog (Builtin.append_ #[24, 24] 24 #[.slice (some ⟨W1.heap.size, 0, none⟩) 0 0, .slice B ks'.length c']) ((W1.alloc (.cells #[] 26)).drew) = .ok v1 w4 := s1
          have hn0 : n4 = 0 := by omega
          rw [HN4.out, hn0] at s2
          clear hn0
          clear s1
          have s1 := s1'
          clear s1' hm2 rr h1 h2 h3 bb1 bb2 skids srest hsz1 stn htd
          go_region_law (first
            | (refine step_append_runI rfl _ _ 24 24 rfl _ _ ?h3 ?h4 s1 ?_; (case h3 => rfl); (case h4 => rfl))
            | (refine step_append_runI rfl _ _ 24 24 rfl _ _ ?h3 ?h4 s2 ?_; (case h3 => rfl); (case h4 => rfl)))
          all_goals
            go_wp2_with fail
            go_meet
            case rel => exact ⟨A2, m2, c2, rfl, FIN⟩
        · have hct' : (ct = 1) = False := eq_false hct
          obtain ⟨v1, w4, s1, bb1, v2, w5, s2, bb2, rr⟩ := kids_rest (w := W1.drew) (A := some ⟨b, o + 6, none⟩) (l := td) (c := c') (c' := ct - 1) skids srest (by omega) hS (fun b2 o2 e => by cases e; have := (HM.out.far _ _ rfl).2; have := b1.size; show b < W1.heap.size; omega)
          obtain ⟨A2, c2, hv2, h1, -, h2, h3⟩ := rr.src
          obtain ⟨m2, hm2⟩ : ∃ m2, (ks' ++ td).length = m2 := ⟨_, rfl⟩
          rw [hm2] at hv2
          subst hv2
          have FIN : Hid (m2 = (ks' ++ td).length ∧ SrcT (· < w.heap.size) w5 A2 (ks' ++ td) ∧ (ks' ++ td).length ≤ c2 ∧ Below W1.heap.size W1 w5 ∧ ∀ b o, A2 = some ⟨b, o, none⟩ → W1.heap.size ≤ b ∧ b < w5.heap.size) := Lib.hid ⟨hm2.symm, h2, h1, bdrew1 bb2, fun b o e => rr.block _ (h3 b o e)⟩
          have f5 : W1.cell? ⟨wr.heap.size, 5, none⟩ = some (.slice B ks'.length c') := e5
          have f5a : (W1.alloc (.cells #[] 26)).cell? ⟨wr.heap.size, 5, none⟩ = some (.slice B ks'.length c') := (((Below.refl _ W1).alloc (Nat.le_refl _) _).cell (p := ⟨wr.heap.size, 5, none⟩) (by show wr.heap.size < W1.heap.size; omega)).trans e5
          have f5b : w4.cell? ⟨wr.heap.size, 5, none⟩ = some (.slice B ks'.length c') := (bb1.cell (p := ⟨wr.heap.size, 5, none⟩) (by show wr.heap.size < W1.heap.size; omega)).trans e5
          have s1' : Sem.run Tryz.prog (Builtin.append_ #[24, 24] 24 #[.slice (some ⟨W1.heap.size, 0, none⟩) 0 0, .slice B ks'.length c']) ((W1.alloc (.cells #[] 26)).drew) = .ok v1 w4 := s1
          rw [HN4.out] at s2
          clear s1
          have s1 := s1'
          clear s1' hm2 rr h1 h2 h3 bb1 bb2 skids srest hsz1
          go_region_law (first
            | (refine step_append_runI rfl _ _ 24 24 rfl _ _ ?h3 ?h4 s1 ?_; (case h3 => rfl); (case h4 => rfl))
            | (refine step_append_runI rfl _ _ 24 24 rfl _ _ ?h3 ?h4 s2 ?_; (case h3 => rfl); (case h4 => rfl)))
          all_goals
            go_wp2_with fail
            go_meet
            case rel => exact ⟨A2, m2, c2, rfl, FIN⟩
      case rest =>
        obtain ⟨A2, m2, c2, rfl, HP⟩ := hcut
        obtain ⟨wd, rfl⟩ : ∃ wd, wd = wc := ⟨wc, rfl⟩
        have HB2 : Hid (Below w.heap.size w wd) := Lib.hid (bstep (bstep HM.out.below b1) HP.out.2.2.2.1)
        have wcx := w1.below HP.out.2.2.2.1 w1.lt
        obtain ⟨g0, g1, g2, g3, g4, g5⟩ := six_of wcx
        have HR : Hid (SRow wd w.heap.size (.slice A3 n3 c3) (N.map tx)) := Lib.hid ((HM.out.row.below b1).below HP.out.2.2.2.1)
        have HOWN : Hid (∀ k, (Value.slice A3 n3 c3).ownBlock = some k → k < W1.heap.size) := Lib.hid (fun k e => Nat.lt_of_lt_of_le (HM.out.row.block k e).2 b1.size)
        have HWX := Lib.hid wcx
        have HMEAS : Hid (Ex.counts (ks' ++ td) < gk - 1 + 1 - 1 ∧ N.length + 1 + Ex.counts (ks' ++ td) ≤ 500000 ∧ N.length ≤ 500000) := Lib.hid (by rw [Ex.counts_append]; omega)
        have HALL : Hid (Ex.once N ((if op' = 2 then [t'] else []) ++ Ex.flats (ks' ++ td)) = Ex.names T) := Lib.hid (by
          have := HM.out.all
          rw [Ex.flats, Ex.flat, List.append_assoc, ← Ex.flats_append] at this
          exact this)
        have hn9 : (n3 : Int) ≤ 500000 := by have := HN3.out; rw [List.length_map] at this; omega
        clear e0 e1 e2 e3 e4 e5 d0 d1 d2 d3 d4 d5 w1 wcx hkk hrest skids srest hS hsz1 hd1 hr1 hr3
        by_cases ho : op' = 2
        · subst ho
          go_upto_block 2 with fail
          go_cut [6, 7] from 27 to 43 (fun s6 s7 wc2 => s6 = .bool (hasC N t') ∧ Hid (Below wd.heap.size wd wc2))
          case first =>
            go_wp2_with fail
            go_loopg [6, 7] (n3 + 1) (fun j s6 s7 wq => ∃ i : Nat, i ≤ n3 ∧ n3 < i + j ∧ s7 = .int .i64 (i : Nat) ∧ s6 = .bool (hasC (N.take i) t') ∧ Hid (Below wd.heap.size wd wq))
            case atStart => exact ⟨0, by omega, by omega, rfl, rfl, Lib.hid (Below.refl _ _)⟩
            case round =>
              obtain ⟨i, hi, hj, rfl, rfl, HBI⟩ := hrel
              have HRI := Lib.hid (HR.out.below HBI.out)
              have HXI := Lib.hid (Whole.below HWX.out HBI.out (Whole.lt HWX.out))
              by_cases hlt : i < n3
              · have hlt' : (i : Int) < (n3 : Int) := by omega
                have hiN : i < N.length := by have := HN3.out; rw [List.length_map] at this; omega
                obtain ⟨A9, c9, hv9, -, hcells⟩ := HRI.out.shape
                obtain ⟨g, hg, -, -, hgc⟩ := hcells i (by rw [List.length_map]; exact hiN)
                have hA9 : A9 = A3 := by injection hv9 with h1 h2 h3; exact h1.symm
                rw [hA9] at hg
                rw [List.getElem_map] at hgc
                subst hg
                obtain ⟨x0, x1, -⟩ := six_of HXI.out
                have HCT := Lib.hid (contains_take N i hiN t')
                have hcmp := tx_beq N[i] t'
                clear hv9 hcells hA9
                cases hq : hasC (N.take i) t'
                · rw [hq] at HCT
                  have HCT2 : Hid (hasC (N.take (i + 1)) t' = (N[i] == t')) := Lib.hid (by rw [HCT.out, Bool.false_or])
                  generalize hq2 : (N[i] == t') = q2 at *
                  clear hq HCT
                  go_wp2_with fail
                  go_quiet (fail)
                  go_wp2_with fail
                  go_roundg (n3 - i)
                  case measure => omega
                  case rel => exact ⟨i + 1, by omega, by omega, by go_num, by rw [HCT2.out], Lib.hid (below_drewN HBI.out _)⟩
                · rw [hq] at HCT
                  have HCT2 : Hid (hasC (N.take (i + 1)) t' = true) := Lib.hid (by rw [HCT.out, Bool.true_or])
                  clear hq HCT
                  go_wp2_with fail
                  go_quiet (fail)
                  go_wp2_with fail
                  go_roundg (n3 - i)
                  case measure => omega
                  case rel => exact ⟨i + 1, by omega, by omega, by go_num, by rw [HCT2.out], Lib.hid (below_drewN HBI.out _)⟩
              · have hlt' : ¬ (i : Int) < (n3 : Int) := by omega
                have hie : N.take i = N := List.take_of_length_le (by have := HN3.out; rw [List.length_map] at this; omega)
                have HIE := Lib.hid hie
                clear hie
                go_wp2_with fail
                go_meet
                case rel => exact ⟨by rw [HIE.out], HBI⟩
          case rest =>
            obtain ⟨rfl, HB3⟩ := hcut
            have HR3 := Lib.hid (HR.out.below HB3.out)
            have HX3 := Lib.hid (Whole.below HWX.out HB3.out (Whole.lt HWX.out))
            have HB4 : Hid (Below w.heap.size w wc) := Lib.hid (HB2.out.trans (HB3.out.mono HB2.out.size))
            have HS3 : Hid (SrcT (· < w.heap.size) wc A2 (ks' ++ td)) := Lib.hid (HP.out.2.1.below HB3.out)
            clear g0 g1 g2 g3 g4 g5
            cases hq : hasC N t'
            · have HAL2 : Hid (Ex.once (N ++ [t']) (Ex.flats (ks' ++ td)) = Ex.names T) := Lib.hid (by
                have := HALL.out
                rw [if_pos rfl, List.singleton_append, Ex.once, if_neg (by rw [show N.contains t' = false from hq]; decide)] at this
                exact this)
              obtain ⟨v5, w5, hrun, r5, T5, o5⟩ := append_str2 HR3.out (tx t') (by rw [List.length_map]; have := HMEAS.out; omega) HB4.out.size
              obtain ⟨x0, x1, -⟩ := six_of HX3.out
              have T5' := T5
              have FIN : Hid (NmAt w T (Ex.counts (ks' ++ td) + 1) v5 (.slice A2 m2 c2) w5 (N ++ [t']) (ks' ++ td) A2 c2) := Lib.hid ⟨Nat.lt_succ_self _, HAL2.out, by rw [List.map_append]; exact r5, by rw [HP.out.1], HP.out.2.2.1, HS3.out.moved (fun k hk hlt => ⟨T5.block k hlt (fun h => by have := (HR3.out.block k (by simpa using h)).1; omega), hk⟩) (fun b o e => T5.block b (Nat.lt_of_lt_of_le (HP.out.2.2.2.2 b o e).2 HB3.out.size) (fun h => by have := HOWN.out b (by simpa using h); have := (HP.out.2.2.2.2 b o e).1; omega)), fun b o e => ⟨fun h => by
                have h1 := HP.out.2.2.2.2 b o e
                have h2 := HB3.out.size
                rcases o5 with o5 | o5
                · rw [o5] at h; have := HOWN.out b h; omega
                · rw [o5] at h; injection h with h; omega, Nat.lt_of_lt_of_le (HP.out.2.2.2.2 b o e).2 (Nat.le_trans HB3.out.size T5.size)⟩, T5.fresh HB4.out (fun k hk => (HR3.out.block k (by simpa using hk)).1), by rw [List.length_append]; exact HMEAS.out.2.1⟩
              have HRUN := Lib.hid hrun
              clear hrun r5 T5 T5' o5
              go_wp2_with (at_builtin; refine Lib.wpList_append_run _ rfl (.tmp 45) (.tmp 48) 49 49 rfl _ _ rfl rfl _ _ HRUN.out ?_)
              go_roundg (Ex.counts (ks' ++ td) + 1)
              case measure => have := HMEAS.out.1; omega
              case rel => exact ⟨_, _, _, _, FIN⟩
            · have FIN : Hid (NmAt w T (Ex.counts (ks' ++ td) + 1) (.slice A3 n3 c3) (.slice A2 m2 c2) wc N (ks' ++ td) A2 c2) := Lib.hid ⟨Nat.lt_succ_self _, by
                have := HALL.out
                rw [if_pos rfl, List.singleton_append, Ex.once, if_pos (show N.contains t' = true from hq)] at this
                exact this, HR3.out, by rw [HP.out.1], HP.out.2.2.1, HS3.out, fun b o e => ⟨fun h => by have := HOWN.out b h; have := HP.out.2.2.2.2 b o e; omega, Nat.lt_of_lt_of_le (HP.out.2.2.2.2 b o e).2 HB3.out.size⟩, HB4.out, by have := HMEAS.out; omega⟩
              go_wp2_with fail
              go_roundg (Ex.counts (ks' ++ td) + 1)
              case measure => have := HMEAS.out.1; omega
              case rel => exact ⟨_, _, _, _, FIN⟩
        · have ho' : (op' != 2) = true := by simpa using ho
          go_wp2_with fail
          go_roundg (Ex.counts (ks' ++ td) + 1)
          case measure => have := HMEAS.out.1; omega
          case rel => exact ⟨N, ks' ++ td, A2, c2, Lib.hid ⟨Nat.lt_succ_self _, by have := HALL.out; rwa [if_neg ho, List.nil_append] at this, HR.out, by rw [HP.out.1], HP.out.2.2.1, HP.out.2.1, fun b o e => ⟨fun h => by have := HOWN.out b h; have := HP.out.2.2.2.2 b o e; omega, (HP.out.2.2.2.2 b o e).2⟩, HB2.out, by have := HMEAS.out; omega⟩⟩
end Go.Proofs.YteghhmomhlnccaaGreatDoor
