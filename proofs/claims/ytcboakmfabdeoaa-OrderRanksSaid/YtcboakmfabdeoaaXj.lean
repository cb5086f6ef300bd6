/- split of a kid that has kids. -/
import Derived.Test.YtcboakmfabdeoaaXk
namespace Go.Proofs.Ytcboakmfabdeoaa
open Go.RowKit

set_option maxHeartbeats 1000000 in
set_option maxRecDepth 100000 in
theorem split_inner (t h p i bk nk ck : Nat) (vp : Value) (sz : Nat) (P1 P2 : List Pr) (K1 K2 : List Kid) (x : Kid) (w : World) (ht : 2 ≤ t) (ht2 : t ≤ 1000) (hr : Rec w p vp (.slice (some ⟨bk, 0, none⟩) nk ck) sz) (hp : PRow w vp (P1 ++ P2)) (hk : KRow w (.slice (some ⟨bk, 0, none⟩) nk ck) (K1 ++ x :: K2))
    (h1 : K1.length = i) (h2 : P1.length = i) (hx : IsT t w (h + 1) x) (hc : 2 * t ≤ x.c + 1) (hkn : nk ≤ 1000000) (hxl : x.l.length ≤ 500000) (hpl : (P1 ++ P2).length ≤ 1000000)
    (hd1 : ∀ b ∈ x.fp, b ≠ p ∧ b ≠ bk ∧ vp.ownBlock ≠ some b) (hd2 : p ≠ bk) (hd3 : vp.ownBlock ≠ some p) (hd4 : vp.ownBlock ≠ some bk) (hnx : x.fp.Nodup) :
    Calls Try.prog 46 #[.pointer (some ⟨p, 0, none⟩), .int .i64 i, .int .i64 t] w fun e w' => e = .returned (.tuple #[]) ∧ ∃ y z m vp' vk', Split t (h + 1) p sz vp (.slice (some ⟨bk, 0, none⟩) nk ck) P1 P2 K1 K2 w w' x y z m vp' vk' := by
  obtain ⟨vl, vq, xs, ys, r1, r2, rk, rl, rj, r3, r4, r8⟩ := hx
  obtain ⟨lp, cl, rfl, hcl⟩ := r2.own (by intro e; rw [e] at r4; simp at r4; omega)
  obtain ⟨kp, cq, rfl, hcq⟩ := rk.own (by intro e; rw [e] at rl; simp at rl)
  rw [rl] at r1 rk r3 hcq
  obtain ⟨L1, m, L2, el, elen⟩ := split_at_cons xs (t - 1) (by omega)
  generalize hsx : x.l.length = sx at *
  have SX := Lib.hid hsx
  have hxl2 : xs.length ≤ 500000 := by have := join_length ys xs rl; rw [← rj] at this; omega
  have hmc : w.cell? ⟨lp, (t - 1) * 2, none⟩ = some (.int .i64 m.1) ∧ w.cell? ⟨lp, (t - 1) * 2 + 1, none⟩ = some (.string m.2) := by
    have := r2.row; rw [el, ← elen] at *; exact this.get
  obtain ⟨mc1, mc2⟩ := hmc
  have kc := hk.cell i x (by rw [← h1]; simp)
  have c1 := hr.c1
  have l0 := r1.c0
  have hnk : i < nk := by
    rcases hk.cases with ⟨h, _⟩ | ⟨g, cap, cur, h, _⟩
    · cases h
    · simp at h; omega
  have p_lt : p < w.heap.size := (Array.getElem?_eq_some_iff.1 hr).1
  have x_lt : x.p < w.heap.size := (Array.getElem?_eq_some_iff.1 r1).1
  have lp_lt : lp < w.heap.size := r2.lt rfl
  have bk_lt : bk < w.heap.size := (World.ownsRow.lt hk bk rfl).2
  have hxn : t ≤ xs.length := by omega
  have hxn2 : 2 * t ≤ xs.length + 1 := by omega
  have HD := Lib.hid hd1
  have FX := Lib.hid r3
  have VPL := Lib.hid (fun b (hb : vp.ownBlock = some b) => hp.lt hb)
  rw [r3] at hd1 hnx
  have e1 := hd1 x.p (by simp)
  have e2 := hd1 lp (by simp [rows, Value.ownBlock])
  have hnx0 := hnx
  simp only [rows, Value.ownBlock, Option.toList, List.nodup_cons, List.mem_cons, List.mem_append, List.cons_append, List.nil_append, not_or] at hnx
  have e3 : x.p ≠ lp := hnx.1.1
  have e4 : x.p ≠ kp := hnx.1.2.1
  have e5 : lp ≠ kp := hnx.2.1.1
  have e6 := hd1 kp (by simp [rows, Value.ownBlock])
  have kp_lt : kp < w.heap.size := (World.ownsRow.lt rk kp rfl).2
  have HN := Lib.hid hnx0
  clear hnx0
  have HR := Lib.hid hr
  have HP := Lib.hid hp
  have HK := Lib.hid hk
  have R1 := Lib.hid r1
  have R2 := Lib.hid r2
  have EL := Lib.hid el
  have ELEN := Lib.hid elen
  have H1 := Lib.hid h1
  have H2 := Lib.hid h2
  have R4 := Lib.hid r4
  have RK := Lib.hid rk
  have RL := Lib.hid rl
  have RJ := Lib.hid rj
  have R8 := Lib.hid r8
  clear hr hp hk r1 r2 r3 r4 el elen h1 h2 hc hd1 hnx rk rl rj r8 hsx
  generalize hnx2 : xs.length = nx at *
  have NX := Lib.hid hnx2
  clear hnx2
  go_enter Try.func46, Try.ntmps46
  go_wp2_with fail
  have b1 := (Below.refl w.heap.size w).alloc (Nat.le_refl _) (.cells #[.int .i64 m.1, .string m.2] 61)
  have hsrc : ∀ j u, (encP (xs.drop t))[j]? = some u → (w.alloc (.cells #[.int .i64 m.1, .string m.2] 61)).cell? ((⟨lp, t * 2, none⟩ : Addr).add j) = some u := fun j u hj => by
    rw [b1.cell (by rw [Addr.add_lit]; exact lp_lt)]; exact encP_from R2.out t j u hj
  refine (cloneP_any _ _ _ (xs.drop t) _ (by simp [← NX.out]) (by omega) hsrc).mono ?_
  rintro e w2 ⟨vr, rfl, hvr, hb2, hvo⟩
  clear hsrc
  have hlen : (xs.drop t).length = nx - t := by rw [List.length_drop, NX.out]
  obtain ⟨rp, cr, hv, hcr⟩ := hvr.own (by intro e; rw [e] at hlen; simp at hlen; omega)
  rw [hlen] at hv hcr
  subst hv
  have rp_ge : w.heap.size + 1 ≤ rp := by simpa using hvo rp rfl
  have rp_lt : rp < w2.heap.size := hvr.lt rfl
  have sz2 : w.heap.size + 1 ≤ w2.heap.size := by simpa using hb2.size
  have bb2 : Below w.heap.size w w2 := b1.trans (hb2.mono (by simp))
  have VR := Lib.hid hvr
  have B2 := Lib.hid bb2
  have l0' : w2.cell? ⟨x.p, 0, none⟩ = _ := (bb2.cell x_lt).trans l0
  have c1' : w2.cell? ⟨p, 1, none⟩ = _ := (bb2.cell p_lt).trans c1
  have mb : w2.heap[w.heap.size]? = some (.cells #[.int .i64 m.1, .string m.2] 61 (0, 0)) := by
    rw [hb2.block w.heap.size (by simp)]; exact heap_alloc_new w _
  have MB := Lib.hid mb
  clear hvr hvo hb2 bb2 b1 mc1 mc2 kc c1 l0 hlen mb
  have x_lt2 : x.p < w2.heap.size := by omega
  have p_lt2 : p < w2.heap.size := by omega
  have lp_lt2 : lp < w2.heap.size := by omega
  have bk_lt2 : bk < w2.heap.size := by omega
  have hw3 : ∀ W : World, W.heap = (w2.alloc (.cells #[.slice (some ⟨rp, 0, none⟩) (nx - t) cr, .slice none 0 0, .int .i64 0] 68)).heap → PRow W (.slice (some ⟨lp, 0, none⟩) nx cl) xs := fun W hW =>
    ownsRow_of_heap R2.out fun b hb => by
      have : lp = b := by simpa [Value.ownBlock] using hb
      subst this
      rw [hW]
      exact (Below.heap_alloc w2 _ lp lp_lt2).trans (B2.out.block lp lp_lt)
  have W3 := Lib.hid hw3
  clear hw3
  have r1' : Rec w2 x.p (.slice (some ⟨lp, 0, none⟩) nx cl) (.slice (some ⟨kp, 0, none⟩) (nx + 1) cq) sx := (B2.out.block x.p x_lt).trans R1.out
  have hx4 : ∀ W w4 : World, W.heap = (w2.alloc (.cells #[.slice (some ⟨rp, 0, none⟩) (nx - t) cr, .slice none 0 0, .int .i64 0] 68)).heap → W.grownBy w4 (some lp) → Rec w4 x.p (.slice (some ⟨lp, 0, none⟩) nx cl) (.slice (some ⟨kp, 0, none⟩) (nx + 1) cq) sx := fun W w4 hW hg => by
    have : W.heap[x.p]? = some (.cells #[.slice (some ⟨lp, 0, none⟩) nx cl, .slice (some ⟨kp, 0, none⟩) (nx + 1) cq, .int .i64 sx] 68 (0, 0)) := by rw [hW]; exact (Below.heap_alloc w2 _ x.p x_lt2).trans r1'
    exact (hg.block x.p (Array.getElem?_eq_some_iff.1 this).1 (by simpa using e3)).trans this
  have X4 := Lib.hid hx4
  clear hx4 r1'
  have xy : x.p ≠ lp := e3
  go_wp2_with fail
  go_cut [] (fun wc => Cut3I x.p lp (t - 1) cl sx (.slice (some ⟨kp, 0, none⟩) (nx + 1) cq) (xs.take (t - 1)) (w2.alloc (.cells #[.slice (some ⟨rp, 0, none⟩) (nx - t) cr, .slice none 0 0, .int .i64 0] 68)) wc)
  case first =>
    go_region_with (go_at_call 49; refine (deleteP_Z _ _ lp nx cl (t - 1) nx xs _ ?_ ?_ ?_ ?_ ?_ ?_).mono ?_; (first | omega | (rw [IntKind.wrap_i64]; omega)); (first | omega | (rw [IntKind.wrap_i64]; omega)); omega; omega; omega; exact W3.out _ rfl; rintro e w4 ⟨rfl, hd, hg4⟩; have r4 := X4.out _ _ (by rfl) hg4; have q1 := r4.c0; have q2 := r4.fr 0)
    all_goals
      have FIN := Lib.hid (cut3I (n := t - 1) (W2 := w2.alloc (.cells #[.slice (some ⟨rp, 0, none⟩) (nx - t) cr, .slice none 0 0, .int .i64 0] 68)) xy NX.out hd ⟨hg4.os, hg4.tape, hg4.output, hg4.size, hg4.block⟩ r4)
      clear hd hg4 r4 q1 q2
      go_wp2_with fail
      go_meet
      case rel => exact FIN.out
  case rest =>
    obtain ⟨T1, y1, y2⟩ := hcut
    have RR : Rec wc w2.heap.size (.slice (some ⟨rp, 0, none⟩) (nx - t) cr) (.slice none 0 0) 0 := by
      have h1 := heap_alloc_new w2 (.cells #[.slice (some ⟨rp, 0, none⟩) (nx - t) cr, .slice none 0 0, .int .i64 0] 68)
      exact (T1.block w2.heap.size (by simp) (by simp; omega)).trans h1
    have x1 := y1.c1
    have f1 := RR.fr 1
    have Y1 := Lib.hid y1
    have Y2 := Lib.hid y2
    have YR := Lib.hid RR
    have TT := Lib.hid T1
    have szc : w2.heap.size + 1 ≤ wc.heap.size := by simpa using T1.size
    have kpc : KRow wc (.slice (some ⟨kp, 0, none⟩) (nx + 1) cq) ys := KRow.touch (KRow.touch (KRow.touch RK.out (Touch.of_below B2.out []) (by simp)) ((Touch.refl [] w2).alloc _) (by simp)) T1 (fun b hb hm => by
          have hb2 : kp = b := by simpa [Value.ownBlock] using hb
          subst hb2
          simp at hm
          rcases hm with h | h
          · exact e4 h.symm
          · exact e5 h.symm)
    have KPC := Lib.hid kpc
    clear y1 y2 RR T1 kpc
    go_wp2_with fail
    refine (leaf_no x.p _ _ _ _ x1 (by omega)).mono ?_
    rintro e w' ⟨rfl, rfl⟩
    go_wp2_with fail
    refine (cloneK_any ⟨kp, t, none⟩ (nx + 1 - t) (cq - t) (ys.drop t) _ (by rw [List.length_drop, RL.out]) (by omega) (ptrs_from KPC.out t)).mono ?_
    rintro e wk ⟨vk2, rfl, hvk, hbk, hvo⟩
    have hlen : (ys.drop t).length = nx + 1 - t := by rw [List.length_drop, RL.out]
    obtain ⟨rk2, crk, hv, hcrk⟩ := hvk.own (by intro e; rw [e] at hlen; simp at hlen; omega)
    rw [hlen] at hv hcrk
    subst hv
    have rk_ge : wc.heap.size ≤ rk2 := hvo rk2 rfl
    have rk_lt : rk2 < wk.heap.size := (World.ownsRow.lt hvk rk2 rfl).2
    have szk : wc.heap.size ≤ wk.heap.size := hbk.size
    have xc_lt : x.p < wc.heap.size := (Array.getElem?_eq_some_iff.1 Y1.out).1
    have yk1 : Rec wk x.p _ _ _ := (hbk.block x.p xc_lt).trans Y1.out
    have yk2 : Rec wk w2.heap.size _ _ _ := (hbk.block w2.heap.size (by omega)).trans YR.out
    have VK := Lib.hid hvk
    have BK := Lib.hid hbk
    have YK1 := Lib.hid yk1
    have YK2 := Lib.hid yk2
    have x1 := yk1.c1
    have x2 := yk2.fr 1
    have x3 := yk2.c1
    have kwc_lt : kp < wc.heap.size := (World.ownsRow.lt KPC.out kp rfl).2
    have nbk : w2.heap.size ≠ kp := by omega
    have nbx : w2.heap.size ≠ x.p := by omega
    have hk5 : ∀ W : World, W.heap = (wk.setCell ⟨w2.heap.size, 1, none⟩ (.slice (some ⟨rk2, 0, none⟩) (nx + 1 - t) crk)).heap → KRow W (.slice (some ⟨kp, 0, none⟩) (nx + 1) cq) ys := fun W hW =>
      ownsRow_of_heap (KRow.touch KPC.out (Touch.of_below BK.out []) (by simp)) fun b hb => by
        have : kp = b := by simpa [Value.ownBlock] using hb
        subst this
        rw [hW]
        exact heap_setCell_other wk _ kp _ (fun e => nbk e.symm)
    have K5 := Lib.hid hk5
    have hx5 : ∀ W w4 : World, W.heap = (wk.setCell ⟨w2.heap.size, 1, none⟩ (.slice (some ⟨rk2, 0, none⟩) (nx + 1 - t) crk)).heap → W.grownBy w4 (some kp) → Rec w4 x.p (.slice (some ⟨lp, 0, none⟩) (t - 1) cl) (.slice (some ⟨kp, 0, none⟩) (nx + 1) cq) sx := fun W w4 hW hg => by
      have : W.heap[x.p]? = some (.cells #[.slice (some ⟨lp, 0, none⟩) (t - 1) cl, .slice (some ⟨kp, 0, none⟩) (nx + 1) cq, .int .i64 sx] 68 (0, 0)) := by
        rw [hW]; exact (heap_setCell_other wk _ x.p _ (fun e => nbx (Eq.symm e))).trans YK1.out
      exact (hg.block x.p (Array.getElem?_eq_some_iff.1 this).1 (by simpa using e4)).trans this
    have X5 := Lib.hid hx5
    clear hvk hbk hvo hlen yk1 yk2 hk5 hx5
    go_wp2_with fail
    go_cut [] (fun wf => CutK x.p w2.heap.size kp lp cl cq rp cr rk2 crk t nx sx ys wc wf)
    case first =>
      go_region_with (go_at_call 60; refine (deleteK_ZN _ (nx + 1) kp cq t ys _ ?_ ?_ ?_ ?_).mono ?_; omega; omega; omega; exact K5.out _ rfl; rintro e w4 ⟨rfl, hd, hg4⟩; have r4 := X5.out _ _ (by rfl) hg4; have q1 := r4.c1; have q2 := r4.fr 1)
      all_goals
        have FIN := Lib.hid (cutK (xp := x.p) (nb := w2.heap.size) (wc := wc) (wk := wk) rfl RL.out e4 (Ne.symm nbx) nbk kwc_lt (by omega) rk_ge xc_lt hd ⟨hg4.os, hg4.tape, hg4.output, hg4.size, hg4.block⟩ r4 VK.out BK.out YK2.out)
        clear hd hg4 r4 q1 q2
        go_wp2_with fail
        go_meet
        case rel => exact FIN.out
    case rest =>
      obtain ⟨Tk, k1, k2, k3, k4⟩ := hcut
      obtain ⟨_, _, _, hjl, hjr, htt1, htt2, _⟩ := halves_num ht hxn EL.out ELEN.out NX.out RL.out RJ.out SX.out hxl
      have htt := And.intro htt1 htt2
      clear htt1 htt2
      have hT0 : Touch [x.p, lp, kp] w wc := (((Touch.of_below B2.out [x.p, lp, kp]).alloc _).trans TT.out (fun b hb => .inl (by simp at hb; rcases hb with e | e <;> simp [e]))).trans Tk (fun b hb => by
        simp at hb
        rcases hb with e | e | e
        · exact .inl (by simp [e])
        · exact .inr (by omega)
        · exact .inl (by simp [e]))
      have hzr : ∀ W : World, W.heap = wc.heap → ∀ z ∈ ys, z.p ≠ x.p ∧ z.p ≠ w2.heap.size ∧ ∃ a b, Rec W z.p a b z.l.length := fun W hW z hz => by
        have q := HN.out
        simp only [rows, Value.ownBlock, Option.toList, List.nodup_cons, List.mem_cons, List.mem_append, List.cons_append, List.nil_append, not_or] at q
        have iz := (R8.out z hz).1
        have hzm : ∀ b ∈ z.fp, b ∈ fpAll ys := fun b hb => mem_fpAll.2 ⟨z, hz, hb⟩
        have hp := iz.p_mem
        have hlt := iz.lt _ hp
        have i2 := iz.touch hT0 (fun b hb hm => by
          have := hzm b hb
          simp at hm
          rcases hm with e | e | e
          · exact q.1.2.2 (e ▸ this)
          · exact q.2.1.2 (e ▸ this)
          · exact q.2.2.1 (e ▸ this))
        obtain ⟨a, b, hrec⟩ := i2.record
        refine ⟨fun e => q.1.2.2 (e ▸ hzm _ hp), by omega, a, b, ?_⟩
        show W.heap[z.p]? = _
        rw [hW]; exact hrec
      have rk_x : rk2 ≠ w2.heap.size := by omega
      have HJL := Lib.hid hjl
      have HJR := Lib.hid hjr
      have HTT := Lib.hid htt
      have HZR := Lib.hid hzr
      have K1' := Lib.hid k1
      have K2' := Lib.hid k2
      have K3' := Lib.hid k3
      have K4' := Lib.hid k4
      have TK := Lib.hid Tk
      clear hzr hjl hjr htt k1 k2 k3 k4 Tk hT0
      go_wp2_with fail
      refine (recount_inner x.p sx kp t cq (t - 1) _ (some ⟨lp, 0, none⟩) cl rfl (ys.take t) _ K1'.out K3'.out (fun z hz => ⟨(HZR.out _ rfl z (List.mem_of_mem_take hz)).1, (HZR.out _ rfl z (List.mem_of_mem_take hz)).2.2⟩) (Ne.symm e4) (by have := HTT.out.1; omega)).mono ?_
      rintro e w5 ⟨rfl, z1, z2⟩
      have Z1 := Lib.hid z1
      have Z2 := Lib.hid z2
      have rr5 : Rec w5 w2.heap.size _ _ _ := K2'.out.touch z2 (by simpa using nbx)
      have kk5 : KRow w5 _ (ys.drop t) := K4'.out.touch z2 (fun b hb => by have : rk2 = b := by {simpa [Value.ownBlock] using hb}; subst this; simp; omega)
      have R5 := Lib.hid rr5
      have KK5 := Lib.hid kk5
      have hz5 : ∀ z ∈ ys.drop t, z.p ≠ w2.heap.size ∧ ∃ a b, Rec w5 z.p a b z.l.length := fun z hz => by
        obtain ⟨q1, q2, a, b, q3⟩ := HZR.out wc rfl z (List.mem_of_mem_drop hz)
        exact ⟨q2, a, b, q3.touch z2 (by simpa using q1)⟩
      have HZ5 := Lib.hid hz5
      clear z1 z2 rr5 kk5 hz5
      go_wp2_with fail
      refine (recount_inner w2.heap.size 0 rk2 (nx + 1 - t) crk (nx - t) _ (some ⟨rp, 0, none⟩) cr rfl (ys.drop t) _ R5.out KK5.out HZ5.out rk_x (by have := HTT.out.2; omega)).mono ?_
      rintro e w6 ⟨rfl, z3, z4⟩
      have Z3 := Lib.hid z3
      have Z4 := Lib.hid z4
      have t26 : Touch [x.p, lp, kp] w2 w6 := (((((Touch.refl [x.p, lp, kp] w2).alloc _).trans TT.out (fun b hb => .inl (by simp at hb; rcases hb with e | e <;> simp [e]))).trans TK.out (fun b hb => by
        simp at hb
        rcases hb with e | e | e
        · exact .inl (by simp [e])
        · exact .inr (by omega)
        · exact .inl (by simp [e]))).trans Z2.out (fun b hb => .inl (by simp at hb; simp [hb]))).trans z4 (fun b hb => by simp at hb; subst hb; exact .inr (Nat.le_refl _))
      have T26 := Lib.hid t26
      have HALF := Lib.hid (halves_inner ht EL.out ELEN.out NX.out hxn2 RL.out RJ.out SX.out hxl rfl R8.out FX.out HN.out x_lt lp_lt kp_lt B2.out rp_ge rp_lt (by omega) VR.out t26 Y2.out TK.out K3'.out Z1.out Z2.out KK5.out z3 Z4.out)
      have pr6 : Rec w6 p vp (.slice (some ⟨bk, 0, none⟩) nk ck) sz := Rec.touch ((B2.out.block p p_lt).trans HR.out) t26 (by simp; exact ⟨fun e => e1.1 e.symm, fun e => e2.1 e.symm, fun e => e6.1 e.symm⟩)
      have pp6 : PRow w6 vp (P1 ++ P2) := (HP.out.touch (Touch.of_below B2.out []) (by simp)).touch t26 (fun b hb hm => by
        simp at hm
        rcases hm with rfl | rfl | rfl
        · exact e1.2.2 hb
        · exact e2.2.2 hb
        · exact e6.2.2 hb)
      have mb6 : w6.heap[w.heap.size]? = some (.cells #[.int .i64 m.1, .string m.2] 61 (0, 0)) := (t26.block w.heap.size (by omega) (by simp; omega)).trans MB.out
      have s6 : w2.heap.size ≤ w6.heap.size := t26.size
      have PR6 := Lib.hid pr6
      have PP6 := Lib.hid pp6
      have n0 := pr6.c0
      have m0 := cell_of_row w6 w.heap.size 0 _ _ _ mb6
      have m1 := cell_of_row w6 w.heap.size 1 _ _ _ mb6
      simp only [List.getElem?_toArray, List.getElem?_cons_zero, List.getElem?_cons_succ] at m0 m1
      have hnp : P1.length ≤ (P1 ++ P2).length := by simp
      have hvb : vp.ownBlock ≠ some w6.heap.size := fun e => by have := pp6.lt e; omega
      have HVB := Lib.hid hvb
      have plt6 : p < w6.heap.size := by omega
      have HI : Hid (∀ W : World, W.heap = (w6.alloc (.cells #[.int .i64 m.1, .string m.2] 61)).heap → PRow W vp (P1 ++ P2) ∧ W.heap[w6.heap.size]? = some (.cells #[.int .i64 m.1, .string m.2] 61 (0, 0)) ∧ Rec W p vp (.slice (some ⟨bk, 0, none⟩) nk ck) sz) := Lib.hid (fun W hW => by
        have hb := (Below.refl w6.heap.size w6).alloc (Nat.le_refl _) (.cells #[.int .i64 m.1, .string m.2] 61)
        refine ⟨ownsRow_of_heap pp6 fun b hb2 => by rw [hW]; exact hb.block b (pp6.lt hb2), by rw [hW]; exact heap_alloc_new w6 _, ?_⟩
        show W.heap[p]? = _
        rw [hW]; exact (hb.block _ plt6).trans pr6)
      have HR4 : Hid (∀ W w4 : World, W.heap = (w6.alloc (.cells #[.int .i64 m.1, .string m.2] 61)).heap → W.grownBy w4 vp.ownBlock → Rec w4 p vp (.slice (some ⟨bk, 0, none⟩) nk ck) sz) := Lib.hid (fun W w4 hW hg =>
        (hg.block p (by rw [hW]; simp; omega) (fun e => hd3 e.symm)).trans (HI.out W hW).2.2)
      clear z3 z4 t26 pr6 pp6 mb6 hvb
      go_wp2_with fail
      go_cut [] (fun wc9 => Cut9 p i sz (.slice (some ⟨bk, 0, none⟩) nk ck) vp P1 P2 m w6 wc9)
      case first =>
        go_region_with (go_at_call 47; refine (insertP_Z _ vp i (P1 ++ P2).length _ (P1 ++ P2) m _ rfl rfl (by rw [← H2.out]; exact hnp) hpl ?_ ?_ HVB.out).mono ?_; exact (HI.out _ rfl).1; exact (HI.out _ rfl).2.1; rintro e w4 ⟨g', c', rfl, h4, g4, o4⟩; have r4 := HR4.out _ _ (by rfl) g4; have q1 := r4.c0; have q2 := r4.fr 0)
        all_goals
          have FIN := Lib.hid (cut9 H2.out hd3 plt6 h4 g4 o4 r4)
          clear h4 g4 o4 r4 q1 q2
          go_wp2_with fail
          go_meet
          case rel => exact FIN.out
      case rest =>
        obtain ⟨g9, c9, s1, s2, s3, s4⟩ := hcut
        have S1 := Lib.hid s1
        have S2 := Lib.hid s2
        have S4 := Lib.hid s4
        have c9' := s1.c1
        have f9' := s1.fr 1
        have kr9 : KRow wc (.slice (some ⟨bk, 0, none⟩) nk ck) (K1 ++ x :: K2) := KRow.touch (KRow.touch (KRow.touch HK.out (Touch.of_below B2.out []) (by simp)) T26.out (fun b hb hm => by
            have hb2 : bk = b := by simpa [Value.ownBlock] using hb
            subst hb2
            simp at hm
            rcases hm with h | h | h
            · exact e1.2.1 h.symm
            · exact e2.2.1 h.symm
            · exact e6.2.1 h.symm)) s4 (fun b hb hm => by
            have hb2 : bk = b := by simpa [Value.ownBlock] using hb
            subst hb2
            rcases List.mem_cons.1 hm with h | h
            · exact hd2 h.symm
            · exact hd4 (by simpa using h))
        have KR9 := Lib.hid kr9
        have hi1 : i ≤ 1000000 := by omega
        have nkl : (K1 ++ x :: K2).length = nk := by
          rcases kr9.cases with ⟨h, _⟩ | ⟨g, cap, cur, h, _⟩
          · cases h
          · simp only [Value.slice.injEq] at h; exact h.2.1.symm
        have NKL := Lib.hid nkl
        have bklt : bk < wc.heap.size := (World.ownsRow.lt kr9 bk rfl).2
        have plt9 : p < wc.heap.size := (Array.getElem?_eq_some_iff.1 s1).1
        clear s1 s2 s4 kr9 nkl
        go_wp2_with fail
        refine (insertK_Z _ (.slice (some ⟨bk, 0, none⟩) nk ck) (i + 1) nk _ (K1 ++ x :: K2) ⟨w2.heap.size, [], [], 0⟩ _ (by omega) NKL.out (by omega) hkn (KR9.out.touch ((Touch.refl [] wc).alloc _) (by simp)) (heap_alloc_new wc _) (fun e => by simp [Value.ownBlock] at e; omega)).mono ?_
        rintro e w10 ⟨g10, c10, rfl, v1, v2, v3⟩
        have r10 : Rec w10 p (.slice (some ⟨g9, 0, none⟩) (P1.length + P2.length + 1) c9) (.slice (some ⟨bk, 0, none⟩) nk ck) sz := (v2.block p (by simp; omega) (fun e => hd2 (by simpa [Value.ownBlock] using e))).trans ((Below.heap_alloc wc _ p plt9).trans S1.out)
        have q1 := r10.c1
        have q2 := r10.fr 1
        have V1 := Lib.hid v1
        have V2 := Lib.hid v2
        have V3 := Lib.hid v3
        have R10 := Lib.hid r10
        clear v1 v2 v3 r10
        go_wp2_with fail
        go_end0
        refine ⟨rfl, _, _, _, _, _, split_done HALF.out H1.out p_lt bk_lt VPL.out HD.out hd2 hd3 hd4 rfl S2.out s3 S4.out V1.out ?_ ?_ R10.out⟩
        · exact ((Touch.refl [bk] wc).alloc _).grown V2.out (fun b hb => .inl (by simpa [Value.ownBlock] using hb.symm))
        · rcases V3.out with h | h
          · exact .inl (by simpa [Value.ownBlock] using h)
          · exact .inr (by simp at h; omega)
end Go.Proofs.Ytcboakmfabdeoaa
