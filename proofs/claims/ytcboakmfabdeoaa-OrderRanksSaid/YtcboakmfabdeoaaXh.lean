/- split. -/
import Derived.Deep.RegionWith
import Derived.Test.YtcboakmfabdeoaaXi
namespace Go.Proofs.Ytcboakmfabdeoaa
open Go.RowKit

/-- a slice value of a row of pairs from place i on: its cells. -/
theorem encP_from {w : World} {g n cap : Nat} {l : List Pr} (h : PRow w (.slice (some ⟨g, 0, none⟩) n cap) l) (i : Nat) : ∀ j u, (encP (l.drop i))[j]? = some u → w.cell? ((⟨g, i * 2, none⟩ : Addr).add j) = some u := by
  intro j u hj
  rw [Addr.add_lit]
  have := World.ownsRow.cells h (g := g) rfl (i * 2 + j) u (by rw [← encP_drop, List.getElem?_drop] at hj; exact hj)
  rw [Addr.add_lit, Nat.zero_add] at this
  exact this

theorem ptrs_from {w : World} {g n cap : Nat} {l : List Kid} (h : KRow w (.slice (some ⟨g, 0, none⟩) n cap) l) (i : Nat) : ∀ j u, (ptrs (l.drop i))[j]? = some u → w.cell? ((⟨g, i, none⟩ : Addr).add j) = some u := by
  intro j u hj
  rw [Addr.add_lit]
  have := World.ownsRow.cells h (g := g) rfl (i + j) u (by rw [← ptrs_drop, List.getElem?_drop] at hj; exact hj)
  rw [Addr.add_lit, Nat.zero_add] at this
  exact this

theorem deleteP_Z (zi zj : Int) (g n cap i j : Nat) (l : List Pr) (w : World) (hzi : zi = i) (hzj : zj = j) (hij : i < j) (hjn : j ≤ n) (hn : n ≤ 1000000) (hr : PRow w (.slice (some ⟨g, 0, none⟩) n cap) l) :
    Calls Try.prog 49 #[.slice (some ⟨g, 0, none⟩) n cap, .int .i64 zi, .int .i64 zj] w fun e w' =>
      e = .returned (.slice (some ⟨g, 0, none⟩) (i + (n - j)) cap) ∧ PRow w' (.slice (some ⟨g, 0, none⟩) (i + (n - j)) cap) (l.take i ++ l.drop j) ∧ w.grownBy w' (some g) := by
  subst hzi; subst hzj; exact deleteP_any g n cap i j l w hij hjn hn hr

theorem deleteK_Z (zi zj : Int) (g n cap i j : Nat) (l : List Kid) (w : World) (hzi : zi = i) (hzj : zj = j) (hij : i < j) (hjn : j ≤ n) (hn : n ≤ 1000000) (hr : KRow w (.slice (some ⟨g, 0, none⟩) n cap) l) :
    Calls Try.prog 60 #[.slice (some ⟨g, 0, none⟩) n cap, .int .i64 zi, .int .i64 zj] w fun e w' =>
      e = .returned (.slice (some ⟨g, 0, none⟩) (i + (n - j)) cap) ∧ KRow w' (.slice (some ⟨g, 0, none⟩) (i + (n - j)) cap) (l.take i ++ l.drop j) ∧ w.grownBy w' (some g) := by
  subst hzi; subst hzj; exact deleteK_any g n cap i j l w hij hjn hn hr


/-- behind the cut of the left node's pairs. -/
def Cut3 (p lp n cl nx : Nat) (l : List Pr) (W2 wc : World) : Prop :=
  Touch [p, lp] W2 wc ∧ Rec wc p (.slice (some ⟨lp, 0, none⟩) n cl) (.slice none 0 0) nx ∧ PRow wc (.slice (some ⟨lp, 0, none⟩) n cl) l

theorem cut3 {p lp n cl nx : Nat} {l : List Pr} {W2 w4 : World} (hne : p ≠ lp) (hl : l.length = nx) (hd : PRow w4 (.slice (some ⟨lp, 0, none⟩) (n + (nx - nx)) cl) (l.take n ++ l.drop nx)) (hg : W2.grownBy w4 (some lp)) (hr : Rec w4 p (.slice (some ⟨lp, 0, none⟩) nx cl) (.slice none 0 0) nx) :
    Cut3 p lp n cl nx (l.take n) W2 (w4.setCell ⟨p, 0, none⟩ (.slice (some ⟨lp, 0, none⟩) n cl)) := by
  have e : n + (nx - nx) = n := by omega
  rw [e] at hd
  rw [← hl, List.drop_length, List.append_nil] at hd
  exact ⟨((Touch.of_grown hg).mono (fun b hb => .inl (by simp at hb; simp [hb]))).setCell (.inl (by simp)) _, hr.set0 _, ownsRow_of_heap hd fun b hb => heap_setCell_other w4 _ b _ (fun e => by
    have h1 : lp = b := by simpa [Value.ownBlock] using hb
    exact hne (by rw [h1]; exact e.symm))⟩

/-- behind the middle pair's going up. -/
def Cut9 (p i sz : Nat) (vk vp : Value) (P1 P2 : List Pr) (m : Pr) (w6 wc : World) : Prop :=
  ∃ g c, Rec wc p (.slice (some ⟨g, 0, none⟩) (P1.length + P2.length + 1) c) vk sz ∧ PRow wc (.slice (some ⟨g, 0, none⟩) (P1.length + P2.length + 1) c) (P1 ++ m :: P2) ∧ (vp.ownBlock = some g ∨ w6.heap.size ≤ g) ∧ Touch (p :: vp.ownBlock.toList) w6 wc

theorem cut9 {p i sz g c : Nat} {vk vp : Value} {P1 P2 : List Pr} {m : Pr} {w6 w4 : World} {o : Obj} (hi : P1.length = i) (hvp : vp.ownBlock ≠ some p) (plt : p < w6.heap.size)
    (h4 : PRow w4 (.slice (some ⟨g, 0, none⟩) ((P1 ++ P2).length + 1) c) ((P1 ++ P2).take i ++ m :: (P1 ++ P2).drop i)) (g4 : (w6.alloc o).drew.grownBy w4 vp.ownBlock) (o4 : vp.ownBlock = some g ∨ (w6.alloc o).drew.heap.size ≤ g)
    (r4 : Rec w4 p vp vk sz) : Cut9 p i sz vk vp P1 P2 m w6 (w4.setCell ⟨p, 0, none⟩ (.slice (some ⟨g, 0, none⟩) (P1.length + P2.length + 1) c)) := by
  subst hi
  rw [List.take_left' rfl, List.drop_left' rfl, List.length_append] at h4
  have hs : (w6.alloc o).drew.heap.size = w6.heap.size + 1 := by show (w6.alloc o).heap.size = _; simp
  have hgp : g ≠ p := by
    rcases o4 with h | h
    · intro e; exact hvp (e ▸ h)
    · omega
  refine ⟨g, c, r4.set0 _, ownsRow_of_heap h4 fun b hb => heap_setCell_other w4 _ b _ (fun e => hgp ?_), ?_, ?_⟩
  · have h1 : g = b := by simpa [Value.ownBlock] using hb
    rw [h1]; exact e
  · rcases o4 with h | h
    · exact .inl h
    · exact .inr (by omega)
  · exact (((Touch.refl (p :: vp.ownBlock.toList) w6).alloc o).drew.grown g4 (fun k hk => .inl (by simp [hk]))).setCell (.inl (by simp)) _

theorem insertK_Z (zi : Int) (v : Value) (i n vb : Nat) (l : List Kid) (x : Kid) (w : World) (hzi : zi = i) (hl : l.length = n) (hi : i ≤ n) (hn : n ≤ 1000000) (hr : KRow w v l)
    (hv : w.heap[vb]? = some (.cells #[.pointer (some ⟨x.p, 0, none⟩)] 52 (0, 0))) (hne : v.ownBlock ≠ some vb) :
    Calls Try.prog 62 #[v, .int .i64 zi, .slice (some ⟨vb, 0, none⟩) 1 1] w fun e w' =>
      ∃ g c, e = .returned (.slice (some ⟨g, 0, none⟩) (n + 1) c) ∧ KRow w' (.slice (some ⟨g, 0, none⟩) (n + 1) c) (l.take i ++ x :: l.drop i) ∧ w.grownBy w' v.ownBlock ∧ (v.ownBlock = some g ∨ w.heap.size ≤ g) := by
  subst hzi; subst hl
  refine (insertK_any v i vb l x w hi hn hr hv hne).mono ?_
  rintro e w' ⟨v', rfl, h1, h2, h3⟩
  obtain ⟨g, c, rfl, _⟩ := h1.own (by simp)
  have hlen : (l.take i ++ x :: l.drop i).length = l.length + 1 := by simp; omega
  rw [hlen] at h1 h3 ⊢
  exact ⟨g, c, rfl, h1, h2, h3 g rfl⟩

set_option maxHeartbeats 1000000 in
set_option maxRecDepth 100000 in
theorem split_leaf (t p i bk nk ck : Nat) (vp : Value) (sz : Nat) (P1 P2 : List Pr) (K1 K2 : List Kid) (x : Kid) (w : World) (ht : 2 ≤ t) (ht2 : t ≤ 1000) (hr : Rec w p vp (.slice (some ⟨bk, 0, none⟩) nk ck) sz) (hp : PRow w vp (P1 ++ P2)) (hk : KRow w (.slice (some ⟨bk, 0, none⟩) nk ck) (K1 ++ x :: K2))
    (h1 : K1.length = i) (h2 : P1.length = i) (hx : IsT t w 0 x) (hc : 2 * t ≤ x.c + 1) (hkn : nk ≤ 1000000) (hxl : x.l.length ≤ 1000000) (hpl : (P1 ++ P2).length ≤ 1000000)
    (hd1 : ∀ b ∈ x.fp, b ≠ p ∧ b ≠ bk ∧ vp.ownBlock ≠ some b) (hd2 : p ≠ bk) (hd3 : vp.ownBlock ≠ some p) (hd4 : vp.ownBlock ≠ some bk) (hnx : x.fp.Nodup) :
    Calls Try.prog 46 #[.pointer (some ⟨p, 0, none⟩), .int .i64 i, .int .i64 t] w fun e w' => e = .returned (.tuple #[]) ∧ ∃ y z m vp' vk', Split t 0 p sz vp (.slice (some ⟨bk, 0, none⟩) nk ck) P1 P2 K1 K2 w w' x y z m vp' vk' := by
  obtain ⟨vl, r1, r2, r3, r4⟩ := hx
  obtain ⟨lp, cl, rfl, hcl⟩ := r2.own (by intro e; rw [e] at r4; simp at r4; omega)
  obtain ⟨L1, m, L2, el, elen⟩ := split_at_cons x.l (t - 1) (by omega)
  have hmc : w.cell? ⟨lp, (t - 1) * 2, none⟩ = some (.int .i64 m.1) ∧ w.cell? ⟨lp, (t - 1) * 2 + 1, none⟩ = some (.string m.2) := by
    have := r2.row; rw [el, ← elen] at *; exact this.get
  obtain ⟨mc1, mc2⟩ := hmc
  have kc := hk.cell i x (by rw [← h1]; simp)
  have c1 := hr.c1
  have l0 := r1.c0
  have hnk : i < nk := by
    rcases hk.cases with ⟨h, _⟩ | ⟨g, cap, cur, h, _⟩
    · cases h
    · simp at h; omega
  have p_lt : p < w.heap.size := (Array.getElem?_eq_some_iff.1 hr).1
  have x_lt : x.p < w.heap.size := (Array.getElem?_eq_some_iff.1 r1).1
  have lp_lt : lp < w.heap.size := r2.lt rfl
  have bk_lt : bk < w.heap.size := (World.ownsRow.lt hk bk rfl).2
  have hxn : t ≤ x.l.length := by omega
  have hxn2 : 2 * t ≤ x.l.length + 1 := by omega
  have HD := Lib.hid hd1
  have FX := Lib.hid r3
  have VPL := Lib.hid (fun b (hb : vp.ownBlock = some b) => hp.lt hb)
  rw [r3] at hd1 hnx
  have e1 := hd1 x.p (by simp)
  have e2 := hd1 lp (by simp [Value.ownBlock])
  have e3 : x.p ≠ lp := by intro e; rw [e] at hnx; simp [Value.ownBlock] at hnx
  have HR := Lib.hid hr
  have HP := Lib.hid hp
  have HK := Lib.hid hk
  have R1 := Lib.hid r1
  have R2 := Lib.hid r2
  have EL := Lib.hid el
  have ELEN := Lib.hid elen
  have H1 := Lib.hid h1
  have H2 := Lib.hid h2
  have R4 := Lib.hid r4
  clear hr hp hk r1 r2 r3 r4 el elen h1 h2 hc hd1 hnx
  generalize hnx2 : x.l.length = nx at *
  have NX := Lib.hid hnx2
  clear hnx2
  go_enter Try.func46, Try.ntmps46
  go_wp2_with fail
  have b1 := (Below.refl w.heap.size w).alloc (Nat.le_refl _) (.cells #[.int .i64 m.1, .string m.2] 61)
  have hsrc : ∀ j u, (encP (x.l.drop t))[j]? = some u → (w.alloc (.cells #[.int .i64 m.1, .string m.2] 61)).cell? ((⟨lp, t * 2, none⟩ : Addr).add j) = some u := fun j u hj => by
    rw [b1.cell (by rw [Addr.add_lit]; exact lp_lt)]; exact encP_from R2.out t j u hj
  refine (cloneP_any _ _ _ (x.l.drop t) _ (by simp [← NX.out]) (by omega) hsrc).mono ?_
  rintro e w2 ⟨vr, rfl, hvr, hb2, hvo⟩
  clear hsrc
  have hlen : (x.l.drop t).length = nx - t := by rw [List.length_drop, NX.out]
  obtain ⟨rp, cr, hv, hcr⟩ := hvr.own (by intro e; rw [e] at hlen; simp at hlen; omega)
  rw [hlen] at hv hcr
  subst hv
  have rp_ge : w.heap.size + 1 ≤ rp := by simpa using hvo rp rfl
  have rp_lt : rp < w2.heap.size := hvr.lt rfl
  have sz2 : w.heap.size + 1 ≤ w2.heap.size := by simpa using hb2.size
  have bb2 : Below w.heap.size w w2 := b1.trans (hb2.mono (by simp))
  have VR := Lib.hid hvr
  have B2 := Lib.hid bb2
  have l0' : w2.cell? ⟨x.p, 0, none⟩ = _ := (bb2.cell x_lt).trans l0
  have c1' : w2.cell? ⟨p, 1, none⟩ = _ := (bb2.cell p_lt).trans c1
  have mb : w2.heap[w.heap.size]? = some (.cells #[.int .i64 m.1, .string m.2] 61 (0, 0)) := by
    rw [hb2.block w.heap.size (by simp)]; exact heap_alloc_new w _
  have MB := Lib.hid mb
  clear hvr hvo hb2 bb2 b1 mc1 mc2 kc c1 l0 hlen mb
  have x_lt2 : x.p < w2.heap.size := by omega
  have p_lt2 : p < w2.heap.size := by omega
  have lp_lt2 : lp < w2.heap.size := by omega
  have bk_lt2 : bk < w2.heap.size := by omega
  have hw3 : ∀ W : World, W.heap = (w2.alloc (.cells #[.slice (some ⟨rp, 0, none⟩) (nx - t) cr, .slice none 0 0, .int .i64 0] 68)).heap → PRow W (.slice (some ⟨lp, 0, none⟩) nx cl) x.l := fun W hW =>
    ownsRow_of_heap R2.out fun b hb => by
      have : lp = b := by simpa [Value.ownBlock] using hb
      subst this
      rw [hW]
      exact (Below.heap_alloc w2 _ lp lp_lt2).trans (B2.out.block lp lp_lt)
  have W3 := Lib.hid hw3
  clear hw3
  have r1' : Rec w2 x.p (.slice (some ⟨lp, 0, none⟩) nx cl) (.slice none 0 0) nx := (B2.out.block x.p x_lt).trans R1.out
  have hx4 : ∀ W w4 : World, W.heap = (w2.alloc (.cells #[.slice (some ⟨rp, 0, none⟩) (nx - t) cr, .slice none 0 0, .int .i64 0] 68)).heap → W.grownBy w4 (some lp) → Rec w4 x.p (.slice (some ⟨lp, 0, none⟩) nx cl) (.slice none 0 0) nx := fun W w4 hW hg => by
    have : W.heap[x.p]? = some (.cells #[.slice (some ⟨lp, 0, none⟩) nx cl, .slice none 0 0, .int .i64 nx] 68 (0, 0)) := by rw [hW]; exact (Below.heap_alloc w2 _ x.p x_lt2).trans r1'
    exact (hg.block x.p (Array.getElem?_eq_some_iff.1 this).1 (by simpa using e3)).trans this
  have X4 := Lib.hid hx4
  clear hx4 r1'
  have xy : x.p ≠ lp := e3
  go_wp2_with fail
  go_cut [] (fun wc => Cut3 x.p lp (t - 1) cl nx (x.l.take (t - 1)) (w2.alloc (.cells #[.slice (some ⟨rp, 0, none⟩) (nx - t) cr, .slice none 0 0, .int .i64 0] 68)) wc)
  case first =>
    go_region_with (go_at_call 49; refine (deleteP_Z _ _ lp nx cl (t - 1) nx x.l _ ?_ ?_ ?_ ?_ ?_ ?_).mono ?_; (first | omega | (rw [IntKind.wrap_i64]; omega)); (first | omega | (rw [IntKind.wrap_i64]; omega)); omega; omega; omega; exact W3.out _ rfl; rintro e w4 ⟨rfl, hd, hg4⟩; have r4 := X4.out _ _ (by rfl) hg4; have q1 := r4.c0; have q2 := r4.fr 0)
    all_goals
      have FIN := Lib.hid (cut3 (n := t - 1) (W2 := w2.alloc (.cells #[.slice (some ⟨rp, 0, none⟩) (nx - t) cr, .slice none 0 0, .int .i64 0] 68)) xy NX.out hd ⟨hg4.os, hg4.tape, hg4.output, hg4.size, hg4.block⟩ r4)
      clear hd hg4 r4 q1 q2
      go_wp2_with fail
      go_meet
      case rel => exact FIN.out
  case rest =>
    obtain ⟨T1, y1, y2⟩ := hcut
    have RR : Rec wc w2.heap.size (.slice (some ⟨rp, 0, none⟩) (nx - t) cr) (.slice none 0 0) 0 := by
      have h1 := heap_alloc_new w2 (.cells #[.slice (some ⟨rp, 0, none⟩) (nx - t) cr, .slice none 0 0, .int .i64 0] 68)
      exact (T1.block w2.heap.size (by simp) (by simp; omega)).trans h1
    have x1 := y1.c1
    have Y1 := Lib.hid y1
    have Y2 := Lib.hid y2
    have YR := Lib.hid RR
    have TT := Lib.hid T1
    clear y1 y2 RR T1
    go_wp2_with fail
    refine (leaf_yes x.p 0 none _ x1).mono ?_
    rintro e w' ⟨rfl, rfl⟩
    go_wp2_with fail
    refine (recount_leaf x.p nx (t - 1) cl (some ⟨lp, 0, none⟩) _ Y1.out (by omega)).mono ?_
    rintro e w5 ⟨rfl, z1, z2⟩
    have bk1 : x.p ≠ w2.heap.size := by omega
    have rr5 : Rec w5 w2.heap.size (.slice (some ⟨rp, 0, none⟩) (nx - t) cr) (.slice none 0 0) 0 := YR.out.touch z2 (by simp; omega)
    have Z1 := Lib.hid z1
    have Z2 := Lib.hid z2
    have R5 := Lib.hid rr5
    clear z1 z2 rr5
    go_wp2_with fail
    refine (recount_leaf w2.heap.size 0 (nx - t) cr (some ⟨rp, 0, none⟩) _ R5.out (by omega)).mono ?_
    rintro e w6 ⟨rfl, z3, z4⟩
    have Z3 := Lib.hid z3
    have Z4 := Lib.hid z4
    have t26 : Touch [x.p, lp] w2 w6 := ((((Touch.refl [x.p, lp] w2).alloc _).trans TT.out (by simp)).trans Z2.out (by simp)).trans z4 (fun b hb => by simp at hb; subst hb; exact .inr (Nat.le_refl _))
    have T26 := Lib.hid t26
    have HALF := Lib.hid (halves_leaf ht EL.out ELEN.out NX.out hxn2 rfl FX.out e3 x_lt lp_lt B2.out rp_ge rp_lt VR.out t26 Y2.out Z1.out Z2.out z3 Z4.out)
    have pr6 : Rec w6 p vp (.slice (some ⟨bk, 0, none⟩) nk ck) sz := Rec.touch ((B2.out.block p p_lt).trans HR.out) t26 (by simp; exact ⟨fun e => e1.1 e.symm, fun e => e2.1 e.symm⟩)
    have pp6 : PRow w6 vp (P1 ++ P2) := (HP.out.touch (Touch.of_below B2.out []) (by simp)).touch t26 (fun b hb hm => by
      simp at hm
      rcases hm with rfl | rfl
      · exact e1.2.2 hb
      · exact e2.2.2 hb)
    have mb6 : w6.heap[w.heap.size]? = some (.cells #[.int .i64 m.1, .string m.2] 61 (0, 0)) := (t26.block w.heap.size (by omega) (by simp; omega)).trans MB.out
    have s6 : w2.heap.size ≤ w6.heap.size := t26.size
    have PR6 := Lib.hid pr6
    have PP6 := Lib.hid pp6
    have n0 := pr6.c0
    have m0 := cell_of_row w6 w.heap.size 0 _ _ _ mb6
    have m1 := cell_of_row w6 w.heap.size 1 _ _ _ mb6
    simp only [List.getElem?_toArray, List.getElem?_cons_zero, List.getElem?_cons_succ] at m0 m1
    have hnp : P1.length ≤ (P1 ++ P2).length := by simp
    have hvb : vp.ownBlock ≠ some w6.heap.size := fun e => by have := pp6.lt e; omega
    have HVB := Lib.hid hvb
    have plt6 : p < w6.heap.size := by omega
    have HI : Hid (∀ W : World, W.heap = (w6.alloc (.cells #[.int .i64 m.1, .string m.2] 61)).heap → PRow W vp (P1 ++ P2) ∧ W.heap[w6.heap.size]? = some (.cells #[.int .i64 m.1, .string m.2] 61 (0, 0)) ∧ Rec W p vp (.slice (some ⟨bk, 0, none⟩) nk ck) sz) := Lib.hid (fun W hW => by
      have hb := (Below.refl w6.heap.size w6).alloc (Nat.le_refl _) (.cells #[.int .i64 m.1, .string m.2] 61)
      refine ⟨ownsRow_of_heap pp6 fun b hb2 => by rw [hW]; exact hb.block b (pp6.lt hb2), by rw [hW]; exact heap_alloc_new w6 _, ?_⟩
      show W.heap[p]? = _
      rw [hW]; exact (hb.block _ plt6).trans pr6)
    have HR4 : Hid (∀ W w4 : World, W.heap = (w6.alloc (.cells #[.int .i64 m.1, .string m.2] 61)).heap → W.grownBy w4 vp.ownBlock → Rec w4 p vp (.slice (some ⟨bk, 0, none⟩) nk ck) sz) := Lib.hid (fun W w4 hW hg =>
      (hg.block p (by rw [hW]; simp; omega) (fun e => hd3 e.symm)).trans (HI.out W hW).2.2)
    clear z3 z4 t26 pr6 pp6 mb6 hvb
    go_wp2_with fail
    go_cut [] (fun wc9 => Cut9 p i sz (.slice (some ⟨bk, 0, none⟩) nk ck) vp P1 P2 m w6 wc9)
    case first =>
      go_region_with (go_at_call 47; refine (insertP_Z _ vp i (P1 ++ P2).length _ (P1 ++ P2) m _ rfl rfl (by rw [← H2.out]; exact hnp) hpl ?_ ?_ HVB.out).mono ?_; exact (HI.out _ rfl).1; exact (HI.out _ rfl).2.1; rintro e w4 ⟨g', c', rfl, h4, g4, o4⟩; have r4 := HR4.out _ _ (by rfl) g4; have q1 := r4.c0; have q2 := r4.fr 0)
      all_goals
        have FIN := Lib.hid (cut9 H2.out hd3 plt6 h4 g4 o4 r4)
        clear h4 g4 o4 r4 q1 q2
        go_wp2_with fail
        go_meet
        case rel => exact FIN.out
    case rest =>
      obtain ⟨g9, c9, s1, s2, s3, s4⟩ := hcut
      have S1 := Lib.hid s1
      have S2 := Lib.hid s2
      have S4 := Lib.hid s4
      have c9' := s1.c1
      have f9' := s1.fr 1
      have kr9 : KRow wc (.slice (some ⟨bk, 0, none⟩) nk ck) (K1 ++ x :: K2) := KRow.touch (KRow.touch (KRow.touch HK.out (Touch.of_below B2.out []) (by simp)) T26.out (fun b hb hm => by
          have hb2 : bk = b := by simpa [Value.ownBlock] using hb
          subst hb2
          simp at hm
          rcases hm with h | h
          · exact e1.2.1 h.symm
          · exact e2.2.1 h.symm)) s4 (fun b hb hm => by
          have hb2 : bk = b := by simpa [Value.ownBlock] using hb
          subst hb2
          rcases List.mem_cons.1 hm with h | h
          · exact hd2 h.symm
          · exact hd4 (by simpa using h))
      have KR9 := Lib.hid kr9
      have hi1 : i ≤ 1000000 := by omega
      have nkl : (K1 ++ x :: K2).length = nk := by
        rcases kr9.cases with ⟨h, _⟩ | ⟨g, cap, cur, h, _⟩
        · cases h
        · simp only [Value.slice.injEq] at h; exact h.2.1.symm
      have NKL := Lib.hid nkl
      have bklt : bk < wc.heap.size := (World.ownsRow.lt kr9 bk rfl).2
      have plt9 : p < wc.heap.size := (Array.getElem?_eq_some_iff.1 s1).1
      clear s1 s2 s4 kr9 nkl
      go_wp2_with fail
      refine (insertK_Z _ (.slice (some ⟨bk, 0, none⟩) nk ck) (i + 1) nk _ (K1 ++ x :: K2) ⟨w2.heap.size, [], [], 0⟩ _ (by omega) NKL.out (by omega) hkn (KR9.out.touch ((Touch.refl [] wc).alloc _) (by simp)) (heap_alloc_new wc _) (fun e => by simp [Value.ownBlock] at e; omega)).mono ?_
      rintro e w10 ⟨g10, c10, rfl, v1, v2, v3⟩
      have r10 : Rec w10 p (.slice (some ⟨g9, 0, none⟩) (P1.length + P2.length + 1) c9) (.slice (some ⟨bk, 0, none⟩) nk ck) sz := (v2.block p (by simp; omega) (fun e => hd2 (by simpa [Value.ownBlock] using e))).trans ((Below.heap_alloc wc _ p plt9).trans S1.out)
      have q1 := r10.c1
      have q2 := r10.fr 1
      have V1 := Lib.hid v1
      have V2 := Lib.hid v2
      have V3 := Lib.hid v3
      have R10 := Lib.hid r10
      clear v1 v2 v3 r10
      go_wp2_with fail
      go_end0
      refine ⟨rfl, _, _, _, _, _, split_done HALF.out H1.out p_lt bk_lt VPL.out HD.out hd2 hd3 hd4 rfl S2.out s3 S4.out V1.out ?_ ?_ R10.out⟩
      · exact ((Touch.refl [bk] wc).alloc _).grown V2.out (fun b hb => .inl (by simpa [Value.ownBlock] using hb.symm))
      · rcases V3.out with h | h
        · exact .inl (by simpa [Value.ownBlock] using h)
        · exact .inr (by simp at h; omega)
end Go.Proofs.Ytcboakmfabdeoaa
