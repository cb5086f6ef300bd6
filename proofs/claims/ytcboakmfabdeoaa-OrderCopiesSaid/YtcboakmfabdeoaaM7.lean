import Derived.Test.YtcboakmfabdeoaaWd
import Derived.Test.YtcboakmfabdeoaaX2
import Derived.Maps.AppendAt
import Derived.Lib.SliceRun
import Derived.Deep.RegionLaw

/- clone. -/
namespace Go.Proofs.Ytcboakmfabdeoaa
open Go.RowKit

theorem clone_nil (w : World) : Calls Try.prog 27 #[.pointer none] w fun e w' => e = .returned (.pointer none) ∧ w = w' := by
  go_enter Try.func27, Try.ntmps27
  go_wp2
  go_ret
  exact ⟨rfl, rfl⟩

/-- Clone of a node's pairs. -/
theorem clone_row (vp : Value) (l : List Pr) (w : World) (h : PRow w vp l) (hn : l.length ≤ 1000000) :
    Calls Try.prog 42 #[vp] w fun e w' => ∃ a n c, e = .returned (.slice a n c) ∧ PRow w' (.slice a n c) l ∧ Below w.heap.size w w' ∧ ∀ b, (Value.slice a n c).ownBlock = some b → w.heap.size ≤ b := by
  rcases h.cases with ⟨rfl, rfl⟩ | ⟨g, cap, cur, rfl, _⟩
  · refine (cloneP_nil w).mono ?_
    rintro e w' ⟨rfl, rfl⟩
    exact ⟨none, 0, 0, rfl, h, Below.refl _ _, fun b hb => by cases hb⟩
  · refine (cloneP_any ⟨g, 0, none⟩ l.length cap l w rfl hn (fun j u hj => World.ownsRow.cells h (g := g) rfl j u hj)).mono ?_
    rintro e w' ⟨v', rfl, h1, h2, h3⟩
    rcases h1.cases with ⟨rfl, _⟩ | ⟨g', cap', cur', rfl, _⟩
    · exact ⟨_, _, _, rfl, h1, h2, h3⟩
    · exact ⟨_, _, _, rfl, h1, h2, h3⟩

def ClonePost (t h : Nat) (x : Kid) (w : World) (e : Ending) (w' : World) : Prop :=
  ∃ y : Kid, e = .returned (.pointer (some ⟨y.p, 0, none⟩)) ∧ IsT t w' h y ∧ y.l = x.l ∧ y.c = x.c ∧ y.fp.Nodup ∧ (∀ b ∈ y.fp, w.heap.size ≤ b) ∧ Below w.heap.size w w'

/-- The new node, ahead of its kids. -/
def Begun (n : Nat) (ps : List Pr) (w : World) (s : Value) (wc : World) : Prop :=
  ∃ P a m c, s = .pointer (some ⟨P, 0, none⟩) ∧ w.heap.size ≤ P ∧ Rec wc P (.slice a m c) (.slice none 0 0) n ∧ PRow wc (.slice a m c) ps ∧ (∀ b, (Value.slice a m c).ownBlock = some b → w.heap.size ≤ b ∧ b ≠ P) ∧ Below w.heap.size w wc

theorem begun {n : Nat} {ps : List Pr} {w w1 : World} {a : Option Addr} {m c : Nat} (g1 : PRow w1 (.slice a m c) ps) (g2 : Below w.heap.size w w1) (g3 : ∀ b, (Value.slice a m c).ownBlock = some b → w.heap.size ≤ b) :
    Begun n ps w (.pointer (some ⟨w1.heap.size, 0, none⟩)) (w1.alloc (.cells #[.slice a m c, .slice none 0 0, .int .i64 n] 68)) := by
  refine ⟨w1.heap.size, a, m, c, rfl, g2.size, heap_alloc_new w1 _, g1.touch ((Touch.refl [] w1).alloc _) (by simp), fun b hb => ⟨g3 b hb, ?_⟩, g2.alloc g2.size _⟩
  have := g1.lt hb
  omega

set_option maxHeartbeats 1000000 in
set_option maxRecDepth 100000 in
theorem clone_leaf (t : Nat) (x : Kid) (w : World) (hx : IsT t w 0 x) (hn : x.l.length ≤ 1000000) : Calls Try.prog 27 #[.pointer (some ⟨x.p, 0, none⟩)] w fun e w' => ClonePost t 0 x w e w' := by
  obtain ⟨vp, r1, r2, r3, r4⟩ := hx
  have c0 := r1.c0
  have c2 := r1.c2
  have R2 := Lib.hid r2
  have R1 := Lib.hid r1
  have R4 := Lib.hid r4
  clear r1 r2 r3 r4
  go_enter Try.func27, Try.ntmps27
  go_upto_region 3 with fail
  have xlt : x.p < w.heap.size := World.block_lt_of_cell? w _ c2
  have PF : Hid (∀ W : World, W.heap = w.heap → PRow W vp x.l) := Lib.hid (fun W hW => ownsRow_of_heap R2.out (fun b _ => by rw [hW]))
  go_cut [3] (fun s3 wc => Begun x.l.length x.l w s3 wc)
  case first =>
    go_region_with (go_at_call 42; refine (clone_row vp x.l _ ?_ hn).mono ?_; exact PF.out _ rfl; rintro e w1 ⟨a', n', c', rfl, g1, g2, g3⟩; have q2 : w1.cell? ⟨x.p, 2, none⟩ = some (.int .i64 x.l.length) := (g2.cell (p := ⟨x.p, 2, none⟩) xlt).trans c2)
    all_goals
      have FIN := Lib.hid (begun (n := x.l.length) (w := w) g1 ⟨g2.os, g2.tape, g2.output, g2.size, g2.block⟩ g3)
      clear g1 g2 g3
      go_wp2_with fail
      go_meet
      case rel => exact FIN.out
  case rest =>
    obtain ⟨P, a, m, c, rfl, h1, h2, h3, h4, h5⟩ := hcut
    have x1 : wc.cell? ⟨x.p, 1, none⟩ = some (.slice none 0 0) := (h5.cell (p := ⟨x.p, 1, none⟩) xlt).trans R1.out.c1
    have FIN : Hid (ClonePost t 0 x w (.returned (.pointer (some ⟨P, 0, none⟩))) wc) := Lib.hid
      ⟨⟨P, x.l, P :: (Value.slice a m c).ownBlock.toList, x.l.length⟩, rfl, ⟨.slice a m c, h2, h3, rfl, rfl⟩, rfl, R4.out.symm,
        List.nodup_cons.2 ⟨fun hm => (h4 P (by simpa using hm)).2 rfl, by cases (Value.slice a m c).ownBlock <;> simp⟩, fun b hb => by rcases List.mem_cons.1 hb with rfl | hb; exact h1; exact (h4 b (by simpa using hb)).1, h5⟩
    clear h1 h2 h3 h4 h5
    go_wp2
    go_loopw [24] (fun s24 wr => s24 = .int .i64 0 ∧ wr = wc) (fun _ _ => 0)
    case atStart => exact ⟨rfl, rfl⟩
    case round =>
      obtain ⟨rfl, rfl⟩ := hrel
      go_wp2
      go_ret
      exact FIN.out
end Go.Proofs.Ytcboakmfabdeoaa

/- clone at any height: the step. -/
namespace Go.Proofs.Ytcboakmfabdeoaa
open Go.RowKit

theorem fp_make {p : Nat} {vp vk : Value} {ks : List Kid} (h1 : ∀ b, vp.ownBlock = some b → b ≠ p ∧ vk.ownBlock ≠ some b ∧ b ∉ fpAll ks) (h2 : ∀ b, vk.ownBlock = some b → b ≠ p ∧ b ∉ fpAll ks) (h3 : p ∉ fpAll ks) (h4 : (fpAll ks).Nodup) :
    (p :: (rows vp vk ++ fpAll ks)).Nodup := by
  unfold rows
  rw [List.nodup_cons, List.nodup_append, List.nodup_append]
  refine ⟨?_, ⟨?_, ?_, ?_⟩, h4, ?_⟩
  · intro hm
    rcases List.mem_append.1 hm with hm | hm
    · rcases List.mem_append.1 hm with hm | hm
      · exact (h1 p (by simpa using hm)).1 rfl
      · exact (h2 p (by simpa using hm)).1 rfl
    · exact h3 hm
  · cases vp.ownBlock <;> simp
  · cases vk.ownBlock <;> simp
  · rintro a ha b hb rfl
    exact (h1 a (by simpa using ha)).2.1 (by simpa using hb)
  · rintro a ha b hb rfl
    rcases List.mem_append.1 ha with ha | ha
    · exact (h1 a (by simpa using ha)).2.2 hb
    · exact (h2 a (by simpa using ha)).2 hb

/-- So many kids are cloned. -/
def Grew (t h n : Nat) (ps : List Pr) (ks : List Kid) (w : World) (P : Nat) (vp : Value) (j : Nat) (wr : World) (vk : Value) : Prop :=
  ∃ ys : List Kid, ys.length = j ∧ Rec wr P vp vk n ∧ PRow wr vp ps ∧ KRow wr vk ys ∧ ys.map Kid.l = (ks.take j).map Kid.l ∧ (∀ y ∈ ys, IsT t wr h y ∧ t - 1 ≤ y.c) ∧
    (P :: (rows vp vk ++ fpAll ys)).Nodup ∧ (∀ b ∈ P :: (rows vp vk ++ fpAll ys), w.heap.size ≤ b) ∧ Below w.heap.size w wr

theorem fpAll_snoc (ys : List Kid) (y : Kid) : fpAll (ys ++ [y]) = fpAll ys ++ y.fp := by simp [fpAll]
theorem ptrs_snoc (ys : List Kid) (y : Kid) : ptrs (ys ++ [y]) = ptrs ys ++ [.pointer (some ⟨y.p, 0, none⟩)] := by simp [ptrs]

theorem Grew.step {t h n : Nat} {ps : List Pr} {ks : List Kid} {w : World} {P : Nat} {vp : Value} {j : Nat} {wr : World} {vk : Value} (hg : Grew t h n ps ks w P vp j wr vk)
    {ys : List Kid} (e0 : ys.length = j) (e1 : Rec wr P vp vk n) (e2 : PRow wr vp ps) (e3 : KRow wr vk ys) (e4 : ys.map Kid.l = (ks.take j).map Kid.l) (e5 : ∀ y ∈ ys, IsT t wr h y ∧ t - 1 ≤ y.c)
    (e6 : (P :: (rows vp vk ++ fpAll ys)).Nodup) (e7 : ∀ b ∈ P :: (rows vp vk ++ fpAll ys), w.heap.size ≤ b) (e8 : Below w.heap.size w wr)
    {u y : Kid} (hu : ks[j]? = some u) {w1 w2 : World} (hy : IsT t w1 h y) (hyl : y.l = u.l) (hyc : t - 1 ≤ y.c) (hyn : y.fp.Nodup) (hyf : ∀ b ∈ y.fp, wr.heap.size ≤ b) (hyb : Below wr.heap.size wr w1) {o : Obj} {v' : Value}
    (a1 : w2.ownsRow 0 52 1 v' (j + 1) (ptrs ys ++ ptrs [y])) (a2 : (w1.alloc o).grownBy w2 vk.ownBlock) (a3 : OwnNew (w1.alloc o) vk v') :
    Grew t h n ps ks w P vp (j + 1) (w2.setCell ⟨P, 1, none⟩ v') v' := by
  obtain ⟨n1, n2, n3, n4⟩ := fp_parts e6
  have hP : P < wr.heap.size := (Array.getElem?_eq_some_iff.1 e1).1
  have hPk : vk.ownBlock ≠ some P := fun e => (n2 P e).1 rfl
  have hkl : ∀ b, vk.ownBlock = some b → b < wr.heap.size := fun b hb => (World.ownsRow.lt e3 b hb).2
  have hsz : wr.heap.size ≤ (w1.alloc o).heap.size := by have := hyb.size; simp; omega
  have T2 : Touch vk.ownBlock.toList wr w2 := ((Touch.of_below hyb vk.ownBlock.toList).alloc o).grown a2 (fun k hk => .inl (by simp [hk]))
  have T3 : Touch (P :: vk.ownBlock.toList) wr (w2.setCell ⟨P, 1, none⟩ v') := (T2.mono (G := P :: vk.ownBlock.toList) (fun b hb => .inl (List.mem_cons_of_mem _ hb))).setCell (.inl (by simp)) _
  have f1 : w2.heap[P]? = some (.cells #[vp, vk, .int .i64 n] 68 (0, 0)) := (T2.block P hP (by simpa using hPk)).trans e1
  have hvP : ∀ b, v'.ownBlock = some b → b ≠ P ∧ b ∉ fpAll ys ∧ b ∉ y.fp ∧ vp.ownBlock ≠ some b ∧ w.heap.size ≤ b := by
    intro b hb
    have hw := e8.size
    rcases a3 b hb with hb2 | hb2
    · have hlt := hkl b hb2
      exact ⟨(n2 b hb2).1, (n2 b hb2).2, fun hm => by have := hyf b hm; omega, fun hv => (n1 b hv).2.1 hb2, e7 b (by simp [mem_rows, hb2])⟩
    · have hpl : ∀ b', vp.ownBlock = some b' → b' < wr.heap.size := fun b' hb' => e2.lt hb'
      have hyl2 : ∀ b' ∈ y.fp, b' < w1.heap.size := hy.lt
      refine ⟨by omega, fun hm => ?_, fun hm => ?_, fun hv => ?_, by omega⟩
      · obtain ⟨z, hz, hbz⟩ := mem_fpAll.1 hm
        have := (e5 z hz).1.lt b hbz
        omega
      · have h1 := hyl2 b hm
        have : (w1.alloc o).heap.size = w1.heap.size + 1 := by simp
        omega
      · have := hpl b hv
        omega
  have hpv : ∀ b, vp.ownBlock = some b → b < wr.heap.size := fun b hb => e2.lt hb
  have hysl : ∀ b ∈ fpAll ys, b < wr.heap.size := fun b hm => by
    obtain ⟨z, hz, hbz⟩ := mem_fpAll.1 hm
    exact (e5 z hz).1.lt b hbz
  refine ⟨ys ++ [y], by simp [e0], heap_setCell_same w2 P 1 _ _ _ f1, ?_, ?_, ?_, ?_, ?_, ?_, ?_⟩
  · exact e2.touch T3 (fun b hb hm => by
      rcases List.mem_cons.1 hm with rfl | hm
      · exact (n1 b hb).1 rfl
      · exact (n1 b hb).2.1 (by simpa using hm))
  · have a1' : KRow w2 v' (ys ++ [y]) := by
      unfold KRow
      rw [ptrs_snoc, show (ys ++ [y]).length = j + 1 by simp [e0]]
      simpa [ptrs] using a1
    exact ownsRow_of_heap a1' (fun b hb => heap_setCell_other w2 _ b _ (fun e => (hvP b hb).1 e))
  · have hjl := (List.getElem?_eq_some_iff.1 hu)
    obtain ⟨hjl, hju⟩ := hjl
    rw [List.take_succ_eq_append_getElem hjl, List.map_append, List.map_append, e4, hju, List.map_singleton, List.map_singleton, hyl]
  · intro z hz
    rcases List.mem_append.1 hz with hz | hz
    · refine ⟨(e5 z hz).1.touch T3 (fun b hb hm => ?_), (e5 z hz).2⟩
      rcases List.mem_cons.1 hm with rfl | hm
      · exact n3 (mem_fpAll.2 ⟨z, hz, hb⟩)
      · exact (n2 b (by simpa using hm)).2 (mem_fpAll.2 ⟨z, hz, hb⟩)
    · obtain rfl : z = y := by simpa using hz
      refine ⟨?_, hyc⟩
      have T1 : Touch (P :: vk.ownBlock.toList) w1 (w2.setCell ⟨P, 1, none⟩ v') := ((((Touch.refl (P :: vk.ownBlock.toList) w1).alloc o).grown a2 (fun k hk => .inl (by simp [hk]))).setCell (.inl (by simp)) _)
      refine hy.touch T1 (fun b hb hm => ?_)
      have hb2 := hyf b hb
      rcases List.mem_cons.1 hm with rfl | hm
      · omega
      · have := hkl b (by simpa using hm)
        omega
  · refine fp_make (fun b hb => ⟨(n1 b hb).1, fun e => (hvP b e).2.2.2.1 hb, ?_⟩) (fun b hb => ⟨(hvP b hb).1, ?_⟩) ?_ ?_
    · rw [fpAll_snoc]; intro hm
      rcases List.mem_append.1 hm with hm | hm
      · exact (n1 b hb).2.2 hm
      · have h1 := hyf b hm; have h2 := hpv b hb; omega
    · rw [fpAll_snoc]; intro hm
      rcases List.mem_append.1 hm with hm | hm
      · exact (hvP b hb).2.1 hm
      · exact (hvP b hb).2.2.1 hm
    · rw [fpAll_snoc]; intro hm
      rcases List.mem_append.1 hm with hm | hm
      · exact n3 hm
      · have := hyf P hm; omega
    · rw [fpAll_snoc, List.nodup_append]
      refine ⟨n4, hyn, ?_⟩
      rintro a ha b hb rfl
      have h1 := hysl a ha
      have h2 := hyf a hb
      omega
  · intro b hb
    have hw := e8.size
    rcases List.mem_cons.1 hb with rfl | hb
    · exact e7 b (by simp)
    · rcases List.mem_append.1 hb with hb | hb
      · rcases mem_rows.1 hb with hb | hb
        · exact e7 b (by simp [mem_rows, hb])
        · exact (hvP b hb).2.2.2.2
      · rw [fpAll_snoc] at hb
        rcases List.mem_append.1 hb with hb | hb
        · exact e7 b (by simp [hb])
        · have := hyf b hb; omega
  · have hw : Touch [] w wr := Touch.of_below e8 []
    refine (hw.trans T3 (fun b hb => .inr ?_)).below
    rcases List.mem_cons.1 hb with rfl | hb
    · exact e7 b (by simp)
    · have hb2 : vk.ownBlock = some b := by simpa using hb
      exact e7 b (by simp [mem_rows, hb2])
end Go.Proofs.Ytcboakmfabdeoaa

/- clone at any height; Copy. -/
namespace Go.Proofs.Ytcboakmfabdeoaa
open Go.RowKit

/-- a call, as one step of a region that draws. -/
theorem step_call_any {P : Program} {ops : Array Oper} {o : Oper} {a : Act} {w : World} {K : Act → World → Prop} {Q : Exit → Act → World → Prop} {E : Prop}
    (hg : o.guard = none) (f : FuncId) (args : Array Value) (hrun : (execOp a.eval o).run P w = .ok (.enter f args) w) {R : Ending → World → Prop} (hc : Calls P f args w R) (hK : ∀ e w', R e w' → ∃ v, e = .returned v ∧ K (a.put o.dst v) w') :
    if Region.wanted o (yielded ops a.tmps) = true then Oper.wp P o a w K Q else E := by
  have hw : Region.wanted o (yielded ops a.tmps) = true := by simp [Region.wanted, hg]
  rw [if_pos hw]
  unfold Oper.wp
  rw [hrun, Oper.upon_enter]
  refine hc.mono fun e w' hh => ?_
  obtain ⟨v, rfl, hk⟩ := hK e w' hh
  exact hk

set_option maxHeartbeats 1000000 in
set_option maxRecDepth 100000 in
theorem clone_any (t : Nat) : ∀ (h : Nat) (x : Kid) (w : World), IsT t w h x → x.l.length ≤ 1000000 → Calls Try.prog 27 #[.pointer (some ⟨x.p, 0, none⟩)] w fun e w' => ClonePost t h x w e w'
  | 0, x, w, hx, hn => clone_leaf t x w hx hn
  | h + 1, x, w, hx, hn => by
    have IH := Lib.hid (clone_any t h)
    obtain ⟨vp, vk, ps, ks, r1, r2, r3, r4, r5, r6, r7, r8⟩ := hx
    obtain ⟨gk, ck, rfl, hck⟩ := r3.own (by intro e; rw [e] at r4; simp at r4)
    have hpl : ps.length ≤ x.l.length := by
      have hsub : ps.Sublist x.l := by
        cases ks with
        | nil => simp at r4
        | cons a r => rw [r5]; simpa using join_sub a.l (r.map Kid.l) ps (by simp at r4 ⊢; omega)
      exact hsub.length_le
    have hkl : ∀ (j : Nat) (u : Kid), ks[j]? = some u → u.l.length ≤ 1000000 := by
      intro j u hu
      obtain ⟨hjl, _⟩ := List.getElem?_eq_some_iff.1 hu
      obtain ⟨z', hz', e⟩ := kid_split r4 j hjl
      obtain rfl : z' = u := by rw [hz'] at hu; exact Option.some.inj hu
      have hl := congrArg List.length e
      rw [← r5] at hl
      simp only [List.length_append] at hl
      omega
    have c0 := r1.c0
    have c2 := r1.c2
    have R1 := Lib.hid r1
    have R2 := Lib.hid r2
    have R3 := Lib.hid r3
    have R4 := Lib.hid r4
    have R5 := Lib.hid r5
    have R7 := Lib.hid r7
    have R8 := Lib.hid r8
    have HK := Lib.hid hkl
    have hps : ps.length ≤ 1000000 := by omega
    have hkb : ks.length ≤ 1000001 := by omega
    clear r1 r2 r3 r4 r5 r6 r7 r8 hkl
    go_enter Try.func27, Try.ntmps27
    go_upto_region 3 with fail
    have xlt : x.p < w.heap.size := World.block_lt_of_cell? w _ c2
    have PF : Hid (∀ W : World, W.heap = w.heap → PRow W vp ps) := Lib.hid (fun W hW => ownsRow_of_heap R2.out (fun b _ => by rw [hW]))
    go_cut [3] (fun s3 wc => Begun x.l.length ps w s3 wc)
    case first =>
      go_region_with (go_at_call 42; refine (clone_row vp ps _ ?_ hps).mono ?_; exact PF.out _ rfl; rintro e w1 ⟨a', n', c', rfl, g1, g2, g3⟩; have q2 : w1.cell? ⟨x.p, 2, none⟩ = some (.int .i64 x.l.length) := (g2.cell (p := ⟨x.p, 2, none⟩) xlt).trans c2)
      all_goals
        have FIN := Lib.hid (begun (n := x.l.length) (w := w) g1 ⟨g2.os, g2.tape, g2.output, g2.size, g2.block⟩ g3)
        clear g1 g2 g3
        go_wp2_with fail
        go_meet
        case rel => exact FIN.out
    case rest =>
      obtain ⟨P, a, m, c, rfl, h1, h2, h3, h4, h5⟩ := hcut
      have x1 : wc.cell? ⟨x.p, 1, none⟩ = some (.slice (some ⟨gk, 0, none⟩) ks.length ck) := (h5.cell (p := ⟨x.p, 1, none⟩) xlt).trans R1.out.c1
      have G0 : Hid (Grew t h x.l.length ps ks w P (.slice a m c) 0 wc (.slice none 0 0)) := Lib.hid
        ⟨[], rfl, h2, h3, World.ownsRow_nil _ _ _ _, by simp, by simp, fp_make (fun b hb => ⟨(h4 b hb).2, by simp [Value.ownBlock], by simp [fpAll]⟩) (fun b hb => by cases hb) (by simp [fpAll]) (by simp [fpAll]),
          fun b hb => by rcases List.mem_cons.1 hb with rfl | hb; exact h1; exact (h4 b (by simpa [rows, fpAll, Value.ownBlock] using hb)).1, h5⟩
      clear h1 h2 h3 h4 h5
      go_wp2_with fail
      go_loopw [24] (fun s24 wr => ∃ (j : Nat) (ak : Option Addr) (ck' : Nat), s24 = .int .i64 j ∧ j ≤ ks.length ∧ Hid (Grew t h x.l.length ps ks w P (.slice a m c) j wr (.slice ak j ck'))) (fun s24 _ => ks.length - (intOf s24).toNat)
      case atStart => exact ⟨0, none, 0, rfl, Nat.zero_le _, G0⟩
      case round =>
        clear G0 x1
        obtain ⟨j, ak, ck', rfl, hj, HG⟩ := hrel
        obtain ⟨ys, e0, e1, e2, e3, e4, e5, e6, e7, e8⟩ := HG.out
        by_cases hlt : j < ks.length
        · have hlt' : (j : Int) < (ks.length : Int) := by omega
          obtain ⟨u, hu⟩ : ∃ u, ks[j]? = some u := ⟨ks[j], List.getElem?_eq_getElem hlt⟩
          have hum := List.mem_of_getElem? hu
          have kc : wr.cell? ⟨gk, j, none⟩ = some (.pointer (some ⟨u.p, 0, none⟩)) := by
            have h1 := R3.out.cell j u hu
            exact (e8.cell (p := ⟨gk, j, none⟩) (World.block_lt_of_cell? w _ h1)).trans h1
          have call := IH.out u wr.drew ((R8.out u hum).1.frame (fun b hb => e8.block b ((R8.out u hum).1.lt b hb))) (HK.out j u hu)
          have p1 := e1.c1
          have plt : P < wr.heap.size := (Array.getElem?_eq_some_iff.1 e1).1
          obtain ⟨i0, hi0, hz0, hzs, hzb⟩ := info_parts Try.info52
          have hPk : (Value.slice ak j ck').ownBlock ≠ some P := fun e => ((fp_parts e6).2.1 P e).1 rfl
          have yl : ys.length = j := e0
          have call2 : Calls Try.prog 27 #[.pointer (some ⟨u.p, 0, none⟩)] wr.drew fun e w1 => ∃ (y : Kid) (g' cap' : Nat) (w2 : World), e = .returned (.pointer (some ⟨y.p, 0, none⟩)) ∧ w1.cell? ⟨P, 1, none⟩ = some (.slice ak j ck') ∧
              (Builtin.append_ #[66, 66] 66 #[.slice ak j ck', .slice (some ⟨w1.heap.size, 0, none⟩) 1 1]).run Try.prog (w1.alloc (.cells #[.pointer (some ⟨y.p, 0, none⟩)] 52)) = .ok (.slice (some ⟨g', 0, none⟩) (j + 1) cap') w2 ∧
              w2.cell? ⟨P, 1, none⟩ = some (.slice ak j ck') ∧ w2.frozen? ⟨P, 1, none⟩ = false ∧
              Hid (Grew t h x.l.length ps ks w P (.slice a m c) (j + 1) (w2.setCell ⟨P, 1, none⟩ (.slice (some ⟨g', 0, none⟩) (j + 1) cap')) (.slice (some ⟨g', 0, none⟩) (j + 1) cap')) := by
            refine call.mono ?_
            rintro e w1 ⟨y, rfl, y1, y2, y3, y4, y5, y6⟩
            have yb : Below wr.heap.size wr w1 := ⟨y6.os, y6.tape, y6.output, y6.size, y6.block⟩
            have e3' : KRow (w1.alloc (.cells #[.pointer (some ⟨y.p, 0, none⟩)] 52)) (.slice ak j ck') ys := e3.touch ((Touch.of_below yb []).alloc _) (by simp)
            have hr : (w1.alloc (.cells #[.pointer (some ⟨y.p, 0, none⟩)] 52)).ownsRow 0 52 1 (.slice ak j ck') j (ptrs ys) := by rw [← yl]; rw [← yl] at e3'; exact e3'
            have hnews : ∀ i v, (ptrs [y])[i]? = some v → (w1.alloc (.cells #[.pointer (some ⟨y.p, 0, none⟩)] 52)).cell? ((⟨w1.heap.size, 0, none⟩ : Addr).add i) = some v := cell_one_new w1 _ 52
            obtain ⟨v', w2, a1, a2, a3, a4⟩ := append_own2 (P := Try.prog) (w1.alloc (.cells #[.pointer (some ⟨y.p, 0, none⟩)] 52)) 66 66 52 i0 (.pointer none) 1 8 Try.underlying66 hi0 hz0 hzs hzb rfl (by decide) (.slice ak j ck') j (ptrs ys) hr ⟨w1.heap.size, 0, none⟩ 1 1 (ptrs [y]) rfl hnews (ptrs_one _) (by omega) (by omega) (by
              intro g k cp e
              rcases hr.2 with ⟨h, _⟩ | ⟨g', cap', cur, h, _, _, h3, _⟩
              · rw [h] at e; cases e
              · rw [h] at e; simp only [Value.slice.injEq] at e; omega)
            obtain ⟨g', cap', rfl⟩ : ∃ g cap, v' = .slice (some ⟨g, 0, none⟩) (j + 1) cap := by
              rcases a2.2 with ⟨_, h0⟩ | ⟨g, cap, _, h, _⟩
              · omega
              · exact ⟨g, cap, h⟩
            have hyc := (R8.out u hum).2
            have p2 : w2.heap[P]? = some (.cells #[.slice a m c, .slice ak j ck', .int .i64 x.l.length] 68 (0, 0)) := by
              have h1 : (w1.alloc (.cells #[.pointer (some ⟨y.p, 0, none⟩)] 52)).heap[P]? = wr.heap[P]? := (Below.heap_alloc _ _ P (by have := yb.size; omega)).trans (yb.block P plt)
              exact (a3.block P (by have := yb.size; simp; omega) (fun e => hPk e.symm)).trans (h1.trans e1)
            refine ⟨y, g', cap', w2, rfl, (yb.cell (p := ⟨P, 1, none⟩) plt).trans p1, a1, cell_of_row w2 P 1 _ _ _ p2, by simp [World.frozen?, p2], Lib.hid (Grew.step HG.out e0 e1 e2 e3 e4 e5 e6 e7 e8 hu y1 y2 (by rw [y3]; exact hyc) y4 y5 yb a2 a3 a4)⟩
          have CALL := Lib.hid call2
          clear call call2 e0 e1 e2 e3 e4 e5 e6 e7 e8 HG hPk
          go_wp2_with fail
          go_region_law (first | (refine step_append_runI rfl _ _ 66 66 rfl _ _ ?h3 ?h4 q2 ?_; (case h3 => rfl); (case h4 => rfl)) | (refine step_call_any rfl 27 #[.pointer (some ⟨u.p, 0, none⟩)] ?h1 CALL.out ?_; (case h1 => kernel_rfl); rintro e w1 ⟨y, g', cap', w2, rfl, q1, q2, q3, q4, FIN⟩; have q5 : (w1.alloc (.cells #[.pointer (some ⟨y.p, 0, none⟩)] 52)).cell? ⟨P, 1, none⟩ = some (.slice ak j ck') := (((Below.refl _ w1).alloc (Nat.le_refl _) _).cell (p := ⟨P, 1, none⟩) (World.block_lt_of_cell? w1 _ q1)).trans q1; refine ⟨_, rfl, ?_⟩))
          all_goals
            clear q1 q2 q3 q4 q5
            go_wp2_with fail
            go_roundw
            case rel => exact ⟨j + 1, some ⟨g', 0, none⟩, cap', by go_num, by omega, FIN⟩
            case measure => simp [intOf]; omega
        · have hjn : j = ks.length := by omega
          have FIN : Hid (ClonePost t (h + 1) x w (.returned (.pointer (some ⟨P, 0, none⟩))) wr) := Lib.hid
            ⟨⟨P, x.l, P :: (rows (.slice a m c) (.slice ak j ck') ++ fpAll ys), ps.length⟩, rfl, ⟨.slice a m c, .slice ak j ck', ps, ys, e1, e2, e3, by rw [e0, hjn]; exact R4.out, by
              show x.l = _
              rw [e4, hjn, List.take_length]; exact R5.out, rfl, rfl, e5⟩, rfl, R7.out.symm, e6, e7, e8⟩
          clear e0 e1 e2 e3 e4 e5 e6 e7 e8 HG
          go_wp2_with fail
          go_ret
          exact FIN.out
end Go.Proofs.Ytcboakmfabdeoaa

/- Copy. -/
namespace Go.Proofs.Ytcboakmfabdeoaa
open Go.RowKit

def CopyPost (t : Nat) (l : List Pr) (w : World) (e : Ending) (w' : World) : Prop :=
  ∃ m' rp' fp', e = .returned (.pointer (some ⟨m', 0, none⟩)) ∧ TreeM t m' w' l rp' fp' ∧ (∀ b ∈ m' :: fp', w.heap.size ≤ b) ∧ Below w.heap.size w w'

def RootPost (t : Nat) (l : List Pr) (w : World) (e : Ending) (w' : World) : Prop :=
  ∃ rp' fp', e = .returned (.pointer rp') ∧ ((rp' = none ∧ l = [] ∧ fp' = []) ∨ ∃ (h : Nat) (x : Kid), rp' = some ⟨x.p, 0, none⟩ ∧ IsT t w' h x ∧ x.l = l ∧ x.fp = fp' ∧ (h = 0 ∨ 1 ≤ x.c)) ∧ fp'.Nodup ∧ (∀ b ∈ fp', w.heap.size ≤ b) ∧ Below w.heap.size w w'

theorem TreeM.cloneRoot {t m : Nat} {w : World} {l : List Pr} {rp : Option Addr} {fp : List Nat} (h : TreeM t m w l rp fp) (hn : l.length ≤ 1000000) : Calls Try.prog 27 #[.pointer rp] w fun e w' => RootPost t l w e w' := by
  rcases h.root with ⟨rfl, rfl, rfl⟩ | ⟨hh, x, rfl, hx, rfl, rfl⟩
  · refine (clone_nil w).mono ?_
    rintro e w' ⟨rfl, rfl⟩
    exact ⟨none, [], rfl, .inl ⟨rfl, rfl, rfl⟩, by simp, by simp, Below.refl _ _⟩
  · refine (clone_any t hh x w hx hn).mono ?_
    rintro e w' ⟨y, rfl, y1, y2, y3, y4, y5, y6⟩
    exact ⟨_, y.fp, rfl, .inr ⟨hh, y, rfl, y1, y2, rfl, by rw [y3]; exact h.lowRoot rfl hx⟩, y4, y5, y6⟩

theorem copied {t : Nat} {l : List Pr} {w w1 : World} {rp' : Option Addr} (hs : Rising l) (h : RootPost t l w (.returned (.pointer rp')) w1) :
    CopyPost t l w (.returned (.pointer (some ⟨w1.heap.size, 0, none⟩))) (w1.alloc (.cells #[.int .i64 t, .pointer rp'] 54)) := by
  obtain ⟨rp2, fp', e, h1, h2, h3, h4⟩ := h
  obtain rfl : rp' = rp2 := by simpa using e
  have hb : Below w1.heap.size w1 (w1.alloc (.cells #[.int .i64 t, .pointer rp'] 54)) := (Below.refl _ w1).alloc (Nat.le_refl _) _
  refine ⟨w1.heap.size, rp', fp', rfl, ⟨heap_alloc_new w1 _, ?_, List.nodup_cons.2 ⟨fun hm => ?_, h2⟩, hs, ?_⟩, ?_, h4.alloc h4.size _⟩
  · rcases h1 with h1 | ⟨hh, x, e1, e2, e3, e4, e5⟩
    · exact .inl h1
    · exact .inr ⟨hh, x, e1, e2.touch (Touch.of_below hb []) (by simp), e3, e4⟩
  · rcases h1 with ⟨_, _, e3⟩ | ⟨hh, x, e1, e2, e3, e4, e5⟩
    · rw [e3] at hm; simp at hm
    · rw [← e4] at hm
      have := e2.lt _ hm
      omega
  · rcases h1 with ⟨e1, _, e3⟩ | ⟨hh, x, e1, e2, e3, e4, e5⟩
    · intro _ _ e _; rw [e1] at e; cases e
    · exact low_of e1 (e2.touch (Touch.of_below hb []) (by simp)) e5
  · intro b hb
    rcases List.mem_cons.1 hb with rfl | hb
    · exact h4.size
    · exact h3 b hb

set_option maxHeartbeats 1000000 in
set_option maxRecDepth 100000 in
theorem TreeM.copy {t m : Nat} {w : World} {l : List Pr} {rp : Option Addr} {fp : List Nat} (h : TreeM t m w l rp fp) (hn : l.length ≤ 1000000) :
    Calls Try.prog 11 #[.pointer (some ⟨m, 0, none⟩)] w fun e w' => CopyPost t l w e w' := by
  have c0 : w.cell? ⟨m, 0, none⟩ = some (.int .i64 t) := cell_of_row w m 0 _ _ _ h.cell
  have c1 : w.cell? ⟨m, 1, none⟩ = some (.pointer rp) := cell_of_row w m 1 _ _ _ h.cell
  have mlt : m < w.heap.size := World.block_lt_of_cell? w _ c0
  have HM := Lib.hid h
  clear h
  have HC : Hid (∀ W : World, Below w.heap.size w W → Calls Try.prog 27 #[.pointer rp] W fun e w' => RootPost t l W e w') := Lib.hid (fun W hW => (HM.out.below hW).cloneRoot hn)
  have HS := Lib.hid HM.out.rising
  go_enter Try.func11, Try.ntmps11
  go_wp2_with fail
  have CL : Hid (Calls Try.prog 27 #[.pointer rp] w.drew fun e w' => RootPost t l w e w') := Lib.hid ((HC.out w.drew ⟨rfl, rfl, rfl, Nat.le_refl _, fun _ _ => rfl⟩).mono (by
    rintro e w' ⟨rp', fp', h1, h2, h3, h4, h5⟩
    exact ⟨rp', fp', h1, h2, h3, h4, ⟨h5.os, h5.tape, h5.output, h5.size, h5.block⟩⟩))
  go_region_with (go_at_call 27; refine CL.out.mono ?_; rintro e w1 ⟨rp', fp', rfl, g1, g2, g3, g4⟩; have q2 : w1.cell? ⟨m, 0, none⟩ = some (.int .i64 t) := (g4.cell (p := ⟨m, 0, none⟩) mlt).trans c0)
  all_goals
    have FIN := Lib.hid (copied HS.out ⟨rp', fp', rfl, g1, g2, g3, g4⟩)
    clear g1 g2 g3 g4 q2
    go_wp2
    go_ret
    exact FIN.out
end Go.Proofs.Ytcboakmfabdeoaa
