/- insert into a leaf. -/
import Derived.Test.YtcboakmfabdeoaaW8
import Derived.Deep.RegionWith
import Derived.Deep.DeepCutAuto
namespace Go.Proofs.Ytcboakmfabdeoaa
open Go.RowKit

theorem Rec.set0 {w : World} {p : Nat} {vp vk : Value} {m : Nat} (h : Rec w p vp vk m) (v : Value) : Rec (w.setCell ⟨p, 0, none⟩ v) p v vk m := heap_setCell_same w p 0 _ _ _ h
theorem Rec.set1 {w : World} {p : Nat} {vp vk : Value} {m : Nat} (h : Rec w p vp vk m) (v : Value) : Rec (w.setCell ⟨p, 1, none⟩ v) p vp v m := heap_setCell_same w p 1 _ _ _ h

theorem insertP_Z (zi : Int) (v : Value) (i n vb : Nat) (l : List Pr) (x : Pr) (w : World) (hzi : zi = i) (hl : l.length = n) (hi : i ≤ n) (hn : n ≤ 1000000) (hr : PRow w v l)
    (hv : w.heap[vb]? = some (.cells #[.int .i64 x.1, .string x.2] 61 (0, 0))) (hne : v.ownBlock ≠ some vb) :
    Calls Try.prog 47 #[v, .int .i64 zi, .slice (some ⟨vb, 0, none⟩) 1 1] w fun e w' =>
      ∃ g c, e = .returned (.slice (some ⟨g, 0, none⟩) (n + 1) c) ∧ PRow w' (.slice (some ⟨g, 0, none⟩) (n + 1) c) (l.take i ++ x :: l.drop i) ∧ w.grownBy w' v.ownBlock ∧ (v.ownBlock = some g ∨ w.heap.size ≤ g) := by
  subst hzi; subst hl
  refine (insertP_any v i vb l x w hi hn hr hv hne).mono ?_
  rintro e w' ⟨v', rfl, h1, h2, h3⟩
  obtain ⟨g, c, hv', hc⟩ := h1.own (by simp)
  have hlen : (l.take i ++ x :: l.drop i).length = l.length + 1 := by simp; omega
  rw [hlen] at hv'
  subst hv'
  exact ⟨g, c, rfl, h1, h2, h3 g rfl⟩

set_option maxHeartbeats 1000000 in
set_option maxRecDepth 100000 in
theorem insert_leaf (t : Nat) (x : Kid) (k : Int) (s : ByteArray) (w : World) (hx : IsT t w 0 x) (hs : Rising x.l) (hnd : x.fp.Nodup) (hn : x.l.length ≤ 1000) (hk : hasB x.l k = false) :
    Calls Try.prog 35 #[.pointer (some ⟨x.p, 0, none⟩), .agg #[.int .i64 k, .string s], .int .i64 t] w fun e w' => e = .returned (.tuple #[]) ∧
      ∃ fp', IsT t w' 0 ⟨x.p, ins x.l k s, fp', x.l.length + 1⟩ ∧ Touch x.fp w w' ∧ fp'.Nodup ∧ ∀ b ∈ fp', b ∈ x.fp ∨ w.heap.size ≤ b := by
  obtain ⟨vl, r1, r2, r3, r4⟩ := hx
  have c2 := r1.c2
  have f2 := r1.fr 2
  have x_lt : x.p < w.heap.size := (Array.getElem?_eq_some_iff.1 r1).1
  obtain ⟨W0, hW0⟩ : ∃ W0, W0 = w.alloc (.cells #[.int .i64 k, .string s] 61) := ⟨_, rfl⟩
  have r10 : Rec W0 x.p vl (.slice none 0 0) x.l.length := by rw [hW0]; exact (Below.heap_alloc w _ x.p x_lt).trans r1
  have r20 : PRow W0 vl x.l := by rw [hW0]; exact World.ownsRow.alloc r2 _
  have bx : W0.heap[w.heap.size]? = some (.cells #[.int .i64 k, .string s] 61 (0, 0)) := by rw [hW0]; exact heap_alloc_new w _
  have sz0 : W0.heap.size = w.heap.size + 1 := by rw [hW0]; simp
  -- size++
  obtain ⟨W1, hW1⟩ : ∃ W1, W1 = W0.setCell ⟨x.p, 2, none⟩ (.int .i64 ((x.l.length + 1 : Nat) : Int)) := ⟨_, rfl⟩
  have r11 : Rec W1 x.p vl (.slice none 0 0) (x.l.length + 1) := by rw [hW1]; exact rec_size r10 _
  have hvx : vl.ownBlock ≠ some x.p := by rw [r3] at hnd; intro e; rw [e] at hnd; simp at hnd
  have r21 : PRow W1 vl x.l := ownsRow_of_heap r20 fun b hb => by rw [hW1]; exact heap_setCell_other W0 _ b _ (fun e => hvx (by rw [hb, e]))
  have bx1 : W1.heap[w.heap.size]? = some (.cells #[.int .i64 k, .string s] 61 (0, 0)) := by rw [hW1, heap_setCell_other W0 _ _ _ (by show w.heap.size ≠ x.p; omega)]; exact bx
  have sz1 : W1.heap.size = w.heap.size + 1 := by rw [hW1]; simpa using sz0
  have T1 : Touch x.fp w W1 := by rw [hW1, hW0]; exact ((Touch.refl _ w).alloc _).setCell (.inl (by rw [r3]; simp)) _
  have R1 := Lib.hid r11
  have R2 := Lib.hid r21
  have BX := Lib.hid bx1
  have SZ := Lib.hid sz1
  have TT := Lib.hid T1
  have R3 := Lib.hid r3
  have HS := Lib.hid hs
  have HK := Lib.hid hk
  have HND := Lib.hid hnd
  have c2 := r10.c2
  have f2 := r10.fr 2
  have hps : pos x.l k ≤ x.l.length := pos_le _ _
  clear r1 r2 r3 r4 hs hk hnd r10 r20 bx sz0 r11 r21 bx1 sz1 T1
  generalize hnx : x.l.length = nx at *
  have NX := Lib.hid hnx
  clear hnx
  go_enter Try.func35, Try.ntmps35
  go_wp2_with fail
  rw [← hW0]
  go_loopg [0] 0 (fun gk s0 wr => s0 = .pointer (some ⟨x.p, 0, none⟩) ∧ wr = W0)
  case atStart => exact ⟨rfl, rfl⟩
  case round =>
    obtain ⟨rfl, rfl⟩ := hrel
    have hcast : ((nx + 1 : Nat) : Int) = (nx : Int) + 1 := by omega
    rw [hcast] at hW1
    have hw1 := hW1.symm
    clear hW0 hW1 hcast
    have b0 : W1.cell? ⟨w.heap.size, 0, none⟩ = some (.int .i64 k) := cell_of_row W1 _ 0 _ _ _ BX.out
    have b1 : W1.cell? ⟨w.heap.size, 1, none⟩ = some (.string s) := cell_of_row W1 _ 1 _ _ _ BX.out
    go_wp2_with fail
    refine (place_at x.p vl _ _ x.l k false _ R1.out R2.out HS.out (by rw [NX.out]; omega) HK.out).mono ?_
    rintro e W2 ⟨rfl, hb2⟩
    have r12 : Rec W2 x.p vl (.slice none 0 0) (nx + 1) := (hb2.block _ (Array.getElem?_eq_some_iff.1 R1.out).1).trans R1.out
    have r22 : PRow W2 vl x.l := ownsRow_of_heap R2.out fun b hb => hb2.block b (R2.out.lt hb)
    have bx2 : W2.heap[w.heap.size]? = some (.cells #[.int .i64 k, .string s] 61 (0, 0)) := (hb2.block _ (by rw [SZ.out]; omega)).trans BX.out
    have t2 : Touch x.fp w W2 := TT.out.belowTo hb2
    have sz2 : w.heap.size + 1 ≤ W2.heap.size := by have := hb2.size; rw [SZ.out] at this; exact this
    have c1' := r12.c1
    have c0' := r12.c0
    have b0' : W2.cell? ⟨w.heap.size, 0, none⟩ = some (.int .i64 k) := cell_of_row W2 _ 0 _ _ _ bx2
    have b1' : W2.cell? ⟨w.heap.size, 1, none⟩ = some (.string s) := cell_of_row W2 _ 1 _ _ _ bx2
    clear b0 b1 hw1 c2 f2 hb2
    go_wp2_with fail
    refine (leaf_yes x.p 0 none _ c1').mono ?_
    rintro e w' ⟨rfl, rfl⟩
    have R12 := Lib.hid r12
    have R22 := Lib.hid r22
    have T2 := Lib.hid t2
    have hxl : x.p < W2.heap.size := by omega
    -- the row that slices.Insert is handed, and what it gives
    have hins : ∀ W : World, W.heap = (W2.alloc (.cells #[.int .i64 k, .string s] 61)).heap → PRow W vl x.l ∧ W.heap[W2.heap.size]? = some (.cells #[.int .i64 k, .string s] 61 (0, 0)) ∧ Rec W x.p vl (.slice none 0 0) (nx + 1) := fun W hW => by
      have hb := (Below.refl W2.heap.size W2).alloc (Nat.le_refl _) (.cells #[.int .i64 k, .string s] 61)
      refine ⟨ownsRow_of_heap r22 fun b hb2 => by rw [hW]; exact hb.block b (r22.lt hb2), by rw [hW]; exact heap_alloc_new W2 _, ?_⟩
      show W.heap[x.p]? = _
      rw [hW]; exact (hb.block _ hxl).trans r12
    have HI := Lib.hid hins
    clear hins r12 r22 t2 c1' bx2
    have hvb : vl.ownBlock ≠ some W2.heap.size := fun e => by have := R22.out.lt e; omega
    have HVB := Lib.hid hvb
    clear hvb
    have PL : Hid (pos x.l k ≤ x.l.length) := pos_le _ _
    have NL : Hid (x.l.length ≤ 1000000) := by rw [NX.out]; show nx ≤ 1000000; omega
    have hr4 : ∀ W w4 : World, W.heap = (W2.alloc (.cells #[.int .i64 k, .string s] 61)).heap → W.grownBy w4 vl.ownBlock → Rec w4 x.p vl (.slice none 0 0) (nx + 1) := fun W w4 hW hg =>
      (hg.block x.p (by rw [hW]; simp; omega) (fun e => hvx e.symm)).trans (HI.out W hW).2.2
    have HR4 := Lib.hid hr4
    clear hr4
    go_wp2_with fail
    go_region_with (go_at_call 47; refine (insertP_Z _ vl (pos x.l k) nx _ x.l (k, s) _ rfl NX.out hps (by omega) ?_ ?_ HVB.out).mono ?_; exact (HI.out _ rfl).1; exact (HI.out _ rfl).2.1; rintro e w4 ⟨g', c', rfl, h4, g4, o4⟩; have r4 := HR4.out _ _ (by rfl) g4; have q1 := r4.c0; have q2 := r4.fr 0)
    all_goals
      go_wp2
      refine bodyPost_ret (results_none rfl _ _ _) rfl ⟨rfl, ?_⟩
      have hgx : g' ≠ x.p := by
        rcases o4 with h | h
        · intro e; exact hvx (e ▸ h)
        · simp at h; omega
      have hfin : PRow (w4.setCell ⟨x.p, 0, none⟩ (.slice (some ⟨g', 0, none⟩) (nx + 1) c')) (.slice (some ⟨g', 0, none⟩) (nx + 1) c') (ins x.l k s) := by
        rw [← ins_eq HS.out k s HK.out]
        exact ownsRow_of_heap h4 fun b hb => heap_setCell_other _ _ b _ (fun e => hgx (by have : g' = b := by {simpa [Value.ownBlock] using hb}; rw [this]; exact e))
      refine ⟨[x.p, g'], ⟨.slice (some ⟨g', 0, none⟩) (nx + 1) c', ?_, hfin, rfl, by show nx + 1 = (ins x.l k s).length; rw [ins_length s HK.out, NX.out]⟩, ?_, ?_, ?_⟩
      · show Rec _ x.p _ _ (ins x.l k s).length
        rw [ins_length s HK.out, NX.out]
        exact Rec.set0 r4 _
      · exact (T2.out.alloc _).drew.grown g4 (fun b hb => .inl (by rw [R3.out]; simp [hb])) |>.setCell (.inl (by rw [R3.out]; simp)) _
      · simp; exact hgx.symm
      · intro b hb
        rw [R3.out]
        simp at hb
        rcases hb with rfl | rfl
        · simp
        · rcases o4 with h | h
          · simp [h]
          · simp at h; right; omega
end Go.Proofs.Ytcboakmfabdeoaa
