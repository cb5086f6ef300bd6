/- insert at any height. -/
import Derived.Test.YtcboakmfabdeoaaXn
namespace Go.Proofs.Ytcboakmfabdeoaa
open Go.RowKit

def InsPost (t : Nat) (k : Int) (s : ByteArray) (W0 : World) (h : Nat) (x : Kid) (w' : World) : Prop :=
  ∃ fp3 c3, IsT t w' h ⟨x.p, ins x.l k s, fp3, c3⟩ ∧ Touch x.fp W0 w' ∧ fp3.Nodup ∧ (∀ b ∈ fp3, b ∈ x.fp ∨ W0.heap.size ≤ b) ∧ x.c ≤ c3

theorem InsPost.of_base {t : Nat} {k : Int} {s : ByteArray} {w W0 : World} {h : Nat} {x : Kid} {w' : World} (hT : Touch x.fp w W0) (hsz : w.heap.size ≤ W0.heap.size) (H : ∃ fp3 c3, IsT t w' h ⟨x.p, ins x.l k s, fp3, c3⟩ ∧ Touch x.fp W0 w' ∧ fp3.Nodup ∧ (∀ b ∈ fp3, b ∈ x.fp ∨ W0.heap.size ≤ b) ∧ x.c ≤ c3) : InsPost t k s w h x w' := by
  obtain ⟨fp3, c3, h1, h2, h3, h4, h5⟩ := H
  exact ⟨fp3, c3, h1, hT.trans h2 (fun b hb => .inl hb), h3, fun b hb => (h4 b hb).imp id (fun e => by omega), h5⟩

theorem Ins.drew {t : Nat} {k : Int} {W0 : World} {h : Nat} {x : Kid} {wr : World} {gk : Nat} {y : Kid} {R : List Nat} (I : Ins t k W0 h x wr gk y R) : Ins t k W0 h x wr.drew gk y R :=
  ⟨I.ty.frame fun _ _ => rfl, I.ctx.frame fun _ _ => rfl, I.touch.drew, I.nodup, I.hf, I.lt, I.no, I.rise, I.len⟩

theorem less_yes (a b : Int) (w : World) (h : a < b) : Calls Try.prog 48 #[.int .i64 a, .int .i64 b] w fun e w' => e = .returned (.bool true) ∧ w = w' := by
  go_enter Try.func48, Try.ntmps48
  go_wp2
  all_goals (first | (go_ret; exact ⟨by simp [h], rfl⟩) | trace_state)

theorem less_no (a b : Int) (w : World) (h : b < a) : Calls Try.prog 48 #[.int .i64 a, .int .i64 b] w fun e w' => e = .returned (.bool false) ∧ w = w' := by
  have h2 : ¬ a < b := by omega
  go_enter Try.func48, Try.ntmps48
  go_wp2
  all_goals (first | (go_ret; exact ⟨by simp [h2], rfl⟩) | trace_state)

set_option maxHeartbeats 1000000 in
set_option maxRecDepth 100000 in
theorem insert_any (t h : Nat) (x : Kid) (k : Int) (s : ByteArray) (w : World) (ht : 2 ≤ t) (ht2 : t ≤ 1000) (hx : IsT t w h x) (hs : Rising x.l) (hnd : x.fp.Nodup) (hn : x.l.length ≤ 500000) (hk : hasB x.l k = false) :
    Calls Try.prog 35 #[.pointer (some ⟨x.p, 0, none⟩), .agg #[.int .i64 k, .string s], .int .i64 t] w fun e w' => e = .returned (.tuple #[]) ∧ InsPost t k s w h x w' := by
  obtain ⟨W0, hW0⟩ : ∃ W0, W0 = w.alloc (.cells #[.int .i64 k, .string s] 61) := ⟨_, rfl⟩
  have bx : W0.heap[w.heap.size]? = some (.cells #[.int .i64 k, .string s] 61 (0, 0)) := by rw [hW0]; exact heap_alloc_new w _
  have sz0 : W0.heap.size = w.heap.size + 1 := by rw [hW0]; simp
  have tw : Touch x.fp w W0 := by rw [hW0]; exact (Touch.refl _ w).alloc _
  have hx0 : IsT t W0 h x := hx.touch (F := []) (by rw [hW0]; exact (Touch.refl [] w).alloc _) (by simp)
  have START := Lib.hid (Ins.start hx0 hs hnd hk)
  have PBX : Hid (w.heap.size ∉ x.fp) := Lib.hid (fun hm => by have := hx.lt _ hm; omega)
  have BX := Lib.hid bx
  have SZ := Lib.hid sz0
  have TW := Lib.hid tw
  clear hx hs hnd hk bx sz0 tw hx0
  go_enter Try.func35, Try.ntmps35
  go_wp2_with fail
  rw [← hW0]
  go_loopg [0] h (fun gk s0 wr => ∃ y R, s0 = .pointer (some ⟨y.p, 0, none⟩) ∧ Hid (Ins t k W0 h x wr gk y R))
  case atStart => exact ⟨x, [], rfl, START.out⟩
  case round =>
    clear hW0 START
    obtain ⟨y, R, rfl, I⟩ := hrel
    obtain ⟨kb1, kb2, kb3⟩ := I.out.keep (pb := w.heap.size) (by rw [SZ.out]; omega) PBX.out
    have nd := (List.nodup_append.1 I.out.nodup).1
    have hyp : w.heap.size ≠ y.p := fun e => kb2 (e ▸ I.out.ty.p_mem)
    obtain ⟨W1, hW1⟩ : ∃ W1, W1 = wr.setCell ⟨y.p, 2, none⟩ (.int .i64 ((y.l.length + 1 : Nat) : Int)) := ⟨_, rfl⟩
    have bx1 : W1.heap[w.heap.size]? = some (.cells #[.int .i64 k, .string s] 61 (0, 0)) := by rw [hW1, heap_setCell_other wr _ _ _ hyp, kb1]; exact BX.out
    have kb4 : w.heap.size < W1.heap.size := by rw [hW1]; simpa using kb3
    have B1 := Lib.hid bx1
    have HW1 := Lib.hid hW1
    have ND := Lib.hid nd
    have KB2 := Lib.hid kb2
    have ylen : y.l.length ≤ 500000 := Nat.le_trans I.out.len hn
    have b0 : W1.cell? ⟨w.heap.size, 0, none⟩ = some (.int .i64 k) := cell_of_row W1 _ 0 _ _ _ bx1
    have b1 : W1.cell? ⟨w.heap.size, 1, none⟩ = some (.string s) := cell_of_row W1 _ 1 _ _ _ bx1
    clear kb1 kb2 nd bx1
    cases gk with
    | zero =>
      obtain ⟨vl, r1, r2, r3, r4⟩ := I.out.ty
      have c2 := r1.c2
      have f2 := r1.fr 2
      have y_lt : y.p < wr.heap.size := (Array.getElem?_eq_some_iff.1 r1).1
      have hvx : vl.ownBlock ≠ some y.p := by
        have q := ND.out
        rw [r3] at q; intro e; rw [e] at q; simp at q
      have r11 : Rec W1 y.p vl (.slice none 0 0) (y.l.length + 1) := by rw [hW1]; exact rec_size r1 _
      have r21 : PRow W1 vl y.l := ownsRow_of_heap r2 fun b hb => by rw [hW1]; exact heap_setCell_other wr _ b _ (fun e => hvx (by rw [hb, e]))
      have T1 : Touch y.fp wr W1 := by rw [hW1]; exact (Touch.refl _ wr).setCell (.inl (by rw [r3]; simp)) _
      have R1 := Lib.hid r11
      have R2 := Lib.hid r21
      have TT := Lib.hid T1
      have R3 := Lib.hid r3
      have R4 := Lib.hid r4
      have HS := Lib.hid I.out.rise
      have HK := Lib.hid I.out.no
      have hps : pos y.l k ≤ y.l.length := pos_le _ _
      have szw1 : W1.heap.size = wr.heap.size := by rw [hW1]; simp
      have SZ1 := Lib.hid szw1
      have hcast : ((y.l.length + 1 : Nat) : Int) = (y.l.length : Int) + 1 := by omega
      rw [hcast] at hW1
      have hw1 := hW1.symm
      clear r1 r2 r3 r4 r11 r21 T1 hW1 hcast HW1 szw1
      generalize hnx : y.l.length = nx at *
      have NX := Lib.hid hnx
      clear hnx
      go_wp2_with fail
      refine (place_at y.p vl _ _ y.l k false _ R1.out R2.out HS.out (by rw [NX.out]; omega) HK.out).mono ?_
      rintro e W2 ⟨rfl, hb2⟩
      have r12 : Rec W2 y.p vl (.slice none 0 0) (nx + 1) := (hb2.block _ (Array.getElem?_eq_some_iff.1 R1.out).1).trans R1.out
      have r22 : PRow W2 vl y.l := ownsRow_of_heap R2.out fun b hb => hb2.block b (R2.out.lt hb)
      have bx2 : W2.heap[w.heap.size]? = some (.cells #[.int .i64 k, .string s] 61 (0, 0)) := (hb2.block _ kb4).trans B1.out
      have t2 : Touch y.fp wr W2 := TT.out.belowTo hb2
      have sz2 : wr.heap.size ≤ W2.heap.size := by have := hb2.size; rw [SZ1.out] at this; exact this
      have c1' := r12.c1
      have c0' := r12.c0
      have b0' : W2.cell? ⟨w.heap.size, 0, none⟩ = some (.int .i64 k) := cell_of_row W2 _ 0 _ _ _ bx2
      have b1' : W2.cell? ⟨w.heap.size, 1, none⟩ = some (.string s) := cell_of_row W2 _ 1 _ _ _ bx2
      clear b0 b1 hw1 c2 f2 hb2
      go_wp2_with fail
      refine (leaf_yes y.p 0 none _ c1').mono ?_
      rintro e w' ⟨rfl, rfl⟩
      have R12 := Lib.hid r12
      have R22 := Lib.hid r22
      have T2 := Lib.hid t2
      have hxl : y.p < W2.heap.size := by omega
      have hins : ∀ W : World, W.heap = (W2.alloc (.cells #[.int .i64 k, .string s] 61)).heap → PRow W vl y.l ∧ W.heap[W2.heap.size]? = some (.cells #[.int .i64 k, .string s] 61 (0, 0)) ∧ Rec W y.p vl (.slice none 0 0) (nx + 1) := fun W hW => by
        have hb := (Below.refl W2.heap.size W2).alloc (Nat.le_refl _) (.cells #[.int .i64 k, .string s] 61)
        refine ⟨ownsRow_of_heap r22 fun b hb2 => by rw [hW]; exact hb.block b (r22.lt hb2), by rw [hW]; exact heap_alloc_new W2 _, ?_⟩
        show W.heap[y.p]? = _
        rw [hW]; exact (hb.block _ hxl).trans r12
      have HI := Lib.hid hins
      clear hins r12 r22 t2 c1' bx2
      have hvb : vl.ownBlock ≠ some W2.heap.size := fun e => by have := R22.out.lt e; omega
      have HVB := Lib.hid hvb
      clear hvb
      have PL : Hid (pos y.l k ≤ y.l.length) := pos_le _ _
      have NL : Hid (y.l.length ≤ 1000000) := by rw [NX.out]; show nx ≤ 1000000; omega
      have hr4 : ∀ W w4 : World, W.heap = (W2.alloc (.cells #[.int .i64 k, .string s] 61)).heap → W.grownBy w4 vl.ownBlock → Rec w4 y.p vl (.slice none 0 0) (nx + 1) := fun W w4 hW hg =>
        (hg.block y.p (by rw [hW]; simp; omega) (fun e => hvx e.symm)).trans (HI.out W hW).2.2
      have HR4 := Lib.hid hr4
      clear hr4
      go_wp2_with fail
      go_region_with (go_at_call 47; refine (insertP_Z _ vl (pos y.l k) nx _ y.l (k, s) _ rfl NX.out hps (by omega) ?_ ?_ HVB.out).mono ?_; exact (HI.out _ rfl).1; exact (HI.out _ rfl).2.1; rintro e w4 ⟨g', c', rfl, h4, g4, o4⟩; have r4 := HR4.out _ _ (by rfl) g4; have q1 := r4.c0; have q2 := r4.fr 0)
      all_goals
        go_wp2
        refine bodyPost_ret (results_none rfl _ _ _) rfl ⟨rfl, ?_⟩
        have hgx : g' ≠ y.p := by
          rcases o4 with h | h
          · intro e; exact hvx (e ▸ h)
          · simp at h; omega
        have hfin : PRow (w4.setCell ⟨y.p, 0, none⟩ (.slice (some ⟨g', 0, none⟩) (nx + 1) c')) (.slice (some ⟨g', 0, none⟩) (nx + 1) c') (ins y.l k s) := by
          rw [← ins_eq HS.out k s HK.out]
          exact ownsRow_of_heap h4 fun b hb => heap_setCell_other _ _ b _ (fun e => hgx (by have : g' = b := by {simpa [Value.ownBlock] using hb}; rw [this]; exact e))
        refine InsPost.of_base TW.out (by rw [SZ.out]; omega) (I.out.done (s := s) (fp' := [y.p, g']) (c := nx + 1) ⟨.slice (some ⟨g', 0, none⟩) (nx + 1) c', ?_, hfin, rfl, by show nx + 1 = (ins y.l k s).length; rw [ins_length s HK.out, NX.out]⟩ (by have := R4.out; omega) ?_ ?_ ?_)
        · show Rec _ y.p _ _ (ins y.l k s).length
          rw [ins_length s HK.out, NX.out]
          exact Rec.set0 r4 _
        · exact (T2.out.alloc _).drew.grown g4 (fun b hb => .inl (by rw [R3.out]; simp [hb])) |>.setCell (.inl (by rw [R3.out]; simp)) _
        · simp; exact hgx.symm
        · intro b hb
          rw [R3.out]
          simp at hb
          rcases hb with rfl | rfl
          · simp
          · rcases o4 with h | h
            · simp [h]
            · simp at h; right; omega
    | succ h' =>
      obtain ⟨vp, vk, P1, P2, K1, K2, z, N⟩ := I.out.inner
      have c2 := N.r1.c2
      have f2 := N.r1.fr 2
      have ypl := (Array.getElem?_eq_some_iff.1 N.r1).1
      have r11 : Rec W1 y.p vp vk (y.l.length + 1) := by rw [hW1]; exact rec_size N.r1 _
      have hvpy : ∀ b, vp.ownBlock = some b → b ≠ y.p := fun b hb e => by
        have q := ND.out
        rw [N.hf] at q
        exact ((fp_parts q).1 b hb).1 e
      have r21 : PRow W1 vp (P1 ++ P2) := ownsRow_of_heap N.r2 fun b hb => by rw [hW1]; exact heap_setCell_other wr _ b _ (hvpy b hb)
      obtain ⟨gK, cK, rfl, hcK⟩ := N.r3.own (by simp)
      have NN := Lib.hid N
      have R1 := Lib.hid r11
      have R2 := Lib.hid r21
      have plen : (P1 ++ P2).length ≤ 500000 := Nat.le_trans N.pl ylen
      have klen : (K1 ++ z :: K2).length ≤ 500001 := Nat.le_trans N.kl (by omega)
      have KI : K1.length < (K1 ++ z :: K2).length := by simp
      have P1K : Hid (P1.length = K1.length) := Lib.hid N.h1.symm
      have hcast : ((y.l.length + 1 : Nat) : Int) = (y.l.length : Int) + 1 := by omega
      rw [hcast] at hW1
      have hw1 := hW1.symm
      clear N r11 r21 hvpy hW1 hcast
      generalize hnk : (K1 ++ z :: K2).length = nK at *
      generalize hnp : (P1 ++ P2).length = nP at *
      generalize hny : y.l.length = nY at *
      have NK := Lib.hid hnk
      have NP := Lib.hid hnp
      have NY := Lib.hid hny
      clear hnk hnp hny
      go_wp2_with fail
      refine (place_at y.p vp _ _ (P1 ++ P2) k false _ R1.out R2.out NN.out.hps (by rw [NP.out]; omega) NN.out.no).mono ?_
      rintro e W2 ⟨rfl, hb2⟩
      have M := Lib.hid (NN.out.after ND.out (by rw [NY.out]; exact HW1.out) hb2)
      have bx2 : W2.heap[w.heap.size]? = some (.cells #[.int .i64 k, .string s] 61 (0, 0)) := (hb2.block _ kb4).trans B1.out
      have BX2 := Lib.hid bx2
      rw [NN.out.pos, P1K.out]
      have c1' := M.out.r1.c1
      have b0' : W2.cell? ⟨w.heap.size, 0, none⟩ = some (.int .i64 k) := cell_of_row W2 _ 0 _ _ _ bx2
      have b1' : W2.cell? ⟨w.heap.size, 1, none⟩ = some (.string s) := cell_of_row W2 _ 1 _ _ _ bx2
      have kc := M.out.r3.cell K1.length z (by simp)
      have ztree := (M.out.hz z (by simp)).1
      obtain ⟨zvp, zvk, zps, z1, z2, z3, z4, z5, _⟩ := ztree.node NN.out.zr
      obtain ⟨a, na, ca, rfl, hna⟩ : ∃ a n c, zvp = .slice a n c ∧ n = zps.length := by
        rcases z2.cases with ⟨h, h2⟩ | ⟨g, cap, cur, h, _⟩
        · exact ⟨none, 0, 0, h, by rw [h2]; rfl⟩
        · exact ⟨_, _, _, h, rfl⟩
      have zc0 := z1.c0
      have zlen : z.l.length ≤ 500000 := Nat.le_trans NN.out.zl (by rw [NY.out]; omega)
      have hnac : na = z.c := by omega
      have NAC := Lib.hid hnac
      have hna1 : na ≤ 500000 := by omega
      clear z1 z2 z3 z4 z5 hna hnac ztree bx2 hb2 c2 f2 b0 b1 hw1
      have KLEN : K1.length ≤ 500001 := by omega
      go_wp2_with fail
      refine (leaf_no y.p nK cK _ _ c1' (by omega)).mono ?_
      rintro e w' ⟨rfl, rfl⟩
      by_cases hf : na + 1 < 2 * t
      · have NEXT := Lib.hid (I.out.down NN.out M.out)
        go_wp2_with fail
        refine (full_no z.p na ca t a _ zc0 (by omega) ht2 hf).mono ?_
        rintro e w' ⟨rfl, rfl⟩
        go_wp2
        go_roundg h'
        case measure => omega
        case rel => exact ⟨z, _, rfl, NEXT⟩
      · go_wp2_with fail
        refine (full_yes z.p na ca t a _ zc0 (by omega) ht2 (by omega)).mono ?_
        rintro e w' ⟨rfl, rfl⟩
        go_wp2_with fail
        have AP := NN.out.apart ND.out (bk := gK) rfl
        refine (split_any t h' y.p K1.length gK nK cK vp (y.l.length + 1) P1 P2 K1 K2 z W2 ht ht2 M.out.r1 M.out.r2 M.out.r3 rfl P1K.out (M.out.hz z (by simp)).1 (by have := NAC.out; omega) (by omega) zlen (by rw [NP.out]; omega) AP.1 AP.2.1 AP.2.2.1 AP.2.2.2.1 AP.2.2.2.2).mono ?_
        rintro e W3 ⟨rfl, ya, yb, m, vp', vk', S⟩
        have SPL := I.out.split NN.out.hf NN.out.hyc NN.out.hz NN.out.hl NN.out.h1 NN.out.h2 NN.out.hA NN.out.hB M.out.t2 S
        obtain ⟨g9, c9, rfl, _⟩ := S.hps.own (by simp)
        obtain ⟨g10, c10, rfl, _⟩ := S.hks.own (by simp)
        have bx3 : W3.heap[w.heap.size]? = some (.cells #[.int .i64 k, .string s] 61 (0, 0)) := (S.touch.block _ (by have := M.out.t2.size; omega) (fun hm => KB2.out (by
          rw [NN.out.hf]
          simp only [List.mem_cons, List.mem_append] at hm ⊢
          rcases hm with e | e | e
          · exact .inl e
          · exact .inr (.inl e)
          · exact .inr (.inr (mem_fpAll.2 ⟨z, by simp, e⟩))))).trans BX2.out
        have d0 : W3.cell? ⟨w.heap.size, 0, none⟩ = some (.int .i64 k) := cell_of_row W3 _ 0 _ _ _ bx3
        have d1 : W3.cell? ⟨w.heap.size, 1, none⟩ = some (.string s) := cell_of_row W3 _ 1 _ _ _ bx3
        have e0 := S.hr.c0
        have e1 := S.hr.c1
        have m0 := S.hps.row.get
        rw [P1K.out] at m0
        obtain ⟨m1, m2⟩ := m0
        have ka := S.hks.cell K1.length ya (by simp)
        have kb := S.hks.cell (K1.length + 1) yb (by rw [List.getElem?_append_right (by omega)]; simp)
        have lp9 : K1.length < (P1 ++ m :: P2).length := by simp; have := P1K.out; omega
        have lk10 : K1.length + 1 < (K1 ++ ya :: yb :: K2).length := by simp
        have lp9b : (P1 ++ m :: P2).length ≤ 600000 := by have := NP.out; simp at this ⊢; omega
        have lk10b : (K1 ++ ya :: yb :: K2).length ≤ 600000 := by have := NK.out; simp at this ⊢; omega
        have SPLH := Lib.hid SPL
        clear S SPL AP bx3 c1' b0' b1' kc zc0
        generalize (P1 ++ m :: P2).length = l9 at *
        generalize (K1 ++ ya :: yb :: K2).length = l10 at *
        by_cases hm : m.1 < k
        · have NEXT := Lib.hid (SPLH.out.2.1 hm)
          go_wp2_with fail
          go_region_with (go_at_call 48; refine (less_yes m.1 k _ hm).mono ?_; rintro e w' ⟨rfl, rfl⟩)
          all_goals
            go_wp2
            go_roundg h'
            case measure => omega
            case rel => exact ⟨yb, _, rfl, Lib.hid NEXT.out.drew⟩
        · have hm2 : k < m.1 := by have := SPLH.out.1; omega
          have NEXT := Lib.hid (SPLH.out.2.2 hm2)
          go_wp2_with fail
          go_region_with (go_at_call 48; refine (less_no m.1 k _ hm2).mono ?_; rintro e w' ⟨rfl, rfl⟩)
          all_goals
            go_wp2
            go_roundg h'
            case measure => omega
            case rel => exact ⟨ya, _, rfl, Lib.hid NEXT.out.drew⟩
end Go.Proofs.Ytcboakmfabdeoaa
