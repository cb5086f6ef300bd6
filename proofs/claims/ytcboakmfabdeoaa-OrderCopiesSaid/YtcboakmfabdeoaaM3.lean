import Derived.Test.YtcboakmfabdeoaaM1
import Derived.Test.YtcboakmfabdeoaaM2
import Derived.Deep.QuietTactic
import Derived.BigQuiet
import Derived.Deep.RegionLaw

/- Drop of a key that is there. -/
namespace Go.Proofs.Ytcboakmfabdeoaa
open Go.RowKit

/-- behind remove: the root has lost the key. -/
def DropMid (t m : Nat) (l : List Pr) (fp : List Nat) (k : Int) (w wc : World) : Prop :=
  ∃ (h : Nat) (x : Kid), wc.heap[m]? = some (.cells #[.int .i64 t, .pointer (some ⟨x.p, 0, none⟩)] 54 (0, 0)) ∧ IsT t wc h x ∧ x.l = del l k ∧ (m :: x.fp).Nodup ∧ Touch (m :: fp) w wc ∧ ∀ b ∈ x.fp, b ∈ fp ∨ w.heap.size ≤ b

theorem drop_mid {t m h : Nat} {w wa w4 : World} {l : List Pr} {fp : List Nat} {k : Int} {x : Kid} (hm : TreeM t m wa l (some ⟨x.p, 0, none⟩) fp) (hx : x.l = l) (hf : x.fp = fp) (T : Touch (m :: fp) w wa) (P : RemPost t k wa h x w4) (m_lt : m < w.heap.size) :
    DropMid t m l fp k w w4 := by
  obtain ⟨fp3, c3, p1, p2, p3, p4, _⟩ := P
  subst hx
  subst hf
  have nd := List.nodup_cons.1 hm.nodup
  have hs := T.size
  have mlt : m < wa.heap.size := by omega
  refine ⟨h, ⟨x.p, del x.l k, fp3, c3⟩, (p2.block m mlt nd.1).trans hm.cell, p1, rfl, List.nodup_cons.2 ⟨fun e => ?_, p3⟩, T.trans p2 (fun b hb => .inl (by simp [hb])), fun b hb => (p4 b hb).imp id (fun e => by omega)⟩
  rcases p4 m e with e1 | e1
  · exact nd.1 e1
  · omega

theorem drop_done {t m : Nat} {w wc wa : World} {l : List Pr} {fp : List Nat} {k : Int} {h h' : Nat} {x x' : Kid} (hs : Rising l) (hwa : wa.heap = wc.heap) (hos : Touch [] wc wa) (hc : wc.heap[m]? = some (.cells #[.int .i64 t, .pointer (some ⟨x.p, 0, none⟩)] 54 (0, 0))) (hl : x.l = del l k) (hnd : (m :: x.fp).Nodup) (T : Touch (m :: fp) w wc) (own : ∀ b ∈ x.fp, b ∈ fp ∨ w.heap.size ≤ b) (hx' : IsT t wa h' x') (e1 : x'.l = x.l) (e2 : x'.fp.Sublist x.fp) (lo : h' = 0 ∨ 1 ≤ x'.c) :
    DropPost t m l fp k w (wa.setCell ⟨m, 1, none⟩ (.pointer (some ⟨x'.p, 0, none⟩))) := by
  have hc' : wa.heap[m]? = some (.cells #[.int .i64 t, .pointer (some ⟨x.p, 0, none⟩)] 54 (0, 0)) := by rw [hwa]; exact hc
  have nd := List.nodup_cons.1 hnd
  have mx : m ∉ x'.fp := fun e => nd.1 (e2.subset e)
  have hx2 : IsT t (wa.setCell ⟨m, 1, none⟩ (.pointer (some ⟨x'.p, 0, none⟩))) h' x' := hx'.frame fun b hb => heap_setCell_other wa _ b _ (fun e => mx (by have e3 : b = m := e; rw [← e3]; exact hb))
  refine ⟨some ⟨x'.p, 0, none⟩, x'.fp, ⟨heap_setCell_same wa m 1 _ _ _ hc', .inr ⟨h', x', rfl, hx2, by rw [e1, hl], rfl⟩, List.nodup_cons.2 ⟨mx, nd.2.sublist e2⟩, del_rising hs k, low_of rfl hx2 lo⟩, (T.trans hos (by simp)).setCell (.inl (by simp)) _, fun b hb => own b (e2.subset hb)⟩

theorem drop_empty {t m : Nat} {w wc wa : World} {l : List Pr} {fp : List Nat} {k : Int} {x : Kid} (hwa : wa.heap = wc.heap) (hos : Touch [] wc wa) (hc : wc.heap[m]? = some (.cells #[.int .i64 t, .pointer (some ⟨x.p, 0, none⟩)] 54 (0, 0))) (hl : x.l = del l k) (h0 : x.l = []) (T : Touch (m :: fp) w wc) :
    DropPost t m l fp k w (wa.setCell ⟨m, 1, none⟩ (.pointer none)) := by
  have hc' : wa.heap[m]? = some (.cells #[.int .i64 t, .pointer (some ⟨x.p, 0, none⟩)] 54 (0, 0)) := by rw [hwa]; exact hc
  have e : del l k = [] := by rw [← hl, h0]
  refine ⟨none, [], ⟨heap_setCell_same wa m 1 _ _ _ hc', .inl ⟨rfl, e, rfl⟩, by simp, by rw [e]; exact List.Pairwise.nil, fun _ _ e _ => by cases e⟩, (T.trans hos (by simp)).setCell (.inl (by simp)) _, by simp⟩

set_option maxHeartbeats 1000000 in
set_option maxRecDepth 100000 in
theorem TreeM.drop_has {t m : Nat} {w : World} {l : List Pr} {rp : Option Addr} {fp : List Nat} (hm : TreeM t m w l rp fp) (k : Int) (ht : 2 ≤ t) (ht2 : t ≤ 64) (hl : l.length ≤ 200000) (hk : hasB l k = true) :
    Calls Try.prog 17 #[.pointer (some ⟨m, 0, none⟩), .int .i64 k] w fun e w' => e = .returned (.tuple #[.string (valOf l k), .bool true]) ∧ DropPost t m l fp k w w' := by
  have c1 : w.cell? ⟨m, 1, none⟩ = some (.pointer rp) := cell_of_row w m 1 _ _ _ hm.cell
  have m_lt : m < w.heap.size := (Array.getElem?_eq_some_iff.1 hm.cell).1
  obtain ⟨h, x, rfl, hx, hxl, hxf⟩ : ∃ (h : Nat) (x : Kid), rp = some ⟨x.p, 0, none⟩ ∧ IsT t w h x ∧ x.l = l ∧ x.fp = fp := by
    rcases hm.root with ⟨_, rfl, _⟩ | h1
    · simp [hasB] at hk
    · exact h1
  have hlow := hm.lowRoot rfl hx
  have HF := Lib.hid (hm.find k (by omega))
  have HM := Lib.hid hm
  have HX := Lib.hid hx
  have HK := Lib.hid hk
  have HXL := Lib.hid hxl
  have HXF := Lib.hid hxf
  have HLOW := Lib.hid hlow
  clear hm hx hk hxl hxf hlow
  go_enter Try.func17, Try.ntmps17
  go_wp2_with fail
  refine (top_any m _ _ c1).mono ?_
  rintro e w' ⟨rfl, rfl⟩
  go_wp2_with fail
  refine HF.out.mono ?_
  rintro e w1 ⟨hf, hb⟩
  rcases hf with ⟨h1, _⟩ | ⟨g, i, rfl, h1, h2⟩
  · rw [HK.out] at h1; cases h1
  · have q1 : w1.cell? ⟨g, i * 2 + 1, none⟩ = some (.string (valOf l k)) := (hb.cell (p := ⟨g, i * 2 + 1, none⟩) (World.block_lt_of_cell? w _ h2)).trans h2
    have m1 := HM.out.below hb
    have c1' : w1.cell? ⟨m, 1, none⟩ = some (.pointer (some ⟨x.p, 0, none⟩)) := cell_of_row w1 m 1 _ _ _ m1.cell
    have c0' : w1.cell? ⟨m, 0, none⟩ = some (.int .i64 t) := cell_of_row w1 m 0 _ _ _ m1.cell
    have M1 := Lib.hid m1
    have B1 := Lib.hid hb
    have X1 : Hid (IsT t w1 h x) := Lib.hid (HX.out.touch (Touch.of_below hb []) (by simp))
    clear h1 h2 hb m1 c1
    have REM : Hid (∀ W : World, W.heap = w1.heap → Calls Try.prog 36 #[.pointer (some ⟨x.p, 0, none⟩), .int .i64 k, .int .i64 t] W fun e w' => e = .returned (.tuple #[]) ∧ RemPost t k W h x w') := Lib.hid (fun W hW =>
      remove_any t ht (by omega) h x k W (X1.out.frame fun b hb => by rw [hW]) (HXL.out ▸ HM.out.rising) (List.nodup_cons.1 (HXF.out ▸ HM.out.nodup)).2 (by rw [HXL.out]; omega) (by rw [HXL.out]; exact HK.out) HLOW.out)
    go_wp2_with fail
    go_cut [8] (fun s8 wc => s8 = .string (valOf l k) ∧ DropMid t m l fp k w wc)
    case first =>
      go_region_with (first | (go_at_call 34; (with_reducible refine (bound_any m t _ ?_ ht).mono ?_); exact c0'; rintro e w' ⟨rfl, rfl⟩) | (go_at_call 36; (with_reducible refine (REM.out _ ?_).mono ?_); rfl; rintro e w4 ⟨rfl, P4⟩))
      all_goals
        have FIN : Hid (DropMid t m l fp k w w4) := Lib.hid (drop_mid (h := h) (M1.out.below (Touch.below ((Touch.refl [] w1).drew))) HXL.out HXF.out ((Touch.of_below B1.out (m :: fp)).trans (Touch.refl [] w1).drew (by simp)) P4 m_lt)
        clear P4
        go_wp2_with fail
        go_meet
        case rel => exact ⟨rfl, FIN.out⟩
    case rest =>
      clear REM X1 B1 M1 HLOW HX c0' c1' q1
      obtain ⟨rfl, h5, x5, hc, hx, hxl, hnd, hT, hfp⟩ := hcut
      have nc1 : wc.cell? ⟨m, 1, none⟩ = some (.pointer (some ⟨x5.p, 0, none⟩)) := cell_of_row wc m 1 _ _ _ hc
      have fc1 : wc.frozen? ⟨m, 1, none⟩ = false := by simp [World.frozen?, hc]
      have hs : Rising x5.l := by rw [hxl]; exact del_rising HM.out.rising k
      have hxn : x5.l.length ≤ 500000 := by
        have := del_length HM.out.rising HK.out
        rw [hxl]; omega
      have C := Lib.hid hc
      have X := Lib.hid hx
      have XL := Lib.hid hxl
      have ND := Lib.hid hnd
      have T := Lib.hid hT
      have FP := Lib.hid hfp
      have SS := Lib.hid hs
      clear hc hx hxl hnd hT hfp hs
      go_wp2_with fail
      refine (lowered_any t h5 ht x5 wc X.out SS.out hxn).mono ?_
      rintro e w' ⟨rfl, hlow⟩
      rcases hlow with ⟨h0, rfl⟩ | ⟨h6, x6, rfl, p1, p2, p3, p4⟩
      · have FIN := Lib.hid (drop_empty (by rfl) (Touch.refl [] wc) C.out XL.out h0 T.out)
        clear h0
        go_wp2_with fail
        go_ret2
        exact ⟨rfl, FIN.out⟩
      · have FIN := Lib.hid (drop_done (h := h5) HM.out.rising (by rfl) (Touch.refl [] wc) C.out XL.out ND.out T.out FP.out p1 p2 p3 p4)
        clear p1 p2 p3 p4
        go_wp2_with fail
        go_ret2
        exact ⟨rfl, FIN.out⟩
end Go.Proofs.Ytcboakmfabdeoaa

/- The reference's map in memory: a list of pairs; Rank, Has, Get. -/
namespace Go.Proofs.Ytcboakmfabdeoaa
open Go.RowKit

theorem Try.info56 : (Try.prog.info? 56).map (fun i => (i.zero, i.size, i.bytes)) = some (some (.agg #[.int .i64 0, .string ByteArray.empty]), 2, 24) := by kernel_rfl

def QRow (w : World) (v : Value) (l : List Pr) : Prop := w.ownsRow 0 56 2 v l.length (encP l)

/-- the reference's map lies at r, its list's slice is v. -/
structure RefM (r : Nat) (w : World) (v : Value) (l : List Pr) : Prop where
  cell : w.heap[r]? = some (.cells #[v] 31 (0, 0))
  row : QRow w v l

theorem QRow.cases {w : World} {v : Value} {l : List Pr} (h : QRow w v l) :
    (v = .slice none 0 0 ∧ l = []) ∨ ∃ g cap cur, v = .slice (some ⟨g, 0, none⟩) l.length cap ∧ w.heap[g]? = some (.cells cur 56 (0, 0)) ∧ l.length ≤ cap ∧ cur.size = cap * 2 ∧ cur.toList.take (l.length * 2) = encP l := by
  rcases h.2 with ⟨h1, h2⟩ | ⟨g, cap, cur, h1, _, h2, h3, h4, h5, h6⟩
  · exact .inl ⟨h1, List.eq_nil_of_length_eq_zero h2⟩
  · exact .inr ⟨g, cap, cur, h1, h2, h3, by simpa using h5, by simpa using h6⟩

theorem RefM.own_ne {r : Nat} {w : World} {v : Value} {l : List Pr} (h : RefM r w v l) : v.ownBlock ≠ some r := fun e => by
  rcases h.row.cases with ⟨h1, _⟩ | ⟨g, cap, cur, h1, h2, _⟩
  · rw [h1] at e; cases e
  · rw [h1] at e
    have : g = r := by simpa [Value.ownBlock] using e
    subst this
    rw [h.cell] at h2
    simp at h2

def RefM.bs (r : Nat) (v : Value) : List Nat := r :: v.ownBlock.toList

theorem RefM.lt {r : Nat} {w : World} {v : Value} {l : List Pr} (h : RefM r w v l) : ∀ b ∈ RefM.bs r v, b < w.heap.size := fun b hb => by
  simp only [RefM.bs, List.mem_cons, Option.mem_toList] at hb
  rcases hb with rfl | hb
  · exact (Array.getElem?_eq_some_iff.1 h.cell).1
  · exact (World.ownsRow.lt h.row b hb).2

theorem RefM.touch {r : Nat} {w w' : World} {v : Value} {l : List Pr} {F : List Nat} (h : RefM r w v l) (T : Touch F w w') (hd : ∀ b ∈ RefM.bs r v, b ∉ F) : RefM r w' v l :=
  ⟨(T.block r (h.lt r (by simp [RefM.bs])) (hd r (by simp [RefM.bs]))).trans h.cell, ownsRow_of_heap h.row fun b hb => T.block b (h.lt b (by simp [RefM.bs, hb])) (hd b (by simp [RefM.bs, hb]))⟩

theorem QRow.rowP {w : World} {g n cap : Nat} {l : List Pr} (h : QRow w (.slice (some ⟨g, 0, none⟩) n cap) l) : RowP w g l := fun j hj => by
  have hc := World.ownsRow.cells h (g := g) rfl
  have e1 : (encP l)[j * 2]? = some (.int .i64 l[j].1) ∧ (encP l)[j * 2 + 1]? = some (.string l[j].2) := by
    obtain ⟨A, B, e, hl⟩ : ∃ A B, l = A ++ l[j] :: B ∧ A.length = j := ⟨l.take j, l.drop (j + 1), by rw [List.getElem_cons_drop, List.take_append_drop], by simp; omega⟩
    have h1 := encP_append A (l[j] :: B)
    rw [← e] at h1
    have h2 := encP_length A
    rw [h1]
    refine ⟨?_, ?_⟩
    · rw [List.getElem?_append_right (by omega), h2, hl, Nat.sub_self]; rfl
    · rw [List.getElem?_append_right (by omega), h2, hl, show j * 2 + 1 - j * 2 = 1 by omega]; rfl
  have a1 := hc (j * 2) _ e1.1
  have a2 := hc (j * 2 + 1) _ e1.2
  rw [Addr.add_lit, Nat.zero_add] at a1 a2
  rw [List.getElem?_eq_getElem hj]
  exact ⟨a1, a2⟩
end Go.Proofs.Ytcboakmfabdeoaa

/- The reference's Rank, Has, Get. -/
namespace Go.Proofs.Ytcboakmfabdeoaa
open Go.RowKit

theorem pos_stop {l : List Pr} (hs : Rising l) {k : Int} {n : Nat} (h1 : n ≤ pos l k) (h2 : ∀ h : n < l.length, k ≤ (l[n]).1) : n = pos l k := by
  have hle := pos_le l k
  by_cases e : n < pos l k
  · have hn : n < l.length := by omega
    have h3 := pos_below hs k (l[n]) (by rw [List.mem_iff_getElem?]; exact ⟨n, by rw [List.getElem?_take_of_lt e, List.getElem?_eq_getElem hn]⟩)
    have := h2 hn
    omega
  · omega

theorem pos_go {l : List Pr} (hs : Rising l) {k : Int} {n : Nat} (h1 : n ≤ pos l k) (hn : n < l.length) (h2 : (l[n]).1 < k) : n + 1 ≤ pos l k := by
  by_cases e : n < pos l k
  · omega
  · have h3 := pos_above hs k (l[n]) (by rw [List.mem_iff_getElem?]; exact ⟨n - pos l k, by rw [List.getElem?_drop, show pos l k + (n - pos l k) = n by omega, List.getElem?_eq_getElem hn]⟩)
    omega

set_option maxHeartbeats 1000000 in
theorem rrank (r : Nat) (w : World) (v : Value) (l : List Pr) (k : Int) (h : RefM r w v l) (hs : Rising l) (hn : l.length ≤ 1000000) :
    Calls Try.prog 25 #[.pointer (some ⟨r, 0, none⟩), .int .i64 k] w fun e w' => e = .returned (.int .i64 (pos l k)) ∧ w = w' := by
  have c0 : w.cell? ⟨r, 0, none⟩ = some v := cell_of_row w r 0 _ _ _ h.cell
  rcases h.row.cases with ⟨rfl, rfl⟩ | ⟨g, cap, cur, rfl, h2, _⟩
  · clear h hs
    go_enter Try.func25, Try.ntmps25
    go_wp2_with fail
    go_loop [5] (fun s5 => s5 = .int .i64 0) (fun _ => 0)
    case atStart => rfl
    case round =>
      subst hrel
      go_wp2
      go_ret
      exact ⟨rfl, rfl⟩
  · have RP := Lib.hid (QRow.rowP h.row)
    have HS := Lib.hid hs
    clear h hs h2
    go_enter Try.func25, Try.ntmps25
    go_wp2_with fail
    go_loop [5] (fun s5 => ∃ n : Nat, n ≤ l.length ∧ s5 = .int .i64 n ∧ Hid (n ≤ pos l k)) (fun s5 => l.length - (intOf s5).toNat)
    case atStart => exact ⟨0, Nat.zero_le _, rfl, Nat.zero_le _⟩
    case round =>
      obtain ⟨n, hnl, rfl, HN⟩ := hrel
      by_cases hlt : n < l.length
      · have c1 := (RP.out n hlt).1
        rw [List.getElem?_eq_getElem hlt] at c1
        simp only [Option.getD_some] at c1
        have NEXT : Hid (l[n].1 < k → n + 1 ≤ pos l k) := Lib.hid (fun h => pos_go HS.out HN.out hlt h)
        have STOP : Hid (¬ l[n].1 < k → n = pos l k) := Lib.hid (fun h => pos_stop HS.out HN.out (fun _ => by omega))
        generalize l[n].1 = y at *
        by_cases hy : y < k
        · go_wp2
          go_round
          case rel => exact ⟨n + 1, by omega, by go_num, Lib.hid (NEXT.out hy)⟩
          case measure => simp [intOf]; omega
        · go_wp2
          go_ret
          exact ⟨ret_int (by rw [← STOP.out hy]), rfl⟩
      · have STOP : Hid (n = pos l k) := Lib.hid (pos_stop HS.out HN.out (fun h => absurd h hlt))
        go_wp2
        go_ret
        exact ⟨ret_int (by rw [← STOP.out]), rfl⟩

theorem at_pos {l : List Pr} (hs : Rising l) (k : Int) : (hasB l k = true ↔ ∃ h : pos l k < l.length, (l[pos l k]).1 = k) := by
  have hle := pos_le l k
  constructor
  · intro h
    obtain ⟨m, hm, hk⟩ := hasB_iff.1 h
    obtain ⟨A, B, e⟩ := List.append_of_mem hm
    have r := rising_append.1 (e ▸ hs)
    have r2 := rising_cons.1 r.2.1
    have q := pos_mid (A := A) (x := [m]) (B := B) (k := k) (fun q hq => by have := r.2.2 q hq m (by simp); omega) (fun q hq => by have := r2.1 q hq; omega)
    rw [show A ++ [m] ++ B = A ++ m :: B by simp, ← e] at q
    have q2 : pos l k = A.length := by rw [q]; simp [pos, hk]
    refine ⟨by rw [q2, e]; simp, ?_⟩
    have : l[pos l k]? = some m := by rw [q2, e]; simp
    rw [List.getElem?_eq_some_iff] at this
    obtain ⟨_, h2⟩ := this
    rw [h2]; exact hk
  · rintro ⟨h, e⟩
    exact hasB_iff.2 ⟨_, List.getElem_mem h, e⟩

theorem val_at {l : List Pr} (hs : Rising l) {k : Int} (h : hasB l k = true) : ∃ hh : pos l k < l.length, (l[pos l k]).1 = k ∧ (l[pos l k]).2 = valOf l k := by
  obtain ⟨h1, h2⟩ := (at_pos hs k).1 h
  refine ⟨h1, h2, ?_⟩
  have e : l = l.take (pos l k) ++ [l[pos l k]] ++ l.drop (pos l k + 1) := by simp
  have hs2 := hs
  rw [e] at hs2
  have r := rising_append.1 hs2
  have r1 := rising_append.1 r.1
  have q := valOf_mid (A := l.take (pos l k)) (x := [l[pos l k]]) (B := l.drop (pos l k + 1)) (k := k) (pos_below hs k) (fun y hy => by
    have := r.2.2 (l[pos l k]) (List.mem_append.2 (.inr (List.mem_singleton.2 rfl))) y hy
    omega)
  rw [← e] at q
  rw [q]
  simp [valOf, h2]

set_option maxHeartbeats 1000000 in
theorem rhas (r : Nat) (w : World) (v : Value) (l : List Pr) (k : Int) (h : RefM r w v l) (hs : Rising l) (hn : l.length ≤ 1000000) :
    Calls Try.prog 41 #[.pointer (some ⟨r, 0, none⟩), .int .i64 k] w fun e w' => e = .returned (.bool (hasB l k)) ∧ w = w' := by
  have RK := Lib.hid (rrank r w v l k h hs hn)
  have c0 : w.cell? ⟨r, 0, none⟩ = some v := cell_of_row w r 0 _ _ _ h.cell
  have hle := pos_le l k
  have AP := Lib.hid (at_pos hs k)
  rcases h.row.cases with ⟨rfl, rfl⟩ | ⟨g, cap, cur, rfl, h2, _⟩
  · clear h hs
    go_enter Try.func41, Try.ntmps41
    go_wp2_with fail
    refine RK.out.mono ?_
    rintro e w1 ⟨rfl, rfl⟩
    go_wp2
    go_ret
    exact ⟨by simp [hasB], rfl⟩
  · have RP := Lib.hid (QRow.rowP h.row)
    clear h h2 hs
    by_cases hlt : pos l k < l.length
    · have c1 := (RP.out _ hlt).1
      rw [List.getElem?_eq_getElem hlt] at c1
      simp only [Option.getD_some] at c1
      have EQ : Hid (hasB l k = decide (l[pos l k].1 = k)) := Lib.hid (by
        cases hb : hasB l k with
        | true => obtain ⟨_, h⟩ := AP.out.1 hb; simp [h]
        | false => simp; intro h; have := AP.out.2 ⟨hlt, h⟩; rw [hb] at this; cases this)
      generalize l[pos l k].1 = y at *
      generalize pos l k = n at *
      by_cases hy : y = k
      · have hb : Hid (hasB l k = true) := Lib.hid (by rw [EQ.out]; simp [hy])
        clear EQ AP
        subst hy
        go_enter Try.func41, Try.ntmps41
        go_wp2_with fail
        refine RK.out.mono ?_
        rintro e w1 ⟨rfl, rfl⟩
        go_wp2
        go_ret
        exact ⟨by rw [hb.out]; rfl, rfl⟩
      · have hb : Hid (hasB l k = false) := Lib.hid (by rw [EQ.out]; simp [hy])
        clear EQ AP
        go_enter Try.func41, Try.ntmps41
        go_wp2_with fail
        refine RK.out.mono ?_
        rintro e w1 ⟨rfl, rfl⟩
        go_wp2
        go_ret
        exact ⟨by rw [hb.out]; simp [hy], rfl⟩
    · have hb : Hid (hasB l k = false) := Lib.hid (by
        cases hb : hasB l k with
        | true => obtain ⟨h, _⟩ := AP.out.1 hb; exact absurd h hlt
        | false => rfl)
      clear AP
      generalize pos l k = n at *
      go_enter Try.func41, Try.ntmps41
      go_wp2_with fail
      refine RK.out.mono ?_
      rintro e w1 ⟨rfl, rfl⟩
      go_wp2
      go_ret
      exact ⟨by rw [hb.out]; rfl, rfl⟩

set_option maxHeartbeats 1000000 in
theorem rget (r : Nat) (w : World) (v : Value) (l : List Pr) (k : Int) (h : RefM r w v l) (hs : Rising l) (hn : l.length ≤ 1000000) :
    Calls Try.prog 24 #[.pointer (some ⟨r, 0, none⟩), .int .i64 k] w fun e w' => e = .returned (gotten l k) ∧ Touch [] w w' := by
  have RH := Lib.hid (rhas r w v l k h hs hn)
  have RK : Hid (∀ W : World, W.heap = w.heap → Calls Try.prog 25 #[.pointer (some ⟨r, 0, none⟩), .int .i64 k] W fun e w' => e = .returned (.int .i64 (pos l k)) ∧ W = w') := Lib.hid (fun W hW => rrank r W v l k ⟨by rw [hW]; exact h.cell, ownsRow_of_heap h.row fun b hb => by rw [hW]⟩ hs hn)
  have c0 : w.cell? ⟨r, 0, none⟩ = some v := cell_of_row w r 0 _ _ _ h.cell
  cases hb : hasB l k with
  | false =>
    rw [hb] at RH
    have HB := Lib.hid hb
    clear hb h hs
    go_enter Try.func24, Try.ntmps24
    go_wp2_with fail
    refine RH.out.mono ?_
    rintro e w1 ⟨rfl, rfl⟩
    go_wp2
    go_ret2
    exact ⟨by simp [gotten, HB.out], Touch.refl _ _⟩
  | true =>
    rw [hb] at RH
    have HB := Lib.hid hb
    obtain ⟨hlt, hv1, hv2⟩ := val_at hs hb
    rcases h.row.cases with ⟨rfl, rfl⟩ | ⟨g, cap, cur, rfl, h2, _⟩
    · simp at hlt
    · have c1 := (QRow.rowP h.row _ hlt).2
      rw [List.getElem?_eq_getElem hlt] at c1
      simp only [Option.getD_some] at c1
      rw [hv2] at c1
      clear hb hv1 hv2 h h2 hs
      generalize pos l k = n at *
      go_enter Try.func24, Try.ntmps24
      go_wp2_with fail
      refine RH.out.mono ?_
      rintro e w1 ⟨rfl, rfl⟩
      go_wp2_with fail
      go_region_with (go_at_call 25; (with_reducible refine (RK.out _ ?_).mono ?_); rfl; rintro e w' ⟨rfl, rfl⟩)
      all_goals
        go_wp2
        go_ret2
        exact ⟨by simp only [gotten, HB.out, if_true]; rfl, (Touch.refl [] w).drew⟩
end Go.Proofs.Ytcboakmfabdeoaa

/- The reference's Put and Drop. -/
namespace Go.Proofs.Ytcboakmfabdeoaa
open Go.RowKit

/-- append of some pairs, wherever they lie, behind a row of one's own. -/
theorem appendQ (w : World) (v : Value) (n : Nat) (l r : List Pr) (a : Addr) (m c : Nat) (hl : l.length = n) (hm : r.length = m) (hr : w.ownsRow 0 56 2 v n (encP l)) (hnews : ∀ j u, (encP r)[j]? = some u → w.cell? (a.add j) = some u) (hb : n + m ≤ 1000001) :
    ∃ v' w', (Builtin.append_ #[29, 29] 29 #[v, .slice (some a) m c]).run Try.prog w = .ok v' w' ∧ w'.ownsRow 0 56 2 v' (n + m) (encP (l ++ r)) ∧ w.grownBy w' v.ownBlock ∧ OwnNew w v v' := by
  obtain ⟨i0, hi0, hz0, hzs, hzb⟩ := info_parts Try.info56
  subst hl; subst hm
  obtain ⟨v', w', r1, r2, r3, r4⟩ := append_own2 (P := Try.prog) w 29 29 56 i0 (.agg #[.int .i64 0, .string ByteArray.empty]) 2 24 Try.underlying29 hi0 hz0 hzs hzb rfl (by decide) v l.length (encP l) hr a r.length c (encP r) (by rw [encP_length]) hnews (encP_oneCell r) hb (by omega) (by
    intro g k cp e
    rcases hr.2 with ⟨h, _⟩ | ⟨g', cap', cur, h, _, _, h3, _⟩
    · rw [h] at e; cases e
    · rw [h] at e; simp only [Value.slice.injEq] at e; omega)
  exact ⟨v', w', r1, by rw [encP_append]; exact r2, r3, r4⟩

theorem append_none (w : World) (a : Addr) (n c : Nat) (h : n ≤ c) : (Builtin.append_ #[29, 29] 29 #[.slice (some a) n c, .slice none 0 0]).run Try.prog w = .ok (.slice (some a) n c) w := by
  simp [Builtin.append_, go_sem]
  intro h2; omega

/-- an empty row that is there. -/
theorem row_empty (w : World) : (w.alloc (.cells #[] 56)).ownsRow 0 56 2 (.slice (some ⟨w.heap.size, 0, none⟩) 0 0) 0 (encP []) :=
  ⟨rfl, .inr ⟨w.heap.size, 0, #[], rfl, Nat.zero_le _, heap_alloc_new w _, Nat.le_refl _, by unfold maxLen; omega, rfl, rfl⟩⟩
theorem rowQ_slice {w : World} {v : Value} {n : Nat} {l : List Pr} (h : w.ownsRow 0 56 2 v n (encP l)) : ∃ a c, v = .slice a n c := by
  rcases h.2 with ⟨h1, h2⟩ | ⟨g, cap, cur, h1, _⟩
  · subst h2; exact ⟨_, _, h1⟩
  · exact ⟨_, _, h1⟩

theorem encP_fromQ {w : World} {g n cap : Nat} {l : List Pr} (h : QRow w (.slice (some ⟨g, 0, none⟩) n cap) l) (i : Nat) : ∀ j u, (encP (l.drop i))[j]? = some u → w.cell? ((⟨g, i * 2, none⟩ : Addr).add j) = some u := fun j u hj => by
  rw [← encP_drop, List.getElem?_drop] at hj
  have := World.ownsRow.cells h (g := g) rfl (i * 2 + j) u hj
  rw [Addr.add_lit] at this ⊢
  simpa using this

theorem encP_frontQ {w : World} {g n cap : Nat} {l : List Pr} (h : QRow w (.slice (some ⟨g, 0, none⟩) n cap) l) (i : Nat) : ∀ j u, (encP (l.take i))[j]? = some u → w.cell? ((⟨g, 0, none⟩ : Addr).add j) = some u := fun j u hj => by
  rw [← encP_take] at hj
  have hj2 : (encP l)[j]? = some u := by
    rw [List.getElem?_take] at hj
    split at hj
    · exact hj
    · cases hj
  exact World.ownsRow.cells h (g := g) rfl j u hj2

def RefPost (r : Nat) (w : World) (l' : List Pr) (w' : World) : Prop := ∃ v', RefM r w' v' l' ∧ Touch [r] w w' ∧ ∀ b, v'.ownBlock = some b → w.heap.size ≤ b

def putL (l : List Pr) (k : Int) (s : ByteArray) : List Pr := if hasB l k then setv l k s else ins l k s

theorem setv_eq {l : List Pr} (hs : Rising l) (k : Int) (s : ByteArray) (h : hasB l k = true) : l.take (pos l k) ++ (k, s) :: l.drop (pos l k + 1) = setv l k s := by
  obtain ⟨h1, h2, _⟩ := val_at hs h
  have e : l = l.take (pos l k) ++ [l[pos l k]] ++ l.drop (pos l k + 1) := by simp
  have hs2 := hs
  rw [e] at hs2
  have r := rising_append.1 hs2
  have q := setv_mid (A := l.take (pos l k)) (x := [l[pos l k]]) (B := l.drop (pos l k + 1)) (k := k) (pos_below hs k) (fun y hy => by
    have := r.2.2 (l[pos l k]) (List.mem_append.2 (.inr (List.mem_singleton.2 rfl))) y hy
    omega) s
  rw [← e] at q
  rw [q]
  simp [setv, h2]

theorem del_eq {l : List Pr} (hs : Rising l) (k : Int) (h : hasB l k = true) : l.take (pos l k) ++ l.drop (pos l k + 1) = del l k := by
  obtain ⟨h1, h2, _⟩ := val_at hs h
  have e : l = l.take (pos l k) ++ l[pos l k] :: l.drop (pos l k + 1) := by simp
  have hs2 := hs
  rw [e] at hs2
  have r := rising_append.1 hs2
  have q := del_mid1 (A := l.take (pos l k)) (m := l[pos l k]) (B := l.drop (pos l k + 1)) (k := k) (pos_below hs k) (fun y hy => by
    have := (rising_cons.1 r.2.1).1 y hy
    omega) h2
  rw [← e] at q
  exact q.symm

/-- the row that Put makes, ahead of its last part. -/
theorem put_front {w : World} (A : List Pr) (k : Int) (s : ByteArray) (a : Addr) (m c : Nat) (hm : A.length = m) (hb : m ≤ 1000000) (hc : ∀ j u, (encP A)[j]? = some u → w.cell? (a.add j) = some u) :
    ∃ a1 c1 W3 a2 c2 W4, (Builtin.append_ #[29, 29] 29 #[.slice (some ⟨w.heap.size, 0, none⟩) 0 0, .slice (some a) m c]).run Try.prog (w.alloc (.cells #[] 56)) = .ok (.slice a1 m c1) W3 ∧
      (Builtin.append_ #[29, 29] 29 #[.slice a1 m c1, .slice (some ⟨W3.heap.size, 0, none⟩) 1 1]).run Try.prog (W3.alloc (.cells #[.int .i64 k, .string s] 56)) = .ok (.slice a2 (m + 1) c2) W4 ∧
      W4.ownsRow 0 56 2 (.slice a2 (m + 1) c2) (m + 1) (encP (A ++ [(k, s)])) ∧ Touch [] w W3 ∧ Touch [] w W4 ∧ ∀ b, (Value.slice a2 (m + 1) c2).ownBlock = some b → w.heap.size ≤ b := by
  have hb0 := (Below.refl w.heap.size w).alloc (Nat.le_refl _) (.cells #[] 56)
  obtain ⟨v1, W3, r1, o1, g1, n1⟩ := appendQ (w.alloc (.cells #[] 56)) (.slice (some ⟨w.heap.size, 0, none⟩) 0 0) 0 [] A a m c rfl hm (row_empty w) (fun j u hj => by
    have h := hc j u hj
    exact (hb0.cell (World.block_lt_of_cell? w _ h)).trans h) (by omega)
  rw [Nat.zero_add, List.nil_append] at o1
  obtain ⟨a1, c1, rfl⟩ := rowQ_slice o1
  have T3 : Touch [] w W3 := ((Touch.refl [] w).alloc _).trans (Touch.of_grown g1) (fun x hx => .inr (by simp [Value.ownBlock] at hx; omega))
  have own1 : ∀ b, (Value.slice a1 m c1).ownBlock = some b → w.heap.size ≤ b := fun b hb => by
    rcases n1 b hb with e | e
    · have : w.heap.size = b := by simpa [Value.ownBlock] using e
      omega
    · simp at e; omega
  have o1' : (W3.alloc (.cells #[.int .i64 k, .string s] 56)).ownsRow 0 56 2 (.slice a1 m c1) m (encP A) := ownsRow_of_heap o1 fun b hb => Below.heap_alloc W3 _ b (World.ownsRow.lt o1 b hb).2
  obtain ⟨v2, W4, r2, o2, g2, n2⟩ := appendQ (W3.alloc (.cells #[.int .i64 k, .string s] 56)) (.slice a1 m c1) m A [(k, s)] ⟨W3.heap.size, 0, none⟩ 1 1 hm rfl o1' (fun j u hj => by
    rw [Addr.add_lit, Nat.zero_add, cell_of_row _ W3.heap.size j _ _ _ (heap_alloc_new W3 _)]
    simpa [encP] using hj) (by omega)
  obtain ⟨a2, c2, rfl⟩ := rowQ_slice o2
  have T4 : Touch [] w W4 := (T3.alloc _).trans (Touch.of_grown g2) (fun x hx => .inr (own1 x (by simpa using hx)))
  refine ⟨a1, c1, W3, a2, c2, W4, r1, r2, o2, T3, T4, fun b hb => ?_⟩
  rcases n2 b hb with e | e
  · exact own1 b e
  · have := T3.size; simp at e; omega
/-- the last part of the row, and the store. -/
theorem put_back {r : Nat} {w w1 W4 : World} {v : Value} {l B C : List Pr} {a2 : Option Addr} {n2 c2 : Nat} (H : RefM r w v l) (T1 : Touch [] w w1) (T4 : Touch [] w1 W4) (o2 : W4.ownsRow 0 56 2 (.slice a2 n2 c2) n2 (encP B)) (hB : B.length = n2) (ho : ∀ b, (Value.slice a2 n2 c2).ownBlock = some b → w1.heap.size ≤ b) (a : Addr) (m c : Nat) (hm : C.length = m) (hc : ∀ j u, (encP C)[j]? = some u → W4.cell? (a.add j) = some u) (hb : n2 + m ≤ 1000000) :
    ∃ a3 c3 W5, (Builtin.append_ #[29, 29] 29 #[.slice a2 n2 c2, .slice (some a) m c]).run Try.prog W4 = .ok (.slice a3 (n2 + m) c3) W5 ∧ W5.cell? ⟨r, 0, none⟩ = some v ∧ W5.frozen? ⟨r, 0, none⟩ = false ∧ RefPost r w (B ++ C) (W5.setCell ⟨r, 0, none⟩ (.slice a3 (n2 + m) c3)) := by
  obtain ⟨v3, W5, r3, o3, g3, n3⟩ := appendQ W4 (.slice a2 n2 c2) n2 B C a m c hB hm o2 hc (by omega)
  obtain ⟨a3, c3, rfl⟩ := rowQ_slice o3
  have own2 : ∀ b, (Value.slice a2 n2 c2).ownBlock = some b → w.heap.size ≤ b := fun b hb => Nat.le_trans T1.size (ho b hb)
  have T5 : Touch [] w W5 := (T1.trans T4 (by simp)).trans (Touch.of_grown g3) (fun x hx => .inr (own2 x (by simpa using hx)))
  have H5 := H.touch T5 (by simp)
  have own3 : ∀ b, (Value.slice a3 (n2 + m) c3).ownBlock = some b → w.heap.size ≤ b := fun b hb => by
    rcases n3 b hb with e | e
    · exact own2 b e
    · have := T4.size; have := T1.size; omega
  have rlt := H.lt r (by simp [RefM.bs])
  have hlen : (B ++ C).length = n2 + m := by simp; omega
  refine ⟨a3, c3, W5, r3, cell_of_row W5 r 0 _ _ _ H5.cell, by simp [World.frozen?, H5.cell], .slice a3 (n2 + m) c3, ⟨heap_setCell_same W5 r 0 _ _ _ H5.cell, ?_⟩, (T5.mono (G := [r]) (by simp)).setCell (q := ⟨r, 0, none⟩) (.inl (by simp)) _, own3⟩
  unfold QRow
  rw [hlen]
  exact ownsRow_of_heap o3 fun b hb => heap_setCell_other W5 _ b _ (fun e => by have := own3 b hb; have e2 : b = r := e; omega)

theorem RefPost.eq {r : Nat} {w w' : World} {l l' : List Pr} (h : RefPost r w l w') (e : l = l') : RefPost r w l' w' := e ▸ h
end Go.Proofs.Ytcboakmfabdeoaa

/- The reference's Put: the walk. -/
namespace Go.Proofs.Ytcboakmfabdeoaa
open Go.RowKit

def Held (p : Prop) : Prop := p
theorem Held.go {p : Prop} (h : Held p) : p := h

set_option maxHeartbeats 1000000 in
set_option maxRecDepth 100000 in
theorem rput_own (r : Nat) (w : World) (g cap : Nat) (l : List Pr) (k : Int) (s : ByteArray) (h : RefM r w (.slice (some ⟨g, 0, none⟩) l.length cap) l) (hc : l.length ≤ cap) (hs : Rising l) (hn : l.length ≤ 500000) :
    Calls Try.prog 22 #[.pointer (some ⟨r, 0, none⟩), .int .i64 k, .string s] w fun e w' => e = .returned (gotten l k) ∧ RefPost r w (putL l k s) w' := by
  have RG := Lib.hid (rget r w _ l k h hs (by omega))
  have RK : Hid (∀ W, Touch [] w W → Calls Try.prog 25 #[.pointer (some ⟨r, 0, none⟩), .int .i64 k] W fun e w' => e = .returned (.int .i64 (pos l k)) ∧ W = w') := Lib.hid (fun W hW => rrank r W _ l k (h.touch hW (by simp)) hs (by omega))
  have H := Lib.hid h
  have HS := Lib.hid hs
  have hle := pos_le l k
  clear h hs
  cases hb : hasB l k with
  | true =>
    have HB := Lib.hid hb
    obtain ⟨hlt, _, _⟩ := val_at HS.out hb
    have EQ := Lib.hid (setv_eq HS.out k s hb)
    clear hb
    have GT : Hid (gotten l k = .tuple #[.string (valOf l k), .bool true]) := Lib.hid (by simp [gotten, HB.out])
    rw [GT.out] at RG
    go_enter Try.func22, Try.ntmps22
    go_wp2_with fail
    refine RG.out.mono ?_
    rintro e w1 ⟨rfl, T1⟩
    have h1 := H.out.touch T1 (by simp)
    have HT1 := Lib.hid T1
    have H1 := Lib.hid h1
    have c0 : w1.cell? ⟨r, 0, none⟩ = some (.slice (some ⟨g, 0, none⟩) l.length cap) := cell_of_row w1 r 0 _ _ _ h1.cell
    have rlt : r < w1.heap.size := h1.lt r (by simp [RefM.bs])
    clear T1 h1
    go_wp2_with fail
    refine (RK.out _ HT1.out).mono ?_
    rintro e w2 ⟨rfl, rfl⟩
    obtain ⟨a1, c1, W3, a2, c2, W4, r1, r2, o2, T3, T4, n2⟩ := put_front (w := w1) (l.take (pos l k)) k s ⟨g, 0, none⟩ (pos l k) cap (by rw [List.length_take]; omega) (by omega) (encP_frontQ H1.out.row _)
    have R1 := Lib.hid r1
    have R2 := Lib.hid r2
    clear r1 r2 RK
    generalize hpos : pos l k = i at *
    have POS := Lib.hid hpos
    clear hpos
    have rlt3 : r < W3.heap.size := by have := T3.size; omega
    have h4 := H1.out.touch T4 (by simp)
    have c4 : W4.cell? ⟨r, 0, none⟩ = some (.slice (some ⟨g, 0, none⟩) l.length cap) := cell_of_row W4 r 0 _ _ _ h4.cell
    have BACK : ∀ a : Addr, (∀ j u, (encP (l.drop (i + 1)))[j]? = some u → W4.cell? (a.add j) = some u) → ∃ a3 c3 W5, (Builtin.append_ #[29, 29] 29 #[.slice a2 (i + 1) c2, .slice (some a) (l.length - (i + 1)) (cap - (i + 1))]).run Try.prog W4 = .ok (.slice a3 (i + 1 + (l.length - (i + 1))) c3) W5 ∧ W5.cell? ⟨r, 0, none⟩ = some (.slice (some ⟨g, 0, none⟩) l.length cap) ∧ W5.frozen? ⟨r, 0, none⟩ = false ∧ Hid (RefPost r w (putL l k s) (W5.setCell ⟨r, 0, none⟩ (.slice a3 (i + 1 + (l.length - (i + 1))) c3))) := fun a ha => by
      obtain ⟨a3, c3, W5, q1, q2, q3, q4⟩ := put_back (C := l.drop (i + 1)) H.out HT1.out T4 o2 (by rw [List.length_append, List.length_take]; simp; omega) n2 a (l.length - (i + 1)) (cap - (i + 1)) (by rw [List.length_drop]) ha (by omega)
      refine ⟨a3, c3, W5, q1, q2, q3, Lib.hid (q4.eq ?_)⟩
      rw [putL, HB.out, List.append_assoc]
      exact EQ.out
    by_cases hcap : (i + 1) < cap
    · obtain ⟨a3, c3, W5, r3, d0, d1, FIN⟩ := BACK ⟨g, (i + 1) * 2, none⟩ (encP_fromQ h4.row _)
      have R3 := Lib.hid r3
      clear o2 T3 T4 n2 BACK r3 h4 HT1 H1 H
      go_wp2_with (at_builtin; refine Held.go ?_)
      unfold Held
      refine Lib.wpList_append_run _ rfl _ _ 29 29 rfl _ _ rfl rfl _ _ R1.out ?_
      go_wp2_with (at_builtin; refine Held.go ?_)
      unfold Held
      refine Lib.wpList_append_run _ rfl _ _ 29 29 rfl _ _ rfl rfl _ _ R2.out ?_
      go_wp2_with (at_builtin; refine Held.go ?_)
      unfold Held
      refine Lib.wpList_append_run _ rfl _ _ 29 29 rfl _ _ rfl rfl _ _ R3.out ?_
      go_wp2
      go_ret2
      exact ⟨GT.out.symm ▸ rfl, FIN.out⟩
    · have hc2 : cap = (i + 1) := by omega
      obtain ⟨a3, c3, W5, r3, d0, d1, FIN⟩ := BACK ⟨g, 0, none⟩ (by
        rw [List.drop_eq_nil_of_le (by omega)]
        intro j u hj
        simp [encP] at hj)
      have R3 := Lib.hid r3
      clear o2 T3 T4 n2 BACK r3 h4 HT1 H1 H
      have hc3 : ¬ (cap < l.length) := by omega
      go_wp2_with (at_builtin; refine Held.go ?_)
      unfold Held
      refine Lib.wpList_append_run _ rfl _ _ 29 29 rfl _ _ rfl rfl _ _ R1.out ?_
      go_wp2_with (at_builtin; refine Held.go ?_)
      unfold Held
      refine Lib.wpList_append_run _ rfl _ _ 29 29 rfl _ _ rfl rfl _ _ R2.out ?_
      go_wp2_with (at_builtin; refine Held.go ?_)
      unfold Held
      refine Lib.wpList_append_run _ rfl _ _ 29 29 rfl _ _ rfl rfl _ _ R3.out ?_
      go_wp2
      go_ret2
      exact ⟨GT.out.symm ▸ rfl, FIN.out⟩
  | false =>
    have HB := Lib.hid hb
    have hlt : True := trivial
    have EQ := Lib.hid (ins_eq HS.out k s hb)
    clear hb
    have GT : Hid (gotten l k = .tuple #[.string ⟨#[]⟩, .bool false]) := Lib.hid (by simp [gotten, HB.out])
    rw [GT.out] at RG
    go_enter Try.func22, Try.ntmps22
    go_wp2_with fail
    refine RG.out.mono ?_
    rintro e w1 ⟨rfl, T1⟩
    have h1 := H.out.touch T1 (by simp)
    have HT1 := Lib.hid T1
    have H1 := Lib.hid h1
    have c0 : w1.cell? ⟨r, 0, none⟩ = some (.slice (some ⟨g, 0, none⟩) l.length cap) := cell_of_row w1 r 0 _ _ _ h1.cell
    have rlt : r < w1.heap.size := h1.lt r (by simp [RefM.bs])
    clear T1 h1
    go_wp2_with fail
    refine (RK.out _ HT1.out).mono ?_
    rintro e w2 ⟨rfl, rfl⟩
    obtain ⟨a1, c1, W3, a2, c2, W4, r1, r2, o2, T3, T4, n2⟩ := put_front (w := w1) (l.take (pos l k)) k s ⟨g, 0, none⟩ (pos l k) cap (by rw [List.length_take]; omega) (by omega) (encP_frontQ H1.out.row _)
    have R1 := Lib.hid r1
    have R2 := Lib.hid r2
    clear r1 r2 RK
    generalize hpos : pos l k = i at *
    have POS := Lib.hid hpos
    clear hpos
    have rlt3 : r < W3.heap.size := by have := T3.size; omega
    have h4 := H1.out.touch T4 (by simp)
    have c4 : W4.cell? ⟨r, 0, none⟩ = some (.slice (some ⟨g, 0, none⟩) l.length cap) := cell_of_row W4 r 0 _ _ _ h4.cell
    have BACK : ∀ a : Addr, (∀ j u, (encP (l.drop i))[j]? = some u → W4.cell? (a.add j) = some u) → ∃ a3 c3 W5, (Builtin.append_ #[29, 29] 29 #[.slice a2 (i + 1) c2, .slice (some a) (l.length - i) (cap - i)]).run Try.prog W4 = .ok (.slice a3 (i + 1 + (l.length - i)) c3) W5 ∧ W5.cell? ⟨r, 0, none⟩ = some (.slice (some ⟨g, 0, none⟩) l.length cap) ∧ W5.frozen? ⟨r, 0, none⟩ = false ∧ Hid (RefPost r w (putL l k s) (W5.setCell ⟨r, 0, none⟩ (.slice a3 (i + 1 + (l.length - i)) c3))) := fun a ha => by
      obtain ⟨a3, c3, W5, q1, q2, q3, q4⟩ := put_back (C := l.drop i) H.out HT1.out T4 o2 (by rw [List.length_append, List.length_take]; simp; omega) n2 a (l.length - i) (cap - i) (by rw [List.length_drop]) ha (by omega)
      refine ⟨a3, c3, W5, q1, q2, q3, Lib.hid (q4.eq ?_)⟩
      rw [putL, HB.out, List.append_assoc]
      exact EQ.out
    by_cases hcap : i < cap
    · obtain ⟨a3, c3, W5, r3, d0, d1, FIN⟩ := BACK ⟨g, i * 2, none⟩ (encP_fromQ h4.row _)
      have R3 := Lib.hid r3
      clear o2 T3 T4 n2 BACK r3 h4 HT1 H1 H
      go_wp2_with (at_builtin; refine Held.go ?_)
      unfold Held
      refine Lib.wpList_append_run _ rfl _ _ 29 29 rfl _ _ rfl rfl _ _ R1.out ?_
      go_wp2_with (at_builtin; refine Held.go ?_)
      unfold Held
      refine Lib.wpList_append_run _ rfl _ _ 29 29 rfl _ _ rfl rfl _ _ R2.out ?_
      go_wp2_with (at_builtin; refine Held.go ?_)
      unfold Held
      refine Lib.wpList_append_run _ rfl _ _ 29 29 rfl _ _ rfl rfl _ _ R3.out ?_
      go_wp2
      go_ret2
      exact ⟨GT.out.symm ▸ rfl, FIN.out⟩
    · have hc2 : cap = i := by omega
      obtain ⟨a3, c3, W5, r3, d0, d1, FIN⟩ := BACK ⟨g, 0, none⟩ (by
        rw [List.drop_eq_nil_of_le (by omega)]
        intro j u hj
        simp [encP] at hj)
      have R3 := Lib.hid r3
      clear o2 T3 T4 n2 BACK r3 h4 HT1 H1 H
      have hc3 : ¬ (cap < l.length) := by omega
      go_wp2_with (at_builtin; refine Held.go ?_)
      unfold Held
      refine Lib.wpList_append_run _ rfl _ _ 29 29 rfl _ _ rfl rfl _ _ R1.out ?_
      go_wp2_with (at_builtin; refine Held.go ?_)
      unfold Held
      refine Lib.wpList_append_run _ rfl _ _ 29 29 rfl _ _ rfl rfl _ _ R2.out ?_
      go_wp2_with (at_builtin; refine Held.go ?_)
      unfold Held
      refine Lib.wpList_append_run _ rfl _ _ 29 29 rfl _ _ rfl rfl _ _ R3.out ?_
      go_wp2
      go_ret2
      exact ⟨GT.out.symm ▸ rfl, FIN.out⟩
end Go.Proofs.Ytcboakmfabdeoaa

/- The reference's Put on an empty list; Drop. -/
namespace Go.Proofs.Ytcboakmfabdeoaa
open Go.RowKit

/-- the row that the first Put makes. -/
theorem put_first {r : Nat} {w w1 : World} (k : Int) (s : ByteArray) (H : RefM r w (.slice none 0 0) []) (T1 : Touch [] w w1) :
    ∃ g2 c2 W4, (Builtin.append_ #[29, 29] 29 #[.slice (some ⟨w1.heap.size, 0, none⟩) 0 0, .slice (some ⟨w1.heap.size + 1, 0, none⟩) 1 1]).run Try.prog ((w1.alloc (.cells #[] 56)).alloc (.cells #[.int .i64 k, .string s] 56)) = .ok (.slice (some ⟨g2, 0, none⟩) 1 c2) W4 ∧ 1 ≤ c2 ∧
      W4.cell? ⟨r, 0, none⟩ = some (.slice none 0 0) ∧ W4.frozen? ⟨r, 0, none⟩ = false ∧ RefPost r w [(k, s)] (W4.setCell ⟨r, 0, none⟩ (.slice (some ⟨g2, 0, none⟩) 1 c2)) := by
  have o1 : ((w1.alloc (.cells #[] 56)).alloc (.cells #[.int .i64 k, .string s] 56)).ownsRow 0 56 2 (.slice (some ⟨w1.heap.size, 0, none⟩) 0 0) 0 (encP []) := ownsRow_of_heap (row_empty w1) fun b hb => Below.heap_alloc _ _ b (World.ownsRow.lt (row_empty w1) b hb).2
  obtain ⟨v2, W4, r2, o2, g2, n2⟩ := appendQ ((w1.alloc (.cells #[] 56)).alloc (.cells #[.int .i64 k, .string s] 56)) (.slice (some ⟨w1.heap.size, 0, none⟩) 0 0) 0 [] [(k, s)] ⟨(w1.alloc (.cells #[] 56)).heap.size, 0, none⟩ 1 1 rfl rfl o1 (fun j u hj => by
    rw [Addr.add_lit, Nat.zero_add, cell_of_row _ _ j _ _ _ (heap_alloc_new (w1.alloc (.cells #[] 56)) _)]
    simpa [encP] using hj) (by omega)
  have hsz : (w1.alloc (.cells #[] 56)).heap.size = w1.heap.size + 1 := by simp
  rw [hsz] at r2
  have T4 : Touch [] w W4 := (((T1.alloc _).alloc _)).trans (Touch.of_grown g2) (fun x hx => .inr (by have := T1.size; simp [Value.ownBlock] at hx; omega))
  obtain ⟨a, c, e⟩ : ∃ g c, v2 = .slice (some ⟨g, 0, none⟩) 1 c ∧ 1 ≤ c := by
    rcases o2.2 with ⟨_, h⟩ | ⟨g, cap, cur, h1, _, _, h3, _⟩
    · simp at h
    · exact ⟨g, cap, h1, h3⟩
  obtain ⟨rfl, hc⟩ := e
  have H4 := H.touch T4 (by simp)
  have own : ∀ b, (Value.slice (some ⟨a, 0, none⟩) 1 c).ownBlock = some b → w.heap.size ≤ b := fun b hb => by
    have := T1.size
    rcases n2 b hb with e | e
    · have : w1.heap.size = b := by simpa [Value.ownBlock] using e
      omega
    · simp at e; omega
  have rlt := H.lt r (by simp [RefM.bs])
  refine ⟨a, c, W4, r2, hc, cell_of_row W4 r 0 _ _ _ H4.cell, by simp [World.frozen?, H4.cell], _, ⟨heap_setCell_same W4 r 0 _ _ _ H4.cell, ?_⟩, (T4.mono (G := [r]) (by simp)).setCell (q := ⟨r, 0, none⟩) (.inl (by simp)) _, own⟩
  exact ownsRow_of_heap o2 fun b hb => heap_setCell_other W4 _ b _ (fun e => by have := own b hb; have e2 : b = r := e; omega)

set_option maxHeartbeats 1000000 in
set_option maxRecDepth 100000 in
theorem rput_nil (r : Nat) (w : World) (k : Int) (s : ByteArray) (h : RefM r w (.slice none 0 0) []) :
    Calls Try.prog 22 #[.pointer (some ⟨r, 0, none⟩), .int .i64 k, .string s] w fun e w' => e = .returned (.tuple #[.string ⟨#[]⟩, .bool false]) ∧ RefPost r w [(k, s)] w' := by
  have RG : Hid (Calls Try.prog 24 #[.pointer (some ⟨r, 0, none⟩), .int .i64 k] w fun e w' => e = .returned (.tuple #[.string ⟨#[]⟩, .bool false]) ∧ Touch [] w w') := Lib.hid (by
    have := rget r w _ [] k h List.Pairwise.nil (by simp)
    simpa [gotten, hasB] using this)
  have RK : Hid (∀ W, Touch [] w W → Calls Try.prog 25 #[.pointer (some ⟨r, 0, none⟩), .int .i64 k] W fun e w' => e = .returned (.int .i64 0) ∧ W = w') := Lib.hid (fun W hW => by
    have := rrank r W _ [] k (h.touch hW (by simp)) List.Pairwise.nil (by simp)
    simpa [pos] using this)
  have H := Lib.hid h
  clear h
  go_enter Try.func22, Try.ntmps22
  go_wp2_with fail
  refine RG.out.mono ?_
  rintro e w1 ⟨rfl, T1⟩
  have h1 := H.out.touch T1 (by simp)
  have c0 : w1.cell? ⟨r, 0, none⟩ = some (.slice none 0 0) := cell_of_row w1 r 0 _ _ _ h1.cell
  have rlt : r < w1.heap.size := h1.lt r (by simp [RefM.bs])
  have HT1 := Lib.hid T1
  obtain ⟨g2, c2, W4, r2, hc2, d0, d1, P⟩ := put_first k s H.out T1
  have R1 := Lib.hid (append_none (w1.alloc (.cells #[] 56)) ⟨w1.heap.size, 0, none⟩ 0 0 (Nat.le_refl _))
  have R2 := Lib.hid r2
  have R3 := Lib.hid (append_none W4 ⟨g2, 0, none⟩ 1 c2 hc2)
  have FIN := Lib.hid P
  clear T1 h1 r2 P H
  go_wp2_with fail
  refine (RK.out _ HT1.out).mono ?_
  rintro e w2 ⟨rfl, rfl⟩
  clear RK HT1
  go_wp2_with (at_builtin; refine Held.go ?_)
  unfold Held
  refine Lib.wpList_append_run _ rfl _ _ 29 29 rfl _ _ rfl rfl _ _ R1.out ?_
  go_wp2_with (at_builtin; refine Held.go ?_)
  unfold Held
  refine Lib.wpList_append_run _ rfl _ _ 29 29 rfl _ _ rfl rfl _ _ R2.out ?_
  go_wp2_with (at_builtin; refine Held.go ?_)
  unfold Held
  refine Lib.wpList_append_run _ rfl _ _ 29 29 rfl _ _ rfl rfl _ _ R3.out ?_
  go_wp2
  go_ret2
  exact ⟨rfl, FIN.out⟩

theorem rput (r : Nat) (w : World) (v : Value) (l : List Pr) (k : Int) (s : ByteArray) (h : RefM r w v l) (hs : Rising l) (hn : l.length ≤ 500000) :
    Calls Try.prog 22 #[.pointer (some ⟨r, 0, none⟩), .int .i64 k, .string s] w fun e w' => e = .returned (gotten l k) ∧ RefPost r w (putL l k s) w' := by
  rcases h.row.cases with ⟨rfl, rfl⟩ | ⟨g, cap, cur, rfl, _, h3, _⟩
  · have := rput_nil r w k s h
    simpa [gotten, hasB, putL, ins] using this
  · exact rput_own r w g cap l k s h h3 hs hn
end Go.Proofs.Ytcboakmfabdeoaa

/- The reference's Drop. -/
namespace Go.Proofs.Ytcboakmfabdeoaa
open Go.RowKit

theorem drop_front {w : World} (A : List Pr) (a : Addr) (m c : Nat) (hm : A.length = m) (hb : m ≤ 1000000) (hc : ∀ j u, (encP A)[j]? = some u → w.cell? (a.add j) = some u) :
    ∃ a1 c1 W3, (Builtin.append_ #[29, 29] 29 #[.slice (some ⟨w.heap.size, 0, none⟩) 0 0, .slice (some a) m c]).run Try.prog (w.alloc (.cells #[] 56)) = .ok (.slice a1 m c1) W3 ∧
      W3.ownsRow 0 56 2 (.slice a1 m c1) m (encP A) ∧ Touch [] w W3 ∧ ∀ b, (Value.slice a1 m c1).ownBlock = some b → w.heap.size ≤ b := by
  have hb0 := (Below.refl w.heap.size w).alloc (Nat.le_refl _) (.cells #[] 56)
  obtain ⟨v1, W3, r1, o1, g1, n1⟩ := appendQ (w.alloc (.cells #[] 56)) (.slice (some ⟨w.heap.size, 0, none⟩) 0 0) 0 [] A a m c rfl hm (row_empty w) (fun j u hj => by
    have h := hc j u hj
    exact (hb0.cell (World.block_lt_of_cell? w _ h)).trans h) (by omega)
  rw [Nat.zero_add, List.nil_append] at o1
  obtain ⟨a1, c1, rfl⟩ := rowQ_slice o1
  have T3 : Touch [] w W3 := ((Touch.refl [] w).alloc _).trans (Touch.of_grown g1) (fun x hx => .inr (by simp [Value.ownBlock] at hx; omega))
  refine ⟨a1, c1, W3, r1, o1, T3, fun b hb => ?_⟩
  rcases n1 b hb with e | e
  · have : w.heap.size = b := by simpa [Value.ownBlock] using e
    omega
  · simp at e; omega

def RDropPost (r : Nat) (w : World) (v : Value) (l : List Pr) (k : Int) (w' : World) : Prop :=
  if hasB l k then RefPost r w (del l k) w' else RefM r w' v l ∧ Touch [] w w'

set_option maxHeartbeats 1000000 in
set_option maxRecDepth 100000 in
theorem rdrop (r : Nat) (w : World) (v : Value) (l : List Pr) (k : Int) (h : RefM r w v l) (hs : Rising l) (hn : l.length ≤ 500000) :
    Calls Try.prog 23 #[.pointer (some ⟨r, 0, none⟩), .int .i64 k] w fun e w' => e = .returned (gotten l k) ∧ RDropPost r w v l k w' := by
  have RG := Lib.hid (rget r w _ l k h hs (by omega))
  have RK : Hid (∀ W, Touch [] w W → Calls Try.prog 25 #[.pointer (some ⟨r, 0, none⟩), .int .i64 k] W fun e w' => e = .returned (.int .i64 (pos l k)) ∧ W = w') := Lib.hid (fun W hW => rrank r W _ l k (h.touch hW (by simp)) hs (by omega))
  have H := Lib.hid h
  have HS := Lib.hid hs
  have hle := pos_le l k
  cases hb : hasB l k with
  | false =>
    have HB := Lib.hid hb
    clear hb h hs
    have GT : Hid (gotten l k = .tuple #[.string ⟨#[]⟩, .bool false]) := Lib.hid (by simp [gotten, HB.out])
    rw [GT.out] at RG
    go_enter Try.func23, Try.ntmps23
    go_wp2_with fail
    refine RG.out.mono ?_
    rintro e w1 ⟨rfl, T1⟩
    have FIN : Hid (RDropPost r w v l k w1) := Lib.hid (by rw [RDropPost, HB.out]; exact ⟨H.out.touch T1 (by simp), T1⟩)
    clear T1
    go_wp2
    go_ret2
    exact ⟨GT.out.symm ▸ rfl, FIN.out⟩
  | true =>
    have HB := Lib.hid hb
    obtain ⟨hlt, _, _⟩ := val_at HS.out hb
    have EQ := Lib.hid (del_eq HS.out k hb)
    obtain ⟨g, cap, cur, rfl, _, hc, _⟩ : ∃ g cap cur, v = .slice (some ⟨g, 0, none⟩) l.length cap ∧ w.heap[g]? = some (.cells cur 56 (0, 0)) ∧ l.length ≤ cap ∧ True := by
      rcases h.row.cases with ⟨_, rfl⟩ | ⟨g, cap, cur, h1, h2, h3, _⟩
      · simp at hlt
      · exact ⟨g, cap, cur, h1, h2, h3, trivial⟩
    clear hb h hs
    have GT : Hid (gotten l k = .tuple #[.string (valOf l k), .bool true]) := Lib.hid (by simp [gotten, HB.out])
    rw [GT.out] at RG
    go_enter Try.func23, Try.ntmps23
    go_wp2_with fail
    refine RG.out.mono ?_
    rintro e w1 ⟨rfl, T1⟩
    have h1 := H.out.touch T1 (by simp)
    have HT1 := Lib.hid T1
    have H1 := Lib.hid h1
    have c0 : w1.cell? ⟨r, 0, none⟩ = some (.slice (some ⟨g, 0, none⟩) l.length cap) := cell_of_row w1 r 0 _ _ _ h1.cell
    have rlt : r < w1.heap.size := h1.lt r (by simp [RefM.bs])
    clear T1 h1
    go_wp2_with fail
    refine (RK.out _ HT1.out).mono ?_
    rintro e w2 ⟨rfl, rfl⟩
    obtain ⟨a1, c1, W3, r1, o1, T3, n1⟩ := drop_front (w := w1.drew) (l.take (pos l k)) ⟨g, 0, none⟩ (pos l k) cap (by rw [List.length_take]; omega) (by omega) (encP_frontQ (H1.out.touch ((Touch.refl [] w1).drew) (by simp)).row _)
    have R1 := Lib.hid r1
    clear r1 RK
    generalize hpos : pos l k = i at *
    have POS := Lib.hid hpos
    clear hpos
    have rlt3 : r < W3.heap.size := by have := T3.size; have e : w1.drew.heap.size = w1.heap.size := rfl; omega
    have h3 := (H1.out.touch ((Touch.refl [] w1).drew) (by simp)).touch T3 (by simp)
    have HT2 := Lib.hid (HT1.out.drew)
    have c3 : W3.cell? ⟨r, 0, none⟩ = some (.slice (some ⟨g, 0, none⟩) l.length cap) := cell_of_row W3 r 0 _ _ _ h3.cell
    have BACK : ∀ (a : Addr) (cz : Nat), (∀ j u, (encP (l.drop (i + 1)))[j]? = some u → W3.cell? (a.add j) = some u) → ∃ a3 c3 W5, (Builtin.append_ #[29, 29] 29 #[.slice a1 i c1, .slice (some a) (l.length - (i + 1)) cz]).run Try.prog W3 = .ok (.slice a3 (i + (l.length - (i + 1))) c3) W5 ∧ W5.cell? ⟨r, 0, none⟩ = some (.slice (some ⟨g, 0, none⟩) l.length cap) ∧ W5.frozen? ⟨r, 0, none⟩ = false ∧ Hid (RDropPost r w (.slice (some ⟨g, 0, none⟩) l.length cap) l k (W5.setCell ⟨r, 0, none⟩ (.slice a3 (i + (l.length - (i + 1))) c3))) := fun a cz ha => by
      obtain ⟨a3, c3, W5, q1, q2, q3, q4⟩ := put_back (C := l.drop (i + 1)) H.out HT2.out T3 o1 (by rw [List.length_take]; omega) n1 a (l.length - (i + 1)) cz (by rw [List.length_drop]) ha (by omega)
      refine ⟨a3, c3, W5, q1, q2, q3, Lib.hid ?_⟩
      rw [RDropPost, HB.out]
      exact q4.eq EQ.out
    by_cases hcap : (i + 1) < cap
    · have hne : ¬ (cap = i + 1) := by omega
      obtain ⟨a3, c5, W5, r3, d0, d1, FIN⟩ := BACK ⟨g, (i + 1) * 2, none⟩ (cap - (i + 1)) (encP_fromQ h3.row _)
      have R3 := Lib.hid r3
      clear o1 T3 n1 BACK r3 h3 HT1 HT2 H1 H
      go_wp2_with fail
      have x1 : IntKind.i64.wrap ((i : Int) + 1) = (i : Int) + 1 := IntWalk.i64_in _ (by omega)
      have x2 : 0 ≤ (i : Int) + 1 := by omega
      have x3 : ((i : Int) + 1).toNat = i + 1 := by omega
      have x4 : (i : Int) + 1 ≤ (l.length : Int) := by omega
      have x5 : i + 1 ≤ l.length := by omega
      have x6 : i ≤ cap := by omega
      have x7 : i + 1 ≤ cap := by omega
      have x8 : (i : Int) + 1 ≤ (cap : Int) := by omega
      go_region_law (first | (refine step_append_runI rfl _ _ 29 29 rfl _ _ ?h3 ?h4 R1.out ?_; (case h3 => rfl); (case h4 => rfl)) | (refine step_append_runI rfl _ _ 29 29 rfl _ _ ?h5 ?h6 R3.out ?_; (case h5 => rfl); (case h6 => rfl)))
      all_goals
        clear x1 x2 x3 x4 x5
        go_wp2
        go_ret2
        exact ⟨GT.out.symm ▸ rfl, FIN.out⟩
    · have hc2 : cap = i + 1 := by omega
      have hce : (cap = i + 1) = True := by simp [hc2]
      obtain ⟨a3, c5, W5, r3, d0, d1, FIN⟩ := BACK ⟨g, 0, none⟩ 0 (by
        rw [List.drop_eq_nil_of_le (by omega)]
        intro j u hj
        simp [encP] at hj)
      have HC2 := Lib.hid hc2
      have hc4 : cap ≤ i + 1 := by omega
      have hc5 : i + 1 ≤ cap := by omega
      clear hc2
      have R3 := Lib.hid r3
      clear o1 T3 n1 BACK r3 h3 HT1 HT2 H1 H
      go_wp2_with fail
      have x1 : IntKind.i64.wrap ((i : Int) + 1) = (i : Int) + 1 := IntWalk.i64_in _ (by omega)
      have x2 : 0 ≤ (i : Int) + 1 := by omega
      have x3 : ((i : Int) + 1).toNat = i + 1 := by omega
      have x4 : (i : Int) + 1 ≤ (l.length : Int) := by omega
      have x5 : i + 1 ≤ l.length := by omega
      have x6 : i ≤ cap := by omega
      have x7 : i + 1 ≤ cap := by omega
      have x8 : (i : Int) + 1 ≤ (cap : Int) := by omega
      go_region_law (first | (refine step_append_runI rfl _ _ 29 29 rfl _ _ ?h3 ?h4 R1.out ?_; (case h3 => rfl); (case h4 => rfl)) | (refine step_append_runI rfl _ _ 29 29 rfl _ _ ?h5 ?h6 R3.out ?_; (case h5 => rfl); (case h6 => rfl)))
      all_goals
        clear x1 x2 x3 x4 x5
        go_wp2
        go_ret2
        exact ⟨GT.out.symm ▸ rfl, FIN.out⟩
end Go.Proofs.Ytcboakmfabdeoaa

/- The reference's From. -/
namespace Go.Proofs.Ytcboakmfabdeoaa
open Go.RowKit

/-- pairs read from a place in a block. -/
def RowAt (w : World) (v : Value) (L : List Pr) : Prop :=
  ∃ a c, v = .slice a L.length c ∧ (L = [] ∨ ∃ g o, a = some ⟨g, o, none⟩) ∧ ∀ g o, a = some ⟨g, o, none⟩ → ∀ j, (h : j < L.length) → w.cell? ⟨g, o + j * 2, none⟩ = some (.int .i64 L[j].1) ∧ w.cell? ⟨g, o + j * 2 + 1, none⟩ = some (.string L[j].2)

/-- how many are wanted. -/
def wanted (most : Int) : Nat := most.toNat

theorem rowP_from {w : World} {g : Nat} {l : List Pr} (h : RowP w g l) (i n : Nat) : ∀ j, (hj : j < ((l.drop i).take n).length) → w.cell? ⟨g, i * 2 + j * 2, none⟩ = some (.int .i64 ((l.drop i).take n)[j].1) ∧ w.cell? ⟨g, i * 2 + j * 2 + 1, none⟩ = some (.string ((l.drop i).take n)[j].2) := fun j hj => by
  have h1 : j < n ∧ i + j < l.length := by simp at hj; omega
  have := h (i + j) h1.2
  rw [List.getElem?_eq_getElem h1.2] at this
  simp only [Option.getD_some] at this
  rw [show (i + j) * 2 = i * 2 + j * 2 by omega] at this
  simpa using this

def FromPost (g i : Nat) (l : List Pr) (most : Int) (w : World) (e : Ending) (w' : World) : Prop :=
  ∃ a c, e = .returned (.slice (some a) ((l.drop i).take (wanted most)).length c) ∧ (((l.drop i).take (wanted most)) = [] ∨ a = ⟨g, i * 2, none⟩) ∧ Touch [] w w'

theorem fromPost_mk {g i : Nat} {l : List Pr} {most : Int} {w w' : World} (a : Addr) (n c : Nat) (hn : n = ((l.drop i).take (wanted most)).length) (ha : n = 0 ∨ a = ⟨g, i * 2, none⟩) (T : Touch [] w w') : FromPost g i l most w (.returned (.slice (some a) n c)) w' :=
  ⟨a, c, by rw [hn], ha.imp (fun e => List.eq_nil_of_length_eq_zero (by rw [← hn]; exact e)) id, T⟩

set_option maxHeartbeats 1000000 in
theorem rfrom_own (r : Nat) (w : World) (g cap : Nat) (l : List Pr) (k most : Int) (h : RefM r w (.slice (some ⟨g, 0, none⟩) l.length cap) l) (hc : l.length ≤ cap) (hs : Rising l) (hn : l.length ≤ 500000) :
    Calls Try.prog 26 #[.pointer (some ⟨r, 0, none⟩), .int .i64 k, .int .i64 most] w (FromPost g (pos l k) l most w) := by
  have RK : Hid (∀ W, W.heap = w.heap → Calls Try.prog 25 #[.pointer (some ⟨r, 0, none⟩), .int .i64 k] W fun e w' => e = .returned (.int .i64 (pos l k)) ∧ W = w') := Lib.hid (fun W hW => rrank r W _ l k ⟨by rw [hW]; exact h.cell, ownsRow_of_heap h.row fun b hb => by rw [hW]⟩ hs (by omega))
  have c0 : w.cell? ⟨r, 0, none⟩ = some (.slice (some ⟨g, 0, none⟩) l.length cap) := cell_of_row w r 0 _ _ _ h.cell
  have hle := pos_le l k
  clear h hs
  generalize pos l k = i at *
  have hlen : ((l.drop i).take (wanted most)).length = min most.toNat (l.length - i) := by simp [wanted]
  have HLEN := Lib.hid hlen
  clear hlen
  generalize hln : l.length = ln at *
  have LN := Lib.hid hln
  clear hln
  have x1 : i ≤ cap := by omega
  by_cases hcap : i < cap
  · have hne : ¬ (cap = i) := by omega
    by_cases hneg : most < 0
    · have hx : True := trivial
      go_enter Try.func26, Try.ntmps26
      go_wp2_with fail
      go_region_with (go_at_call 25; (with_reducible refine (RK.out _ ?_).mono ?_); rfl; rintro e w' ⟨rfl, rfl⟩)
      all_goals
        go_wp2
        all_goals
          go_ret
          first
            | exact fromPost_mk _ _ _ (by rw [HLEN.out]; omega) (.inr rfl) (Touch.refl [] w).drew
            | exact fromPost_mk _ _ _ (by rw [HLEN.out]; omega) (.inl (by omega)) (Touch.refl [] w).drew
    · obtain ⟨n, rfl⟩ : ∃ n : Nat, most = n := ⟨most.toNat, by omega⟩
      have hn0 : ¬ (n : Int) < 0 := by omega
      go_enter Try.func26, Try.ntmps26
      go_wp2_with fail
      go_region_with (go_at_call 25; (with_reducible refine (RK.out _ ?_).mono ?_); rfl; rintro e w' ⟨rfl, rfl⟩)
      all_goals
        go_wp2
        all_goals
          go_ret
          first
            | exact fromPost_mk _ _ _ (by rw [HLEN.out]; omega) (.inr rfl) (Touch.refl [] w).drew
            | exact fromPost_mk _ _ _ (by rw [HLEN.out]; omega) (.inl (by omega)) (Touch.refl [] w).drew
  · have hce : (cap = i) = True := by simp; omega
    have hz : ln - i = 0 := by omega
    have HZ := Lib.hid hz
    have hc3 : cap ≤ i := by omega
    have hln : ln ≤ i := by omega
    clear hz
    by_cases hneg : most < 0
    · have hx : True := trivial
      go_enter Try.func26, Try.ntmps26
      go_wp2_with fail
      go_region_with (go_at_call 25; (with_reducible refine (RK.out _ ?_).mono ?_); rfl; rintro e w' ⟨rfl, rfl⟩)
      all_goals
        go_wp2
        all_goals
          go_ret
          first
            | exact fromPost_mk _ _ _ (by rw [HLEN.out]; have := HZ.out; omega) (.inr rfl) (Touch.refl [] w).drew
            | exact fromPost_mk _ _ _ (by rw [HLEN.out]; have := HZ.out; omega) (.inl (by omega)) (Touch.refl [] w).drew
    · obtain ⟨n, rfl⟩ : ∃ n : Nat, most = n := ⟨most.toNat, by omega⟩
      have hn0 : ¬ (n : Int) < 0 := by omega
      go_enter Try.func26, Try.ntmps26
      go_wp2_with fail
      go_region_with (go_at_call 25; (with_reducible refine (RK.out _ ?_).mono ?_); rfl; rintro e w' ⟨rfl, rfl⟩)
      all_goals
        go_wp2
        all_goals
          go_ret
          first
            | exact fromPost_mk _ _ _ (by rw [HLEN.out]; have := HZ.out; omega) (.inr rfl) (Touch.refl [] w).drew
            | exact fromPost_mk _ _ _ (by rw [HLEN.out]; have := HZ.out; omega) (.inl (by omega)) (Touch.refl [] w).drew

set_option maxHeartbeats 1000000 in
theorem rfrom_nil (r : Nat) (w : World) (k most : Int) (h : RefM r w (.slice none 0 0) []) :
    Calls Try.prog 26 #[.pointer (some ⟨r, 0, none⟩), .int .i64 k, .int .i64 most] w fun e w' => e = .returned (.slice none 0 0) ∧ Touch [] w w' := by
  have RK : Hid (∀ W, W.heap = w.heap → Calls Try.prog 25 #[.pointer (some ⟨r, 0, none⟩), .int .i64 k] W fun e w' => e = .returned (.int .i64 0) ∧ W = w') := Lib.hid (fun W hW => by
    have := rrank r W _ [] k ⟨by rw [hW]; exact h.cell, World.ownsRow_nil _ _ _ _⟩ List.Pairwise.nil (by simp)
    simpa [pos] using this)
  have c0 : w.cell? ⟨r, 0, none⟩ = some (.slice none 0 0) := cell_of_row w r 0 _ _ _ h.cell
  clear h
  by_cases hneg : most < 0
  · go_enter Try.func26, Try.ntmps26
    go_wp2_with fail
    go_region_with (go_at_call 25; (with_reducible refine (RK.out _ ?_).mono ?_); rfl; rintro e w' ⟨rfl, rfl⟩)
    all_goals
      go_wp2
      all_goals
        go_ret
        exact ⟨rfl, (Touch.refl [] w).drew⟩
  · go_enter Try.func26, Try.ntmps26
    go_wp2_with fail
    go_region_with (go_at_call 25; (with_reducible refine (RK.out _ ?_).mono ?_); rfl; rintro e w' ⟨rfl, rfl⟩)
    all_goals
      go_wp2
      all_goals
        go_ret
        exact ⟨rfl, (Touch.refl [] w).drew⟩

theorem rfrom (r : Nat) (w : World) (v : Value) (l : List Pr) (k most : Int) (h : RefM r w v l) (hs : Rising l) (hn : l.length ≤ 500000) :
    Calls Try.prog 26 #[.pointer (some ⟨r, 0, none⟩), .int .i64 k, .int .i64 most] w fun e w' => ∃ v', e = .returned v' ∧ RowAt w v' ((l.drop (pos l k)).take (wanted most)) ∧ Touch [] w w' := by
  rcases h.row.cases with ⟨rfl, rfl⟩ | ⟨g, cap, cur, rfl, _, h3, _⟩
  · refine (rfrom_nil r w k most h).mono ?_
    rintro e w' ⟨rfl, T⟩
    exact ⟨_, rfl, ⟨none, 0, by simp, .inl (by simp), fun g o e => by cases e⟩, T⟩
  · refine (rfrom_own r w g cap l k most h h3 hs hn).mono ?_
    rintro e w' ⟨a, c, rfl, ha, T⟩
    refine ⟨_, rfl, ⟨some a, c, rfl, ha.imp id (fun e => ⟨_, _, by rw [e]⟩), ?_⟩, T⟩
    intro g' o e j hj
    rcases ha with e0 | e0
    · rw [e0] at hj; simp at hj
    · have e2 : (⟨g', o, none⟩ : Addr) = ⟨g, pos l k * 2, none⟩ := by rw [← e0]; simpa using e.symm
      simp at e2
      obtain ⟨rfl, rfl⟩ := e2
      exact rowP_from h.row.rowP _ _ j hj
end Go.Proofs.Ytcboakmfabdeoaa

/- Both maps side by side. -/
namespace Go.Proofs.Ytcboakmfabdeoaa
open Go.RowKit

theorem gotten_has {l : List Pr} {k : Int} (h : hasB l k = true) : gotten l k = .tuple #[.string (valOf l k), .bool true] := by simp [gotten, h]
theorem gotten_no {l : List Pr} {k : Int} (h : hasB l k = false) : gotten l k = .tuple #[.string ⟨#[]⟩, .bool false] := by simp [gotten, h]
theorem del_no {l : List Pr} {k : Int} (h : hasB l k = false) : del l k = l := by
  unfold del
  exact filter_all (fun p hp => by simpa using hasB_no.1 h p hp)

/-- a map is another one now: its blocks are old or new. -/
def TurnT (t m : Nat) (fp : List Nat) (l' : List Pr) (w w' : World) : Prop := ∃ rp' fp', TreeM t m w' l' rp' fp' ∧ Touch (m :: fp) w w' ∧ ∀ b ∈ fp', b ∈ fp ∨ w.heap.size ≤ b

theorem TreeM.put {t m : Nat} {w : World} {l : List Pr} {rp : Option Addr} {fp : List Nat} (h : TreeM t m w l rp fp) (k : Int) (s : ByteArray) (ht : 2 ≤ t) (ht2 : t ≤ 64) (hl : l.length ≤ 200000) :
    Calls Try.prog 16 #[.pointer (some ⟨m, 0, none⟩), .int .i64 k, .string s] w fun e w' => e = .returned (gotten l k) ∧ TurnT t m fp (putL l k s) w w' := by
  cases hb : hasB l k with
  | true =>
    refine (h.put_has k s (by omega) hb).mono ?_
    rintro e w' ⟨rfl, fp', h1, h2, h3⟩
    exact ⟨by rw [gotten_has hb], rp, fp', by rw [putL, hb]; exact h1, h3, fun b hb => .inl (h2.mem_iff.1 hb)⟩
  | false =>
    refine (h.put_new k s ht ht2 (by omega) hb).mono ?_
    rintro e w' ⟨rfl, rp', fp', h1, h2, h3⟩
    exact ⟨by rw [gotten_no hb], rp', fp', by rw [putL, hb]; exact h1, h2, h3⟩

theorem TreeM.drop {t m : Nat} {w : World} {l : List Pr} {rp : Option Addr} {fp : List Nat} (h : TreeM t m w l rp fp) (k : Int) (ht : 2 ≤ t) (ht2 : t ≤ 64) (hl : l.length ≤ 200000) :
    Calls Try.prog 17 #[.pointer (some ⟨m, 0, none⟩), .int .i64 k] w fun e w' => e = .returned (gotten l k) ∧ TurnT t m fp (del l k) w w' := by
  cases hb : hasB l k with
  | true =>
    refine (h.drop_has k ht ht2 hl hb).mono ?_
    rintro e w' ⟨rfl, rp', fp', h1, h2, h3⟩
    exact ⟨by rw [gotten_has hb], rp', fp', h1, h2, h3⟩
  | false =>
    refine (h.drop_none k (by omega) hb).mono ?_
    rintro e w' ⟨rfl, h1⟩
    exact ⟨by rw [gotten_no hb], rp, fp, by rw [del_no hb]; exact h.below h1, Touch.of_below h1 _, fun b hb => .inl hb⟩

/-- both maps hold l; G: their blocks. -/
def Both (t m r : Nat) (w : World) (l : List Pr) (G : List Nat) : Prop :=
  ∃ rp fp v, TreeM t m w l rp fp ∧ RefM r w v l ∧ (∀ b ∈ m :: fp, b ∉ RefM.bs r v) ∧ G = (m :: fp) ++ RefM.bs r v

theorem TreeM.lt {t m : Nat} {w : World} {l : List Pr} {rp : Option Addr} {fp : List Nat} (h : TreeM t m w l rp fp) : ∀ b ∈ m :: fp, b < w.heap.size := fun b hb => by
  rcases List.mem_cons.1 hb with rfl | hb
  · exact (Array.getElem?_eq_some_iff.1 h.cell).1
  · rcases h.root with ⟨_, _, rfl⟩ | ⟨hh, x, _, hx, _, rfl⟩
    · simp at hb
    · exact hx.lt b hb

theorem TreeM.touch {t m : Nat} {w w' : World} {l : List Pr} {rp : Option Addr} {fp F : List Nat} (h : TreeM t m w l rp fp) (T : Touch F w w') (hd : ∀ b ∈ m :: fp, b ∉ F) : TreeM t m w' l rp fp := by
  refine ⟨(T.block m (h.lt m (by simp)) (hd m (by simp))).trans h.cell, ?_, h.nodup, h.rising, ?_⟩
  · rcases h.root with h1 | ⟨hh, x, h1, h2, h3, h4⟩
    · exact .inl h1
    · exact .inr ⟨hh, x, h1, h2.touch T (fun b hb => hd b (by rw [← h4]; simp [hb])), h3, h4⟩
  · rcases h.root with ⟨h1, _⟩ | ⟨hh, x, h1, h2, h3, h4⟩
    · intro _ _ e _; rw [h1] at e; cases e
    · exact low_of h1 (h2.touch T (fun b hb => hd b (by rw [← h4]; simp [hb]))) (h.lowRoot h1 h2)

theorem Both.lt {t m r : Nat} {w : World} {l : List Pr} {G : List Nat} (h : Both t m r w l G) : ∀ b ∈ G, b < w.heap.size := by
  obtain ⟨rp, fp, v, h1, h2, _, rfl⟩ := h
  intro b hb
  rcases List.mem_append.1 hb with e | e
  · exact h1.lt b e
  · exact h2.lt b e

theorem Both.touch {t m r : Nat} {w w' : World} {l : List Pr} {G F : List Nat} (h : Both t m r w l G) (T : Touch F w w') (hd : ∀ b ∈ G, b ∉ F) : Both t m r w' l G := by
  obtain ⟨rp, fp, v, h1, h2, h3, rfl⟩ := h
  exact ⟨rp, fp, v, h1.touch T (fun b hb => hd b (List.mem_append.2 (.inl hb))), h2.touch T (fun b hb => hd b (List.mem_append.2 (.inr hb))), h3, rfl⟩

theorem Both.rising {t m r : Nat} {w : World} {l : List Pr} {G : List Nat} (h : Both t m r w l G) : Rising l := by
  obtain ⟨rp, fp, v, h1, _⟩ := h; exact h1.rising

/-- both have turned. -/
def TurnB (t m r : Nat) (G : List Nat) (l' : List Pr) (w w' : World) : Prop := ∃ G', Both t m r w' l' G' ∧ Touch G w w' ∧ ∀ b ∈ G', b ∈ G ∨ w.heap.size ≤ b

theorem TurnB.same {t m r : Nat} {w w' : World} {l : List Pr} {G : List Nat} (h : Both t m r w l G) (T : Touch [] w w') : TurnB t m r G l w w' :=
  ⟨G, h.touch T (by simp), T.mono (by simp), fun b hb => .inl hb⟩

/-- the tree's map has turned, then the reference's. -/
theorem both_step {t m r : Nat} {w w1 w2 : World} {l l' : List Pr} {rp : Option Addr} {fp : List Nat} {v : Value} (h1 : TreeM t m w l rp fp) (h2 : RefM r w v l) (h3 : ∀ b ∈ m :: fp, b ∉ RefM.bs r v) (A : TurnT t m fp l' w w1) (B : (RefPost r w1 l' w2) ∨ (RefM r w2 v l' ∧ Touch [] w1 w2)) :
    TurnB t m r ((m :: fp) ++ RefM.bs r v) l' w w2 := by
  obtain ⟨rp', fp', a1, a2, a3⟩ := A
  have hs := a2.size
  have rm : ∀ b ∈ m :: fp', b ∈ m :: fp ∨ w.heap.size ≤ b := fun b hb => by
    rcases List.mem_cons.1 hb with e | e
    · exact .inl (by simp [e])
    · rcases a3 b e with e | e
      · exact .inl (by simp [e])
      · exact .inr e
  have rlt := h2.lt
  rcases B with ⟨v', b1, b2, b3⟩ | ⟨b1, b2⟩
  · have hr : ∀ b ∈ m :: fp', b ∉ [r] := fun b hb e => by
      have e2 : b = r := by simpa using e
      have hrl := rlt r (by simp [RefM.bs])
      rcases rm b hb with e3 | e3
      · exact h3 b e3 (by simp [RefM.bs, e2])
      · omega
    refine ⟨(m :: fp') ++ RefM.bs r v', ⟨rp', fp', v', a1.touch b2 hr, b1, fun b hb hm => ?_, rfl⟩, ?_, fun b hb => ?_⟩
    · simp only [RefM.bs, List.mem_cons, Option.mem_toList] at hm
      rcases hm with e | e
      · exact hr b hb (by simp [e])
      · have := b3 b e
        have := a1.lt b hb
        omega
    · exact (a2.mono (G := (m :: fp) ++ RefM.bs r v) (fun b hb => .inl (List.mem_append.2 (.inl hb)))).trans b2 (fun b hb => .inl (by simp at hb; simp [RefM.bs, hb]))
    · rcases List.mem_append.1 hb with e | e
      · exact (rm b e).imp (fun e => List.mem_append.2 (.inl e)) id
      · simp only [RefM.bs, List.mem_cons, Option.mem_toList] at e
        rcases e with e | e
        · exact .inl (by simp [RefM.bs, e])
        · exact .inr (by have := b3 b e; omega)
  · refine ⟨(m :: fp') ++ RefM.bs r v, ⟨rp', fp', v, a1.touch b2 (by simp), b1, fun b hb hm => ?_, rfl⟩, ?_, fun b hb => ?_⟩
    · rcases rm b hb with e | e
      · exact h3 b e hm
      · have := rlt b hm; omega
    · exact (a2.mono (G := (m :: fp) ++ RefM.bs r v) (fun b hb => .inl (List.mem_append.2 (.inl hb)))).trans b2 (by simp)
    · rcases List.mem_append.1 hb with e | e
      · exact (rm b e).imp (fun e => List.mem_append.2 (.inl e)) id
      · exact .inl (List.mem_append.2 (.inr e))

/-- what a call makes of the list. -/
def doL (l : List Pr) (kind : Int) (k : Int) (s : ByteArray) : List Pr :=
  if kind = 1 then putL l k s else if kind = 2 then del l k else if kind = 3 then (if l = [] then l else del l ((l[(k % 18446744073709551616 % (l.length : Int)).toNat]?.getD (0, ByteArray.empty)).1)) else l

theorem putL_length (l : List Pr) (k : Int) (s : ByteArray) : (putL l k s).length ≤ l.length + 1 := by
  unfold putL
  split
  · rw [setv_length]; omega
  · rename_i h
    rw [ins_length s (by simpa using h)]; omega
theorem del_length_le (l : List Pr) (k : Int) : (del l k).length ≤ l.length := List.length_filter_le _ _
end Go.Proofs.Ytcboakmfabdeoaa

/- does: a call on both. -/
namespace Go.Proofs.Ytcboakmfabdeoaa
open Go.RowKit

/-- a call has been made on both, and both answered alike. -/
def DoesPost (t m r : Nat) (G : List Nat) (l : List Pr) (w : World) (e : Ending) (w' : World) : Prop :=
  e = .returned (.bool true) ∧ ∃ l', TurnB t m r G l' w w' ∧ l'.length ≤ l.length + 1

theorem TurnT.from {t m : Nat} {fp : List Nat} {l' : List Pr} {w0 w w' : World} (h : TurnT t m fp l' w w') (T : Touch [] w0 w) : TurnT t m fp l' w0 w' := by
  obtain ⟨rp', fp', a, b, c⟩ := h
  exact ⟨rp', fp', a, (T.mono (by simp)).trans b (fun x hx => .inl hx), fun x hx => (c x hx).imp id (fun e => Nat.le_trans T.size e)⟩

def KeyOf (s : Value) (W wc : World) : Prop := ∃ kk, s = .int .i64 kk ∧ Touch [] W wc

set_option maxHeartbeats 1000000 in
set_option maxRecDepth 100000 in
theorem does_any (t m r : Nat) (w : World) (l : List Pr) (G : List Nat) (kind k : Int) (s : ByteArray) (h : Both t m r w l G) (ht : 2 ≤ t) (ht2 : t ≤ 64) (hl : l.length ≤ 100000) :
    Calls Try.prog 9 #[.pointer (some ⟨m, 0, none⟩), .pointer (some ⟨r, 0, none⟩), .agg #[.int .i64 kind, .int .i64 k, .string s]] w (DoesPost t m r G l w) := by
  obtain ⟨rp, fp, v, h1, h2, h3, rfl⟩ := h
  have hs := h1.rising
  obtain ⟨W0, hW0⟩ : ∃ W0, W0 = w.alloc (.cells #[.int .i64 kind, .int .i64 k, .string s] 34) := ⟨_, rfl⟩
  have T0 : Touch [] w W0 := by rw [hW0]; exact (Touch.refl [] w).alloc _
  have PUT : Hid (∀ kk ss, Calls Try.prog 16 #[.pointer (some ⟨m, 0, none⟩), .int .i64 kk, .string ss] W0 fun e w' => e = .returned (gotten l kk) ∧ TurnT t m fp (putL l kk ss) W0 w') := Lib.hid (fun kk ss => (h1.touch T0 (by simp)).put kk ss ht ht2 (by omega))
  have DROP : Hid (∀ W kk, Touch [] W0 W → Calls Try.prog 17 #[.pointer (some ⟨m, 0, none⟩), .int .i64 kk] W fun e w' => e = .returned (gotten l kk) ∧ TurnT t m fp (del l kk) W w') := Lib.hid (fun W kk hW => ((h1.touch T0 (by simp)).touch hW (by simp)).drop kk ht ht2 (by omega))
  have bx : W0.heap[w.heap.size]? = some (.cells #[.int .i64 kind, .int .i64 k, .string s] 34 (0, 0)) := by rw [hW0]; exact heap_alloc_new w _
  have b0 : W0.cell? ⟨w.heap.size, 0, none⟩ = some (.int .i64 kind) := cell_of_row W0 _ 0 _ _ _ bx
  have b1 : W0.cell? ⟨w.heap.size, 1, none⟩ = some (.int .i64 k) := cell_of_row W0 _ 1 _ _ _ bx
  have b2 : W0.cell? ⟨w.heap.size, 2, none⟩ = some (.string s) := cell_of_row W0 _ 2 _ _ _ bx
  have c0 : W0.cell? ⟨r, 0, none⟩ = some v := cell_of_row W0 r 0 _ _ _ (h2.touch T0 (by simp)).cell
  have H1 := Lib.hid h1
  have H2 := Lib.hid h2
  have H3 := Lib.hid h3
  have HS := Lib.hid hs
  have HT0 := Lib.hid T0
  have BX := Lib.hid bx
  clear h1 h2 h3 hs T0 bx
  have KEEP : Hid (∀ W1 l', TurnT t m fp l' W0 W1 → W1.cell? ⟨w.heap.size, 0, none⟩ = some (.int .i64 kind) ∧ W1.cell? ⟨w.heap.size, 1, none⟩ = some (.int .i64 k) ∧ W1.cell? ⟨w.heap.size, 2, none⟩ = some (.string s)) := Lib.hid (fun W1 l' A => by
    obtain ⟨_, _, _, T, _⟩ := A
    have hn : w.heap.size ∉ m :: fp := fun e => by have := H1.out.lt _ e; omega
    exact ⟨cell_touch T b0 hn, cell_touch T b1 hn, cell_touch T b2 hn⟩)
  have R0 := H2.out.touch HT0.out (by simp)
  have REF : Hid (∀ W1 l', TurnT t m fp l' W0 W1 → RefM r W1 v l) := Lib.hid (fun W1 l' A => by
    obtain ⟨_, _, _, T, _⟩ := A
    exact R0.touch T (fun b hb e => H3.out b e hb))
  have FROM : Hid (∀ W1 W2 l', TurnT t m fp l' W0 W1 → (RefPost r W1 l' W2 ∨ (RefM r W2 v l' ∧ Touch [] W1 W2)) → TurnB t m r ((m :: fp) ++ RefM.bs r v) l' w W2) := Lib.hid (fun W1 W2 l' A B => by
    obtain ⟨G', g1, g2, g3⟩ := both_step (H1.out.touch HT0.out (by simp)) R0 H3.out A B
    exact ⟨G', g1, (HT0.out.mono (by simp)).trans g2 (fun b hb => .inl hb), fun b hb => (g3 b hb).imp id (fun e => Nat.le_trans HT0.out.size e)⟩)
  clear R0
  by_cases k1 : kind = 1
  · subst k1
    have P1 := PUT.out k s
    have P2 : ∀ W1, TurnT t m fp (putL l k s) W0 W1 → Calls Try.prog 22 #[.pointer (some ⟨r, 0, none⟩), .int .i64 k, .string s] W1 fun e w' => e = .returned (gotten l k) ∧ RefPost r W1 (putL l k s) w' := fun W1 A => rput r W1 v l k s (REF.out W1 _ A) HS.out (by omega)
    clear PUT DROP
    have hgt : gotten l k = gotten l k := rfl
    cases hb : hasB l k with
    | true =>
      have HB := Lib.hid hb
      clear hb
      have GT : Hid (gotten l k = .tuple #[.string (valOf l k), .bool true]) := Lib.hid (gotten_has HB.out)
      rw [GT.out] at P1
      simp only [GT.out] at P2
      have PUT := Lib.hid P1
      have RPUT := Lib.hid P2
      clear P1 P2 hgt
      go_enter Try.func9, Try.ntmps9
      go_wp2_with fail
      rw [← hW0]
      clear hW0
      go_wp2_with fail
      refine PUT.out.mono ?_
      rintro e W1 ⟨rfl, A⟩
      have A1 := Lib.hid A
      obtain ⟨d0, d1, d2⟩ := KEEP.out W1 _ A
      clear A b0 b1 b2 c0
      go_wp2_with fail
      refine (RPUT.out W1 A1.out).mono ?_
      rintro e W2 ⟨rfl, B⟩
      have FIN : Hid (TurnB t m r ((m :: fp) ++ RefM.bs r v) (putL l k s) w W2) := Lib.hid (FROM.out _ _ _ A1.out (.inl B))
      clear B d0 d1 d2
      go_wp2
      all_goals
        go_ret
        exact ⟨rfl, _, FIN.out, putL_length l k s⟩
    | false =>
      have HB := Lib.hid hb
      clear hb
      have GT : Hid (gotten l k = .tuple #[.string ⟨#[]⟩, .bool false]) := Lib.hid (gotten_no HB.out)
      rw [GT.out] at P1
      simp only [GT.out] at P2
      have PUT := Lib.hid P1
      have RPUT := Lib.hid P2
      clear P1 P2 hgt
      go_enter Try.func9, Try.ntmps9
      go_wp2_with fail
      rw [← hW0]
      clear hW0
      go_wp2_with fail
      refine PUT.out.mono ?_
      rintro e W1 ⟨rfl, A⟩
      have A1 := Lib.hid A
      obtain ⟨d0, d1, d2⟩ := KEEP.out W1 _ A
      clear A b0 b1 b2 c0
      go_wp2_with fail
      refine (RPUT.out W1 A1.out).mono ?_
      rintro e W2 ⟨rfl, B⟩
      have FIN : Hid (TurnB t m r ((m :: fp) ++ RefM.bs r v) (putL l k s) w W2) := Lib.hid (FROM.out _ _ _ A1.out (.inl B))
      clear B d0 d1 d2
      go_wp2
      all_goals
        go_ret
        exact ⟨rfl, _, FIN.out, putL_length l k s⟩
  · by_cases k2 : kind = 2
    · subst k2
      have P1 := DROP.out W0 k (Touch.refl _ _)
      have P2 : ∀ W1, TurnT t m fp (del l k) W0 W1 → Calls Try.prog 23 #[.pointer (some ⟨r, 0, none⟩), .int .i64 k] W1 fun e w' => e = .returned (gotten l k) ∧ RDropPost r W1 v l k w' := fun W1 A => rdrop r W1 v l k (REF.out W1 _ A) HS.out (by omega)
      clear PUT DROP k1
      cases hb : hasB l k with
      | true =>
        have HB := Lib.hid hb
        clear hb
        have GT : Hid (gotten l k = .tuple #[.string (valOf l k), .bool true]) := Lib.hid (gotten_has HB.out)
        rw [GT.out] at P1
        simp only [GT.out] at P2
        have DR := Lib.hid P1
        have RDR := Lib.hid P2
        clear P1 P2
        go_enter Try.func9, Try.ntmps9
        go_wp2_with fail
        rw [← hW0]
        clear hW0
        go_wp2_with fail
        refine DR.out.mono ?_
        rintro e W1 ⟨rfl, A⟩
        have A1 := Lib.hid A
        obtain ⟨d0, d1, d2⟩ := KEEP.out W1 _ A
        clear A b0 b1 b2 c0
        go_wp2_with fail
        refine (RDR.out W1 A1.out).mono ?_
        rintro e W2 ⟨rfl, B⟩
        have FIN : Hid (TurnB t m r ((m :: fp) ++ RefM.bs r v) (del l k) w W2) := Lib.hid (FROM.out _ _ _ A1.out (by
          unfold RDropPost at B
          rw [HB.out] at B
          exact .inl B))
        clear B d0 d1 d2
        go_wp2
        all_goals
          go_ret
          exact ⟨rfl, _, FIN.out, Nat.le_succ_of_le (del_length_le l k)⟩
      | false =>
        have HB := Lib.hid hb
        clear hb
        have GT : Hid (gotten l k = .tuple #[.string ⟨#[]⟩, .bool false]) := Lib.hid (gotten_no HB.out)
        rw [GT.out] at P1
        simp only [GT.out] at P2
        have DR := Lib.hid P1
        have RDR := Lib.hid P2
        clear P1 P2
        go_enter Try.func9, Try.ntmps9
        go_wp2_with fail
        rw [← hW0]
        clear hW0
        go_wp2_with fail
        refine DR.out.mono ?_
        rintro e W1 ⟨rfl, A⟩
        have A1 := Lib.hid A
        obtain ⟨d0, d1, d2⟩ := KEEP.out W1 _ A
        clear A b0 b1 b2 c0
        go_wp2_with fail
        refine (RDR.out W1 A1.out).mono ?_
        rintro e W2 ⟨rfl, B⟩
        have FIN : Hid (TurnB t m r ((m :: fp) ++ RefM.bs r v) (del l k) w W2) := Lib.hid (FROM.out _ _ _ A1.out (by
          unfold RDropPost at B
          rw [HB.out] at B
          exact .inr (by rw [del_no HB.out]; exact B)))
        clear B d0 d1 d2
        go_wp2
        all_goals
          go_ret
          exact ⟨rfl, _, FIN.out, Nat.le_succ_of_le (del_length_le l k)⟩
    · by_cases k3 : kind = 3
      · subst k3
        clear PUT k1 k2
        rcases H2.out.row.cases with ⟨rfl, rfl⟩ | ⟨g, cap, cur, rfl, _, hcap, _⟩
        · have FIN : Hid (TurnB t m r ((m :: fp) ++ RefM.bs r (.slice none 0 0)) [] w W0) := Lib.hid (TurnB.same ⟨rp, fp, _, H1.out, H2.out, H3.out, rfl⟩ HT0.out)
          clear DROP
          have hw0 := hW0.symm
          clear hW0
          go_enter Try.func9, Try.ntmps9
          go_wp2
          all_goals
            go_ret
            exact ⟨rfl, _, FIN.out, by simp⟩
        · by_cases h0 : 0 < l.length
          · have h0' : ¬ l.length = 0 := by omega
            have RP := Lib.hid (QRow.rowP (H2.out.touch HT0.out (by simp)).row)
            obtain ⟨u, hu⟩ : ∃ u : Nat, IntKind.u64.wrap k = (u : Int) := ⟨(IntKind.u64.wrap k).toNat, by
              have : 0 ≤ IntKind.u64.wrap k := by simp [IntKind.wrap, IntKind.bits, IntKind.signed]; omega
              omega⟩
            obtain ⟨j, hj, hj1⟩ : ∃ j : Nat, u % l.length = j ∧ j < l.length := ⟨_, rfl, Nat.mod_lt _ h0⟩
            have x1 : IntKind.u64.wrap (l.length : Int) = (l.length : Int) := IntWalk.u64_in _ (by omega)
            have x2 : (u : Int) % (l.length : Int) = (j : Int) := by rw [← hj]; exact (Int.natCast_emod u l.length).symm
            have x3 : Int.tmod (u : Int) (l.length : Int) = (j : Int) := by rw [Int.tmod_eq_emod_of_nonneg (by omega)]; exact x2
            have x4 : IntKind.u64.wrap (j : Int) = (j : Int) := IntWalk.u64_in _ (by omega)
            have x5 : IntKind.i64.wrap (j : Int) = (j : Int) := IntWalk.i64_in _ (by omega)
            have x6 : ¬ (l.length : Int) = 0 := by omega
            have rc := (RP.out j hj1).1
            clear hj
            have hw0 := hW0.symm
            clear hW0
            go_enter Try.func9, Try.ntmps9
            go_wp2_with fail
            go_cut [7] (fun s7 wc => KeyOf s7 W0 wc)
            case first =>
              go_quiet (fail)
              go_wp2_with fail
              go_meet
              case rel => exact ⟨_, rfl, ⟨rfl, rfl, rfl, Nat.le_refl _, fun _ _ _ => rfl⟩⟩
            case rest =>
              obtain ⟨kk, rfl, TK0⟩ := hcut
              have TK := Lib.hid TK0
              have e0 := cell_touch TK0 b0 (by simp)
              have e1 := cell_touch TK0 b1 (by simp)
              have e2 := cell_touch TK0 b2 (by simp)
              have P1 := DROP.out wc kk TK0
              have P2 : ∀ W1, TurnT t m fp (del l kk) W0 W1 → Calls Try.prog 23 #[.pointer (some ⟨r, 0, none⟩), .int .i64 kk] W1 fun e w' => e = .returned (gotten l kk) ∧ RDropPost r W1 (.slice (some ⟨g, 0, none⟩) l.length cap) l kk w' := fun W1 A => rdrop r W1 _ l kk (REF.out W1 _ A) HS.out (by omega)
              clear DROP TK0 x1 x2 x3 x4 x5 x6 hu rc hw0
              cases hb : hasB l kk with
              | true =>
                have HB := Lib.hid hb
                clear hb
                have GT : Hid (gotten l kk = .tuple #[.string (valOf l kk), .bool true]) := Lib.hid (gotten_has HB.out)
                rw [GT.out] at P1
                simp only [GT.out] at P2
                have DR := Lib.hid P1
                have RDR := Lib.hid P2
                clear P1 P2
                go_wp2_with fail
                refine DR.out.mono ?_
                rintro e W1 ⟨rfl, A⟩
                have A1 := Lib.hid (A.from TK.out)
                obtain ⟨d0, d1, d2⟩ := KEEP.out W1 _ A1.out
                clear A b0 b1 b2 c0
                go_wp2_with fail
                refine (RDR.out W1 A1.out).mono ?_
                rintro e W2 ⟨rfl, B⟩
                have FIN : Hid (TurnB t m r ((m :: fp) ++ RefM.bs r (.slice (some ⟨g, 0, none⟩) l.length cap)) (del l kk) w W2) := Lib.hid (FROM.out _ _ _ A1.out (by
                  unfold RDropPost at B
                  rw [HB.out] at B
                  exact .inl B))
                clear B d0 d1 d2
                go_wp2
                all_goals
                  go_ret
                  exact ⟨rfl, _, FIN.out, Nat.le_succ_of_le (del_length_le l kk)⟩
              | false =>
                have HB := Lib.hid hb
                clear hb
                have GT : Hid (gotten l kk = .tuple #[.string ⟨#[]⟩, .bool false]) := Lib.hid (gotten_no HB.out)
                rw [GT.out] at P1
                simp only [GT.out] at P2
                have DR := Lib.hid P1
                have RDR := Lib.hid P2
                clear P1 P2
                go_wp2_with fail
                refine DR.out.mono ?_
                rintro e W1 ⟨rfl, A⟩
                have A1 := Lib.hid (A.from TK.out)
                obtain ⟨d0, d1, d2⟩ := KEEP.out W1 _ A1.out
                clear A b0 b1 b2 c0
                go_wp2_with fail
                refine (RDR.out W1 A1.out).mono ?_
                rintro e W2 ⟨rfl, B⟩
                have FIN : Hid (TurnB t m r ((m :: fp) ++ RefM.bs r (.slice (some ⟨g, 0, none⟩) l.length cap)) (del l kk) w W2) := Lib.hid (FROM.out _ _ _ A1.out (by
                  unfold RDropPost at B
                  rw [HB.out] at B
                  exact .inr (by rw [del_no HB.out]; exact B)))
                clear B d0 d1 d2
                go_wp2
                all_goals
                  go_ret
                  exact ⟨rfl, _, FIN.out, Nat.le_succ_of_le (del_length_le l kk)⟩
          · have e0 : l = [] := List.eq_nil_of_length_eq_zero (by omega)
            subst e0
            have FIN : Hid (TurnB t m r ((m :: fp) ++ RefM.bs r (.slice (some ⟨g, 0, none⟩) ([] : List Pr).length cap)) [] w W0) := Lib.hid (TurnB.same ⟨rp, fp, _, H1.out, H2.out, H3.out, rfl⟩ HT0.out)
            clear DROP
            have hw0 := hW0.symm
            clear hW0
            go_enter Try.func9, Try.ntmps9
            go_wp2
            all_goals
              go_ret
              exact ⟨rfl, _, FIN.out, by simp⟩
      · clear PUT DROP
        have FIN : Hid (TurnB t m r ((m :: fp) ++ RefM.bs r v) l w W0) := Lib.hid (TurnB.same ⟨rp, fp, v, H1.out, H2.out, H3.out, rfl⟩ HT0.out)
        go_enter Try.func9, Try.ntmps9
        go_wp2_with fail
        rw [← hW0]
        clear hW0
        go_wp2
        all_goals
          go_ret
          exact ⟨rfl, _, FIN.out, by omega⟩
end Go.Proofs.Ytcboakmfabdeoaa
