/- Maps whose tree is a leaf: Put of a new key. -/
import Derived.Test.YtcboakmfabdeoaaWf
import Derived.Deep.QuietTactic
import Derived.BigQuiet
namespace Go.Proofs.Ytcboakmfabdeoaa
open Go.RowKit

theorem find_nil (k : Int) (w : World) : Calls Try.prog 31 #[.pointer none, .int .i64 k] w fun e w' => e = .returned (.pointer none) ∧ w = w' := by
  go_enter Try.func31, Try.ntmps31
  go_wp2
  go_loopw [0] (fun s0 wr => s0 = .pointer none ∧ wr = w) (fun _ _ => 0)
  case atStart => exact ⟨rfl, rfl⟩
  case round =>
    obtain ⟨rfl, rfl⟩ := hrel
    go_wp2
    go_ret
    exact ⟨rfl, rfl⟩

theorem roomy_no (p n cap t : Nat) (a : Option Addr) (w : World) (h0 : w.cell? ⟨p, 0, none⟩ = some (.slice a n cap)) (hn : n ≤ 1000000) (ht : t ≤ 1000) (h : n + 1 < 2 * t) :
    Calls Try.prog 33 #[.pointer (some ⟨p, 0, none⟩), .int .i64 t] w fun e w' => e = .returned (.pointer (some ⟨p, 0, none⟩)) ∧ w = w' := by
  go_enter Try.func33, Try.ntmps33
  go_wp2_with (go_at_call 45; refine (full_no p n cap t a _ h0 hn ht h).mono ?_; rintro e w' ⟨rfl, rfl⟩)
  go_ret
  exact ⟨rfl, rfl⟩
/-- A map whose tree is a leaf, or nothing. -/
structure LeafM (t m : Nat) (w : World) (l : List Pr) (rp : Option Addr) (fp : List Nat) : Prop where
  cell : w.heap[m]? = some (.cells #[.int .i64 t, .pointer rp] 54 (0, 0))
  root : (rp = none ∧ l = [] ∧ fp = []) ∨ ∃ x : Kid, rp = some ⟨x.p, 0, none⟩ ∧ IsT t w 0 x ∧ x.l = l ∧ x.fp = fp
  nodup : (m :: fp).Nodup
  rising : Rising l

theorem LeafM.find {t m : Nat} {w : World} {l : List Pr} {rp : Option Addr} {fp : List Nat} (h : LeafM t m w l rp fp) (k : Int) (hn : l.length ≤ 1000) (hk : hasB l k = false) :
    Calls Try.prog 31 #[.pointer rp, .int .i64 k] w fun e w' => e = .returned (.pointer none) ∧ Below w.heap.size w w' := by
  rcases h.root with ⟨rfl, _⟩ | ⟨x, rfl, hx, rfl, rfl⟩
  · refine (find_nil k w).mono ?_
    rintro e w' ⟨rfl, rfl⟩
    exact ⟨rfl, Below.refl _ _⟩
  · refine (find_any t 0 x k w hx h.rising (List.nodup_cons.1 h.nodup).2 (by omega)).mono ?_
    rintro e w' ⟨h1, h2⟩
    refine ⟨?_, h2⟩
    rcases h1 with ⟨_, rfl⟩ | ⟨g, i, _, h3, _⟩
    · rfl
    · rw [hk] at h3; cases h3

theorem LeafM.below {t m : Nat} {w w' : World} {l : List Pr} {rp : Option Addr} {fp : List Nat} (h : LeafM t m w l rp fp) (hb : Below w.heap.size w w') : LeafM t m w' l rp fp := by
  refine ⟨(hb.block m (Array.getElem?_eq_some_iff.1 h.cell).1).trans h.cell, ?_, h.nodup, h.rising⟩
  rcases h.root with h1 | ⟨x, h1, h2, h3, h4⟩
  · exact .inl h1
  · exact .inr ⟨x, h1, h2.touch (Touch.of_below hb []) (by simp), h3, h4⟩

def PutMid (t m : Nat) (w : World) (l : List Pr) (fp : List Nat) (wc : World) : Prop :=
  ∃ x : Kid, wc.heap[m]? = some (.cells #[.int .i64 t, .pointer (some ⟨x.p, 0, none⟩)] 54 (0, 0)) ∧ IsT t wc 0 x ∧ x.l = l ∧ (m :: x.fp).Nodup ∧ Touch (m :: fp) w wc ∧ ∀ b ∈ x.fp, b ∈ fp ∨ w.heap.size ≤ b

set_option maxHeartbeats 1000000 in
set_option maxRecDepth 100000 in
theorem put_leaf (t m : Nat) (l : List Pr) (rp : Option Addr) (fp : List Nat) (k : Int) (s : ByteArray) (w : World) (hm : LeafM t m w l rp fp) (ht : 2 ≤ t) (ht2 : t ≤ 64) (hl : l.length + 1 < 2 * t) (hk : hasB l k = false) :
    Calls Try.prog 16 #[.pointer (some ⟨m, 0, none⟩), .int .i64 k, .string s] w fun e w' => e = .returned (.tuple #[.string ⟨#[]⟩, .bool false]) ∧
      ∃ rp' fp', LeafM t m w' (ins l k s) rp' fp' ∧ Touch (m :: fp) w w' ∧ ∀ b ∈ fp', b ∈ fp ∨ w.heap.size ≤ b := by
  have c1 : w.cell? ⟨m, 1, none⟩ = some (.pointer rp) := cell_of_row w m 1 _ _ _ hm.cell
  have HM := Lib.hid hm
  have HK := Lib.hid hk
  have nl : l.length ≤ 1000 := by omega
  clear hm hk
  have m_lt : m < w.heap.size := (Array.getElem?_eq_some_iff.1 HM.out.cell).1
  go_enter Try.func16, Try.ntmps16
  go_upto_if 35 with (go_at_call 31; refine (HM.out.find k nl HK.out).mono ?_; rintro e w1 ⟨rfl, hb1⟩; have m1 := HM.out.below hb1; have c1' : w1.cell? ⟨m, 1, none⟩ = some (.pointer rp) := cell_of_row w1 m 1 _ _ _ m1.cell; have M1 := Lib.hid m1; have B1 := Lib.hid hb1; clear m1 hb1)
  go_cut [] (fun wc => PutMid t m w l fp wc)
  case first =>
    have f1 : w1.frozen? ⟨m, 1, none⟩ = false := by simp [World.frozen?, M1.out.cell]
    have m_lt1 : m < w1.heap.size := (Array.getElem?_eq_some_iff.1 M1.out.cell).1
    have TB : Touch (m :: fp) w w1 := Touch.of_below B1.out _
    rcases M1.out.root with ⟨rfl, rfl, rfl⟩ | ⟨x, rfl, hx, rfl, rfl⟩
    · have hfin : PutMid t m w [] [] ((w1.setCell ⟨m, 1, none⟩ (.pointer (some ⟨w1.heap.size, 0, none⟩))).alloc (.cells #[.slice none 0 0, .slice none 0 0, .int .i64 0] 68)) := by
        have hsz : (w1.setCell ⟨m, 1, none⟩ (.pointer (some ⟨w1.heap.size, 0, none⟩))).heap.size = w1.heap.size := by simp
        refine ⟨⟨w1.heap.size, [], [w1.heap.size], 0⟩, ?_, ⟨.slice none 0 0, ?_, ?_, rfl, rfl⟩, rfl, ?_, (TB.setCell (.inl (by simp)) _).alloc _, ?_⟩
        · exact (Below.heap_alloc _ _ m (by rw [hsz]; exact m_lt1)).trans (heap_setCell_same _ m 1 _ _ _ M1.out.cell)
        · show _ = _
          have := heap_alloc_new (w1.setCell ⟨m, 1, none⟩ (.pointer (some ⟨w1.heap.size, 0, none⟩))) (.cells #[.slice none 0 0, .slice none 0 0, .int .i64 0] 68)
          rw [hsz] at this
          exact this
        · exact World.ownsRow_nil _ _ _ _
        · simp; omega
        · intro b hb; simp at hb; subst hb; exact .inr B1.out.size
      have FIN := Lib.hid hfin
      clear hfin
      go_wp2_with fail
      go_meet
      case rel => exact FIN.out
    · have hfin : PutMid t m w x.l x.fp w1 := ⟨x, M1.out.cell, hx, rfl, M1.out.nodup, TB, fun b hb => .inl hb⟩
      have FIN := Lib.hid hfin
      clear hfin hx
      go_wp2_with fail
      go_meet
      case rel => exact FIN.out
  case rest =>
    obtain ⟨x, hc, hx, hxl, hnd, hT, hfp⟩ := hcut
    have x1 := hx
    obtain ⟨vl, r1, r2, r3, r4⟩ := x1
    have xc0 := r1.c0
    obtain ⟨a, na, ca, rfl, hna⟩ : ∃ a n c, vl = .slice a n c ∧ n = x.l.length := by
      rcases r2.cases with ⟨h, h2⟩ | ⟨g, cap, cur, h, _⟩
      · exact ⟨none, 0, 0, h, by rw [h2]; rfl⟩
      · exact ⟨_, _, _, h, rfl⟩
    have hnl : na + 1 < 2 * t := by rw [hna, hxl]; exact hl
    have mc0 : wc.cell? ⟨m, 0, none⟩ = some (.int .i64 t) := cell_of_row wc m 0 _ _ _ hc
    have mc1 : wc.cell? ⟨m, 1, none⟩ = some (.pointer (some ⟨x.p, 0, none⟩)) := cell_of_row wc m 1 _ _ _ hc
    have mf1 : wc.frozen? ⟨m, 1, none⟩ = false := by simp [World.frozen?, hc]
    -- after the root is laid again
    obtain ⟨W2, hW2⟩ : ∃ W2, W2 = wc.setCell ⟨m, 1, none⟩ (.pointer (some ⟨x.p, 0, none⟩)) := ⟨_, rfl⟩
    have hc2 : W2.heap[m]? = some (.cells #[.int .i64 t, .pointer (some ⟨x.p, 0, none⟩)] 54 (0, 0)) := by rw [hW2]; exact heap_setCell_same _ m 1 _ _ _ hc
    have hx2 : IsT t W2 0 x := hx.frame fun b hb => by rw [hW2]; exact heap_setCell_other _ _ b _ (fun e => (List.nodup_cons.1 hnd).1 (by have e2 : b = m := e; rw [← e2]; exact hb))
    have hT2 : Touch (m :: fp) w W2 := by rw [hW2]; exact hT.setCell (.inl (by simp)) _
    have hs : Rising x.l := by rw [hxl]; exact HM.out.rising
    have HX2 := Lib.hid hx2
    have HC2 := Lib.hid hc2
    have HT2 := Lib.hid hT2
    have HFP := Lib.hid hfp
    have HND := Lib.hid hnd
    have HXL := Lib.hid hxl
    have HS := Lib.hid hs
    have hw2 := hW2.symm
    clear hc hx hT hfp hnd r1 r2 r3 r4 hx2 hc2 hT2 hW2 hs hxl hna
    go_upto_region 11 with fail
    go_cut [] (fun wy => wy = W2.drew)
    case first =>
      go_region_with (first | (go_at_call 34; refine (bound_any m t _ ?_ ht).mono ?_; exact mc0; rintro e w' ⟨rfl, rfl⟩) | (go_at_call 33; refine (roomy_no x.p na ca t a _ ?_ ?_ ?_ hnl).mono ?_; exact xc0; omega; omega; rintro e w' ⟨rfl, rfl⟩))
      all_goals (go_wp2_with fail; go_meet; case rel => rfl)
    case rest =>
      subst hcut
      have nc0 : W2.cell? ⟨m, 0, none⟩ = some (.int .i64 t) := cell_of_row W2 m 0 _ _ _ HC2.out
      have nc1 : W2.cell? ⟨m, 1, none⟩ = some (.pointer (some ⟨x.p, 0, none⟩)) := cell_of_row W2 m 1 _ _ _ HC2.out
      have hkx : hasB x.l k = false := by rw [HXL.out]; exact HK.out
      have hnx : x.l.length ≤ 1000 := by rw [HXL.out]; exact nl
      have ndx : x.fp.Nodup := (List.nodup_cons.1 HND.out).2
      have HKX := Lib.hid hkx
      have NX := Lib.hid hnx
      have NDX := Lib.hid ndx
      clear hkx hnx ndx hw2 mc0 mc1 mf1 xc0
      go_wp2_with fail
      go_region_with (first | (go_at_call 34; refine (bound_any m t _ ?_ ht).mono ?_; exact nc0; rintro e w' ⟨rfl, rfl⟩) | (go_at_call 35; refine (insert_leaf t x k s _ ?_ HS.out NDX.out NX.out HKX.out).mono ?_; exact (HX2.out.frame fun b hb => rfl); rintro e w4 ⟨rfl, h4⟩))
      all_goals
        go_wp2
        refine bodyPost_ret (v := .tuple #[.string ⟨#[]⟩, .bool false]) (by simp [results, Try.results16, go_sem]) rfl ⟨rfl, ?_⟩
        obtain ⟨fp', i1, i2, i3, i4⟩ := h4
        have hmx : m ∉ x.fp := (List.nodup_cons.1 HND.out).1
        have hml : m < W2.heap.size := (Array.getElem?_eq_some_iff.1 HC2.out).1
        have hsz2 : w.heap.size ≤ W2.heap.size := HT2.out.size
        refine ⟨some ⟨x.p, 0, none⟩, fp', ⟨(i2.block m hml hmx).trans HC2.out, .inr ⟨⟨x.p, ins x.l k s, fp', x.l.length + 1⟩, rfl, i1, by show ins x.l k s = _; rw [HXL.out], rfl⟩, ?_, ins_rising HM.out.rising k s⟩, ?_, ?_⟩
        · refine List.nodup_cons.2 ⟨fun hm => ?_, i3⟩
          rcases i4 m hm with h | h
          · exact hmx h
          · have : W2.heap.size ≤ m := h
            omega
        · refine HT2.out.trans (G := x.fp) ⟨i2.os, i2.tape, i2.output, i2.size, i2.block⟩ (fun b hb => ?_)
          rcases HFP.out b hb with h | h
          · exact .inl (by simp [h])
          · exact .inr h
        · intro b hb
          rcases i4 b hb with h | h
          · exact HFP.out b h
          · have : W2.heap.size ≤ b := h
            right; omega
end Go.Proofs.Ytcboakmfabdeoaa
