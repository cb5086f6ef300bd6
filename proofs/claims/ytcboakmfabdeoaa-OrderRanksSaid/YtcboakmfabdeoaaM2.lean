import Derived.Test.YtcboakmfabdeoaaXo
import Derived.Test.YtcboakmfabdeoaaXe
import Derived.Deep.QuietTactic
import Derived.BigQuiet

/- Put of a new key, at any height. -/
namespace Go.Proofs.Ytcboakmfabdeoaa
open Go.RowKit

/-- the map's root is a tree of l. -/
def PutMidT (t m : Nat) (w : World) (l : List Pr) (fp : List Nat) (wc : World) : Prop :=
  ∃ (h : Nat) (x : Kid), wc.heap[m]? = some (.cells #[.int .i64 t, .pointer (some ⟨x.p, 0, none⟩)] 54 (0, 0)) ∧ IsT t wc h x ∧ x.l = l ∧ (m :: x.fp).Nodup ∧ Touch (m :: fp) w wc ∧ (∀ b ∈ x.fp, b ∈ fp ∨ w.heap.size ≤ b) ∧ (h = 0 ∨ 1 ≤ x.c)

/-- behind roomy and the store of the root. -/
theorem put_roomed {t m h h' : Nat} {w wc wa w4 : World} {l : List Pr} {fp : List Nat} {x x' : Kid} (hwa : wa.heap = wc.heap) (hos : Touch [] wc wa) (hc : wc.heap[m]? = some (.cells #[.int .i64 t, .pointer (some ⟨x.p, 0, none⟩)] 54 (0, 0))) (hxl : x.l = l) (hnd : (m :: x.fp).Nodup) (hT : Touch (m :: fp) w wc) (hfp : ∀ b ∈ x.fp, b ∈ fp ∨ w.heap.size ≤ b) (hxw : IsT t wc h x) (hlow : h = 0 ∨ 1 ≤ x.c) (R : Roomy t wa x w4 h' x') (m_lt : m < w.heap.size) :
    PutMidT t m w l fp (w4.setCell ⟨m, 1, none⟩ (.pointer (some ⟨x'.p, 0, none⟩))) := by
  obtain ⟨r1, r2, r3, r4, r5, r6⟩ := R
  have hlo := r6 h (hxw.frame fun b hb => by rw [hwa]) hlow
  have mx := (List.nodup_cons.1 hnd).1
  have hs := hT.size
  have hsa : wa.heap.size = wc.heap.size := by rw [hwa]
  have mlc : m < wa.heap.size := by omega
  have hc4 : w4.heap[m]? = some (.cells #[.int .i64 t, .pointer (some ⟨x.p, 0, none⟩)] 54 (0, 0)) := (r3.block m mlc mx).trans (by rw [hwa]; exact hc)
  have mx' : m ∉ x'.fp := fun hm => by
    rcases r5 m hm with e | e
    · exact mx e
    · omega
  refine ⟨h', x', heap_setCell_same w4 m 1 _ _ _ hc4, r1.frame fun b hb => heap_setCell_other w4 _ b _ (fun e => mx' (by have e2 : b = m := e; rw [← e2]; exact hb)), by rw [r2, hxl], List.nodup_cons.2 ⟨mx', r4⟩, ?_, ?_, hlo⟩
  · refine ((hT.trans hos (by simp)).trans r3 (fun b hb => ?_)).setCell (.inl (by simp)) _
    rcases hfp b hb with e | e
    · exact .inl (by simp [e])
    · exact .inr e
  · intro b hb
    rcases r5 b hb with e | e
    · exact hfp b e
    · exact .inr (by omega)

def PutPost (t m : Nat) (l : List Pr) (fp : List Nat) (k : Int) (s : ByteArray) (w w' : World) : Prop :=
  ∃ rp' fp', TreeM t m w' (ins l k s) rp' fp' ∧ Touch (m :: fp) w w' ∧ ∀ b ∈ fp', b ∈ fp ∨ w.heap.size ≤ b

theorem put_done {t m h : Nat} {w wy wa w4 : World} {l : List Pr} {fp : List Nat} {x : Kid} {k : Int} {s : ByteArray} (hwa : wa.heap = wy.heap) (hos : Touch [] wy wa) (hc : wy.heap[m]? = some (.cells #[.int .i64 t, .pointer (some ⟨x.p, 0, none⟩)] 54 (0, 0))) (hxl : x.l = l) (hs : Rising l) (hnd : (m :: x.fp).Nodup) (hT : Touch (m :: fp) w wy) (hfp : ∀ b ∈ x.fp, b ∈ fp ∨ w.heap.size ≤ b) (m_lt : m < w.heap.size) (hlow : h = 0 ∨ 1 ≤ x.c) (P : InsPost t k s wa h x w4) :
    PutPost t m l fp k s w w4 := by
  obtain ⟨fp3, c3, i1, i2, i3, i4, i5⟩ := P
  have mx := (List.nodup_cons.1 hnd).1
  have hsz := hT.size
  have hsa : wa.heap.size = wy.heap.size := by rw [hwa]
  refine ⟨some ⟨x.p, 0, none⟩, fp3, ⟨(i2.block m (by omega) mx).trans (by rw [hwa]; exact hc), .inr ⟨h, ⟨x.p, ins x.l k s, fp3, c3⟩, rfl, i1, by show ins x.l k s = _; rw [hxl], rfl⟩, ?_, ins_rising hs k s, low_of (x := ⟨x.p, ins x.l k s, fp3, c3⟩) rfl i1 (hlow.imp id (fun e => Nat.le_trans e i5))⟩, ?_, ?_⟩
  · refine List.nodup_cons.2 ⟨fun hm => ?_, i3⟩
    rcases i4 m hm with e | e
    · exact mx e
    · omega
  · refine (hT.trans hos (by simp)).trans i2 (fun b hb => ?_)
    rcases hfp b hb with e | e
    · exact .inl (by simp [e])
    · exact .inr e
  · intro b hb
    rcases i4 b hb with e | e
    · exact hfp b e
    · exact .inr (by omega)

set_option maxHeartbeats 1000000 in
set_option maxRecDepth 100000 in
theorem TreeM.put_new {t m : Nat} {w : World} {l : List Pr} {rp : Option Addr} {fp : List Nat} (hm : TreeM t m w l rp fp) (k : Int) (s : ByteArray) (ht : 2 ≤ t) (ht2 : t ≤ 64) (hl : l.length ≤ 500000) (hk : hasB l k = false) :
    Calls Try.prog 16 #[.pointer (some ⟨m, 0, none⟩), .int .i64 k, .string s] w fun e w' => e = .returned (.tuple #[.string ⟨#[]⟩, .bool false]) ∧ PutPost t m l fp k s w w' := by
  have c1 : w.cell? ⟨m, 1, none⟩ = some (.pointer rp) := cell_of_row w m 1 _ _ _ hm.cell
  have hfind : Calls Try.prog 31 #[.pointer rp, .int .i64 k] w fun e w' => e = .returned (.pointer none) ∧ Below w.heap.size w w' := (hm.find k (by omega)).mono fun e w' ⟨h1, h2⟩ => by
    refine ⟨?_, h2⟩
    rcases h1 with ⟨_, e1⟩ | ⟨_, _, _, h3, _⟩
    · exact e1
    · rw [hk] at h3; cases h3
  have HFI := Lib.hid hfind
  have HM := Lib.hid hm
  have HK := Lib.hid hk
  clear hm hk hfind
  have m_lt : m < w.heap.size := (Array.getElem?_eq_some_iff.1 HM.out.cell).1
  go_enter Try.func16, Try.ntmps16
  go_upto_if 35 with (go_at_call 31; refine HFI.out.mono ?_; rintro e w1 ⟨rfl, hb1⟩; have m1 := HM.out.below hb1; have c1' : w1.cell? ⟨m, 1, none⟩ = some (.pointer rp) := cell_of_row w1 m 1 _ _ _ m1.cell; have M1 := Lib.hid m1; have B1 := Lib.hid hb1; clear m1 hb1)
  go_cut [] (fun wc => PutMidT t m w l fp wc)
  case first =>
    have f1 : w1.frozen? ⟨m, 1, none⟩ = false := by simp [World.frozen?, M1.out.cell]
    have m_lt1 : m < w1.heap.size := (Array.getElem?_eq_some_iff.1 M1.out.cell).1
    have TB : Touch (m :: fp) w w1 := Touch.of_below B1.out _
    rcases M1.out.root with ⟨rfl, rfl, rfl⟩ | ⟨hh, x, rfl, hx, rfl, rfl⟩
    · have hfin : PutMidT t m w [] [] ((w1.setCell ⟨m, 1, none⟩ (.pointer (some ⟨w1.heap.size, 0, none⟩))).alloc (.cells #[.slice none 0 0, .slice none 0 0, .int .i64 0] 68)) := by
        have hsz : (w1.setCell ⟨m, 1, none⟩ (.pointer (some ⟨w1.heap.size, 0, none⟩))).heap.size = w1.heap.size := by simp
        refine ⟨0, ⟨w1.heap.size, [], [w1.heap.size], 0⟩, ?_, ⟨.slice none 0 0, ?_, ?_, rfl, rfl⟩, rfl, ?_, (TB.setCell (.inl (by simp)) _).alloc _, ?_, .inl rfl⟩
        · exact (Below.heap_alloc _ _ m (by rw [hsz]; exact m_lt1)).trans (heap_setCell_same _ m 1 _ _ _ M1.out.cell)
        · show _ = _
          have := heap_alloc_new (w1.setCell ⟨m, 1, none⟩ (.pointer (some ⟨w1.heap.size, 0, none⟩))) (.cells #[.slice none 0 0, .slice none 0 0, .int .i64 0] 68)
          rw [hsz] at this
          exact this
        · exact World.ownsRow_nil _ _ _ _
        · simp; omega
        · intro b hb; simp at hb; subst hb; exact .inr B1.out.size
      have FIN := Lib.hid hfin
      clear hfin
      go_wp2_with fail
      go_meet
      case rel => exact FIN.out
    · have hfin : PutMidT t m w x.l x.fp w1 := ⟨hh, x, M1.out.cell, hx, rfl, M1.out.nodup, TB, fun b hb => .inl hb, M1.out.lowRoot rfl hx⟩
      have FIN := Lib.hid hfin
      clear hfin hx
      go_wp2_with fail
      go_meet
      case rel => exact FIN.out
  case rest =>
    obtain ⟨hh, x, hc, hx, hxl, hnd, hT, hfp, hlow⟩ := hcut
    have HLOW := Lib.hid hlow
    clear hlow
    have mc0 : wc.cell? ⟨m, 0, none⟩ = some (.int .i64 t) := cell_of_row wc m 0 _ _ _ hc
    have mc1 : wc.cell? ⟨m, 1, none⟩ = some (.pointer (some ⟨x.p, 0, none⟩)) := cell_of_row wc m 1 _ _ _ hc
    have hs : Rising x.l := by rw [hxl]; exact HM.out.rising
    have hxn : x.l.length ≤ 500000 := by rw [hxl]; exact hl
    have hmc : ∀ wa w4 : World, ∀ h4 x4, wa.heap = wc.heap → Roomy t wa x w4 h4 x4 → w4.heap[m]? = some (.cells #[.int .i64 t, .pointer (some ⟨x.p, 0, none⟩)] 54 (0, 0)) := fun wa w4 h4 x4 hwa R => (R.2.2.1.block m (by rw [hwa]; exact (Array.getElem?_eq_some_iff.1 hc).1) (List.nodup_cons.1 hnd).1).trans (by rw [hwa]; exact hc)
    have MC := Lib.hid hmc
    have HX := Lib.hid hx
    have HC := Lib.hid hc
    have HT := Lib.hid hT
    have HFP := Lib.hid hfp
    have HND := Lib.hid hnd
    have HXL := Lib.hid hxl
    have HS := Lib.hid hs
    clear hc hx hT hfp hnd hs hxl hmc
    go_upto_region 11 with fail
    go_cut [] (fun wy => PutMidT t m w l fp wy)
    case first =>
      go_region_with (first | (go_at_call 34; refine (bound_any m t _ ?_ ht).mono ?_; exact mc0; rintro e w' ⟨rfl, rfl⟩) | (go_at_call 33; refine (roomy_any t hh x _ ht (by omega) ?_ HS.out hxn (List.nodup_cons.1 HND.out).2).mono ?_; exact (HX.out.frame fun b hb => rfl); rintro e w4 ⟨h4, x4, rfl, R4⟩; have q0 := MC.out _ _ _ _ (by rfl) R4; have q1 : w4.cell? ⟨m, 1, none⟩ = some (.pointer (some ⟨x.p, 0, none⟩)) := cell_of_row w4 m 1 _ _ _ q0; have q2 : w4.frozen? ⟨m, 1, none⟩ = false := by {simp [World.frozen?, q0]}))
      all_goals
        have FIN := Lib.hid (put_roomed (h := hh) (by rfl) ((Touch.refl [] _).drew) HC.out HXL.out HND.out HT.out HFP.out HX.out HLOW.out R4 m_lt)
        clear R4 q0 q1 q2
        go_wp2_with fail
        go_meet
        case rel => exact FIN.out
    case rest =>
      clear HX HC HT HFP HND HXL HS MC mc0 mc1 hxn HLOW
      obtain ⟨h5, x5, hc, hx, hxl, hnd, hT, hfp, hlow⟩ := hcut
      have HLOW := Lib.hid hlow
      clear hlow
      have nc0 : wc.cell? ⟨m, 0, none⟩ = some (.int .i64 t) := cell_of_row wc m 0 _ _ _ hc
      have nc1 : wc.cell? ⟨m, 1, none⟩ = some (.pointer (some ⟨x5.p, 0, none⟩)) := cell_of_row wc m 1 _ _ _ hc
      have hs : Rising x5.l := by rw [hxl]; exact HM.out.rising
      have hxn : x5.l.length ≤ 500000 := by rw [hxl]; exact hl
      have hkx : hasB x5.l k = false := by rw [hxl]; exact HK.out
      have HX := Lib.hid hx
      have HC := Lib.hid hc
      have HT := Lib.hid hT
      have HFP := Lib.hid hfp
      have HND := Lib.hid hnd
      have HXL := Lib.hid hxl
      have HS := Lib.hid hs
      have HKX := Lib.hid hkx
      clear hc hx hT hfp hnd hs hxl hkx
      go_wp2_with fail
      go_region_with (first | (go_at_call 34; refine (bound_any m t _ ?_ ht).mono ?_; exact nc0; rintro e w' ⟨rfl, rfl⟩) | (go_at_call 35; refine (insert_any t h5 x5 k s _ ht (by omega) ?_ HS.out (List.nodup_cons.1 HND.out).2 hxn HKX.out).mono ?_; exact (HX.out.frame fun b hb => rfl); rintro e w4 ⟨rfl, P4⟩))
      all_goals
        go_wp2
        refine bodyPost_ret (v := .tuple #[.string ⟨#[]⟩, .bool false]) (by simp [results, Try.results16, go_sem]) rfl ⟨rfl, ?_⟩
        exact put_done (by rfl) ((Touch.refl [] _).drew) HC.out HXL.out HM.out.rising HND.out HT.out HFP.out m_lt HLOW.out P4
end Go.Proofs.Ytcboakmfabdeoaa

/- Drop of a key that is not there. -/
namespace Go.Proofs.Ytcboakmfabdeoaa
open Go.RowKit

set_option maxHeartbeats 400000 in
theorem TreeM.drop_none {t m : Nat} {w : World} {l : List Pr} {rp : Option Addr} {fp : List Nat} (h : TreeM t m w l rp fp) (k : Int) (hn : l.length ≤ 1000000) (hk : hasB l k = false) :
    Calls Try.prog 17 #[.pointer (some ⟨m, 0, none⟩), .int .i64 k] w fun e w' => e = .returned (.tuple #[.string ⟨#[]⟩, .bool false]) ∧ Below w.heap.size w w' := by
  have c1 : w.cell? ⟨m, 1, none⟩ = some (.pointer rp) := cell_of_row w m 1 _ _ _ h.cell
  have HF := Lib.hid (h.find k hn)
  have HK := Lib.hid hk
  clear h hk
  go_enter Try.func17, Try.ntmps17
  go_wp2_with fail
  refine (top_any m _ _ c1).mono ?_
  rintro e w' ⟨rfl, rfl⟩
  go_wp2_with fail
  refine HF.out.mono ?_
  rintro e w' ⟨hf, hw⟩
  rcases hf with ⟨h1, rfl⟩ | ⟨g, i, rfl, h1, h2⟩
  · have HW := Lib.hid hw
    clear h1 hw
    go_wp2
    go_ret2
    exact ⟨rfl, HW.out⟩
  · rw [HK.out] at h1; cases h1
end Go.Proofs.Ytcboakmfabdeoaa
