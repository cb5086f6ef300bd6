/- Cut. -/
import Derived.Test.YtekbfjdjgpgmpaaS4
namespace Go.Proofs.Ytekbfjdjgpgmpaa
open Go.RowKit

theorem clear_none (w : World) : ∀ ty, (Builtin.clear_ #[39] ty #[.slice none 0 0]).run Try.prog w = .ok (.tuple #[]) w := fun ty => by
  unfold Builtin.clear_
  simp [run_underlying Try.underlying39]

/-- both rows laid anew, cut. -/
theorem cut_trail {w W : World} {p k l g c : Nat} {vt vt' : Value} {ts : List ByteArray} {ms : List Nat} (h : TrailAt w p vt (.slice (some ⟨g, 0, none⟩) ms.length c) ts ms) (hk : k ≤ ms.length) (hl : l ≤ ts.length)
    (hT : Touch vt.ownBlock.toList w W) (hv' : vt'.ownBlock = vt.ownBlock) (ht : W.ownsRow 0 9 1 vt' l (texts (ts.take l))) :
    IsTrail ((W.setCell ⟨p, 0, none⟩ vt').setCell ⟨p, 1, none⟩ (.slice (some ⟨g, 0, none⟩) k c)) p (Foot p vt (.slice (some ⟨g, 0, none⟩) ms.length c)) (ts.take l) (ms.take k) ∧
    Touch (Foot p vt (.slice (some ⟨g, 0, none⟩) ms.length c)) w ((W.setCell ⟨p, 0, none⟩ vt').setCell ⟨p, 1, none⟩ (.slice (some ⟨g, 0, none⟩) k c)) ∧
    (W.setCell ⟨p, 0, none⟩ vt').heap[p]? = some (.cells #[vt', .slice (some ⟨g, 0, none⟩) ms.length c] 53 (0, 0)) ∧ W.heap[p]? = some (.cells #[vt, .slice (some ⟨g, 0, none⟩) ms.length c] 53 (0, 0)) := by
  have hp : p < w.heap.size := h.lt p (by simp [Foot])
  have hg : g < w.heap.size := h.lt g (by simp [Foot, Value.ownBlock])
  have hpn : p ∉ vt.ownBlock.toList := fun hm => h.not1 (by simpa using hm)
  have hgn : g ∉ vt.ownBlock.toList := fun hm => h.not3 (by simpa using hm) rfl
  have hpg : g ≠ p := fun e => h.not2 (by rw [e]; rfl)
  have c1 : W.heap[p]? = some (.cells #[vt, .slice (some ⟨g, 0, none⟩) ms.length c] 53 (0, 0)) := (hT.block p hp hpn).trans h.cellp
  have c2 : (W.setCell ⟨p, 0, none⟩ vt').heap[p]? = some (.cells #[vt', .slice (some ⟨g, 0, none⟩) ms.length c] 53 (0, 0)) := heap_setCell_same _ p 0 _ _ _ c1
  refine ⟨⟨vt', .slice (some ⟨g, 0, none⟩) k c, ⟨heap_setCell_same _ p 1 _ _ _ c2, ?_, ?_⟩, ?_⟩, ?_, c2, c1⟩
  · have hlen : (ts.take l).length = l := by rw [List.length_take]; omega
    rw [hlen]
    refine ownsRow_of_heap ht fun b hb => ?_
    have hbp : b ≠ p := fun e => h.not1 (by rw [← hv', hb, e])
    rw [heap_setCell_other _ _ b _ hbp, heap_setCell_other _ _ b _ hbp]
  · have hlen : (ms.take k).length = k := by rw [List.length_take]; omega
    have h3 := cut_row h.marks hk
    rw [nums_take] at h3
    rw [hlen]
    refine ownsRow_of_heap h3 fun b hb => ?_
    cases hb
    rw [heap_setCell_other _ _ _ _ hpg, heap_setCell_other _ _ _ _ hpg]
    exact hT.block g hg hgn
  · show _ = Foot p vt' _
    unfold Foot
    rw [hv']
    rfl
  · exact ((hT.mono (fun x hx => .inl (by simp at hx; simp [Foot, hx]))).setCell (.inl (by simp [Foot])) _).setCell (.inl (by simp [Foot])) _

/-- a row of new blocks stays where the trail's own are touched. -/
theorem keep_old {w w2 W : World} {p n : Nat} {vt vm v : Value} {ts : List ByteArray} {ms : List Nat} {xs : List Value} (h : TrailAt w p vt vm ts ms) (hr : w2.ownsRow w.heap.size 9 1 v n xs) (hb : Below w.heap.size w w2) (hT : Touch (Foot p vt vm) w2 W) : W.ownsRow w.heap.size 9 1 v n xs :=
  ownsRow_of_heap hr fun b hb2 => hT.block b (hr.lt b hb2).2 fun hm => by
    have h1 := h.lt b hm
    have h2 := (hr.lt b hb2).1
    omega

set_option maxRecDepth 100000 in
set_option maxHeartbeats 1000000 in
theorem cut_yes {w : World} {p : Nat} {F : List Nat} {ts : List ByteArray} {ms : List Nat} (h : IsTrail w p F ts ms) (m : Int) (k l : Nat) (hm : m = k) (hk : ms[k]? = some l) (hl : l ≤ ts.length) (hn : ts.length ≤ 1000000) :
    Calls Try.prog 13 #[.pointer (some ⟨p, 0, none⟩), .int .i64 m] w fun e w' => ∃ v, e = .returned (.tuple #[v, .int .i64 0]) ∧ w'.ownsRow w.heap.size 9 1 v (ts.length - l) (texts (ts.drop l).reverse) ∧ IsTrail w' p F (ts.take l) (ms.take k) ∧ Touch F w w' := by
  have hkl : k < ms.length := (List.getElem?_eq_some_iff.1 hk).1
  have HS := Lib.hid (since_yes h m k l hm hk hl hn)
  obtain ⟨vt, vm, h, rfl⟩ := h
  obtain ⟨g, c, rfl, hc⟩ := row_pos h.marks (by omega)
  subst hm
  have q1 : (k : Int) < (ms.length : Int) := by omega
  have q4 : (k : Int) ≤ (c : Int) := by omega
  have q5 : k ≤ c := by omega
  have HH := Lib.hid h
  have HK := Lib.hid hk
  have HL := Lib.hid hl
  have HN := Lib.hid hn
  clear h hk hl hn hc
  go_enter Try.func13, Try.ntmps13
  go_wp2_with fail
  refine HS.out.mono ?_
  rintro e w1 ⟨v, rfl, o1, b1⟩
  have V1 := Lib.hid o1
  have B1 := Lib.hid b1
  obtain ⟨av, cv, rfl⟩ := slice_shape o1
  clear o1 b1 HS
  go_wp2_with fail
  refine (reverse_own _ _ _ _ _ V1.out (by have := HN.out; omega)).mono ?_
  rintro e w2 ⟨rfl, o2, f2⟩
  have b2 := f2 _ _ B1.out (Nat.le_refl _)
  have V2 := Lib.hid o2
  have B2 := Lib.hid b2
  have h2 : TrailAt w2 p vt (.slice (some ⟨g, 0, none⟩) ms.length c) ts ms := HH.out.frame fun b hb => b2.block b (HH.out.lt b hb)
  have c1 : w2.cell? ⟨p, 1, none⟩ = some (.slice (some ⟨g, 0, none⟩) ms.length c) := cell_of_row w2 p 1 _ _ _ h2.cellp
  have ck : w2.cell? ⟨g, k, none⟩ = some (.int .i64 l) := row_cells h2.marks k _ (by simp [nums, HK.out])
  have H2 := Lib.hid h2
  clear f2 o2 b2 V1 B1
  by_cases hv : vt = .slice none 0 0
  · subst hv
    have ht0 : ts.length = 0 := by rcases h2.things.2 with ⟨_, e⟩ | ⟨_, _, _, e, _⟩; exact e; cases e
    have hl0 : l = 0 := by have := HL.out; omega
    subst hl0
    have : ts = [] := List.eq_nil_of_length_eq_zero ht0
    subst this
    have c0 : w2.cell? ⟨p, 0, none⟩ = some (.slice none 0 0) := cell_of_row w2 p 0 _ _ _ h2.cellp
    obtain ⟨t1, t2, t3, t4⟩ := cut_trail (W := w2) (k := k) (l := 0) (vt' := .slice none 0 0) h2 (by omega) (Nat.le_refl _) (Touch.refl _ _) rfl (World.ownsRow_nil _ _ _ _)
    have CL := Lib.hid (clear_none w2)
    have FIN : Hid _ := t1
    have FIN2 := Lib.hid t2
    have f0 : w2.frozen? ⟨p, 0, none⟩ = false := by simp [World.frozen?, t4]
    have d1 : (w2.setCell ⟨p, 0, none⟩ (.slice none 0 0)).cell? ⟨p, 1, none⟩ = some (.slice (some ⟨g, 0, none⟩) ms.length c) := cell_of_row _ p 1 _ _ _ t3
    have f1 : (w2.setCell ⟨p, 0, none⟩ (.slice none 0 0)).frozen? ⟨p, 1, none⟩ = false := by simp only [World.frozen?, t3]; rfl
    have OW : Hid (((w2.setCell ⟨p, 0, none⟩ (.slice none 0 0)).setCell ⟨p, 1, none⟩ (.slice (some ⟨g, 0, none⟩) k c)).ownsRow w.heap.size 9 1 (.slice av (([] : List ByteArray).length - 0) cv) (([] : List ByteArray).length - 0) (texts (([] : List ByteArray).drop 0).reverse)) := keep_old HH.out V2.out B2.out t2
    clear h2 t1 t2 t3 t4 ht0
    go_wp2_with (with_reducible refine wpList_clear_runI _ rfl _ 39 rfl _ rfl (CL.out _) ?_)
    go_ret2
    exact ⟨_, rfl, OW.out, FIN.out, (Touch.of_below B2.out _).trans FIN2.out (fun x hx => .inl hx)⟩
  · obtain ⟨g0, c0', rfl, hg0⟩ : ∃ g0 c0, vt = .slice (some ⟨g0, 0, none⟩) ts.length c0 ∧ ts.length ≤ c0 := by
      rcases h2.things.2 with ⟨e, _⟩ | ⟨g0, cap, cur, e, _, _, h4, _⟩
      · exact absurd e hv
      · exact ⟨g0, cap, e, h4⟩
    have c0 : w2.cell? ⟨p, 0, none⟩ = some (.slice (some ⟨g0, 0, none⟩) ts.length c0') := cell_of_row w2 p 0 _ _ _ h2.cellp
    obtain ⟨W, cl, ow, tw⟩ := clear_part h2.things HL.out
    obtain ⟨t1, t2, t3, t4⟩ := cut_trail (W := W) (k := k) (l := l) (vt' := .slice (some ⟨g0, 0, none⟩) l c0') h2 (by omega) HL.out tw rfl ow
    have d0 : W.cell? ⟨p, 0, none⟩ = some (.slice (some ⟨g0, 0, none⟩) ts.length c0') := cell_of_row W p 0 _ _ _ t4
    have f0 : W.frozen? ⟨p, 0, none⟩ = false := by simp [World.frozen?, t4]
    have d1 : (W.setCell ⟨p, 0, none⟩ (.slice (some ⟨g0, 0, none⟩) l c0')).cell? ⟨p, 1, none⟩ = some (.slice (some ⟨g, 0, none⟩) ms.length c) := cell_of_row _ p 1 _ _ _ t3
    have f1 : (W.setCell ⟨p, 0, none⟩ (.slice (some ⟨g0, 0, none⟩) l c0')).frozen? ⟨p, 1, none⟩ = false := by simp only [World.frozen?, t3]; rfl
    have q2 : (l : Int) ≤ (ts.length : Int) := by have := HL.out; omega
    have q3 : (ts.length : Int) ≤ (c0' : Int) := by omega
    have q6 : (l : Int) ≤ (c0' : Int) := by omega
    have FIN : Hid _ := t1
    have FIN2 := Lib.hid t2
    have OW : Hid (((W.setCell ⟨p, 0, none⟩ (.slice (some ⟨g0, 0, none⟩) l c0')).setCell ⟨p, 1, none⟩ (.slice (some ⟨g, 0, none⟩) k c)).ownsRow w.heap.size 9 1 (.slice av (ts.length - l) cv) (ts.length - l) (texts (ts.drop l).reverse)) := keep_old HH.out V2.out B2.out t2
    by_cases hcl : c0' = l
    · rw [if_pos hcl] at cl
      subst hcl
      rw [Nat.sub_self] at cl
      have CL := Lib.hid cl
      clear h2 hg0 cl ow tw hv t1 t2 t3 t4
      go_wp2_with (with_reducible refine wpList_clear_runI _ rfl _ 39 rfl _ rfl (CL.out _) ?_)
      go_ret2
      exact ⟨_, rfl, OW.out, FIN.out, (Touch.of_below B2.out _).trans FIN2.out (fun x hx => .inl hx)⟩
    · rw [if_neg hcl] at cl
      have CL := Lib.hid cl
      clear h2 hg0 cl ow tw hv t1 t2 t3 t4
      go_wp2_with (with_reducible refine wpList_clear_runI _ rfl _ 39 rfl _ rfl (CL.out _) ?_)
      go_ret2
      exact ⟨_, rfl, OW.out, FIN.out, (Touch.of_below B2.out _).trans FIN2.out (fun x hx => .inl hx)⟩
end Go.Proofs.Ytekbfjdjgpgmpaa
