/- Seen: all that waits is done again. -/
import Derived.Test.YtmcgjlidfgbdfaaDRa
import Derived.StillTailTactics
namespace Go.Proofs.Ytmcgjlidfgbdfaa
open Go.RowKit

theorem SRow.set {w : World} {base : Nat} {v : Value} {ss : List ByteArray} (h : SRow w base v ss) {g : Nat} (hg : v.ownBlock = some g) (i : Nat) (x : ByteArray) : SRow (w.setCell ⟨g, i, none⟩ (.string x)) base v (ss.set i x) := by
  obtain ⟨h1, h2⟩ := h
  refine ⟨by simp [strs], .inr ?_⟩
  rcases h2 with ⟨rfl, h0⟩ | ⟨g', cap, cur, rfl, hb, hh, hn, hm, hs, ht⟩
  · cases hg
  · obtain rfl : g' = g := by simpa [Value.ownBlock] using hg
    refine ⟨g', cap, cur.setIfInBounds i (.string x), by rw [List.length_set], hb, ?_, by rw [List.length_set]; exact hn, hm, by simpa using hs, ?_⟩
    · simp [World.setCell, Array.getElem?_modify, hh]
    · rw [List.length_set, Array.toList_setIfInBounds, List.take_set, ht]
      simp [strs, List.map_set]
theorem frozen_row {w : World} {base : Nat} {v : Value} {ss : List ByteArray} (h : SRow w base v ss) {g : Nat} (hg : v.ownBlock = some g) (i : Nat) : w.frozen? ⟨g, i, none⟩ = false := by
  obtain ⟨cur, hc⟩ := row_kind h hg
  simp [World.frozen?, hc]
theorem RefAt.below {w w' : World} {r : Rf} (h : RefAt w r) (hb : Below w.heap.size w w') : RefAt w' r :=
  ⟨h.top.below hb h.top.lt, h.last.below hb, h.waits.below hb, h.fit, h.few, h.many⟩
theorem seen_step (p k : Nat) (ws : List (Nat × ByteArray)) (last : List ByteArray) (h : k < ws.length) : seenFrom p 0 (ws.take (k + 1)) last = if bit p k then (seenFrom p 0 (ws.take k) last).set ws[k].1 ws[k].2 else seenFrom p 0 (ws.take k) last := by
  rw [List.take_succ_eq_append_getElem h, seenFrom_snoc, List.length_take, Nat.min_eq_left (by omega), Nat.zero_add]
set_option maxRecDepth 100000 in
set_option maxHeartbeats 4000000 in
theorem seen_at {w : World} {r : Rf} (h : RefAt w r) (h0 : 0 < r.last.length) (p : Nat) (hp : p < 18446744073709551616) : Calls Try.prog 17 #[.pointer (some ⟨r.p, 0, none⟩), .int .u64 (p : Nat)] w fun e w' => ∃ v, e = .returned v ∧ SRow w' w.heap.size v (seenR r.last r.ws p) ∧ Below w.heap.size w w' := by
  have c0 := Whole.cell h.top 0
  have c2 := Whole.cell h.top 2
  simp only [rcells, List.getElem?_toArray, List.getElem?_cons_zero, List.getElem?_cons_succ] at c0 c2
  obtain ⟨A, c, eA, hc, hcell⟩ := h.last.shape
  obtain ⟨g, rfl, hgo, hglt, -⟩ := hcell 0 h0
  have bal : Below w.heap.size w (w.alloc (.cells #[] 9)) := (Below.refl _ _).alloc (Nat.le_refl _) _
  have hys : ∀ i (hi : i < r.last.length), (w.alloc (.cells #[] 9)).cell? ⟨g, i, none⟩ = some (.string r.last[i]) := fun i hi => by
    obtain ⟨g', e', _, hlt', hz⟩ := hcell i hi
    cases e'
    exact (bal.cell (p := ⟨g, i, none⟩) hglt).trans hz
  obtain ⟨v1, w1, hap, hr1, hg1⟩ := append_strs (SRow.new w) g c r.last hys (by have := h.few; simp; omega) (by simp)
  rw [List.nil_append] at hr1
  obtain ⟨A5, c5, e5, hc5, hz5⟩ := hr1.shape
  obtain ⟨g5, rfl, ho5, -, -⟩ := hz5 0 h0
  subst e5
  rw [eA] at c0
  have HAP := Lib.hid hap
  have R1 := Lib.hid hr1
  have B1 := Lib.hid (below_grown bal hg1 (fun k e => by simp [Value.ownBlock] at e; omega))
  have H := Lib.hid h
  have hmany : (r.ws.length : Int) ≤ 1000 := by have := h.many; omega
  obtain ⟨A2, c2', e2, hc2, hcell2⟩ := h.waits.shape
  rw [e2] at c2
  have HW := Lib.hid (fun (k : Nat) (hk : k < r.ws.length) => hcell2 k hk)
  have C2 := Lib.hid c2
  have hplt := h.top.lt
  have hc2' : (r.ws.length : Int) ≤ (c2' : Int) := by omega
  have HP := Lib.hid hp
  clear hp
  clear h hcell hys hap hr1 hg1 bal eA e2 hcell2 h0 hgo hc hz5 ho5
  go_enter Try.func17, Try.ntmps17
  go_wp2_with (at_builtin; refine Lib.wpList_append_run _ rfl (.tmp 9) (.tmp 13) 35 35 rfl _ _ rfl rfl _ _ HAP.out ?_)
  clear HAP c0 c2
  go_loopg [6, 7, 8] (r.ws.length + 1) (fun j s6 s7 s8 wr => ∃ k : Nat, k ≤ r.ws.length ∧ r.ws.length < k + j ∧ s6 = .int .i64 (k : Nat) ∧ SRow wr w.heap.size (.slice (some ⟨g5, 0, none⟩) r.last.length c5) (seenFrom p 0 (r.ws.take k) r.last) ∧ Below w.heap.size w wr)
  case atStart => exact ⟨0, by omega, by omega, rfl, R1.out, B1.out⟩
  case round =>
    obtain ⟨k, hk, hj, rfl, hr, hb⟩ := hrel
    clear R1 B1
    have HR := Lib.hid hr
    have HB := Lib.hid hb
    have c2w := (hb.cell (p := ⟨r.p, 2, none⟩) hplt).trans C2.out
    by_cases hend : k = r.ws.length
    · have hno : ¬ (k : Int) < (r.ws.length : Int) := by omega
      have HF : Hid (seenFrom p 0 (r.ws.take k) r.last = seenR r.last r.ws p) := Lib.hid (by rw [hend, List.take_length]; rfl)
      clear hr hb hend
      go_wp2_with fail
      go_ret
      refine ⟨_, rfl, ?_, HB.out⟩
      rw [← HF.out]
      exact HR.out
    · have hlt : k < r.ws.length := by omega
      have hlt' : (k : Int) < (r.ws.length : Int) := by omega
      clear hr hb hend
      go_wp2_with fail
      go_loopg [7, 8] 65 (fun j s7 s8 wi => ∃ i z : Nat, i ≤ k % 64 ∧ k % 64 < i + j ∧ s8 = .int .i64 (i : Nat) ∧ s7 = .int .u64 (z : Nat) ∧ z = p / 2 ^ i ∧ wi = wr)
      case atStart => exact ⟨0, p, by omega, by omega, rfl, rfl, by simp, rfl⟩
      case round =>
        obtain ⟨i, z, hi, hj2, rfl, rfl, hz, rfl⟩ := hrel
        have HZ := Lib.hid hz
        clear hz
        by_cases hend2 : i = k % 64
        · have hno2 : ¬ (i : Int) < (k : Int) - (k : Int) / 64 * 64 := by omega
          have hbit : bit p k = decide (z % 2 = 1) := by unfold bit; rw [HZ.out, hend2]
          have ST := Lib.hid (seen_step p k r.ws r.last hlt)
          clear hend2 hi hj2
          by_cases hz1 : z % 2 = 1
          · have hz1' : ((z : Int) % 2 == 1) = true := by simp; omega
            rw [decide_eq_true hz1] at hbit
            obtain ⟨g2, rfl, -, hg2, d0, d1⟩ := HW.out k hlt
            have e0 := (HB.out.cell (p := ⟨g2, k * 2, none⟩) hg2).trans d0
            have e1 := (HB.out.cell (p := ⟨g2, k * 2 + 1, none⟩) hg2).trans d1
            have hI : r.ws[k].1 < (seenFrom p 0 (r.ws.take k) r.last).length := by rw [seenFrom_length]; exact H.out.fit _ (List.getElem_mem hlt)
            obtain ⟨A', c', e', -, hcell5⟩ := HR.out.shape
            injection e' with q1 q2 q3
            subst q1
            obtain ⟨g', hg', ho5, -, z5⟩ := hcell5 _ hI
            cases hg'
            have f5 := frozen_row HR.out ho5 r.ws[k].1
            have hg5 := (HR.out.block g5 ho5).1
            have SS := Lib.hid ((show SRow (World.drew _) _ _ _ from HR.out).set ho5 r.ws[k].1 r.ws[k].2)
            rw [hbit] at ST
            have B5 := Lib.hid (HB.out.drew.setCell (p := ⟨g5, r.ws[k].1, none⟩) hg5 (.string r.ws[k].2))
            rw [seenFrom_length] at hI
            have hc5i : (r.last.length : Int) ≤ (c5 : Int) := by omega
            have hI' : (r.ws[k].1 : Int) < (r.last.length : Int) := by omega
            have hfew : (r.last.length : Int) ≤ 1000 := by have := H.out.few; omega
            have STX : Hid (seenFrom p 0 (r.ws.take (k + 1)) r.last = (seenFrom p 0 (r.ws.take k) r.last).set r.ws[k].1 r.ws[k].2) := Lib.hid (by rw [ST.out]; rfl)
            clear hcell5 ho5 hg5 q2 q3 d0 d1 hg2 hbit hz1 ST
            generalize r.ws[k] = x at *
            obtain ⟨I, s⟩ := x
            go_wp2_with fail
            go_still_tail 18, (by kernel_rfl)
            change wpList _ _ _ _ _ (World.drew _)
            go_wp2_with fail
            go_roundg (r.ws.length - k)
            case measure => omega
            case rel => exact ⟨k + 1, by omega, by omega, rfl, by rw [STX.out]; exact SS.out, B5.out⟩
          · have hz1' : ((z : Int) % 2 == 1) = false := by simp; omega
            rw [decide_eq_false hz1] at hbit
            have STX : Hid (seenFrom p 0 (r.ws.take (k + 1)) r.last = seenFrom p 0 (r.ws.take k) r.last) := Lib.hid (by rw [ST.out, hbit]; rfl)
            clear hbit hz1 ST
            go_wp2_with fail
            go_roundg (r.ws.length - k)
            case measure => omega
            case rel => exact ⟨k + 1, by omega, by omega, rfl, by rw [STX.out]; exact HR.out, HB.out⟩
        · have hlt2 : (i : Int) < (k : Int) - (k : Int) / 64 * 64 := by omega
          go_wp2_with fail
          go_roundg (k % 64 - i)
          case measure => omega
          case rel => exact ⟨i + 1, z / 2, by omega, by omega, rfl, by
            have hz2 : z ≤ p := by rw [HZ.out]; exact Nat.div_le_self _ _
            have hp2 := HP.out
            have e : IntKind.u64.wrap ((z : Int) / 2) = ((z / 2 : Nat) : Int) := by rw [IntKind.wrap_u64]; omega
            rw [e], by rw [HZ.out, half_pow], rfl⟩
end Go.Proofs.Ytmcgjlidfgbdfaa
