/- does: reads. -/
import Derived.Test.YtmcgjlidfgbdfaaDRj
namespace Go.Proofs.Ytmcgjlidfgbdfaa
open Go.RowKit

section
variable {w0 w : World} {p q : Nat} {F : List Nat} {m : Mod} {r : Rf}
set_option maxRecDepth 100000 in
set_option maxHeartbeats 4000000 in
theorem does_read (h : Both w0 w p q F m r) (ho : Okay m) (x : ActG) (hk : x.k = 5) (h0 : m.takes x.i 0 = 0) :
    Calls Try.prog 11 #[.pointer (some ⟨p, 0, none⟩), .pointer (some ⟨q, 0, none⟩), actV x] w fun e w' => e = .returned (.bool true) ∧ ∃ F' r', Both w0 w' p q F' (stepM m x) r' := by
  have e0 : stepM m x = m := by unfold stepM; rw [if_neg (by omega), if_neg (by omega), if_neg (by omega), if_neg (by omega)]
  rw [e0]
  obtain ⟨k, i, A, c, b, pp⟩ := x
  simp only at hk h0
  subst hk
  have eq := h.q
  subst eq
  have hdk : m.dark = false := by
    cases hd : m.dark with
    | false => rfl
    | true => unfold Mod.takes at h0; rw [if_pos hd] at h0; omega
  have hin : ∃ k : Nat, i = k ∧ k < m.n := by
    unfold Mod.takes at h0
    rw [hdk, if_neg (by simp)] at h0
    by_cases hx : i < 0 ∨ (m.n : Int) ≤ i ∨ (m.size : Int) < 0
    · rw [if_pos hx] at h0; omega
    · exact ⟨i.toNat, by omega, by omega⟩
  obtain ⟨k, rfl, hkn⟩ := hin
  have h2 : Both w0 (w.alloc (.cells #[.int .i64 5, .int .i64 (k : Nat), .slice A b.length c, .int .u64 (pp : Nat)] 33)) p r.p F m r := h.boxed ⟨5, k, A, c, b, pp⟩
  have t : Whole (w.alloc (.cells #[.int .i64 5, .int .i64 (k : Nat), .slice A b.length c, .int .u64 (pp : Nat)] 33)) w.heap.size 33 #[.int .i64 5, .int .i64 (k : Nat), .slice A b.length c, .int .u64 (pp : Nat)] := Whole.new _ _ _
  have C := Lib.hid (h2.d.read (by have := ho.waits; omega) hdk k hkn)
  have H2 := Lib.hid h2
  have T := Lib.hid t
  have SN := h2.same.seen ones k hkn
  have hrl : r.last.length = m.n := h.same.n
  have hdd := h.same.dark
  rw [hdk] at hdd
  have hds : m.size ≤ 1024 := ho.size
  clear e0 h h2 t h0 ho
  unfold actV
  simp only
  go_enter Try.func11, Try.ntmps11
  go_wp2_with fail
  refine C.out.mono ?_
  rintro e w1 ⟨g, rfl, hg, hbb, hpl, hb⟩
  have H3 := Lib.hid (H2.out.below hb)
  have T3 := T.out.below hb (by simp)
  have c1 := Whole.cell T3 1
  have d4 := Whole.cell H3.out.rf.top 4
  have d0 := Whole.cell H3.out.rf.top 0
  simp only [rcells, List.getElem?_toArray, List.getElem?_cons_zero, List.getElem?_cons_succ] at d4 d0 c1
  rw [hdd] at d4
  obtain ⟨A0, c0, ev, hc0, -⟩ := H3.out.rf.last.shape
  rw [ev] at d0
  have hfew := H3.out.rf.few
  have hlt : (k : Int) < (r.last.length : Int) := by omega
  have BX := Lib.hid hbb
  clear C H2 T hb T3 hg hbb ev
  go_wp2_with fail
  go_quiet (fail)
  go_wp2_with fail
  have b0 : Below w1.heap.size w1 (w1.drewN nq).drew := (below_drewN (Below.refl _ _) _).drew
  have r0 := H3.out.rf.below b0
  have cvt : ∀ w', Below w1.heap.size w1 w' → Sem.run Try.prog (convert 30 9 (.slice (some ⟨g, 0, none⟩) m.size m.size)) w' = .ok (.string (padS m.size (m.cont ones k))) w' := fun w' hb => by
    have CV := conv_bytes ((BX.out.holds0).below hb) m.size
    rw [hpl] at CV
    exact CV
  have call : Calls Try.prog 17 #[.pointer (some ⟨r.p, 0, none⟩), .int .u64 18446744073709551615] (w1.drewN nq).drew fun e w' => ∃ g' c', e = .returned (.slice (some ⟨g', 0, none⟩) r.last.length c') ∧ (r.last.length : Int) ≤ (c' : Int) ∧ w'.cell? ⟨g', k, none⟩ = some (.string (padS m.size (m.cont ones k))) ∧ Hid (w'.cell? ⟨w.heap.size, 1, none⟩ = some (.int .i64 (k : Nat)) ∧ Sem.run Try.prog (convert 30 9 (.slice (some ⟨g, 0, none⟩) m.size m.size)) w' = .ok (.string (padS m.size (m.cont ones k))) w') ∧ Hid (Both w0 w' p r.p F m r) := by
    refine (seen_at r0 (by omega) ones (by decide)).mono ?_
    rintro e w' ⟨v, rfl, hr, hb⟩
    have hb' := below_next b0 hb
    obtain ⟨A', c', ev', hc', hz⟩ := hr.shape
    obtain ⟨g', e', -, -, hcell⟩ := hz k (by rw [seenR_length]; omega)
    subst e'
    rw [seenR_length] at ev' hc'
    refine ⟨g', c', by rw [ev'], by omega, ?_, Lib.hid ⟨(hb'.cell (p := ⟨w.heap.size, 1, none⟩) (World.block_lt_of_cell? w1 _ c1)).trans c1, cvt w' hb'⟩, Lib.hid (H3.out.below hb')⟩
    rw [hcell]
    rw [List.getElem?_eq_getElem (by rw [seenR_length]; omega)] at SN
    injection SN with SN
    rw [SN]
  have cv0 := cvt _ b0
  have CALL := Lib.hid call
  have c9 : (w1.drewN nq).cell? ⟨w.heap.size, 1, none⟩ = some (.int .i64 (k : Nat)) := ((below_drewN (Below.refl _ _) nq).cell (p := ⟨w.heap.size, 1, none⟩) (World.block_lt_of_cell? w1 _ c1)).trans c1
  generalize padS m.size (m.cont ones k) = ps at *
  clear call cvt r0 b0 SN BX H3 hpl c1 d4 d0
  generalize w1.drewN nq = W1 at *
  go_region_with
    (first
      | (go_at_call 17; (with_reducible refine CALL.out.mono ?_); rintro e w3 ⟨g', c', rfl, q0, q1, S1, FIN⟩; obtain ⟨S2, S3⟩ := S1.out))
  all_goals
    clear q0 q1 S1 S2 S3
    go_wp2_with fail
    go_ret
    exact ⟨by first | rfl | simp [Act.put], _, _, FIN.out⟩
end
end Go.Proofs.Ytmcgjlidfgbdfaa
