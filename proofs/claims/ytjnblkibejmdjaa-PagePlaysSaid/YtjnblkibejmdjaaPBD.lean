/- take, Read: the page whose bytes these are. -/
import Derived.Test.YtjnblkibejmdjaaPBA
namespace Go.Proofs.Ytjnblkibejmdjaa
open Go.RowKit
set_option linter.unusedVariables false
theorem Goes.bb {w w' : World} {P P' : Pg} {g : Nat} {l : List UInt8} (h : PgAt w P) (hg : Goes w w' P P') (hb : BB w g l) : BB w' g l :=
  (hg.2.2.2.2.block g hb.lt (fun hk => h.plain hk ⟨_, _, hb⟩)).trans hb
set_option maxRecDepth 100000 in
set_option maxHeartbeats 2000000 in
theorem take_ok {w : World} {P : Pg} (h : PgAt w P) (h0 : P.xs = []) {L : List (List UInt8)} (hf : 1 + 4 * L.length + used L ≤ P.size) (hn : L.length ≤ 250) (ht : trimL L = L) (g : Nat) (hB : BB w g (pageB P.size L)) :
    Calls Try.prog 25 #[P.ptr, .slice (some ⟨g, 0, none⟩) P.size P.size] w fun e w' => e = .returned (.bool true) ∧ ∃ P', Goes w w' P P' ∧ P'.L = L := by
  have hsz1 := h.sz1
  have hsz2 := h.sz2
  have hl := pageB_length P.size L hf
  have b0 : w.cell? ⟨g, 0, none⟩ = some (.int .u8 (L.length : Nat)) := by
    rw [hB.cell 0 (by rw [hl]; omega)]
    show some (Value.int .u8 (((UInt8.ofNat L.length).toNat : Nat) : Int)) = _
    rw [UInt8.toNat_ofNat', Nat.mod_eq_of_lt (by omega)]
  have hsi : (0 : Int) < (P.size : Int) := by omega
  have hni : ¬ (L.length : Int) > 250 := by omega
  have hni2 : (L.length : Int) ≤ 250 := by omega
  have hszi : (P.size : Int) ≤ 1024 := by omega
  have H := Lib.hid h
  have G0 := Lib.hid (Goes.refl h)
  have HB := Lib.hid hB
  have HT := Lib.hid ht
  have HL0 : Hid (P.L = []) := Lib.hid (by unfold Pg.L; rw [h0]; rfl)
  clear h hB ht h0
  go_enter Try.func25, Try.ntmps25
  go_wp2_with fail
  go_loopg [6, 18] (L.length + 1) (fun j s6 s18 wr => ∃ (i : Nat) (Pi : Pg), i ≤ L.length ∧ L.length < i + j ∧ s18 = .int .i64 (i : Nat) ∧ s6 = .int .i64 ((P.size - used (L.take i) : Nat) : Int) ∧ Goes w wr P Pi ∧ Pi.L = L.take i ∧ BB wr g (pageB P.size L))
  case atStart => exact ⟨0, P, by omega, by omega, rfl, by simp [used], G0.out, by rw [HL0.out]; simp, HB.out⟩
  case round =>
    obtain ⟨i, Pi, hi, hj, rfl, rfl, hg, hL, hb⟩ := hrel
    have HG := Lib.hid hg
    have HLI := Lib.hid hL
    have HBB := Lib.hid hb
    clear b0 HB G0
    by_cases hlt : i < L.length
    · have hlti : (i : Int) < (L.length : Int) := by omega
      have hu := used_at L i hlt
      have hus := used_take_succ L i hlt
      have hPp : Pi.p = P.p := hg.2.1
      have hPs : Pi.size = P.size := hg.2.2.1
      have hPl : Pi.xs.length = i := by
        have := congrArg List.length hL
        rw [show Pi.L.length = Pi.xs.length from bbs_len _, List.length_take] at this
        omega
      obtain ⟨R, hR⟩ := pageB_num P.size L i hlt
      have hpc := pageB_piece P.size L i hlt hf
      obtain ⟨k2, hk2⟩ : ∃ k2, 1 + 4 * i + 2 = k2 := ⟨_, rfl⟩
      rw [hk2] at hR
      have hk2i : (1 + (i : Int) * 4) + 2 = (k2 : Nat) := by omega
      have hdl : ((pageB P.size L).drop k2).length = P.size - k2 := by rw [List.length_drop, hl]
      have HD1 := Lib.hid (head_any i (by omega) wr)
      have HD2 := Lib.hid fun W => head_any L.length (by omega) W
      have NM := number_q (some ⟨g, k2, none⟩) (P.size - k2) ((pageB P.size L).drop k2) wr (hb.holds k2) (by rw [hdl]; omega) (by rw [hdl]; omega)
      rw [hdl, hR, num2_w2 _ (by omega)] at NM
      replace NM := Lib.hid NM
      have hk2a : (k2 : Int) ≤ (P.size : Int) := by omega
      have hk2b : (P.size = k2) = False := by simp; omega
      obtain ⟨en, hen⟩ : ∃ en, P.size - used (L.take i) = en := ⟨_, rfl⟩
      obtain ⟨lo, hlo⟩ : ∃ lo, en - L[i].length = lo := ⟨_, rfl⟩
      have hpc2 : P.size - (used (L.take i) + L[i].length) = lo := by omega
      have hnx : Hid (P.size - used (L.take (i + 1)) = lo) := Lib.hid (by rw [hus]; omega)
      rw [hpc2] at hpc
      have hpiece : ∀ W, BB W g (pageB P.size L) → Holds W (some ⟨g, lo, none⟩) L[i] := fun W hW => by
        have := (hW.holds lo).take L[i].length
        rwa [hpc] at this
      have hm0 : Hid (P.size = lo → L[i] = []) := Lib.hid fun e => List.eq_nil_of_length_eq_zero (by omega)
      have hloi : (en : Int) - (L[i].length : Nat) = (lo : Nat) := by omega
      have hml : Hid (en - lo = L[i].length) := Lib.hid (by omega)
      have hgt : ¬ ((L[i].length : Nat) : Int) > (en : Int) - (1 + (L.length : Int) * 4) := by omega
      have hle1 : (lo : Int) ≤ (en : Int) := by omega
      have hle2 : (en : Int) ≤ (P.size : Int) := by omega
      have hfit : 1 + 4 * (Pi.xs.length + 1) + used Pi.L + L[i].length ≤ Pi.size := by rw [hPl, hPs, hL]; omega
      have hlen1 : L[i].length ≤ 1024 := by omega
      have CALL : Hid (∀ (k : Nat) (A' : Option Addr) (cA : Nat), (∀ W, BB W g (pageB P.size L) → Holds W A' L[i]) → Calls Try.prog 20 #[.slice A' (en - lo) cA] (wr.drewN k).drew fun e w3 => ∃ a cc, e = .returned (.slice a L[i].length cc) ∧ P.p < w3.heap.size ∧ w3.cell? ⟨P.p, 1, none⟩ = some (.slice Pi.A i Pi.c) ∧
          ∃ a' c' w4, Sem.run Try.prog (Builtin.append_ #[46, 46] 46 #[.slice Pi.A i Pi.c, .slice (some ⟨w3.heap.size, 0, none⟩) 1 1]) (w3.alloc (.cells #[.slice a L[i].length cc] 29)) = .ok (.slice a' (i + 1) c') w4 ∧
            w4.cell? ⟨P.p, 1, none⟩ = some (.slice Pi.A i Pi.c) ∧ w4.frozen? ⟨P.p, 1, none⟩ = false ∧
            Hid (∃ P', Goes w (w4.setCell ⟨P.p, 1, none⟩ (.slice a' (i + 1) c')) P P' ∧ P'.L = L.take (i + 1) ∧ BB (w4.setCell ⟨P.p, 1, none⟩ (.slice a' (i + 1) c')) g (pageB P.size L))) := Lib.hid fun k A' cA hA' => by
        have hd : Below wr.heap.size wr (wr.drewN k).drew := (below_drewN (Below.refl _ _) k).drew
        have CL := clone_any A' cA L[i] (wr.drewN k).drew (hA' _ (HBB.out.below hd)) (by omega)
        rw [← hml.out] at CL ⊢
        refine CL.mono ?_
        rintro e w3 ⟨v, rfl, hr, hb3⟩
        have hb2 : Below wr.heap.size wr w3 := below_next hd hb3
        obtain ⟨a, cc, rfl, -, -, -⟩ := hr.shape
        have h3 := HG.out.1.below hb2
        obtain ⟨a', c', w4, s1, s2, s3, s4, s5⟩ := h3.push ⟨a, cc, L[i]⟩ (hr.le (Nat.zero_le _)) (by omega) hfit
        have hbb4 := Goes.bb h3 s5 (HBB.out.below hb2)
        have c1' := h3.c1
        unfold Pg.v at s1 s2 c1'
        simp only [hPp, hPl] at s1 s2 s3 s4 s5 hbb4 c1'
        rw [hml.out]
        refine ⟨a, cc, rfl, ?_, c1', a', c', w4, s1, s2, s3, Lib.hid ⟨_, HG.out.trans (s5.after hb2), ?_, hbb4⟩⟩
        · rw [← hPp]; exact h3.lt
        · show bbs (Pi.xs ++ [⟨a, cc, L[i]⟩]) = _
          rw [show bbs (Pi.xs ++ [⟨a, cc, L[i]⟩]) = Pi.L ++ [L[i]] by simp [Pg.L, bbs], hL, List.take_add_one, List.getElem?_eq_getElem hlt]
          rfl
      have c1 := HG.out.1.c1
      unfold Pg.v at c1
      rw [hPp, hPl] at c1
      have HNX := hnx
      clear hnx hus hu hR hpc hpc2 hdl hl hfit hf HT HL0 H HG HBB hg hL hb hPp hPs hPl hk2 HLI
      have hpA := Lib.hid hpiece
      clear hpiece
      generalize L[i] = b at *
      generalize hbm : b.length = m at *
      rw [hen]
      clear hen
      generalize used (L.take i) = u at *
      have hmi : (m : Int) ≤ 1024 := by omega
      go_wp2_with fail
      refine HD1.out.mono ?_
      rintro e w1 ⟨rfl, rfl⟩
      go_wp2_with fail
      refine NM.out.mono ?_
      rintro e w2 ⟨rfl, k, rfl⟩
      have HD2' := Lib.hid (HD2.out (wr.drewN k))
      have CALL1 := Lib.hid (CALL.out k)
      have c1k : (wr.drewN k).cell? ⟨P.p, 1, none⟩ = some (.slice Pi.A i Pi.c) := c1
      clear HD1 HD2 NM CALL c1 hk2i hk2a hk2b
      generalize wr.drewN k = W at *
      go_wp2_with fail
      refine HD2'.out.mono ?_
      rintro e w1 ⟨rfl, rfl⟩
      clear HD2'
      go_wp2_with fail
      have hwl : IntKind.i64.wrap ((lo : Nat) : Int) = (lo : Nat) := by simp [IntKind.wrap, IntKind.bits, IntKind.signed]; omega
      by_cases hse : P.size = lo
      · have hb0 := hm0.out hse
        have CALL2 := Lib.hid (CALL1.out (some ⟨g, 0, none⟩) (P.size - lo) (fun W hW => by rw [hb0]; exact Holds.nil _ _))
        have hse' : (P.size = lo) = True := by simp [hse]
        clear CALL1 hpA hm0 hse hbm hb0
        go_region_law (first
          | (refine step_append_runI rfl _ _ 46 46 rfl _ _ ?h3 ?h4 s1 ?_; (case h3 => rfl); (case h4 => rfl))
          | (refine step_call_any rfl 20 #[.slice (some ⟨g, 0, none⟩) (en - lo) (P.size - lo)] ?h1 CALL2.out ?_; (case h1 => kernel_rfl); rintro e w3 ⟨a, cc, rfl, q0, q1, a', c', w4, s1, s2, s3, FIN⟩; have q5 : (w3.alloc (.cells #[.slice a m cc] 29)).cell? ⟨P.p, 1, none⟩ = some (.slice Pi.A i Pi.c) := (((Below.refl _ w3).alloc (Nat.le_refl _) _).cell (p := ⟨P.p, 1, none⟩) q0).trans q1; refine ⟨_, rfl, ?_⟩))
        all_goals
          clear q1 q5 s1 s2 s3 CALL2 c1k hwl
          go_wp2_with fail
          obtain ⟨P', f1, f2, f3⟩ := FIN.out
          go_roundg (L.length - i)
          case measure => omega
          case rel => exact ⟨i + 1, P', by omega, by omega, rfl, by rw [HNX.out], f1, f2, f3⟩
      · have CALL2 := Lib.hid (CALL1.out (some ⟨g, lo, none⟩) (P.size - lo) hpA.out)
        have hse' : (P.size = lo) = False := by simp [hse]
        clear CALL1 hpA hm0 hse hbm
        go_region_law (first
          | (refine step_append_runI rfl _ _ 46 46 rfl _ _ ?h3 ?h4 s1 ?_; (case h3 => rfl); (case h4 => rfl))
          | (refine step_call_any rfl 20 #[.slice (some ⟨g, lo, none⟩) (en - lo) (P.size - lo)] ?h1 CALL2.out ?_; (case h1 => kernel_rfl); rintro e w3 ⟨a, cc, rfl, q0, q1, a', c', w4, s1, s2, s3, FIN⟩; have q5 : (w3.alloc (.cells #[.slice a m cc] 29)).cell? ⟨P.p, 1, none⟩ = some (.slice Pi.A i Pi.c) := (((Below.refl _ w3).alloc (Nat.le_refl _) _).cell (p := ⟨P.p, 1, none⟩) q0).trans q1; refine ⟨_, rfl, ?_⟩))
        all_goals
          clear q1 q5 s1 s2 s3 CALL2 c1k hwl
          go_wp2_with fail
          obtain ⟨P', f1, f2, f3⟩ := FIN.out
          go_roundg (L.length - i)
          case measure => omega
          case rel => exact ⟨i + 1, P', by omega, by omega, rfl, by rw [HNX.out], f1, f2, f3⟩
    · have hge : ¬ (i : Int) < (L.length : Int) := by omega
      have hPp : Pi.p = P.p := hg.2.1
      have hPs : Pi.size = P.size := hg.2.2.1
      have hLL : Pi.L = L := by rw [hL, List.take_of_length_le (by omega)]
      have TR : Hid (Calls Try.prog 23 #[P.ptr] wr fun e w' => e = .returned (.tuple #[]) ∧ ∃ P', P'.p = P.p ∧ P'.size = P.size ∧ Goes w w' P P' ∧ P'.L = L ∧ BB w' g (pageB P.size L)) := Lib.hid (by
        have := trim_at HG.out.1
        unfold Pg.ptr at *
        rw [hPp] at this
        refine this.mono ?_
        rintro e w' ⟨he, P', g1, g2⟩
        have g3 := HG.out.trans g1
        exact ⟨he, P', g3.2.1, g3.2.2.1, g3, by rw [g2, hLL, HT.out], Goes.bb HG.out.1 g1 HBB.out⟩)
      clear hg hL hb HG HBB HLI hPp hPs hLL H HL0
      go_wp2_with fail
      refine TR.out.mono ?_
      rintro e w1 ⟨rfl, P', p1, p2, g1, g2, g3⟩
      have WR := written_at g1.1
      unfold Pg.ptr at *
      rw [p1, p2, g2] at WR
      have WR := Lib.hid WR
      have G1 := Lib.hid g1
      have G2 := Lib.hid g2
      have G3 := Lib.hid g3
      clear TR g1 g2 g3
      go_wp2_with fail
      refine WR.out.mono ?_
      rintro e w2 ⟨g2, rfl, h1, h2, h3⟩
      have EQ := equal_any (some ⟨g2, 0, none⟩) (some ⟨g, 0, none⟩) P.size P.size (pageB P.size L) (pageB P.size L) w2 h2.holds0 ((G3.out.below h3).holds0)
      rw [hl, show (pageB P.size L == pageB P.size L) = true by simp] at EQ
      have EQ := Lib.hid EQ
      have FIN : Hid (∃ P', Goes w w2 P P' ∧ P'.L = L) := Lib.hid ⟨P', G1.out.trans ⟨G1.out.1.below h3, rfl, rfl, fun k hk => .inl hk, Touch.of_below h3 _⟩, G2.out⟩
      clear WR h1 h2 h3 G1 G2 G3
      go_wp2_with fail
      refine EQ.out.mono ?_
      rintro e w3 ⟨rfl, rfl⟩
      go_wp2_with fail
      go_ret
      exact ⟨rfl, FIN.out⟩
set_option maxRecDepth 100000 in
theorem read_ok (w : World) (size : Nat) {L : List (List UInt8)} (h1 : 64 ≤ size) (h2 : size ≤ 1024) (hf : 1 + 4 * L.length + used L ≤ size) (hn : L.length ≤ 250) (ht : trimL L = L) (g : Nat) (hB : BB w g (pageB size L)) :
    Calls Try.prog 12 #[.slice (some ⟨g, 0, none⟩) size size] w fun e w' => ∃ P', e = .returned (.tuple #[P'.ptr, .int .i64 0]) ∧ PgAt w' P' ∧ P'.size = size ∧ P'.L = L ∧ (∀ k ∈ foot P', w.heap.size ≤ k) ∧ Below w.heap.size w w' := by
  have F := fits_good size h1 h2 w
  have hb : Below w.heap.size w (w.alloc (.cells #[.int .i64 (size : Nat), .slice none 0 0] 48)) := (Below.refl _ _).alloc (Nat.le_refl _) _
  have N := newP_at w size h1 h2
  have TK : Hid (Calls Try.prog 25 #[.pointer (some ⟨w.heap.size, 0, none⟩), .slice (some ⟨g, 0, none⟩) size size] (w.alloc (.cells #[.int .i64 (size : Nat), .slice none 0 0] 48)) fun e w' => e = .returned (.bool true) ∧ ∃ P', P'.ptr = .pointer (some ⟨w.heap.size, 0, none⟩) ∧ PgAt w' P' ∧ P'.size = size ∧ P'.L = L ∧ (∀ k ∈ foot P', w.heap.size ≤ k) ∧ Below w.heap.size w w') := Lib.hid ((take_ok N rfl hf hn ht g (hB.below hb)).mono (by
    rintro e w' ⟨he, P', g1, g2⟩
    have hF : ∀ k ∈ foot (newP w.heap.size size), w.heap.size ≤ k := fun k hk => by
      rcases foot_cases hk with rfl | e
      · exact Nat.le_refl _
      · simp [newP, Pg.v, Value.ownBlock] at e
    refine ⟨he, P', ?_, g1.1, g1.2.2.1, g2, fun k hk => ?_, Touch.fresh hb g1.2.2.2.2 hF⟩
    · unfold Pg.ptr
      rw [g1.2.1]
      rfl
    · rcases g1.2.2.2.1 k hk with hh | hh
      · exact hF k hh
      · exact Nat.le_trans hb.size hh))
  clear hB N hb
  go_enter Try.func12, Try.ntmps12
  go_wp2_with fail
  refine F.mono ?_
  rintro e w1 ⟨rfl, rfl⟩
  go_wp2_with fail
  refine TK.out.mono ?_
  rintro e w2 ⟨rfl, P', p1, FIN⟩
  go_wp2_with fail
  go_ret2
  exact ⟨P', by rw [p1]; rfl, FIN⟩
end Go.Proofs.Ytjnblkibejmdjaa
