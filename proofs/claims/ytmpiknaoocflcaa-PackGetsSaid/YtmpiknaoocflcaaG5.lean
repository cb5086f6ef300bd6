/- The reference's GetValue. -/
import Derived.Test.YtmpiknaoocflcaaG4
import Derived.Test.YtmpiknaoocflcaaT1
namespace Go.Proofs.Ytmpiknaoocflcaa
open Go.RowKit

def vStep (x : Nat) (l : List UInt8) : Option (Tri × List UInt8) :=
  if x = 0 then some (((0, 0, ⟨#[]⟩) : Tri), l)
  else if x = 1 then (match wholeOf l with | some (n, l') => some ((1, n, ⟨#[]⟩), l') | none => none)
  else if x = 2 then (match textOf 200 l with | some (s, l') => some ((2, 0, s), l') | none => none)
  else if x = 3 then (match l with | [] => none | y :: l' => if y.toNat ≤ 1 then some ((3, (y.toNat : Int), ⟨#[]⟩), l') else none)
  else none
set_option maxRecDepth 100000 in
set_option maxHeartbeats 1000000 in
theorem refGetValue (B : Option Addr) (c : Nat) (l : List UInt8) (p0 : Nat) (w : World) (h : Holds w B l) (hc : l.length ≤ c) (hl : l.length ≤ 3000) (hp0 : p0 ≤ l.length) :
    Calls Try.prog 31 #[.slice B l.length c, .int .i64 (p0 : Nat)] w fun e w' => e = .returned (Placed l.length (valOf (l.drop p0)) tval (tval (0, 0, ⟨#[]⟩))) ∧ Below w.heap.size w w' := by
  have bal : Below w.heap.size w (w.alloc (.cells #[.int .i64 0, .int .i64 0, .string ⟨#[]⟩] 42)) := (Below.refl _ _).alloc (Nat.le_refl _) _
  have hE : Whole (w.alloc (.cells #[.int .i64 0, .int .i64 0, .string ⟨#[]⟩] 42)) w.heap.size 42 #[.int .i64 0, .int .i64 0, .string ⟨#[]⟩] := Whole.new w 42 _
  have h' := h.below bal
  clear h
  generalize hA' : w.alloc (.cells #[.int .i64 0, .int .i64 0, .string ⟨#[]⟩] 42) = wA at *
  have q0 := hE.cell 0
  have q1 := hE.cell 1
  have q2 := hE.cell 2
  have f0 := hE.frozen 0
  have f1 := hE.frozen 1
  have f2 := hE.frozen 2
  simp only [List.getElem?_toArray, List.getElem?_cons_zero, List.getElem?_cons_succ] at q0 q1 q2
  have hl9 : (l.length : Int) ≤ 3000 := by omega
  have hp9 : (p0 : Int) ≤ 3000 := by omega
  by_cases hfull : p0 = l.length
  · have hf : (l.length : Int) ≤ (p0 : Int) := by omega
    have HF : Hid (Placed l.length (valOf (l.drop p0)) tval (tval (0, 0, ⟨#[]⟩)) = .tuple #[tval (0, 0, ⟨#[]⟩), .int .i64 0, .bool false]) := Lib.hid (by rw [hfull, List.drop_length]; rfl)
    have HK : Hid (Whole wA w.heap.size 42 #[.int .i64 0, .int .i64 0, .string ⟨#[]⟩]) := Lib.hid hE
    have BK := Lib.hid bal
    clear h' bal hE hfull
    go_enter Try.func31, Try.ntmps31
    go_wp2_with fail
    refine bodyPost_ret (results_c3 rfl _ _ w.heap.size #[.int .i64 0, .int .i64 0, .string ⟨#[]⟩] rfl (three HK.out) rfl) rfl ⟨?_, below_set3' BK.out (Nat.le_refl _)⟩
    rw [HF.out]
    rfl
  · have hlt : p0 < l.length := by omega
    have hf : ¬ (l.length : Int) ≤ (p0 : Int) := by omega
    obtain ⟨b, off, e, hbl, hcell⟩ := h' p0 hlt
    subst e
    have hdrop := List.drop_eq_getElem_cons hlt
    generalize l[p0] = x at *
    have HV : Hid (valOf (l.drop p0) = vStep x.toNat (l.drop (p0 + 1))) := Lib.hid (by rw [hdrop, valOf_cons]; rfl)
    have hx := x.toNat_lt
    generalize x.toNat = y at *
    clear hdrop
    have k9 : (y : Int) < 256 := by omega
    go_enter Try.func31, Try.ntmps31
    by_cases h0 : y = 0
    · subst h0
      have HF : Hid (Placed l.length (valOf (l.drop p0)) tval (tval (0, 0, ⟨#[]⟩)) = .tuple #[tval (0, 0, ⟨#[]⟩), .int .i64 ((p0 : Int) + 1), .bool true]) := Lib.hid (by rw [HV.out]; exact placed_some (l := l) (q := p0 + 1) (by omega) _ _ _)
      have HK : Hid (Whole wA w.heap.size 42 #[.int .i64 0, .int .i64 0, .string ⟨#[]⟩]) := Lib.hid hE
      have BK := Lib.hid bal
      clear h' bal hE HV
      go_wp2_with fail
      refine bodyPost_ret (results_c3 rfl _ _ w.heap.size #[.int .i64 0, .int .i64 0, .string ⟨#[]⟩] rfl (three HK.out) rfl) rfl ⟨?_, below_set3' BK.out (Nat.le_refl _)⟩
      rw [HF.out]
      rfl
    · by_cases h1 : y = 1
      · subst h1
        have RI := refGetInt (some ⟨b, off, none⟩) c l (p0 + 1) wA h' hl (by omega)
        rw [show ((p0 + 1 : Nat) : Int) = (p0 : Int) + 1 from rfl] at RI
        replace RI := Lib.hid RI
        go_wp2_with fail
        try simp only [hA']
        refine RI.out.mono ?_
        rintro e w1 ⟨rfl, k, rfl⟩
        have HK : Hid (Whole (wA.drewN k) w.heap.size 42 #[.int .i64 0, .int .i64 0, .string ⟨#[]⟩]) := Lib.hid hE
        have BK := Lib.hid (below_drewN bal k)
        cases hw : wholeOf (l.drop (p0 + 1)) with
        | none =>
          have HF : Hid (Placed l.length (valOf (l.drop p0)) tval (tval (0, 0, ⟨#[]⟩)) = .tuple #[tval (0, 0, ⟨#[]⟩), .int .i64 0, .bool false]) := Lib.hid (by rw [HV.out]; unfold vStep; rw [if_neg (by decide), if_pos rfl, hw]; rfl)
          clear RI
          dsimp only [Placed]
          go_wp2_with fail
          refine bodyPost_ret (results_c3 rfl _ _ w.heap.size #[.int .i64 0, .int .i64 0, .string ⟨#[]⟩] rfl (three HK.out) rfl) rfl ⟨?_, below_set3' BK.out (Nat.le_refl _)⟩
          rw [HF.out]
          rfl
        | some p =>
          obtain ⟨z, l'⟩ := p
          have HF : Hid (Placed l.length (valOf (l.drop p0)) tval (tval (0, 0, ⟨#[]⟩)) = .tuple #[tval (1, z, ⟨#[]⟩), .int .i64 ((l.length - l'.length : Nat) : Int), .bool true]) := Lib.hid (by rw [HV.out]; unfold vStep; rw [if_neg (by decide), if_pos rfl, hw]; rfl)
          clear RI
          dsimp only [Placed]
          generalize l.length - l'.length = Q at *
          go_wp2_with fail
          refine bodyPost_ret (results_c3 rfl _ _ w.heap.size #[.int .i64 1, .int .i64 z, .string ⟨#[]⟩] rfl (three HK.out) rfl) rfl ⟨?_, below_set3' BK.out (Nat.le_refl _)⟩
          rw [HF.out]
          rfl
      · by_cases h2 : y = 2
        · subst h2
          have RI := refGetText (some ⟨b, off, none⟩) c l (p0 + 1) 200 wA h' hc hl (by omega) (by omega)
          rw [show ((p0 + 1 : Nat) : Int) = (p0 : Int) + 1 from rfl] at RI
          replace RI := Lib.hid RI
          go_wp2_with fail
          try simp only [hA']
          refine RI.out.mono ?_
          rintro e w1 ⟨rfl, k, rfl⟩
          have HK : Hid (Whole (wA.drewN k) w.heap.size 42 #[.int .i64 0, .int .i64 0, .string ⟨#[]⟩]) := Lib.hid hE
          have BK := Lib.hid (below_drewN bal k)
          cases hw : textOf 200 (l.drop (p0 + 1)) with
          | none =>
            have HF : Hid (Placed l.length (valOf (l.drop p0)) tval (tval (0, 0, ⟨#[]⟩)) = .tuple #[tval (0, 0, ⟨#[]⟩), .int .i64 0, .bool false]) := Lib.hid (by rw [HV.out]; unfold vStep; rw [if_neg (by decide), if_neg (by decide), if_pos rfl, hw]; rfl)
            clear RI
            dsimp only [Placed]
            go_wp2_with fail
            refine bodyPost_ret (results_c3 rfl _ _ w.heap.size #[.int .i64 0, .int .i64 0, .string ⟨#[]⟩] rfl (three HK.out) rfl) rfl ⟨?_, below_set3' BK.out (Nat.le_refl _)⟩
            rw [HF.out]
            rfl
          | some p =>
            obtain ⟨z, l'⟩ := p
            have HF : Hid (Placed l.length (valOf (l.drop p0)) tval (tval (0, 0, ⟨#[]⟩)) = .tuple #[tval (2, 0, z), .int .i64 ((l.length - l'.length : Nat) : Int), .bool true]) := Lib.hid (by rw [HV.out]; unfold vStep; rw [if_neg (by decide), if_neg (by decide), if_pos rfl, hw]; rfl)
            clear RI
            dsimp only [Placed]
            generalize l.length - l'.length = Q at *
            go_wp2_with fail
            refine bodyPost_ret (results_c3 rfl _ _ w.heap.size #[.int .i64 2, .int .i64 0, .string z] rfl (three HK.out) rfl) rfl ⟨?_, below_set3' BK.out (Nat.le_refl _)⟩
            rw [HF.out]
            rfl
        · by_cases h3 : y = 3
          · subst h3
            by_cases hg : p0 + 1 = l.length
            · have hg1 : ¬ (p0 : Int) + 1 < (l.length : Int) := by omega
              have HF : Hid (Placed l.length (valOf (l.drop p0)) tval (tval (0, 0, ⟨#[]⟩)) = .tuple #[tval (0, 0, ⟨#[]⟩), .int .i64 0, .bool false]) := Lib.hid (by rw [HV.out, hg, List.drop_length]; rfl)
              have HK : Hid (Whole wA w.heap.size 42 #[.int .i64 0, .int .i64 0, .string ⟨#[]⟩]) := Lib.hid hE
              have BK := Lib.hid bal
              clear h' bal hE HV hg
              go_wp2_with fail
              refine bodyPost_ret (results_c3 rfl _ _ w.heap.size #[.int .i64 0, .int .i64 0, .string ⟨#[]⟩] rfl (three HK.out) rfl) rfl ⟨?_, below_set3' BK.out (Nat.le_refl _)⟩
              rw [HF.out]
              rfl
            · have hg0 : p0 + 1 < l.length := by omega
              have hg1 : (p0 : Int) + 1 < (l.length : Int) := by omega
              obtain ⟨b2, off2, e2, hbl2, hcell2⟩ := h' (p0 + 1) hg0
              cases e2
              have hdrop2 := List.drop_eq_getElem_cons hg0
              generalize l[p0 + 1] = x2 at *
              have HV2 : Hid (valOf (l.drop p0) = if x2.toNat ≤ 1 then some ((3, (x2.toNat : Int), ⟨#[]⟩), l.drop (p0 + 1 + 1)) else none) := Lib.hid (by rw [HV.out, hdrop2]; rfl)
              have hx2 := x2.toNat_lt
              generalize x2.toNat = y2 at *
              have k92 : (y2 : Int) < 256 := by omega
              clear hdrop2 HV
              by_cases hy2 : y2 ≤ 1
              · have k2 : (y2 : Int) < 2 := by omega
                have HF : Hid (Placed l.length (valOf (l.drop p0)) tval (tval (0, 0, ⟨#[]⟩)) = .tuple #[tval (3, (y2 : Int), ⟨#[]⟩), .int .i64 ((p0 : Int) + 2), .bool true]) := Lib.hid (by rw [HV2.out, if_pos hy2]; exact placed_some (l := l) (q := p0 + 1 + 1) (by omega) _ _ _)
                have HK : Hid (Whole wA w.heap.size 42 #[.int .i64 0, .int .i64 0, .string ⟨#[]⟩]) := Lib.hid hE
                have BK := Lib.hid bal
                clear h' bal hE HV2 hy2
                go_wp2_with fail
                refine bodyPost_ret (results_c3 rfl _ _ w.heap.size #[.int .i64 3, .int .i64 y2, .string ⟨#[]⟩] rfl (three HK.out) rfl) rfl ⟨?_, below_set3' BK.out (Nat.le_refl _)⟩
                rw [HF.out]
                rfl
              · have k2 : ¬ (y2 : Int) < 2 := by omega
                have HF : Hid (Placed l.length (valOf (l.drop p0)) tval (tval (0, 0, ⟨#[]⟩)) = .tuple #[tval (0, 0, ⟨#[]⟩), .int .i64 0, .bool false]) := Lib.hid (by rw [HV2.out, if_neg hy2]; rfl)
                have HK : Hid (Whole wA w.heap.size 42 #[.int .i64 0, .int .i64 0, .string ⟨#[]⟩]) := Lib.hid hE
                have BK := Lib.hid bal
                clear h' bal hE HV2 hy2
                go_wp2_with fail
                refine bodyPost_ret (results_c3 rfl _ _ w.heap.size #[.int .i64 0, .int .i64 0, .string ⟨#[]⟩] rfl (three HK.out) rfl) rfl ⟨?_, below_set3' BK.out (Nat.le_refl _)⟩
                rw [HF.out]
                rfl
          · have g0 : ¬ (y : Int) = 0 := by omega
            have g1 : ¬ (y : Int) = 1 := by omega
            have g2 : ¬ (y : Int) = 2 := by omega
            have g3 : ¬ (y : Int) = 3 := by omega
            have HF : Hid (Placed l.length (valOf (l.drop p0)) tval (tval (0, 0, ⟨#[]⟩)) = .tuple #[tval (0, 0, ⟨#[]⟩), .int .i64 0, .bool false]) := Lib.hid (by rw [HV.out]; unfold vStep; rw [if_neg h0, if_neg h1, if_neg h2, if_neg h3]; rfl)
            have HK : Hid (Whole wA w.heap.size 42 #[.int .i64 0, .int .i64 0, .string ⟨#[]⟩]) := Lib.hid hE
            have BK := Lib.hid bal
            clear h' bal hE HV h0 h1 h2 h3
            go_wp2_with fail
            refine bodyPost_ret (results_c3 rfl _ _ w.heap.size #[.int .i64 0, .int .i64 0, .string ⟨#[]⟩] rfl (three HK.out) rfl) rfl ⟨?_, below_set3' BK.out (Nat.le_refl _)⟩
            rw [HF.out]
            rfl

end Go.Proofs.Ytmpiknaoocflcaa
