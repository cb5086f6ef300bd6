import Derived.Test.YteghhmomhlnccaaGreatDoorZP
import Derived.Test.YteghhmomhlnccaaGreatDoorZHMB
import Derived.Test.YteghhmomhlnccaaGreatDoorZI
import Derived.Test.YteghhmomhlnccaaGreatDoorZGQC
import Derived.Test.YteghhmomhlnccaaGreatDoorZPE
import Derived.Test.YteghhmomhlnccaaGreatDoorZHS

/- eval: Row, Eval, Holds. -/
namespace Go.Proofs.YteghhmomhlnccaaGreatDoor
open Go.RowKit Go.Lib
set_option linter.unusedVariables false
set_option linter.unusedSimpArgs false
set_option maxRecDepth 100000
attribute [local go_sem ↓] eqVal neqVal
open Ex (Tree)
open Ev (V R Pl)
/-- a row over columns. -/
def Ev.rowB (C : List Col) (L : List V) : Bool := Kd.goodB C && (L.all (fun v => plainB v.k v.n (tx v.s)) && Ev.areB L (C.map (·.2)))
theorem take_kinds (C : List Col) (i : Nat) (h : i < C.length) : (C.take (i + 1)).map (·.2) = (C.take i).map (·.2) ++ [C[i].2] := by
  rw [List.take_succ_eq_append_getElem h, List.map_append]; rfl
theorem pl_of {v : V} (h : plainB v.k v.n (tx v.s) = true) (hn : Fits v.n) : Pl v := by
  have hs : (tx v.s).size = v.s.length := by simp [ByteArray.size, tx]
  rcases plainB_iff.1 h with ⟨h1, h2, h3⟩ | ⟨h1, h3⟩ | ⟨h1, h2, h3⟩ | ⟨h1, h3, h4, h5⟩
  · exact .inl ⟨h1, h2, List.eq_nil_of_length_eq_zero (by rw [← hs]; exact h3)⟩
  · exact .inr (.inl ⟨h1, hn, List.eq_nil_of_length_eq_zero (by rw [← hs]; exact h3)⟩)
  · exact .inr (.inr (.inl ⟨h1, h2, by rw [← hs]; exact h3⟩))
  · exact .inr (.inr (.inr ⟨h1, by omega, List.eq_nil_of_length_eq_zero (by rw [← hs]; exact h3)⟩))
/-- what a row is. -/
theorem Ev.rowB_is {C : List Col} {L : List V} (h : Ev.rowB C L = true) (hf : fitV L) : Kd.Good C ∧ L.length = C.length ∧ (∀ v ∈ L, Pl v) ∧ ∀ i (h : i < L.length) (h2 : i < C.length), L[i].k = C[i].2 ∨ L[i].k = 0 := by
  rw [Ev.rowB, Bool.and_eq_true, Bool.and_eq_true, Kd.goodB_iff, List.all_eq_true, Ev.areB_iff] at h
  obtain ⟨h1, h2, h3, h4⟩ := h
  refine ⟨h1, by simpa using h3, fun v hv => pl_of (h2 v hv) (hf v hv).2, fun i hi hi2 => ?_⟩
  have := h4 i hi (by simpa using hi2)
  rwa [List.getElem_map] at this
set_option maxHeartbeats 2000000 in
theorem row_any2 (C : List Col) (L : List V) (A AL : Option Addr) (c cl : Nat) (w : World) (hA : ColsAt w A C) (hF : fitC C) (hV : ValsAt w AL L) (hFV : fitV L) (hC : C.length ≤ 1000000) (hL : L.length ≤ 1000000) (a : Addr) (mx : Int) (hv : Env w a mx) :
    Calls Tryz.prog 15 #[.slice A C.length c, .slice AL L.length cl] w fun e w' => e = .returned (.bool (Ev.rowB C L)) ∧ Below w.heap.size w w' := by
  have HCO := Lib.hid (columns_any C A c w hA hF hC a mx hv)
  have HA := Lib.hid hA
  have HV := Lib.hid hV
  have HF := Lib.hid hF
  have HFV := Lib.hid hFV
  have hm9 : (C.length : Int) ≤ 1000000 := by omega
  have hl9 : (L.length : Int) ≤ 1000000 := by omega
  obtain ⟨m, hm⟩ : ∃ m, C.length = m := ⟨_, rfl⟩
  obtain ⟨q, hq⟩ : ∃ q, L.length = q := ⟨_, rfl⟩
  have HM := Lib.hid hm
  have HQ := Lib.hid hq
  rw [hm] at HCO hm9 ⊢
  rw [hq] at hl9 ⊢
  clear hA hF hV hFV hC hL hv hm hq
  go_enter Tryz.func15, Tryz.ntmps15
  go_wp2_with fail
  refine HCO.out.mono ?_
  rintro e W1 ⟨rfl, hb1⟩
  have B1 := Lib.hid hb1
  clear hb1 HCO
  cases hg : Kd.goodB C
  · have HR : Hid (Ev.rowB C L = false) := Lib.hid (by rw [Ev.rowB, hg]; rfl)
    clear hg
    go_wp2_with fail
    go_ret
    exact ⟨retB2 HR.out.symm, B1.out⟩
  have HR : Hid (Ev.rowB C L = (L.all (fun v => plainB v.k v.n (tx v.s)) && Ev.areB L (C.map (·.2)))) := Lib.hid (by rw [Ev.rowB, hg]; rfl)
  clear hg
  go_wp2_with fail
  go_loopg [5, 7, 15] (m + 1) (fun j s5 s7 s15 wr => ∃ i : Nat, i ≤ m ∧ m < i + j ∧ s15 = .int .i64 (i : Nat) ∧ Hid (RowI wr W1.heap.size s5 ((C.take i).map (·.2))) ∧ Hid (Below W1.heap.size W1 wr))
  case atStart => exact ⟨0, by omega, by omega, rfl, Lib.hid (RowI.nil _ _), Lib.hid (Below.refl _ _)⟩
  case round =>
    obtain ⟨i, hi, hj, rfl, HRow, HB⟩ := hrel
    by_cases hlt : i < m
    · have hlt' : (i : Int) < (m : Int) := by omega
      have hik : i < C.length := by rw [HM.out]; exact hlt
      obtain ⟨b, o, rfl, hx, c0, c1⟩ := (HA.out.below (bstep B1.out HB.out)) i hik
      obtain ⟨nm, hnm⟩ : ∃ nm, C[i].1 = nm := ⟨_, rfl⟩
      obtain ⟨kk, hkk⟩ : ∃ kk, C[i].2 = kk := ⟨_, rfl⟩
      have HTK : Hid ((C.take (i + 1)).map (·.2) = (C.take i).map (·.2) ++ [kk]) := Lib.hid (by rw [take_kinds C i hik, hkk])
      have HLT : Hid (((C.take i).map (·.2)).length ≤ 1000000) := Lib.hid (by rw [List.length_map, List.length_take]; omega)
      rw [hnm] at c0
      rw [hkk] at c1
      clear hnm hkk hik
      have hbk := (Below.refl wr.heap.size wr).alloc (Nat.le_refl _) (.cells #[.string (tx nm), .int .i64 kk] 45)
      have q1 := Whole.new wr 45 #[.string (tx nm), .int .i64 kk]
      have e0 := q1.cell 0
      have e1 := q1.cell 1
      simp only [List.getElem?_toArray, List.getElem?_cons_zero, List.getElem?_cons_succ] at e0 e1
      obtain ⟨W2, hW2⟩ : ∃ W2, wr.alloc (.cells #[.string (tx nm), .int .i64 kk] 45) = W2 := ⟨_, rfl⟩
      rw [hW2] at hbk q1 e0 e1
      have hlt2 : wr.heap.size < W2.heap.size := q1.lt
      have R2 := HRow.out.below hbk
      have B2 := Lib.hid (bstep HB.out hbk)
      obtain ⟨v5, w5, hrun, r5, T5, o5⟩ := append_int R2 kk HLT.out B2.out.size
      have HR5 : Hid (RowI w5 W1.heap.size v5 ((C.take (i + 1)).map (·.2))) := Lib.hid (by rw [HTK.out]; exact r5)
      have B5 : Hid (Below W1.heap.size W1 w5) := Lib.hid (T5.fresh B2.out (fun k hk => (R2.block k (by simpa using hk)).1))
      have HRUN := Lib.hid hrun
      clear hrun r5 T5 o5 HTK HRow hbk q1 R2
      go_wp2_with (at_builtin; refine Lib.wpList_append_run _ rfl (.tmp 19) (.tmp 22) 65 65 rfl _ _ rfl rfl _ _ HRUN.out ?_)
      go_roundg (m - i)
      case measure => omega
      case rel => exact ⟨i + 1, by omega, by omega, by go_num, HR5, B5⟩
    · have hlt' : ¬ (i : Int) < (m : Int) := by omega
      have hin : C.take i = C := List.take_of_length_le (by have := HM.out; omega)
      have hrow := HRow.out
      rw [hin] at hrow
      obtain ⟨A6, c6, rfl, -, -, hI6⟩ := hrow.shape
      have HI6 := Lib.hid hI6
      have HML : Hid ((C.map (·.2)).length = m) := Lib.hid (by rw [List.length_map, HM.out])
      have BW := Lib.hid (bstep B1.out HB.out)
      obtain ⟨W3, hW3⟩ : ∃ W3, W3 = wr := ⟨_, rfl⟩
      subst hW3
      rw [HML.out]
      clear hin hrow HRow hI6 HB HA HF
      go_wp2_with fail
      go_loopg [9, 27] (q + 1) (fun j s9 s27 wr => ∃ i : Nat, i ≤ q ∧ q < i + j ∧ s27 = .int .i64 (i : Nat) ∧ Hid (∀ k (h : k < L.length), k < i → plainB L[k].k L[k].n (tx L[k].s) = true) ∧ Hid (Below W3.heap.size W3 wr))
      case atStart => exact ⟨0, by omega, by omega, rfl, Lib.hid (fun k _ h => absurd h (Nat.not_lt_zero _)), Lib.hid (Below.refl _ _)⟩
      case round =>
        obtain ⟨i2, hi2, hj2, rfl, HE, HB⟩ := hrel
        have BF := Lib.hid (bstep BW.out HB.out)
        by_cases hlt2 : i2 < q
        · have hlt2' : (i2 : Int) < (q : Int) := by omega
          have hik : i2 < L.length := by rw [HQ.out]; exact hlt2
          obtain ⟨b, o, rfl, hx, c0, c1, c2⟩ := (HV.out.below BF.out) i2 hik
          have hfv := HFV.out _ (List.getElem_mem hik)
          obtain ⟨x, hx'⟩ : ∃ x, L[i2] = x := ⟨_, rfl⟩
          have HX := Lib.hid hx'
          rw [hx'] at c0 c1 c2 hfv
          have HSZ : (tx x.s).size ≤ 9223372036854775807 := by
            have h1 := hfv.1
            simp only [maxLen] at h1
            have h2 : (tx x.s).size = x.s.length := by simp [ByteArray.size, tx]
            omega
          have PL := Lib.hid (fun U => plain_any x.k x.n (tx x.s) U HSZ)
          obtain ⟨d0, d1, d2⟩ := (Row3.new wr x.k x.n (tx x.s)).holds
          have hbk := Lib.hid ((Below.refl wr.heap.size wr).alloc (Nat.le_refl _) (.cells #[.int .i64 x.k, .int .i64 x.n, .string (tx x.s)] 23))
          clear hx' hfv HSZ
          go_wp2_with fail
          refine (PL.out _).mono ?_
          rintro e w5 ⟨rfl, hb5⟩
          have HB5 := Lib.hid (bstep (bstep HB.out hbk.out) hb5)
          have BF5 := Lib.hid (bstep BW.out HB5.out)
          clear hb5 c0 c1 c2 d0 d1 d2 PL hbk
          cases hp : plainB x.k x.n (tx x.s)
          · have HR2 : Hid (Ev.rowB C L = false) := Lib.hid (by
              rw [HR.out, Bool.and_eq_false_iff]
              refine .inl ?_
              rw [Bool.eq_false_iff]
              intro h
              have := List.all_eq_true.1 h _ (List.getElem_mem hik)
              rw [HX.out, hp] at this
              cases this)
            clear hp
            go_wp2_with fail
            go_ret
            exact ⟨retB2 HR2.out.symm, BF5.out⟩
          · have HE2 : Hid (∀ k (h : k < L.length), k < i2 + 1 → plainB L[k].k L[k].n (tx L[k].s) = true) := Lib.hid (fun k h1 h3 => by
              by_cases hki : k = i2
              · subst hki; rw [HX.out]; exact hp
              · exact HE.out k h1 (by omega))
            clear HE hp
            go_wp2_with fail
            go_roundg (q - i2)
            case measure => omega
            case rel => exact ⟨i2 + 1, by omega, by omega, by go_num, HE2, HB5⟩
        · have hlt2' : ¬ (i2 : Int) < (q : Int) := by omega
          have HALL : Hid (L.all (fun v => plainB v.k v.n (tx v.s)) = true) := Lib.hid (List.all_eq_true.2 (fun v hv => by
            obtain ⟨k, hk, rfl⟩ := List.getElem_of_mem hv
            exact HE.out k hk (by have := HQ.out; omega)))
          have HR2 : Hid (Ev.rowB C L = Ev.areB L (C.map (·.2))) := Lib.hid (by rw [HR.out, HALL.out]; rfl)
          have AR := Lib.hid (are_any L (C.map (·.2)) AL A6 cl c6 wr (HV.out.below BF.out) (HI6.out.below HB.out) (by have := HQ.out; omega))
          rw [HQ.out, HML.out] at AR
          clear HE HALL HR
          go_wp2_with fail
          refine AR.out.mono ?_
          rintro e w5 ⟨rfl, hb5⟩
          have BF5 := Lib.hid (bstep BF.out hb5)
          clear hb5
          go_wp2_with fail
          go_ret
          exact ⟨retB2 HR2.out.symm, BF5.out⟩
end Go.Proofs.YteghhmomhlnccaaGreatDoor

/- eval: Eval, Holds. -/
namespace Go.Proofs.YteghhmomhlnccaaGreatDoor
open Go.RowKit Go.Lib
set_option linter.unusedVariables false
set_option linter.unusedSimpArgs false
set_option maxRecDepth 100000
attribute [local go_sem ↓] eqVal neqVal
open Ex (Tree)
open Ev (V R Pl)
def Ev.evalR (C : List Col) (L : List V) (T : Tree) : R := if Ex.rightB nodeB T = true ∧ Ev.rowB C L = true then Ev.ev C L T else Ev.err 1
set_option maxHeartbeats 2000000 in
theorem eval_any (C : List Col) (L : List V) (A AL : Option Addr) (c cl : Nat) (T : Tree) (v : Value) (w : World) (hA : ColsAt w A C) (hF : fitC C) (hV : ValsAt w AL L) (hFV : fitV L) (hC : C.length ≤ 1000000) (hL : L.length ≤ 1000000) (a : Addr) (mx : Int) (hv : Env w a mx)
    (h : NodeV w v T) (hfT : fitT T) (hM : Ex.count T ≤ 1000000) (hG : Ex.ones rngN T = true) :
    Calls Tryz.prog 12 #[v, .slice A C.length c, .slice AL L.length cl] w fun e w' => e = .returned (outR (Ev.evalR C L T)) ∧ Below w.heap.size w w' := by
  cases T with
  | node op t vk vn vs ks =>
  have hnv := h
  obtain ⟨B, n, rfl, hcc, hk⟩ := h
  have b0 := (Below.refl w.heap.size w).alloc (Nat.le_refl _) (.cells (ncells op t vk vn vs B ks.length n) 26)
  have b1 := b0.alloc (by simp) (.cells #[.int .i64 0, .int .i64 0, .string ⟨#[]⟩] 23)
  have k0 := (Whole.new w 26 (ncells op t vk vn vs B ks.length n)).alloc (.cells #[.int .i64 0, .int .i64 0, .string ⟨#[]⟩] 23)
  have r0 := Row3.new (w.alloc (.cells (ncells op t vk vn vs B ks.length n) 26)) 0 0 ⟨#[]⟩
  rw [World.size_alloc] at r0
  obtain ⟨W1, hW1⟩ : ∃ W1, (w.alloc (.cells (ncells op t vk vn vs B ks.length n) 26)).alloc (.cells #[.int .i64 0, .int .i64 0, .string ⟨#[]⟩] 23) = W1 := ⟨_, rfl⟩
  rw [hW1] at b1 k0 r0
  have hd : Ex.depth (.node op t vk vn vs ks) ≤ 1000000 := Nat.le_trans (depth_count _) hM
  have RT := Lib.hid (callsIn_wide.1 (right_in _ _ W1 (hnv.below b1) hfT hd a mx (hv.below b1)))
  have RO := Lib.hid (fun U (hU : Below w.heap.size w U) => row_any2 C L A AL c cl U (hA.below hU) hF (hV.below hU) hFV hC hL a mx (hv.below hU))
  have CM : Hid (Ex.rightB nodeB (.node op t vk vn vs ks) = true → Ev.rowB C L = true → ∀ U, Below w.heap.size w U → Calls Tryz.prog 27 #[ovV C A c L AL cl, .agg (ncells op t vk vn vs B ks.length n)] U fun e w' => e = .returned (outR (Ev.ev C L (.node op t vk vn vs ks))) ∧ Below U.heap.size U w') := Lib.hid (fun hr hrow U hU => by
    obtain ⟨-, hl, hp, -⟩ := Ev.rowB_is hrow hFV
    have ho : Ex.ones nodeB (.node op t vk vn vs ks) = true := by
      rw [Ex.rightB, Bool.and_eq_true, Bool.and_eq_true] at hr
      exact hr.2.2
    exact comesTo_all hp hA hV hC hl a mx hv _ _ (Nat.le_refl _) ho hG _ U hU (hnv.below hU))
  have B1 := Lib.hid b1
  have K0 := Lib.hid k0
  have R0 := Lib.hid r0
  obtain ⟨c0, c1, c2, c3, c4, c5⟩ := six_of k0
  clear hA hF hV hFV hC hL hv hfT hM hG hd hnv hk hcc b0 b1 k0 r0
  unfold ovV ncells at *
  generalize C.length = cn at *
  generalize L.length = ln at *
  generalize ks.length = kn at *
  cases hr : Ex.rightB nodeB (.node op t vk vn vs ks)
  case false =>
    have HR : Hid (Ev.evalR C L (.node op t vk vn vs ks) = Ev.err 1) := Lib.hid (by rw [Ev.evalR, if_neg (by rw [hr]; simp)])
    rw [hr] at RT
    clear hr CM
    go_enter Tryz.func12, Tryz.ntmps12
    go_wp2_with fail
    refine RT.out.mono ?_
    rintro e W2 ⟨rfl, hb2⟩
    have R2 := Lib.hid (R0.out.below hb2 R0.out.lt)
    have B2 := Lib.hid (bstep B1.out hb2)
    clear hb2 c0 c1 c2 c3 c4 c5
    go_wp2_with fail
    refine (null_any _).mono ?_
    rintro e W3 ⟨rfl, hb3⟩
    have R3 := Lib.hid (R2.out.below hb3 R2.out.lt)
    have B3 := Lib.hid (bstep B2.out hb3)
    clear hb3
    obtain ⟨d0, d1, d2⟩ := R3.out.holds
    have f0 := R3.out.frozen 0
    have f1 := R3.out.frozen 1
    have f2 := R3.out.frozen 2
    go_wp2_with fail
    exact fin_R Tryz.results12 rfl rfl rfl R3.out B3.out (by omega) (by rw [HR.out]; rfl)
  case true =>
    rw [hr] at RT
    cases hrow : Ev.rowB C L
    case false =>
      have HR : Hid (Ev.evalR C L (.node op t vk vn vs ks) = Ev.err 1) := Lib.hid (by rw [Ev.evalR, if_neg (by rw [hrow]; simp)])
      rw [hrow] at RO
      clear hr hrow CM
      go_enter Tryz.func12, Tryz.ntmps12
      go_wp2_with fail
      refine RT.out.mono ?_
      rintro e W2 ⟨rfl, hb2⟩
      have R2 := Lib.hid (R0.out.below hb2 R0.out.lt)
      have B2 := Lib.hid (bstep B1.out hb2)
      clear hb2 c0 c1 c2 c3 c4 c5
      go_wp2_with fail
      refine (RO.out _ B2.out).mono ?_
      rintro e W4 ⟨rfl, hb4⟩
      have R4 := Lib.hid (R2.out.below hb4 R2.out.lt)
      have B4 := Lib.hid (bstep B2.out hb4)
      clear hb4
      go_wp2_with fail
      refine (null_any _).mono ?_
      rintro e W3 ⟨rfl, hb3⟩
      have R3 := Lib.hid (R4.out.below hb3 R4.out.lt)
      have B3 := Lib.hid (bstep B4.out hb3)
      clear hb3
      obtain ⟨d0, d1, d2⟩ := R3.out.holds
      have f0 := R3.out.frozen 0
      have f1 := R3.out.frozen 1
      have f2 := R3.out.frozen 2
      go_wp2_with fail
      exact fin_R Tryz.results12 rfl rfl rfl R3.out B3.out (by omega) (by rw [HR.out]; rfl)
    case true =>
      have HR : Hid (Ev.evalR C L (.node op t vk vn vs ks) = Ev.ev C L (.node op t vk vn vs ks)) := Lib.hid (by rw [Ev.evalR, if_pos ⟨hr, hrow⟩])
      have CM2 := Lib.hid (CM.out hr hrow)
      rw [hrow] at RO
      obtain ⟨RES, hres⟩ : ∃ RES, Ev.ev C L (.node op t vk vn vs ks) = RES := ⟨_, rfl⟩
      rw [hres] at CM2 HR
      obtain ⟨⟨rk, rn, rs⟩, re_⟩ := RES
      unfold outR vv vcells at CM2
      dsimp only at CM2
      clear hr hrow CM hres
      go_enter Tryz.func12, Tryz.ntmps12
      go_wp2_with fail
      refine RT.out.mono ?_
      rintro e W2 ⟨rfl, hb2⟩
      have R2 := Lib.hid (R0.out.below hb2 R0.out.lt)
      have K2 := Lib.hid (K0.out.below hb2 K0.out.lt)
      have B2 := Lib.hid (bstep B1.out hb2)
      clear hb2 c0 c1 c2 c3 c4 c5
      go_wp2_with fail
      refine (RO.out _ B2.out).mono ?_
      rintro e W4 ⟨rfl, hb4⟩
      have R4 := Lib.hid (R2.out.below hb4 R2.out.lt)
      have k4 := K2.out.below hb4 K2.out.lt
      have B4 := Lib.hid (bstep B2.out hb4)
      obtain ⟨c0, c1, c2, c3, c4, c5⟩ := six_of k4
      clear hb4 k4
      go_wp2_with fail
      refine (CM2.out _ B4.out).mono ?_
      rintro e W3 ⟨rfl, hb3⟩
      have R3 := Lib.hid (R4.out.below hb3 R4.out.lt)
      have B3 := Lib.hid (bstep B4.out hb3)
      clear hb3 c0 c1 c2 c3 c4 c5
      obtain ⟨d0, d1, d2⟩ := R3.out.holds
      have f0 := R3.out.frozen 0
      have f1 := R3.out.frozen 1
      have f2 := R3.out.frozen 2
      go_wp2_with fail
      exact fin_R Tryz.results12 rfl rfl rfl R3.out B3.out (by omega) (by rw [HR.out])
end Go.Proofs.YteghhmomhlnccaaGreatDoor

/- eval's laws: awake, Long. -/
namespace Go.Proofs.YteghhmomhlnccaaGreatDoor
open Go.RowKit Go.Lib
set_option linter.unusedVariables false
set_option linter.unusedSimpArgs false
set_option maxRecDepth 100000
attribute [local go_sem ↓] eqVal neqVal
open Ex (Tree)
open Ev (V R Pl)
abbrev awIfT : Tree := .node 6 [105, 102] 0 0 [] [.node 1 [] 3 1 [] [], .node 1 [] 1 1 [] [], Ev.opT [47] (.node 1 [] 1 1 [] []) (.node 1 [] 1 0 [] [])]
abbrev awNvlT : Tree := .node 6 [110, 118, 108] 0 0 [] [Ev.opT [47] (.node 1 [] 1 1 [] []) (.node 1 [] 1 0 [] []), .node 1 [] 1 1 [] []]
theorem awIf_ev : Ev.evalR [] [] awIfT = Ev.ok ⟨1, 1, []⟩ := by
  rw [Ev.evalR, if_pos ⟨by kernel_rfl, by kernel_rfl⟩]; rfl
theorem awNvl_ev : Ev.evalR [] [] awNvlT = Ev.err 5 := by
  rw [Ev.evalR, if_pos ⟨by kernel_rfl, by kernel_rfl⟩]; rfl
set_option maxHeartbeats 1000000 in
theorem awake16_any (w : World) (a : Addr) (m : Int) (hv : Env w a m) : Calls Tryz.prog 8 #[] w fun e w' => e = .returned (.bool true) ∧ Below w.heap.size w w' := by
  have ep := parse_any ⟨#[105, 102, 40, 116, 114, 117, 101, 44, 32, 49, 44, 32, 49, 32, 47, 32, 48, 41]⟩ w a m hv
  rw [show (⟨#[105, 102, 40, 116, 114, 117, 101, 44, 32, 49, 44, 32, 49, 32, 47, 32, 48, 41]⟩ : ByteArray).data.toList = [105, 102, 40, 116, 114, 117, 101, 44, 32, 49, 44, 32, 49, 32, 47, 32, 48, 41] from rfl, Ev.awIf_parse] at ep
  have EP := Lib.hid ep
  have PB := Lib.hid (fun W (h : Env W a m) => parse_any ⟨#[110, 118, 108, 40, 49, 32, 47, 32, 48, 44, 32, 49, 41]⟩ W a m h)
  rw [show (⟨#[110, 118, 108, 40, 49, 32, 47, 32, 48, 44, 32, 49, 41]⟩ : ByteArray).data.toList = [110, 118, 108, 40, 49, 32, 47, 32, 48, 44, 32, 49, 41] from rfl, Ev.awNvl_parse] at PB
  have HV := Lib.hid hv
  clear ep hv
  go_enter Tryz.func8, Tryz.ntmps8
  go_wp2_with fail
  refine EP.out.mono ?_
  rintro e W1 ⟨u, rfl, ⟨A, c, rfl, hc, hk⟩, hb⟩
  have b2 : Below w.heap.size w ((W1.alloc (.cells (ncells 6 [105, 102] 0 0 [] A 3 c) 26)).alloc (.cells #[.int .i64 0, .int .i64 0] 54)) := (hb.alloc hb.size _).alloc (by have := hb.size; simp; omega) _
  have b1 : Below W1.heap.size W1 ((W1.alloc (.cells (ncells 6 [105, 102] 0 0 [] A 3 c) 26)).alloc (.cells #[.int .i64 0, .int .i64 0] 54)) := ((Below.refl _ _).alloc (Nat.le_refl _) _).alloc (by simp) _
  have k0 := (Whole.new W1 26 (ncells 6 [105, 102] 0 0 [] A 3 c)).alloc (.cells #[.int .i64 0, .int .i64 0] 54)
  have k1 := Whole.new (W1.alloc (.cells (ncells 6 [105, 102] 0 0 [] A 3 c) 26)) 54 #[.int .i64 0, .int .i64 0]
  simp only [World.size_alloc] at k1
  have nv : NodeV ((W1.alloc (.cells (ncells 6 [105, 102] 0 0 [] A 3 c) 26)).alloc (.cells #[.int .i64 0, .int .i64 0] 54)) (.agg (ncells 6 [105, 102] 0 0 [] A 3 c)) awIfT := ⟨A, c, rfl, hc, (hk.below b1).at⟩
  have PB2 := Lib.hid (PB.out _ (HV.out.below b2))
  unfold ncells at *
  have B2 := Lib.hid b2
  have K0 := Lib.hid k0
  have K1 := Lib.hid k1
  have NV := Lib.hid nv
  clear b2 b1 k0 k1 nv hk hb EP PB
  go_wp2_with fail
  generalize (W1.alloc (.cells #[.int .i64 6, .string (tx [105, 102]), .int .i64 0, .int .i64 0, .string (tx []), .slice A 3 c] 26)).alloc (.cells #[.int .i64 0, .int .i64 0] 54) = W2 at *
  refine PB2.out.mono ?_
  rintro e W3 ⟨u2, rfl, ⟨A2, c2, rfl, hc2, hk2⟩, hb3⟩
  have b4 : Below W2.heap.size W2 ((W3.alloc (.cells (ncells 6 [110, 118, 108] 0 0 [] A2 2 c2) 26)).alloc (.cells #[.int .i64 0, .int .i64 0] 54)) := (hb3.alloc hb3.size _).alloc (by have := hb3.size; simp; omega) _
  have b3 : Below W3.heap.size W3 ((W3.alloc (.cells (ncells 6 [110, 118, 108] 0 0 [] A2 2 c2) 26)).alloc (.cells #[.int .i64 0, .int .i64 0] 54)) := ((Below.refl _ _).alloc (Nat.le_refl _) _).alloc (by simp) _
  have p0 := (Whole.new W3 26 (ncells 6 [110, 118, 108] 0 0 [] A2 2 c2)).alloc (.cells #[.int .i64 0, .int .i64 0] 54)
  have p1 := Whole.new (W3.alloc (.cells (ncells 6 [110, 118, 108] 0 0 [] A2 2 c2) 26)) 54 #[.int .i64 0, .int .i64 0]
  simp only [World.size_alloc] at p1
  have nvb : NodeV ((W3.alloc (.cells (ncells 6 [110, 118, 108] 0 0 [] A2 2 c2) 26)).alloc (.cells #[.int .i64 0, .int .i64 0] 54)) (.agg (ncells 6 [110, 118, 108] 0 0 [] A2 2 c2)) awNvlT := ⟨A2, c2, rfl, hc2, (hk2.below b3).at⟩
  unfold ncells at *
  obtain ⟨x0, x1, x2, x3, x4, x5⟩ := six_of (K0.out.below b4 K0.out.lt)
  have B4 := Lib.hid b4
  have P0 := Lib.hid p0
  have P1 := Lib.hid p1
  have NVB := Lib.hid nvb
  have N4 := NV.out.below b4
  have V4 := Lib.hid (HV.out.below (bstep B2.out b4))
  have KA := eval_any [] [] none none 0 0 awIfT _ _ (ColsAt.nil _ _) (fun c hc => by cases hc) (ValsAt.nil _ _) (fun c hc => by cases hc) (by simp) (by simp) a m V4.out N4 (by simp [fitT, fitTs, maxLen]) (by simp [Ex.count, Ex.counts]) (by kernel_rfl)
  rw [awIf_ev] at KA
  have KAH := Lib.hid KA
  have R0 := Lib.hid (K1.out.below b4 K1.out.lt)
  clear b4 b3 p0 p1 nvb hk2 hb3 PB2 hc2 hc N4 NV K0 K1 KA
  unfold outR vv vcells Ev.ok at KAH
  dsimp only at KAH
  go_wp2_with fail
  generalize (W3.alloc (.cells #[.int .i64 6, .string (tx [110, 118, 108]), .int .i64 0, .int .i64 0, .string (tx []), .slice A2 2 c2] 26)).alloc (.cells #[.int .i64 0, .int .i64 0] 54) = W4 at *
  refine KAH.out.mono ?_
  rintro e W6 ⟨rfl, hb6⟩
  have hb7 := hb6.alloc (Nat.le_trans (Nat.le_refl _) hb6.size) (.cells #[.int .i64 1, .int .i64 1, .string (tx [])] 23)
  have r6 := Row3.new W6 1 1 (tx [])
  have B7 := Lib.hid (bstep B4.out hb7)
  have N7 := NVB.out.below hb7
  have V7 := Lib.hid (V4.out.below hb7)
  have q0 := P0.out.below hb7 P0.out.lt
  have Q7 := Lib.hid (P1.out.below hb7 P1.out.lt)
  have R7 := Lib.hid (R0.out.below hb7 R0.out.lt)
  have S7 := Lib.hid r6
  have KB := eval_any [] [] none none 0 0 awNvlT _ _ (ColsAt.nil _ _) (fun c hc => by cases hc) (ValsAt.nil _ _) (fun c hc => by cases hc) (by simp) (by simp) a m V7.out N7 (by simp [fitT, fitTs, maxLen]) (by simp [Ex.count, Ex.counts]) (by kernel_rfl)
  rw [awNvl_ev] at KB
  have KBH := Lib.hid KB
  unfold outR vv vcells Ev.err Ev.z at KBH
  dsimp only at KBH
  obtain ⟨x0, x1, x2, x3, x4, x5⟩ := six_of q0
  clear KAH hb6 hb7 NVB V4 R0 q0 N7 r6 KB P0 P1 V7
  go_wp2_with fail
  refine KBH.out.mono ?_
  rintro e W8 ⟨rfl, hb8⟩
  have hb9 := hb8.alloc (Nat.le_trans (Nat.le_refl _) hb8.size) (.cells #[.int .i64 0, .int .i64 0, .string (tx [])] 23)
  have B9 := Lib.hid (bstep B7.out hb9)
  have q7 := Q7.out.below hb9 Q7.out.lt
  have r7 := R7.out.below hb9 R7.out.lt
  obtain ⟨s0, s1, s2⟩ := (S7.out.below hb9 S7.out.lt).holds
  have y0 := q7.cell 0
  have z0 := r7.cell 0
  simp only [List.getElem?_toArray, List.getElem?_cons_zero] at y0 z0
  have hsm : same 1 1 (tx []) 1 1 ⟨#[]⟩ = true := by rw [same_iff]; exact ⟨rfl, rfl, rfl⟩
  clear KBH hb8 hb9 Q7 R7 x0 x1 x2 x3 x4 x5 q7 r7 B7 S7
  go_wp2_with fail
  go_ret
  exact ⟨rfl, bstep B2.out B9.out⟩
theorem laidOut : laidOutB Tryz.prog = true := by kernel_rfl
def shortV (L : List V) : Prop := L.length ≤ 50 ∧ ∀ v ∈ L, v.s.length ≤ 400
theorem long_any (L : List V) (A : Option Addr) (c : Nat) (w : World) (hA : ValsAt w A L) (hF : fitV L) :
    Calls Tryz.prog 11 #[.slice A L.length c] w fun e w' => (e = .returned (.bool false) ∧ w' = w ∧ shortV L) ∨ (e = .returned (.bool true) ∧ w' = w) := by
  have HA := Lib.hid hA
  have HF := Lib.hid hF
  obtain ⟨m, hm⟩ : ∃ m, L.length = m := ⟨_, rfl⟩
  have HM := Lib.hid hm
  rw [hm]
  clear hA hm hF
  by_cases hb : (m : Int) ≤ 50
  · have hb' : ¬ (50 : Int) < (m : Int) := by omega
    go_enter Tryz.func11, Tryz.ntmps11
    go_wp2_with fail
    go_loopg [3] (m + 1) (fun j s3 wr => ∃ i : Nat, i ≤ m ∧ m < i + j ∧ s3 = .int .i64 (i : Nat) ∧ Hid (∀ k (h1 : k < L.length), k < i → L[k].s.length ≤ 400) ∧ wr = w)
    case atStart => exact ⟨0, by omega, by omega, rfl, Lib.hid (fun k _ h => absurd h (Nat.not_lt_zero _)), rfl⟩
    case round =>
      obtain ⟨i, hi, hj, rfl, HE, hwr⟩ := hrel
      subst hwr
      by_cases hlt : i < m
      · have hlt' : (i : Int) < (m : Int) := by omega
        have hik : i < L.length := by rw [HM.out]; exact hlt
        obtain ⟨b, o, rfl, hx, c0, c1, c2⟩ := HA.out i hik
        have hf0 := (HF.out L[i] (List.getElem_mem hik)).1
        simp only [maxLen] at hf0
        obtain ⟨nm, hnm⟩ : ∃ nm, L[i].s = nm := ⟨_, rfl⟩
        rw [hnm] at c2 hf0
        clear c0 c1
        by_cases hq : (nm.length : Int) ≤ 400
        · have hq' : ¬ (400 : Int) < (nm.length : Int) := by omega
          have HE2 : Hid (∀ k (h1 : k < L.length), k < i + 1 → L[k].s.length ≤ 400) := Lib.hid (fun k h1 h3 => by
            by_cases hki : k = i
            · subst hki; rw [hnm]; omega
            · exact HE.out k h1 (by omega))
          clear HE hnm hik
          go_wp2_with fail
          go_roundg (m - i)
          case measure => omega
          case rel => exact ⟨i + 1, by omega, by omega, by go_num, HE2, rfl⟩
        · have hq' : (400 : Int) < (nm.length : Int) := by omega
          clear HE hnm hik hq
          go_wp2_with fail
          go_ret
          exact .inr ⟨rfl, rfl⟩
      · have hlt' : ¬ (i : Int) < (m : Int) := by omega
        have HR : Hid (shortV L) := Lib.hid ⟨by rw [HM.out]; omega, fun c hc => by
          obtain ⟨k, hk, rfl⟩ := List.getElem_of_mem hc
          exact HE.out k hk (by have := HM.out; omega)⟩
        go_wp2_with fail
        go_ret
        exact .inl ⟨rfl, rfl, HR.out⟩
  · have hb' : (50 : Int) < (m : Int) := by omega
    clear hb
    go_enter Tryz.func11, Tryz.ntmps11
    go_wp2_with fail
    go_ret
    exact .inr ⟨rfl, rfl⟩
end Go.Proofs.YteghhmomhlnccaaGreatDoor
