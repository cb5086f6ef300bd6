/- ShowPrints. -/
import Derived.Test.YthcfdggdippocaaGreatDoorGAF
import Derived.Test.YthcfdggdippocaaGreatDoorGSH
namespace Go.Proofs.YthcfdggdippocaaGreatDoor
open Go.RowKit Go.Lib
set_option linter.unusedVariables false
set_option linter.unusedSimpArgs false
set_option maxRecDepth 100000
open Ex (Tree)
set_option maxHeartbeats 4000000 in
theorem prints_any (X : Tree) (vx : Value) (most : Int) (w : World) (hx : NodeV w vx X) (hfx : fitT X) (hrx : rngT X = true) (a : Addr) (m : Int) (hv : Env w a m) :
    Calls Tryz.prog 3 #[vx, .int .i64 most] w fun e w' => e = .returned (.bool true) ∧ Below w.heap.size w w' := by
  have hx' := hx
  obtain ⟨xop, xt, xvk, xvn, xvs, xks, xA, xc, hXe, rfl⟩ : ∃ op t vk vn vs ks A c, X = .node op t vk vn vs ks ∧ vx = .agg (ncells op t vk vn vs A ks.length c) := by
    cases X with
    | node op t vk vn vs ks => obtain ⟨A, c, h1, -⟩ := hx; exact ⟨_, _, _, _, _, _, A, c, rfl, h1⟩
  have L1 : Hid (∀ W, Calls Tryz.prog 9 #[.agg (ncells xop xt xvk xvn xvs xA xks.length xc)] W fun e w' => e = .returned (.int .i64 (Ps.slev X : Nat)) ∧ Below W.heap.size W w') := Lib.hid (fun W => by rw [hXe]; exact shLevel_any xks)
  have L2 : Hid (∀ W, Calls Tryz.prog 10 #[.agg (ncells xop xt xvk xvn xvs xA xks.length xc)] W fun e w' => e = .returned (.int .i64 (Ps.slev X : Nat)) ∧ Below W.heap.size W w') := Lib.hid (fun W => by rw [hXe]; exact refLevel14_any xks)
  clear hx hXe
  have b0 : Below w.heap.size w (w.alloc (.cells (ncells xop xt xvk xvn xvs xA xks.length xc) 26)) := (Below.refl _ _).alloc (Nat.le_refl _) _
  have k0 := Whole.new w 26 (ncells xop xt xvk xvn xvs xA xks.length xc)
  have nx := hx'.below b0
  obtain ⟨xn, hxn⟩ : ∃ n, xks.length = n := ⟨_, rfl⟩
  rw [hxn] at b0 k0 nx L1 L2 ⊢
  unfold ncells at *
  have HV := Lib.hid hv
  have HFX := Lib.hid (And.intro hfx hrx)
  clear hxn hv hfx hx' hrx
  go_enter Tryz.func3, Tryz.ntmps3
  go_wp2_with fail
  generalize w.alloc (.cells #[.int .i64 xop, .string (tx xt), .int .i64 xvk, .int .i64 xvn, .string (tx xvs), .slice xA xn xc] 26) = W1 at *
  have AW := Lib.hid (awake14_any W1 a m (HV.out.below b0))
  have B0 := Lib.hid b0
  have K0 := Lib.hid k0
  have NX := Lib.hid nx
  clear b0 k0 nx
  refine AW.out.mono ?_
  rintro e W2 ⟨rfl, hb2⟩
  have KX2 := Lib.hid (K0.out.below hb2 K0.out.lt)
  have NX2 := Lib.hid (NX.out.below hb2)
  have B2 : Hid (Below w.heap.size w W2) := Lib.hid (B0.out.trans (hb2.mono B0.out.size))
  have WX := Lib.hid (Wide_any X _ W2 NX2.out)
  obtain ⟨c0, c1, c2, c3, c4, c5⟩ := six_of KX2.out
  clear AW hb2 K0 B0 NX
  go_wp2_with fail
  refine WX.out.mono ?_
  rintro e W3 (⟨rfl, hb3, hcx, hsx⟩ | ⟨rfl, hb3⟩)
  case inr =>
    have B3 : Hid (Below w.heap.size w W3) := Lib.hid (B2.out.trans (hb3.mono B2.out.size))
    clear hb3
    go_wp2_with fail
    go_ret
    exact ⟨rfl, B3.out⟩
  case inl =>
  have B3 : Hid (Below w.heap.size w W3) := Lib.hid (B2.out.trans (hb3.mono B2.out.size))
  have KX3 := Lib.hid (KX2.out.below hb3 KX2.out.lt)
  have NX3 := Lib.hid (NX2.out.below hb3)
  have HCX := Lib.hid (And.intro hcx hsx)
  have HDX : Hid (Ex.depth X ≤ 1000000) := Lib.hid (by have := depth_count X; omega)
  clear hb3 hcx hsx KX2 NX2 B2 WX c0 c1 c2 c3 c4 c5
  have PX := Lib.hid (shPrint_any X _ W3 NX3.out HFX.out.1 HFX.out.2 HDX.out (HV.out.below B3.out))
  have SH : Hid (∀ W, Below W3.heap.size W3 W → Calls Tryz.prog 12 #[.agg #[.int .i64 xop, .string (tx xt), .int .i64 xvk, .int .i64 xvn, .string (tx xvs), .slice xA xn xc], .int .i64 most] W fun e w' => e = .returned (.string (shortB (prR X) most)) ∧ Below W.heap.size W w') := Lib.hid (fun W hW => short_any X most _ W (NX3.out.below hW) HFX.out.1 HFX.out.2 HDX.out (HV.out.below (bstep B3.out hW)))
  have RR : Hid (∀ W, Below W3.heap.size W3 W → Calls Tryz.prog 11 #[.agg #[.int .i64 xop, .string (tx xt), .int .i64 xvk, .int .i64 xvn, .string (tx xvs), .slice xA xn xc]] W fun e w' => e = .returned (.bool (Ex.rightB nodeB X)) ∧ Below W.heap.size W w') := Lib.hid (fun W hW => refRight_any X (by have := HCX.out.1; omega) HCX.out.2 _ W (NX3.out.below hW))
  obtain ⟨lv, hlv⟩ : ∃ lv, Ps.slev X = lv := ⟨_, rfl⟩
  rw [hlv] at L1 L2
  have KK : Hid (∀ w', Below W3.heap.size W3 w' → Below W3.heap.size W3 w' ∧ w'.cell? ⟨w.heap.size, 0, none⟩ = some (.int .i64 xop) ∧ w'.cell? ⟨w.heap.size, 1, none⟩ = some (.string (tx xt)) ∧ w'.cell? ⟨w.heap.size, 2, none⟩ = some (.int .i64 xvk) ∧ w'.cell? ⟨w.heap.size, 3, none⟩ = some (.int .i64 xvn) ∧ w'.cell? ⟨w.heap.size, 4, none⟩ = some (.string (tx xvs)) ∧ w'.cell? ⟨w.heap.size, 5, none⟩ = some (.slice xA xn xc)) := Lib.hid (fun w' hw => ⟨hw, six_of (KX3.out.below hw KX3.out.lt)⟩)
  obtain ⟨c0, c1, c2, c3, c4, c5⟩ := six_of KX3.out
  clear hlv
  go_wp2_with fail
  refine PX.out.mono ?_
  rintro e W4 ⟨rfl, hb4⟩
  have B4 := Lib.hid hb4
  obtain ⟨-, c0, c1, c2, c3, c4, c5⟩ := KK.out _ B4.out
  clear hb4 PX
  go_upto_region 6 with fail
  go_cut [25] from 21 to 25 (fun s25 wc => s25 = .bool false ∧ Hid (Below W3.heap.size W3 wc))
  case first =>
    clear c0 c1 c2 c3 c4 c5
    go_region_held3 (fun w' => Below W3.heap.size W3 w' ∧ w'.cell? ⟨w.heap.size, 0, none⟩ = some (.int .i64 xop) ∧ w'.cell? ⟨w.heap.size, 1, none⟩ = some (.string (tx xt)) ∧ w'.cell? ⟨w.heap.size, 2, none⟩ = some (.int .i64 xvk) ∧ w'.cell? ⟨w.heap.size, 3, none⟩ = some (.int .i64 xvn) ∧ w'.cell? ⟨w.heap.size, 4, none⟩ = some (.string (tx xvs)) ∧ w'.cell? ⟨w.heap.size, 5, none⟩ = some (.slice xA xn xc))
      (first | (exact KK.out _ B4.out.drew) | (go_split_ands; exact KK.out _ (bstep (by assumption) hbL)) | go_keep)
      (first
        | (go_at_call 9; (with_reducible refine (L1.out _).mono ?_); rintro e wl1 ⟨rfl, hbL⟩)
        | (go_at_call 10; (with_reducible refine (L2.out _).mono ?_); rintro e wl2 ⟨rfl, hbL⟩))
    all_goals
      go_wp2_with fail
      go_meet
      case rel => exact ⟨rfl, Lib.hid (by (go_split_ands; first | exact bstep (by assumption) hbL | assumption))⟩
  case rest =>
    obtain ⟨rfl, HB5⟩ := hcut
    obtain ⟨W5, rfl⟩ : ∃ W5, W5 = wc := ⟨wc, rfl⟩
    clear c0 c1 c2 c3 c4 c5
    obtain ⟨-, c0, c1, c2, c3, c4, c5⟩ := KK.out _ HB5.out
    go_wp2_with fail
    refine (RR.out _ HB5.out).mono ?_
    rintro e W6 ⟨rfl, hb6⟩
    have B6 := Lib.hid (bstep HB5.out hb6)
    clear hb6 c0 c1 c2 c3 c4 c5 RR L1 L2
    obtain ⟨-, c0, c1, c2, c3, c4, c5⟩ := KK.out _ B6.out
    cases hright : Ex.rightB nodeB X with
    | false =>
      have E : prR X = ([], 1) := by rw [prR, if_neg (by rw [hright]; decide)]
      have SHO := Lib.hid (SH.out _ B6.out)
      rw [E] at SHO ⊢
      rw [show shortB ([], 1) most = tx [63] by simp [shortB]] at SHO
      clear E SH hright
      go_wp2_with fail
      refine SHO.out.mono ?_
      rintro e W7 ⟨rfl, hb7⟩
      have B7 := Lib.hid (bstep B3.out (bstep B6.out hb7))
      clear hb7 SHO
      go_wp2_with fail
      go_ret
      exact ⟨rfl, B7.out⟩
    | true =>
      have hones : Ex.ones nodeB X = true := by
        have h3 := hright
        simp only [Ex.rightB, Bool.and_eq_true, decide_eq_true_eq] at h3
        exact h3.2.2
      have RP := Lib.hid (refPrint_any X _ W6 (NX3.out.below B6.out) (by have := HCX.out.1; omega) hones HFX.out.2)
      have HPP := Lib.hid (fun h => Ps.parse_pr hright HFX.out.2 h)
      have HP : Hid (prR X = if 4000 < (Ps.pr X).length then ([], 3) else (Ps.pr X, 0)) := Lib.hid (by rw [prR, if_pos hright])
      obtain ⟨p, hp⟩ : ∃ p, Ps.pr X = p := ⟨_, rfl⟩
      rw [hp] at RP HPP HP
      clear hright hones hp
      by_cases hlong : 4000 < p.length
      · have E : prR X = ([], 3) := by rw [HP.out, if_pos hlong]
        rw [E] at SH ⊢
        rw [show shortB ([], 3) most = tx [63] by simp [shortB]] at SH
        have hl9 : (4000 : Int) < (p.length : Int) := by omega
        clear E HP HPP
        go_wp2_with fail
        refine RP.out.mono ?_
        rintro e W7 ⟨rfl, hb7⟩
        have B7 := Lib.hid (bstep B6.out hb7)
        clear hb7 RP c0 c1 c2 c3 c4 c5
        obtain ⟨-, c0, c1, c2, c3, c4, c5⟩ := KK.out _ B7.out
        go_wp2_with fail
        refine (SH.out _ B7.out).mono ?_
        rintro e W8 ⟨rfl, hb8⟩
        have B8 := Lib.hid (bstep B3.out (bstep B7.out hb8))
        clear hb8 SH
        go_wp2_with fail
        go_ret
        exact ⟨rfl, B8.out⟩
      · have E : prR X = (p, 0) := by rw [HP.out, if_neg hlong]
        rw [E] at SH ⊢
        have hl9 : ¬ (4000 : Int) < (p.length : Int) := by omega
        have hp9 : p.length ≤ 4000 := by omega
        have HQ := Lib.hid (HPP.out (by omega))
        clear E HP HPP
        go_wp2_with fail
        refine RP.out.mono ?_
        rintro e W7 ⟨rfl, hb7⟩
        have B7 := Lib.hid (bstep B6.out hb7)
        clear hb7 RP c0 c1 c2 c3 c4 c5 hlong
        obtain ⟨-, c0, c1, c2, c3, c4, c5⟩ := KK.out _ B7.out
        have CT : Hid (∀ k, 0 ≤ k → (tx p).extract 0 k = tx (p.take k)) := Lib.hid (fun k _ => tx_cut p k)
        obtain ⟨sb, hsb⟩ : ∃ sb, shortB (p, 0) most = sb := ⟨_, rfl⟩
        rw [hsb] at SH
        have HSB := Lib.hid hsb
        clear hsb
        have hcases : (most < (p.length : Int) ∧ most < 0) ∨ (most < (p.length : Int) ∧ 0 ≤ most ∧ most ≤ (p.length : Int) ∧ ¬ most < 0) ∨ ¬ most < (p.length : Int) := by omega
        rcases hcases with ⟨h1, h2⟩ | ⟨h1, h3, h4, h2⟩ | h1
        · skip
          have E : shortB (p, 0) most = (tx p).extract 0 0 ++ tx [46, 46, 46] := by
            unfold shortB
            rw [if_neg (by simp), if_neg (by simp only; omega), show (max 0 most).toNat = 0 by omega]
          rw [E] at HSB
          have HSB' := HSB.out
          subst HSB'
          clear HSB E
          have PA := parse_any (tx p) W7 a m (HV.out.below (bstep B3.out B7.out))
          rw [show (tx p).data.toList = p by simp] at PA
          rcases HQ.out with ⟨j, hj⟩ | ⟨⟨pa, hj⟩, -⟩
          · rw [hj] at PA
            have PAH := Lib.hid PA
            clear PA hj HQ CT
            go_wp2_with fail
            refine PAH.out.mono ?_
            rintro e W8 ⟨u2, rfl, hu2, hb8⟩
            have hn2 := hu2.node
            obtain ⟨op2, t2, vk2, vn2, vs2, A2, n2, c2', hu2e⟩ : ∃ op2 t2 vk2 vn2 vs2 A2 n2 c2, u2 = .agg (ncells op2 t2 vk2 vn2 vs2 A2 n2 c2) := by
              cases X with
              | node => obtain ⟨A2, c2, h, -⟩ := hn2; exact ⟨_, _, _, _, _, _, _, _, h⟩
            subst hu2e
            clear hu2 PAH c0 c1 c2 c3 c4 c5
            have b1 : Below W8.heap.size W8 ((W8.alloc (.cells (ncells op2 t2 vk2 vn2 vs2 A2 n2 c2') 26)).alloc (.cells #[.int .i64 0, .int .i64 0] 36)) := ((Below.refl _ _).alloc (Nat.le_refl _) _).alloc (by simp) _
            have k0 := (Whole.new W8 26 (ncells op2 t2 vk2 vn2 vs2 A2 n2 c2')).alloc (.cells #[.int .i64 0, .int .i64 0] 36)
            have k1 := Whole.new (W8.alloc (.cells (ncells op2 t2 vk2 vn2 vs2 A2 n2 c2') 26)) 36 #[.int .i64 0, .int .i64 0]
            simp only [World.size_alloc] at k1
            have nv2 := hn2.below b1
            have B9 := bstep (bstep B7.out hb8) b1
            have KB := KK.out _ B9
            have SHO := Lib.hid (SH.out _ B9)
            have KH := Lib.hid (And.intro B9 (And.intro k0 (And.intro k1 nv2)))
            unfold ncells at *
            obtain ⟨-, c0, c1, c2, c3, c4, c5⟩ := KB
            clear B9 k0 k1 nv2 hn2 b1 hb8 SH
            go_wp2_with fail
            refine SHO.out.mono ?_
            obtain ⟨B9, k0, k1, nv2⟩ := KH.out
            generalize (W8.alloc (.cells #[.int .i64 op2, .string (tx t2), .int .i64 vk2, .int .i64 vn2, .string (tx vs2), .slice A2 n2 c2'] 26)).alloc (.cells #[.int .i64 0, .int .i64 0] 36) = W9 at *
            rintro e W10 ⟨rfl, hb10⟩
            have B10 := Lib.hid (bstep B9 hb10)
            have BF := Lib.hid (bstep B3.out B10.out)
            have v0 := (k1.below hb10 k1.lt).cell 0
            simp only [List.getElem?_toArray, List.getElem?_cons_zero, List.getElem?_cons_succ] at v0
            obtain ⟨z0, z1, z2, z3, z4, z5⟩ := six_of (k0.below hb10 k0.lt)
            clear c0 c1 c2 c3 c4 c5
            obtain ⟨-, c0, c1, c2, c3, c4, c5⟩ := KK.out _ B10.out
            have SM := Lib.hid (refSame_all _ X (Nat.le_refl _) (by have := HCX.out.1; omega) X _ _ W10 (NX3.out.below B10.out) (nv2.below hb10))
            rw [(Ex.same_iff X X).2 rfl] at SM
            clear B9 k0 k1 nv2 hb10 SHO KH
            go_wp2_with fail
            refine SM.out.mono ?_
            rintro e W11 ⟨rfl, hb11⟩
            have B11 := Lib.hid (bstep BF.out hb11)
            clear hb11 SM
            go_wp2_with fail
            go_ret
            exact ⟨rfl, B11.out⟩
          · rw [hj] at PA
            have PAH := Lib.hid PA
            clear PA hj HQ CT
            go_wp2_with fail
            refine PAH.out.mono ?_
            rintro e W8 ⟨u2, rfl, hu2, hb8⟩
            have hn2 := hu2.node
            obtain ⟨op2, t2, vk2, vn2, vs2, A2, n2, c2', hu2e⟩ : ∃ op2 t2 vk2 vn2 vs2 A2 n2 c2, u2 = .agg (ncells op2 t2 vk2 vn2 vs2 A2 n2 c2) := by
              obtain ⟨A2, c2, h, -⟩ := hn2; exact ⟨_, _, _, _, _, _, _, _, h⟩
            subst hu2e
            clear hu2 PAH c0 c1 c2 c3 c4 c5
            have b1 : Below W8.heap.size W8 ((W8.alloc (.cells (ncells op2 t2 vk2 vn2 vs2 A2 n2 c2') 26)).alloc (.cells #[.int .i64 18, .int .i64 (pa : Nat)] 36)) := ((Below.refl _ _).alloc (Nat.le_refl _) _).alloc (by simp) _
            have k0 := (Whole.new W8 26 (ncells op2 t2 vk2 vn2 vs2 A2 n2 c2')).alloc (.cells #[.int .i64 18, .int .i64 (pa : Nat)] 36)
            have k1 := Whole.new (W8.alloc (.cells (ncells op2 t2 vk2 vn2 vs2 A2 n2 c2') 26)) 36 #[.int .i64 18, .int .i64 (pa : Nat)]
            simp only [World.size_alloc] at k1
            have nv2 := hn2.below b1
            have B9 := bstep (bstep B7.out hb8) b1
            have KB := KK.out _ B9
            have SHO := Lib.hid (SH.out _ B9)
            have KH := Lib.hid (And.intro B9 (And.intro k0 (And.intro k1 nv2)))
            unfold ncells at *
            obtain ⟨-, c0, c1, c2, c3, c4, c5⟩ := KB
            clear B9 k0 k1 nv2 hn2 b1 hb8 SH
            go_wp2_with fail
            refine SHO.out.mono ?_
            obtain ⟨B9, k0, k1, nv2⟩ := KH.out
            generalize (W8.alloc (.cells #[.int .i64 op2, .string (tx t2), .int .i64 vk2, .int .i64 vn2, .string (tx vs2), .slice A2 n2 c2'] 26)).alloc (.cells #[.int .i64 18, .int .i64 (pa : Nat)] 36) = W9 at *
            rintro e W10 ⟨rfl, hb10⟩
            have B10 := Lib.hid (bstep B9 hb10)
            have BF := Lib.hid (bstep B3.out B10.out)
            have v0 := (k1.below hb10 k1.lt).cell 0
            simp only [List.getElem?_toArray, List.getElem?_cons_zero, List.getElem?_cons_succ] at v0
            obtain ⟨z0, z1, z2, z3, z4, z5⟩ := six_of (k0.below hb10 k0.lt)
            clear c0 c1 c2 c3 c4 c5
            obtain ⟨-, c0, c1, c2, c3, c4, c5⟩ := KK.out _ B10.out
            clear B9 k0 k1 nv2 hb10 SHO KH
            go_wp2_with fail
            go_ret
            exact ⟨rfl, BF.out⟩
        · skip
          have E : shortB (p, 0) most = (tx p).extract 0 most.toNat ++ tx [46, 46, 46] := by
            unfold shortB
            rw [if_neg (by simp), if_neg (by simp only; omega), show (max 0 most).toNat = most.toNat by omega]
          rw [E] at HSB
          have HSB' := HSB.out
          subst HSB'
          clear HSB E
          have PA := parse_any (tx p) W7 a m (HV.out.below (bstep B3.out B7.out))
          rw [show (tx p).data.toList = p by simp] at PA
          rcases HQ.out with ⟨j, hj⟩ | ⟨⟨pa, hj⟩, -⟩
          · rw [hj] at PA
            have PAH := Lib.hid PA
            clear PA hj HQ CT
            go_wp2_with fail
            refine PAH.out.mono ?_
            rintro e W8 ⟨u2, rfl, hu2, hb8⟩
            have hn2 := hu2.node
            obtain ⟨op2, t2, vk2, vn2, vs2, A2, n2, c2', hu2e⟩ : ∃ op2 t2 vk2 vn2 vs2 A2 n2 c2, u2 = .agg (ncells op2 t2 vk2 vn2 vs2 A2 n2 c2) := by
              cases X with
              | node => obtain ⟨A2, c2, h, -⟩ := hn2; exact ⟨_, _, _, _, _, _, _, _, h⟩
            subst hu2e
            clear hu2 PAH c0 c1 c2 c3 c4 c5
            have b1 : Below W8.heap.size W8 ((W8.alloc (.cells (ncells op2 t2 vk2 vn2 vs2 A2 n2 c2') 26)).alloc (.cells #[.int .i64 0, .int .i64 0] 36)) := ((Below.refl _ _).alloc (Nat.le_refl _) _).alloc (by simp) _
            have k0 := (Whole.new W8 26 (ncells op2 t2 vk2 vn2 vs2 A2 n2 c2')).alloc (.cells #[.int .i64 0, .int .i64 0] 36)
            have k1 := Whole.new (W8.alloc (.cells (ncells op2 t2 vk2 vn2 vs2 A2 n2 c2') 26)) 36 #[.int .i64 0, .int .i64 0]
            simp only [World.size_alloc] at k1
            have nv2 := hn2.below b1
            have B9 := bstep (bstep B7.out hb8) b1
            have KB := KK.out _ B9
            have SHO := Lib.hid (SH.out _ B9)
            have KH := Lib.hid (And.intro B9 (And.intro k0 (And.intro k1 nv2)))
            unfold ncells at *
            obtain ⟨-, c0, c1, c2, c3, c4, c5⟩ := KB
            clear B9 k0 k1 nv2 hn2 b1 hb8 SH
            go_wp2_with fail
            refine SHO.out.mono ?_
            obtain ⟨B9, k0, k1, nv2⟩ := KH.out
            generalize (W8.alloc (.cells #[.int .i64 op2, .string (tx t2), .int .i64 vk2, .int .i64 vn2, .string (tx vs2), .slice A2 n2 c2'] 26)).alloc (.cells #[.int .i64 0, .int .i64 0] 36) = W9 at *
            rintro e W10 ⟨rfl, hb10⟩
            have B10 := Lib.hid (bstep B9 hb10)
            have BF := Lib.hid (bstep B3.out B10.out)
            have v0 := (k1.below hb10 k1.lt).cell 0
            simp only [List.getElem?_toArray, List.getElem?_cons_zero, List.getElem?_cons_succ] at v0
            obtain ⟨z0, z1, z2, z3, z4, z5⟩ := six_of (k0.below hb10 k0.lt)
            clear c0 c1 c2 c3 c4 c5
            obtain ⟨-, c0, c1, c2, c3, c4, c5⟩ := KK.out _ B10.out
            have SM := Lib.hid (refSame_all _ X (Nat.le_refl _) (by have := HCX.out.1; omega) X _ _ W10 (NX3.out.below B10.out) (nv2.below hb10))
            rw [(Ex.same_iff X X).2 rfl] at SM
            clear B9 k0 k1 nv2 hb10 SHO KH
            go_wp2_with fail
            refine SM.out.mono ?_
            rintro e W11 ⟨rfl, hb11⟩
            have B11 := Lib.hid (bstep BF.out hb11)
            clear hb11 SM
            go_wp2_with fail
            go_ret
            exact ⟨rfl, B11.out⟩
          · rw [hj] at PA
            have PAH := Lib.hid PA
            clear PA hj HQ CT
            go_wp2_with fail
            refine PAH.out.mono ?_
            rintro e W8 ⟨u2, rfl, hu2, hb8⟩
            have hn2 := hu2.node
            obtain ⟨op2, t2, vk2, vn2, vs2, A2, n2, c2', hu2e⟩ : ∃ op2 t2 vk2 vn2 vs2 A2 n2 c2, u2 = .agg (ncells op2 t2 vk2 vn2 vs2 A2 n2 c2) := by
              obtain ⟨A2, c2, h, -⟩ := hn2; exact ⟨_, _, _, _, _, _, _, _, h⟩
            subst hu2e
            clear hu2 PAH c0 c1 c2 c3 c4 c5
            have b1 : Below W8.heap.size W8 ((W8.alloc (.cells (ncells op2 t2 vk2 vn2 vs2 A2 n2 c2') 26)).alloc (.cells #[.int .i64 18, .int .i64 (pa : Nat)] 36)) := ((Below.refl _ _).alloc (Nat.le_refl _) _).alloc (by simp) _
            have k0 := (Whole.new W8 26 (ncells op2 t2 vk2 vn2 vs2 A2 n2 c2')).alloc (.cells #[.int .i64 18, .int .i64 (pa : Nat)] 36)
            have k1 := Whole.new (W8.alloc (.cells (ncells op2 t2 vk2 vn2 vs2 A2 n2 c2') 26)) 36 #[.int .i64 18, .int .i64 (pa : Nat)]
            simp only [World.size_alloc] at k1
            have nv2 := hn2.below b1
            have B9 := bstep (bstep B7.out hb8) b1
            have KB := KK.out _ B9
            have SHO := Lib.hid (SH.out _ B9)
            have KH := Lib.hid (And.intro B9 (And.intro k0 (And.intro k1 nv2)))
            unfold ncells at *
            obtain ⟨-, c0, c1, c2, c3, c4, c5⟩ := KB
            clear B9 k0 k1 nv2 hn2 b1 hb8 SH
            go_wp2_with fail
            refine SHO.out.mono ?_
            obtain ⟨B9, k0, k1, nv2⟩ := KH.out
            generalize (W8.alloc (.cells #[.int .i64 op2, .string (tx t2), .int .i64 vk2, .int .i64 vn2, .string (tx vs2), .slice A2 n2 c2'] 26)).alloc (.cells #[.int .i64 18, .int .i64 (pa : Nat)] 36) = W9 at *
            rintro e W10 ⟨rfl, hb10⟩
            have B10 := Lib.hid (bstep B9 hb10)
            have BF := Lib.hid (bstep B3.out B10.out)
            have v0 := (k1.below hb10 k1.lt).cell 0
            simp only [List.getElem?_toArray, List.getElem?_cons_zero, List.getElem?_cons_succ] at v0
            obtain ⟨z0, z1, z2, z3, z4, z5⟩ := six_of (k0.below hb10 k0.lt)
            clear c0 c1 c2 c3 c4 c5
            obtain ⟨-, c0, c1, c2, c3, c4, c5⟩ := KK.out _ B10.out
            clear B9 k0 k1 nv2 hb10 SHO KH
            go_wp2_with fail
            go_ret
            exact ⟨rfl, BF.out⟩
        · skip
          have E : shortB (p, 0) most = tx p := by
            unfold shortB
            rw [if_neg (by simp), if_pos (by simp only; omega)]
          rw [E] at HSB
          have HSB' := HSB.out
          subst HSB'
          clear HSB E
          have PA := parse_any (tx p) W7 a m (HV.out.below (bstep B3.out B7.out))
          rw [show (tx p).data.toList = p by simp] at PA
          rcases HQ.out with ⟨j, hj⟩ | ⟨⟨pa, hj⟩, -⟩
          · rw [hj] at PA
            have PAH := Lib.hid PA
            clear PA hj HQ CT
            go_wp2_with fail
            refine PAH.out.mono ?_
            rintro e W8 ⟨u2, rfl, hu2, hb8⟩
            have hn2 := hu2.node
            obtain ⟨op2, t2, vk2, vn2, vs2, A2, n2, c2', hu2e⟩ : ∃ op2 t2 vk2 vn2 vs2 A2 n2 c2, u2 = .agg (ncells op2 t2 vk2 vn2 vs2 A2 n2 c2) := by
              cases X with
              | node => obtain ⟨A2, c2, h, -⟩ := hn2; exact ⟨_, _, _, _, _, _, _, _, h⟩
            subst hu2e
            clear hu2 PAH c0 c1 c2 c3 c4 c5
            have b1 : Below W8.heap.size W8 ((W8.alloc (.cells (ncells op2 t2 vk2 vn2 vs2 A2 n2 c2') 26)).alloc (.cells #[.int .i64 0, .int .i64 0] 36)) := ((Below.refl _ _).alloc (Nat.le_refl _) _).alloc (by simp) _
            have k0 := (Whole.new W8 26 (ncells op2 t2 vk2 vn2 vs2 A2 n2 c2')).alloc (.cells #[.int .i64 0, .int .i64 0] 36)
            have k1 := Whole.new (W8.alloc (.cells (ncells op2 t2 vk2 vn2 vs2 A2 n2 c2') 26)) 36 #[.int .i64 0, .int .i64 0]
            simp only [World.size_alloc] at k1
            have nv2 := hn2.below b1
            have B9 := bstep (bstep B7.out hb8) b1
            have KB := KK.out _ B9
            have SHO := Lib.hid (SH.out _ B9)
            have KH := Lib.hid (And.intro B9 (And.intro k0 (And.intro k1 nv2)))
            unfold ncells at *
            obtain ⟨-, c0, c1, c2, c3, c4, c5⟩ := KB
            clear B9 k0 k1 nv2 hn2 b1 hb8 SH
            go_wp2_with fail
            refine SHO.out.mono ?_
            obtain ⟨B9, k0, k1, nv2⟩ := KH.out
            generalize (W8.alloc (.cells #[.int .i64 op2, .string (tx t2), .int .i64 vk2, .int .i64 vn2, .string (tx vs2), .slice A2 n2 c2'] 26)).alloc (.cells #[.int .i64 0, .int .i64 0] 36) = W9 at *
            rintro e W10 ⟨rfl, hb10⟩
            have B10 := Lib.hid (bstep B9 hb10)
            have BF := Lib.hid (bstep B3.out B10.out)
            have v0 := (k1.below hb10 k1.lt).cell 0
            simp only [List.getElem?_toArray, List.getElem?_cons_zero, List.getElem?_cons_succ] at v0
            obtain ⟨z0, z1, z2, z3, z4, z5⟩ := six_of (k0.below hb10 k0.lt)
            clear c0 c1 c2 c3 c4 c5
            obtain ⟨-, c0, c1, c2, c3, c4, c5⟩ := KK.out _ B10.out
            have SM := Lib.hid (refSame_all _ X (Nat.le_refl _) (by have := HCX.out.1; omega) X _ _ W10 (NX3.out.below B10.out) (nv2.below hb10))
            rw [(Ex.same_iff X X).2 rfl] at SM
            clear B9 k0 k1 nv2 hb10 SHO KH
            go_wp2_with fail
            refine SM.out.mono ?_
            rintro e W11 ⟨rfl, hb11⟩
            have B11 := Lib.hid (bstep BF.out hb11)
            clear hb11 SM
            go_wp2_with fail
            go_ret
            exact ⟨rfl, B11.out⟩
          · rw [hj] at PA
            have PAH := Lib.hid PA
            clear PA hj HQ CT
            go_wp2_with fail
            refine PAH.out.mono ?_
            rintro e W8 ⟨u2, rfl, hu2, hb8⟩
            have hn2 := hu2.node
            obtain ⟨op2, t2, vk2, vn2, vs2, A2, n2, c2', hu2e⟩ : ∃ op2 t2 vk2 vn2 vs2 A2 n2 c2, u2 = .agg (ncells op2 t2 vk2 vn2 vs2 A2 n2 c2) := by
              obtain ⟨A2, c2, h, -⟩ := hn2; exact ⟨_, _, _, _, _, _, _, _, h⟩
            subst hu2e
            clear hu2 PAH c0 c1 c2 c3 c4 c5
            have b1 : Below W8.heap.size W8 ((W8.alloc (.cells (ncells op2 t2 vk2 vn2 vs2 A2 n2 c2') 26)).alloc (.cells #[.int .i64 18, .int .i64 (pa : Nat)] 36)) := ((Below.refl _ _).alloc (Nat.le_refl _) _).alloc (by simp) _
            have k0 := (Whole.new W8 26 (ncells op2 t2 vk2 vn2 vs2 A2 n2 c2')).alloc (.cells #[.int .i64 18, .int .i64 (pa : Nat)] 36)
            have k1 := Whole.new (W8.alloc (.cells (ncells op2 t2 vk2 vn2 vs2 A2 n2 c2') 26)) 36 #[.int .i64 18, .int .i64 (pa : Nat)]
            simp only [World.size_alloc] at k1
            have nv2 := hn2.below b1
            have B9 := bstep (bstep B7.out hb8) b1
            have KB := KK.out _ B9
            have SHO := Lib.hid (SH.out _ B9)
            have KH := Lib.hid (And.intro B9 (And.intro k0 (And.intro k1 nv2)))
            unfold ncells at *
            obtain ⟨-, c0, c1, c2, c3, c4, c5⟩ := KB
            clear B9 k0 k1 nv2 hn2 b1 hb8 SH
            go_wp2_with fail
            refine SHO.out.mono ?_
            obtain ⟨B9, k0, k1, nv2⟩ := KH.out
            generalize (W8.alloc (.cells #[.int .i64 op2, .string (tx t2), .int .i64 vk2, .int .i64 vn2, .string (tx vs2), .slice A2 n2 c2'] 26)).alloc (.cells #[.int .i64 18, .int .i64 (pa : Nat)] 36) = W9 at *
            rintro e W10 ⟨rfl, hb10⟩
            have B10 := Lib.hid (bstep B9 hb10)
            have BF := Lib.hid (bstep B3.out B10.out)
            have v0 := (k1.below hb10 k1.lt).cell 0
            simp only [List.getElem?_toArray, List.getElem?_cons_zero, List.getElem?_cons_succ] at v0
            obtain ⟨z0, z1, z2, z3, z4, z5⟩ := six_of (k0.below hb10 k0.lt)
            clear c0 c1 c2 c3 c4 c5
            obtain ⟨-, c0, c1, c2, c3, c4, c5⟩ := KK.out _ B10.out
            clear B9 k0 k1 nv2 hb10 SHO KH
            go_wp2_with fail
            go_ret
            exact ⟨rfl, BF.out⟩
end Go.Proofs.YthcfdggdippocaaGreatDoor
