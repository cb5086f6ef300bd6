/- InferWider. -/
import Derived.Test.YtfkbhlgoglmcpaaGreatDoorIK
import Derived.Test.YtfkbhlgoglmcpaaGreatDoorIR
import Derived.Test.YtfkbhlgoglmcpaaGreatDoorHS
import Derived.Test.YtfkbhlgoglmcpaaGreatDoorHQ
import Derived.Deep.RegionHeld
namespace Go.Proofs.YtfkbhlgoglmcpaaGreatDoor
open Go.RowKit Go.Lib
set_option linter.unusedVariables false
set_option linter.unusedSimpArgs false
set_option maxRecDepth 100000
open Ex (Tree)
attribute [local go_sem ↓] eqVal neqVal

/-- columns that are all among others. -/
theorem Kd.kK_more {C D : List Col} {X : Tree} {k : Int} (h : Kd.kK C X = (k, 0)) (hD : Kd.goodB D = true) (hs : ∀ c ∈ C, c ∈ D) : Kd.kK D X = (k, 0) := by
  obtain ⟨h1, h2, h3, h4⟩ := Kd.kK_ok (C := C) (T := X) (by rw [h])
  have gC := (Kd.goodB_iff C).1 h2
  have gD := (Kd.goodB_iff D).1 hD
  have := Kd.kd_mono (C := C) (D := D) (fun n k hk => (Kd.fk_iff gD n k).2 (hs _ ((Kd.fk_iff gC n k).1 hk))) X h4
  rw [Kd.kK, if_pos ⟨h1, hD⟩, this, ← h3, h]
theorem Kd.kK_turned {C : List Col} {X : Tree} {k : Int} (h : Kd.kK C X = (k, 0)) (i : Nat) : Kd.kK (C.drop i ++ C.take i) X = (k, 0) := by
  obtain ⟨h1, h2, h3, h4⟩ := Kd.kK_ok (C := C) (T := X) (by rw [h])
  have hp : C.Perm (C.drop i ++ C.take i) := by
    have := (List.perm_append_comm (l₁ := C.take i) (l₂ := C.drop i))
    rwa [List.take_append_drop] at this
  exact Kd.kK_more h ((Kd.goodB_iff _).2 (Kd.good_perm hp ((Kd.goodB_iff C).1 h2))) (fun c hc => hp.mem_iff.1 hc)
theorem Kd.kK_wide {C : List Col} {X : Tree} {k : Int} (h : Kd.kK C X = (k, 0)) (m : Col) : if Kd.goodB (C ++ [m]) = true then Kd.kK (C ++ [m]) X = (k, 0) else Kd.kK (C ++ [m]) X = (0, 1) := by
  by_cases hw : Kd.goodB (C ++ [m]) = true
  · rw [if_pos hw]
    exact Kd.kK_more h hw (fun c hc => List.mem_append.2 (.inl hc))
  · rw [if_neg hw, Kd.kK, if_neg (fun h => hw h.2)]
/-- one list, then another, in a row of the call's own. -/
theorem cols_rest {w : World} {A B : Option Addr} {D E : List Col} {c c' : Nat} (hD : ColsAt w A D) (hE : ColsAt w B E) (hn : D.length + E.length ≤ 1000000) :
    ∃ v1 w1, Sem.run Tryz.prog (Builtin.append_ #[27, 27] 27 #[.slice (some ⟨w.heap.size, 0, none⟩) 0 0, .slice A D.length c]) (w.alloc (.cells #[] 36)) = .ok v1 w1 ∧ Below w.heap.size w w1 ∧
      ∃ v2 w2, Sem.run Tryz.prog (Builtin.append_ #[27, 27] 27 #[v1, .slice B E.length c']) w1 = .ok v2 w2 ∧ Below w.heap.size w w2 ∧ RowC w2 w.heap.size v2 (D ++ E) := by
  have b0 : Below w.heap.size w (w.alloc (.cells #[] 36)) := (Below.refl _ _).alloc (Nat.le_refl _) _
  obtain ⟨v1, w1, hr1, r1, t1, o1⟩ := append_cols (RowC.new w) (hD.below b0) (A := A) (c := c) (by simp; omega) (by simp)
  have b1 : Below w.heap.size w w1 := t1.fresh b0 (fun k hk => by simp [Value.ownBlock] at hk; omega)
  obtain ⟨v2, w2, hr2, r2, t2, o2⟩ := append_cols r1 (hE.below b1) (A := B) (c := c') (by simpa using hn) b1.size
  exact ⟨v1, w1, hr1, b1, v2, w2, hr2, t2.fresh b1 (fun k hk => (r1.block k (by simpa using hk)).1), by simpa using r2⟩
theorem RowC.le {w : World} {base b' : Nat} {v : Value} {C : List Col} (h : RowC w base v C) (hb : b' ≤ base) : RowC w b' v C := by
  refine ⟨h.1, ?_⟩
  rcases h.2 with h2 | ⟨g, cap, cur, e, h3, h4⟩
  · exact .inl h2
  · exact .inr ⟨g, cap, cur, e, Nat.le_trans hb h3, h4⟩
theorem one_col {W : World} {g : Nat} {c : Col} (h : Whole W g 36 (ncol c)) : ColsAt W (some ⟨g, 0, none⟩) [c] := fun i hi => by
  have : i = 0 := by simpa using hi
  subst this
  exact ⟨g, 0, rfl, h.lt, by rw [h.cell]; rfl, by rw [h.cell]; rfl⟩
/-- a list and one column more, in a row of the call's own: the column is laid last. -/
theorem wide_last {w : World} {A : Option Addr} {D : List Col} {c : Nat} (m : Col) (hD : ColsAt w A D) (hn : D.length + 1 ≤ 1000000) :
    ∃ v1 w1, Sem.run Tryz.prog (Builtin.append_ #[27, 27] 27 #[.slice (some ⟨w.heap.size, 0, none⟩) 0 0, .slice A D.length c]) (w.alloc (.cells #[] 36)) = .ok v1 w1 ∧ Below w.heap.size w w1 ∧
      ∃ v2 w2, Sem.run Tryz.prog (Builtin.append_ #[27, 27] 27 #[v1, .slice (some ⟨w1.heap.size, 0, none⟩) 1 1]) (w1.alloc (.cells (ncol m) 36)) = .ok v2 w2 ∧ Below w.heap.size w w2 ∧ RowC w2 w.heap.size v2 (D ++ [m]) := by
  have b0 : Below w.heap.size w (w.alloc (.cells #[] 36)) := (Below.refl _ _).alloc (Nat.le_refl _) _
  obtain ⟨v1, w1, hr1, r1, t1, o1⟩ := append_cols (RowC.new w) (hD.below b0) (A := A) (c := c) (by simp; omega) (by simp)
  have b1 : Below w.heap.size w w1 := t1.fresh b0 (fun k hk => by simp [Value.ownBlock] at hk; omega)
  have b2 : Below w.heap.size w (w1.alloc (.cells (ncol m) 36)) := b1.alloc b1.size _
  have r2 := r1.below ((Below.refl w1.heap.size w1).alloc (Nat.le_refl _) (.cells (ncol m) 36))
  obtain ⟨v2, w2, hr2, r3, t2, o2⟩ := append_cols r2 (one_col (Whole.new w1 36 (ncol m))) (c := 1) (by simpa using hn) b2.size
  exact ⟨v1, w1, hr1, b1, v2, w2, hr2, t2.fresh b2 (fun k hk => (r2.block k (by simpa using hk)).1), by simpa using r3⟩
/-- the column is laid behind the row, ahead of the list. -/
theorem wide_mid {w : World} {A : Option Addr} {D : List Col} {c : Nat} (m : Col) (hD : ColsAt w A D) (hn : D.length + 1 ≤ 1000000) :
    ∃ v1 w1, Sem.run Tryz.prog (Builtin.append_ #[27, 27] 27 #[.slice (some ⟨w.heap.size, 0, none⟩) 0 0, .slice A D.length c]) ((w.alloc (.cells #[] 36)).alloc (.cells (ncol m) 36)) = .ok v1 w1 ∧ Below w.heap.size w w1 ∧
      ∃ v2 w2, Sem.run Tryz.prog (Builtin.append_ #[27, 27] 27 #[v1, .slice (some ⟨w.heap.size + 1, 0, none⟩) 1 1]) w1 = .ok v2 w2 ∧ Below w.heap.size w w2 ∧ RowC w2 w.heap.size v2 (D ++ [m]) := by
  have b0 : Below w.heap.size w ((w.alloc (.cells #[] 36)).alloc (.cells (ncol m) 36)) := ((Below.refl _ _).alloc (Nat.le_refl _) _).alloc (by simp) _
  have r0 := (RowC.new w).below ((Below.refl _ _).alloc (Nat.le_refl _) (.cells (ncol m) 36))
  have k0 := Whole.new (w.alloc (.cells #[] 36)) 36 (ncol m)
  rw [World.size_alloc] at k0
  obtain ⟨v1, w1, hr1, r1, t1, o1⟩ := append_cols r0 (hD.below b0) (A := A) (c := c) (by simp; omega) b0.size
  have b1 : Below w.heap.size w w1 := t1.fresh b0 (fun k hk => by simp [Value.ownBlock] at hk; omega)
  have k1 : Whole w1 (w.heap.size + 1) 36 (ncol m) := (t1.block _ k0.lt (by simp [Value.ownBlock])).trans k0
  obtain ⟨v2, w2, hr2, r2, t2, o2⟩ := append_cols r1 (one_col k1) (c := 1) (by simpa using hn) b1.size
  exact ⟨v1, w1, hr1, b1, v2, w2, hr2, t2.fresh b1 (fun k hk => (r1.block k (by simpa using hk)).1), by simpa using r2⟩
/-- the column is laid first. -/
theorem wide_first {w : World} {A : Option Addr} {D : List Col} {c : Nat} (m : Col) (hD : ColsAt w A D) (hn : D.length + 1 ≤ 1000000) :
    ∃ v1 w1, Sem.run Tryz.prog (Builtin.append_ #[27, 27] 27 #[.slice (some ⟨w.heap.size + 1, 0, none⟩) 0 0, .slice A D.length c]) ((w.alloc (.cells (ncol m) 36)).alloc (.cells #[] 36)) = .ok v1 w1 ∧ Below w.heap.size w w1 ∧
      ∃ v2 w2, Sem.run Tryz.prog (Builtin.append_ #[27, 27] 27 #[v1, .slice (some ⟨w.heap.size, 0, none⟩) 1 1]) w1 = .ok v2 w2 ∧ Below w.heap.size w w2 ∧ RowC w2 w.heap.size v2 (D ++ [m]) := by
  have b0 : Below w.heap.size w ((w.alloc (.cells (ncol m) 36)).alloc (.cells #[] 36)) := ((Below.refl _ _).alloc (Nat.le_refl _) _).alloc (by simp) _
  have r0 := (RowC.new (w.alloc (.cells (ncol m) 36))).le (b' := w.heap.size) (by simp)
  have k0 := (Whole.new w 36 (ncol m)).alloc (.cells #[] 36)
  rw [World.size_alloc] at r0
  obtain ⟨v1, w1, hr1, r1, t1, o1⟩ := append_cols r0 (hD.below b0) (A := A) (c := c) (by simp; omega) b0.size
  have b1 : Below w.heap.size w w1 := t1.fresh b0 (fun k hk => by simp [Value.ownBlock] at hk; omega)
  have k1 : Whole w1 w.heap.size 36 (ncol m) := (t1.block _ k0.lt (by simp [Value.ownBlock])).trans k0
  obtain ⟨v2, w2, hr2, r2, t2, o2⟩ := append_cols r1 (one_col k1) (c := 1) (by simpa using hn) b1.size
  exact ⟨v1, w1, hr1, b1, v2, w2, hr2, t2.fresh b1 (fun k hk => (r1.block k (by simpa using hk)).1), by simpa using r2⟩
set_option maxHeartbeats 4000000 in
theorem wider_any (X : Tree) (C : List Col) (mn : List UInt8) (mk : Int) (vx : Value) (Ac : Option Addr) (cc : Nat) (by_ : Int) (w : World) (hx : NodeV w vx X) (hfx : fitT X) (hA : ColsAt w Ac C) (hFC : fitC C) (hcc : C.length ≤ cc) (hc0 : Ac = none → cc = 0) (hmn : mn.length ≤ maxLen) (a : Addr) (m : Int) (hv : Env w a m) :
    Calls Tryz.prog 4 #[vx, .slice Ac C.length cc, .agg #[.string (tx mn), .int .i64 mk], .int .i64 by_] w fun e w' => e = .returned (.bool true) ∧ Below w.heap.size w w' := by
  have hx' := hx
  obtain ⟨xop, xt, xvk, xvn, xvs, xn, xA, xc, rfl⟩ : ∃ op t vk vn vs n A c, vx = .agg (ncells op t vk vn vs A n c) := by
    cases X with
    | node op t vk vn vs ks => obtain ⟨A, c, h1, -⟩ := hx; exact ⟨_, _, _, _, _, _, _, _, h1⟩
  clear hx
  have b0 : Below w.heap.size w ((w.alloc (.cells (ncells xop xt xvk xvn xvs xA xn xc) 26)).alloc (.cells #[.string (tx mn), .int .i64 mk] 36)) := ((Below.refl _ _).alloc (Nat.le_refl _) _).alloc (by simp) _
  have k0 := (Whole.new w 26 (ncells xop xt xvk xvn xvs xA xn xc)).alloc (.cells #[.string (tx mn), .int .i64 mk] 36)
  have k1 := Whole.new (w.alloc (.cells (ncells xop xt xvk xvn xvs xA xn xc) 26)) 36 #[.string (tx mn), .int .i64 mk]
  simp only [World.size_alloc] at k1
  have nx := hx'.below b0
  have ca := hA.below b0
  unfold ncells at *
  have HV := Lib.hid hv
  have HFX := Lib.hid hfx
  have HFC := Lib.hid hFC
  have HCC := Lib.hid hcc
  obtain ⟨q, hq⟩ : ∃ q, C.length = q := ⟨_, rfl⟩
  have HQ := Lib.hid hq
  rw [hq] at hcc
  rw [hq]
  simp only [maxLen] at hmn
  clear hv hfx hFC hx' hA hq
  go_enter Tryz.func4, Tryz.ntmps4
  go_wp2_with fail
  generalize (w.alloc (.cells #[.int .i64 xop, .string (tx xt), .int .i64 xvk, .int .i64 xvn, .string (tx xvs), .slice xA xn xc] 26)).alloc (.cells #[.string (tx mn), .int .i64 mk] 36) = W1 at *
  have AW := Lib.hid (awake15_any W1 a m (HV.out.below b0))
  have B0 := Lib.hid b0
  have K0 := Lib.hid k0
  have K1 := Lib.hid k1
  have NX := Lib.hid nx
  have CA := Lib.hid ca
  clear b0 k0 k1 nx ca
  refine AW.out.mono ?_
  rintro e W2 ⟨rfl, hb2⟩
  have KX2 := Lib.hid (K0.out.below hb2 K0.out.lt)
  have KM2 := Lib.hid (K1.out.below hb2 K1.out.lt)
  have NX2 := Lib.hid (NX.out.below hb2)
  have CA2 := Lib.hid (CA.out.below hb2)
  have B2 : Hid (Below w.heap.size w W2) := Lib.hid (B0.out.trans (hb2.mono B0.out.size))
  have WX := Lib.hid (Wide_any X _ W2 NX2.out)
  obtain ⟨c0, c1, c2, c3, c4, c5⟩ := six_of KX2.out
  clear AW hb2 K0 K1 B0 NX CA
  go_wp2_with fail
  refine WX.out.mono ?_
  rintro e W3 (⟨rfl, hb3, hcx, hsx⟩ | ⟨rfl, hb3⟩)
  case inr =>
    have B3 : Hid (Below w.heap.size w W3) := Lib.hid (B2.out.trans (hb3.mono B2.out.size))
    clear hb3
    go_wp2_with fail
    go_ret
    exact ⟨rfl, B3.out⟩
  have KX3 := Lib.hid (KX2.out.below hb3 KX2.out.lt)
  have KM3 := Lib.hid (KM2.out.below hb3 KM2.out.lt)
  have NX3 := Lib.hid (NX2.out.below hb3)
  have CA3 := Lib.hid (CA2.out.below hb3)
  have B3 : Hid (Below w.heap.size w W3) := Lib.hid (B2.out.trans (hb3.mono B2.out.size))
  have HCX := Lib.hid hcx
  have MY := Lib.hid (many_any C Ac cc W3 CA3.out HFC.out)
  rw [HQ.out] at MY
  clear hb3 hcx hsx WX KX2 KM2 NX2 CA2 B2 c0 c1 c2 c3 c4 c5
  go_wp2_with fail
  refine MY.out.mono ?_
  rintro e W4 (⟨rfl, rfl, hq50, hsc⟩ | ⟨rfl, rfl⟩)
  case inr =>
    go_wp2_with fail
    go_ret
    exact ⟨rfl, B3.out⟩
  have HSC := Lib.hid hsc
  clear MY hsc
  have m0 := KM3.out.cell 0
  simp only [List.getElem?_toArray, List.getElem?_cons_zero] at m0
  by_cases hm100 : (mn.length : Int) ≤ 100
  case neg =>
    have hm100' : (100 : Int) < (mn.length : Int) := by omega
    clear hm100
    go_wp2_with fail
    go_ret
    exact ⟨rfl, B3.out⟩
  have hm100' : ¬ (100 : Int) < (mn.length : Int) := by omega
  have hC1 : C.length ≤ 1000000 := by rw [HQ.out]; omega
  have HC1 := Lib.hid hC1
  have V4 := Lib.hid (HV.out.below B3.out)
  have KX := Lib.hid (kind_any C Ac cc HC1.out HFC.out X (by have := HCX.out; omega) HFX.out _ W4 NX3.out CA3.out a m V4.out)
  rw [HQ.out] at KX
  clear hC1
  obtain ⟨c0, c1, c2, c3, c4, c5⟩ := six_of KX3.out
  go_wp2_with fail
  refine KX.out.mono ?_
  rintro e W6 ⟨rfl, hb6⟩
  have KX6 := Lib.hid (KX3.out.below hb6 KX3.out.lt)
  have KM6 := Lib.hid (KM3.out.below hb6 KM3.out.lt)
  have NX6 := Lib.hid (NX3.out.below hb6)
  have CA6 := Lib.hid (CA3.out.below hb6)
  have B6 : Hid (Below w.heap.size w W6) := Lib.hid (B3.out.trans (hb6.mono B3.out.size))
  obtain ⟨kx, hkx⟩ : ∃ p, Kd.kK C X = p := ⟨_, rfl⟩
  obtain ⟨kx1, kx2⟩ := kx
  have HKX := Lib.hid hkx
  rw [hkx]
  clear hkx hb6 KX KX3 KM3 NX3 CA3 B3 V4 c0 c1 c2 c3 c4 c5 m0
  dsimp only
  by_cases hx0 : kx2 = 0
  case neg =>
    have hz : kx1 = 0 := by
      have := Kd.kK_bad C X (by rw [HKX.out]; exact hx0)
      rw [HKX.out] at this
      exact this
    subst hz
    have hx0' : (kx2 != 0) = true := by simpa using hx0
    clear hx0
    go_wp2_with fail
    go_ret
    exact ⟨rfl, B6.out⟩
  subst hx0
  obtain ⟨i, hi, hpk⟩ := pick by_ (q + 1) (by omega) (by omega)
  have hpk' : wrap64 ((IntKind.u64.wrap by_).tmod ((q : Int) + 1)) = (i : Int) := by
    have e : ((q + 1 : Nat) : Int) = (q : Int) + 1 := by omega
    rw [e] at hpk; exact hpk
  clear hpk
  go_upto_region 9 with fail
  rw [hpk']
  clear hpk'
  have HC0 := Lib.hid hc0
  have hiq : i ≤ q := by omega
  have hic : i ≤ cc := by omega
  have hiz : (i : Int) ≤ (q : Int) := by omega
  have hiz2 : (i : Int) ≤ (cc : Int) := by omega
  go_cut [12] from 50 to 58 (fun s12 wc => ∃ A2 n2 c2, s12 = .slice A2 n2 c2 ∧ Hid (n2 = (C.drop i ++ C.take i).length ∧ ColsAt wc A2 (C.drop i ++ C.take i)) ∧ Hid (Below W6.heap.size W6 wc))
  case first =>
    have hd : Below W6.heap.size W6 W6.drew := (Below.refl _ _).drew
    by_cases hq0 : q = 0
    · have hC : C = [] := List.eq_nil_of_length_eq_zero (by rw [HQ.out]; exact hq0)
      have hi0 : i = 0 := by omega
      have hiE : C.drop i ++ C.take i = [] ++ [] := by rw [hC]; simp
      have HQI : Hid (q - i = 0) := Lib.hid (by omega)
      have HI0 := Lib.hid hi0
      rcases Ac with _ | Ab
      · have hcz : cc = cc := rfl
        clear hq0 hi0 hC hc0 hcz
        obtain ⟨v1, w1, s1, bb1, v2, w2, s2, bb2, rr⟩ := cols_rest (w := W6.drew) (D := ([] : List Col)) (E := ([] : List Col)) (A := none) (B := none) (c := (cc - i)) (c' := cc) (ColsAt.nil _ _) (ColsAt.nil _ _) (by simp; try (have := HC1.out; omega))
        have s1' : Sem.run Tryz.prog (Builtin.append_ #[27, 27] 27 #[.slice (some ⟨W6.heap.size, 0, none⟩) 0 0, .slice none (q - i) (cc - i)]) ((W6.alloc (.cells #[] 36)).drew) = .ok v1 w1 := by rw [HQI.out]; exact s1
        have s2' : Sem.run Tryz.prog (Builtin.append_ #[27, 27] 27 #[v1, .slice none i cc]) w1 = .ok v2 w2 := by rw [HI0.out]; exact s2
        clear s1 s2
        obtain ⟨A2, c2, hv2, -, -, hr2⟩ := rr.shape
        obtain ⟨m2, hm2⟩ : ∃ m2, (([] : List Col) ++ ([] : List Col) : List Col).length = m2 := ⟨_, rfl⟩
        rw [hm2] at hv2
        subst hv2
        have BB := Lib.hid (bdrew1 bb2)
        have RR : Hid (m2 = (C.drop i ++ C.take i).length ∧ ColsAt w2 A2 (C.drop i ++ C.take i)) := Lib.hid (by rw [hiE]; exact ⟨hm2.symm, hr2⟩)
        clear bb1 bb2 rr hr2 hd hm2
        go_region_law (first
          | (refine step_append_runI rfl _ _ 27 27 rfl _ _ ?h3 ?h4 s1' ?_; (case h3 => rfl); (case h4 => rfl))
          | (refine step_append_runI rfl _ _ 27 27 rfl _ _ ?h3 ?h4 s2' ?_; (case h3 => rfl); (case h4 => rfl)))
        all_goals
          go_wp2_with fail
          go_meet
          case rel => exact ⟨A2, m2, c2, rfl, RR, BB⟩
      · by_cases hicc : cc = i
        · have hicc1 : (cc = i) = True := eq_true hicc
          by_cases hcc0 : cc = 0
          · have hcc1 : (cc = 0) = True := eq_true hcc0
            clear hq0 hi0 hC hc0 hicc hcc0
            obtain ⟨v1, w1, s1, bb1, v2, w2, s2, bb2, rr⟩ := cols_rest (w := W6.drew) (D := ([] : List Col)) (E := ([] : List Col)) (A := (some Ab)) (B := (some Ab)) (c := (cc - i)) (c' := 0) (ColsAt.nil _ _) (ColsAt.nil _ _) (by simp; try (have := HC1.out; omega))
            have s1' : Sem.run Tryz.prog (Builtin.append_ #[27, 27] 27 #[.slice (some ⟨W6.heap.size, 0, none⟩) 0 0, .slice (some Ab) (q - i) (cc - i)]) ((W6.alloc (.cells #[] 36)).drew) = .ok v1 w1 := by rw [HQI.out]; exact s1
            have s2' : Sem.run Tryz.prog (Builtin.append_ #[27, 27] 27 #[v1, .slice (some Ab) i 0]) w1 = .ok v2 w2 := by rw [HI0.out]; exact s2
            clear s1 s2
            obtain ⟨A2, c2, hv2, -, -, hr2⟩ := rr.shape
            obtain ⟨m2, hm2⟩ : ∃ m2, (([] : List Col) ++ ([] : List Col) : List Col).length = m2 := ⟨_, rfl⟩
            rw [hm2] at hv2
            subst hv2
            have BB := Lib.hid (bdrew1 bb2)
            have RR : Hid (m2 = (C.drop i ++ C.take i).length ∧ ColsAt w2 A2 (C.drop i ++ C.take i)) := Lib.hid (by rw [hiE]; exact ⟨hm2.symm, hr2⟩)
            clear bb1 bb2 rr hr2 hd hm2
            go_region_law (first
              | (refine step_append_runI rfl _ _ 27 27 rfl _ _ ?h3 ?h4 s1' ?_; (case h3 => rfl); (case h4 => rfl))
              | (refine step_append_runI rfl _ _ 27 27 rfl _ _ ?h3 ?h4 s2' ?_; (case h3 => rfl); (case h4 => rfl)))
            all_goals
              go_wp2_with fail
              go_meet
              case rel => exact ⟨A2, m2, c2, rfl, RR, BB⟩
          · omega
        · have hicc1 : (cc = i) = False := eq_false hicc
          have hcc1 : (cc = 0) = False := eq_false (by omega)
          clear hq0 hi0 hC hc0 hicc
          obtain ⟨v1, w1, s1, bb1, v2, w2, s2, bb2, rr⟩ := cols_rest (w := W6.drew) (D := ([] : List Col)) (E := ([] : List Col)) (A := (some (Ab.add (i * 2)))) (B := (some Ab)) (c := (cc - i)) (c' := cc) (ColsAt.nil _ _) (ColsAt.nil _ _) (by simp; try (have := HC1.out; omega))
          have s1' : Sem.run Tryz.prog (Builtin.append_ #[27, 27] 27 #[.slice (some ⟨W6.heap.size, 0, none⟩) 0 0, .slice (some (Ab.add (i * 2))) (q - i) (cc - i)]) ((W6.alloc (.cells #[] 36)).drew) = .ok v1 w1 := by rw [HQI.out]; exact s1
          have s2' : Sem.run Tryz.prog (Builtin.append_ #[27, 27] 27 #[v1, .slice (some Ab) i cc]) w1 = .ok v2 w2 := by rw [HI0.out]; exact s2
          clear s1 s2
          obtain ⟨A2, c2, hv2, -, -, hr2⟩ := rr.shape
          obtain ⟨m2, hm2⟩ : ∃ m2, (([] : List Col) ++ ([] : List Col) : List Col).length = m2 := ⟨_, rfl⟩
          rw [hm2] at hv2
          subst hv2
          have BB := Lib.hid (bdrew1 bb2)
          have RR : Hid (m2 = (C.drop i ++ C.take i).length ∧ ColsAt w2 A2 (C.drop i ++ C.take i)) := Lib.hid (by rw [hiE]; exact ⟨hm2.symm, hr2⟩)
          clear bb1 bb2 rr hr2 hd hm2
          go_region_law (first
            | (refine step_append_runI rfl _ _ 27 27 rfl _ _ ?h3 ?h4 s1' ?_; (case h3 => rfl); (case h4 => rfl))
            | (refine step_append_runI rfl _ _ 27 27 rfl _ _ ?h3 ?h4 s2' ?_; (case h3 => rfl); (case h4 => rfl)))
          all_goals
            go_wp2_with fail
            go_meet
            case rel => exact ⟨A2, m2, c2, rfl, RR, BB⟩
    · obtain ⟨b, o, rfl⟩ : ∃ b o, Ac = some ⟨b, o, none⟩ := by
        obtain ⟨b, o, e, -⟩ := CA6.out 0 (by rw [HQ.out]; omega)
        exact ⟨b, o, e⟩
      have hcz : (cc = 0) = False := eq_false (by omega)
      by_cases hicc : cc = i
      · have hqi : q = i := by omega
        have hiE : C.drop i ++ C.take i = [] ++ C := by rw [List.drop_of_length_le (by rw [HQ.out]; omega), List.take_of_length_le (by rw [HQ.out]; omega)]
        subst hicc
        subst hqi
        obtain ⟨v1, w1, s1, bb1, v2, w2, s2, bb2, rr⟩ := cols_rest (w := W6.drew) (D := ([] : List Col)) (E := C) (A := (some ⟨b, o, none⟩)) (B := (some ⟨b, o, none⟩)) (c := 0) (c' := q) (ColsAt.nil _ _) (CA6.out.below hd) (by simp; try (have := HC1.out; omega))
        rw [HQ.out] at s2
        have s1' : Sem.run Tryz.prog (Builtin.append_ #[27, 27] 27 #[.slice (some ⟨W6.heap.size, 0, none⟩) 0 0, .slice (some ⟨b, o, none⟩) 0 0]) ((W6.alloc (.cells #[] 36)).drew) = .ok v1 w1 := s1
        have s2' : Sem.run Tryz.prog (Builtin.append_ #[27, 27] 27 #[v1, .slice (some ⟨b, o, none⟩) q q]) w1 = .ok v2 w2 := s2
        clear s1 s2
        obtain ⟨A2, c2, hv2, -, -, hr2⟩ := rr.shape
        obtain ⟨m2, hm2⟩ : ∃ m2, (([] : List Col) ++ C : List Col).length = m2 := ⟨_, rfl⟩
        rw [hm2] at hv2
        subst hv2
        have BB := Lib.hid (bdrew1 bb2)
        have RR : Hid (m2 = (C.drop q ++ C.take q).length ∧ ColsAt w2 A2 (C.drop q ++ C.take q)) := Lib.hid (by rw [hiE]; exact ⟨hm2.symm, hr2⟩)
        clear bb1 bb2 rr hr2 hd hm2
        go_region_law (first
          | (refine step_append_runI rfl _ _ 27 27 rfl _ _ ?h3 ?h4 s1' ?_; (case h3 => rfl); (case h4 => rfl))
          | (refine step_append_runI rfl _ _ 27 27 rfl _ _ ?h3 ?h4 s2' ?_; (case h3 => rfl); (case h4 => rfl)))
        all_goals
          go_wp2_with fail
          go_meet
          case rel => exact ⟨A2, m2, c2, rfl, RR, BB⟩
      · have hicc1 : (cc = i) = False := eq_false hicc
        have hiE : C.drop i ++ C.take i = C.drop i ++ C.take i := rfl
        obtain ⟨v1, w1, s1, bb1, v2, w2, s2, bb2, rr⟩ := cols_rest (w := W6.drew) (D := (C.drop i)) (E := (C.take i)) (A := (some ⟨b, o + i * 2, none⟩)) (B := (some ⟨b, o, none⟩)) (c := (cc - i)) (c' := cc) ((CA6.out.drop i).below hd) ((CA6.out.take i).below hd) (by simp; try (have := HC1.out; omega))
        rw [List.length_drop, HQ.out] at s1
        rw [List.length_take, HQ.out, Nat.min_eq_left hiq] at s2
        have s1' : Sem.run Tryz.prog (Builtin.append_ #[27, 27] 27 #[.slice (some ⟨W6.heap.size, 0, none⟩) 0 0, .slice (some ⟨b, o + i * 2, none⟩) (q - i) (cc - i)]) ((W6.alloc (.cells #[] 36)).drew) = .ok v1 w1 := s1
        have s2' : Sem.run Tryz.prog (Builtin.append_ #[27, 27] 27 #[v1, .slice (some ⟨b, o, none⟩) i cc]) w1 = .ok v2 w2 := s2
        clear s1 s2
        obtain ⟨A2, c2, hv2, -, -, hr2⟩ := rr.shape
        obtain ⟨m2, hm2⟩ : ∃ m2, ((C.drop i) ++ (C.take i) : List Col).length = m2 := ⟨_, rfl⟩
        rw [hm2] at hv2
        subst hv2
        have BB := Lib.hid (bdrew1 bb2)
        have RR : Hid (m2 = (C.drop i ++ C.take i).length ∧ ColsAt w2 A2 (C.drop i ++ C.take i)) := Lib.hid (by rw [hiE]; exact ⟨hm2.symm, hr2⟩)
        clear bb1 bb2 rr hr2 hd hm2
        go_region_law (first
          | (refine step_append_runI rfl _ _ 27 27 rfl _ _ ?h3 ?h4 s1' ?_; (case h3 => rfl); (case h4 => rfl))
          | (refine step_append_runI rfl _ _ 27 27 rfl _ _ ?h3 ?h4 s2' ?_; (case h3 => rfl); (case h4 => rfl)))
        all_goals
          go_wp2_with fail
          go_meet
          case rel => exact ⟨A2, m2, c2, rfl, RR, BB⟩
  case rest =>
    obtain ⟨A2, n2, c2, rfl, HT, HB7⟩ := hcut
    obtain ⟨W7, rfl⟩ : ∃ W7, W7 = wc := ⟨wc, rfl⟩
    have KX7 := Lib.hid (KX6.out.below HB7.out KX6.out.lt)
    have KM7 := Lib.hid (KM6.out.below HB7.out KM6.out.lt)
    have NX7 := Lib.hid (NX6.out.below HB7.out)
    have CA7 := Lib.hid (CA6.out.below HB7.out)
    have B7 := Lib.hid (bstep B6.out HB7.out)
    have hp : C.Perm (C.drop i ++ C.take i) := by
      have := (List.perm_append_comm (l₁ := C.take i) (l₂ := C.drop i))
      rwa [List.take_append_drop] at this
    have KT := Lib.hid (kind_any (C.drop i ++ C.take i) A2 c2 (by rw [← hp.length_eq]; exact HC1.out) (fun c hc => HFC.out c (hp.mem_iff.2 hc)) X (by have := HCX.out; omega) HFX.out _ W7 NX7.out HT.out.2 a m (HV.out.below B7.out))
    rw [← HT.out.1, Kd.kK_turned HKX.out i] at KT
    obtain ⟨c0, c1, c2', c3, c4, c5⟩ := six_of KX7.out
    clear hp KX6 KM6 NX6 CA6 B6 HB7 HT
    dsimp only at KT
    go_wp2_with fail
    refine KT.out.mono ?_
    rintro e W8 ⟨rfl, hb8⟩
    have KX8 := Lib.hid (KX7.out.below hb8 KX7.out.lt)
    have KM8 := Lib.hid (KM7.out.below hb8 KM7.out.lt)
    have NX8 := Lib.hid (NX7.out.below hb8)
    have CA8 := Lib.hid (CA7.out.below hb8)
    have B8 := Lib.hid (bstep B7.out hb8)
    clear hb8 KT KX7 KM7 NX7 CA7 B7 c0 c1 c2' c3 c4 c5
    have f0 := KM8.out.cell 0
    have f1 := KM8.out.cell 1
    simp only [List.getElem?_toArray, List.getElem?_cons_zero, List.getElem?_cons_succ] at f0 f1
    have hlt8 : w.heap.size + 1 < W8.heap.size := KM8.out.lt
    go_upto_region 11 with fail
    go_cut [15] from 65 to 70 (fun s15 wc => ∃ A3 n3 c3, s15 = .slice A3 n3 c3 ∧ Hid (n3 = (C ++ [(mn, mk)]).length ∧ ColsAt wc A3 (C ++ [(mn, mk)])) ∧ Hid (Below W8.heap.size W8 wc))
    case first =>
      have hd : Below W8.heap.size W8 W8.drew := (Below.refl _ _).drew
      have ha0 : (W8.alloc (.cells #[] 36)).cell? ⟨w.heap.size + 1, 0, none⟩ = some (.string (tx mn)) := (((Below.refl _ W8).alloc (Nat.le_refl _) _).cell (p := ⟨w.heap.size + 1, 0, none⟩) hlt8).trans f0
      have ha1 : (W8.alloc (.cells #[] 36)).cell? ⟨w.heap.size + 1, 1, none⟩ = some (.int .i64 mk) := (((Below.refl _ W8).alloc (Nat.le_refl _) _).cell (p := ⟨w.heap.size + 1, 1, none⟩) hlt8).trans f1
      obtain ⟨v1, w1, s1, bb1, u1, z1, t1, cc1, rr1⟩ := wide_last (w := W8.drew) (c := cc) (mn, mk) (CA8.out.below hd) (by have := HQ.out; omega)
      rw [HQ.out] at s1
      have s1' : Sem.run Tryz.prog (Builtin.append_ #[27, 27] 27 #[.slice (some ⟨W8.heap.size, 0, none⟩) 0 0, .slice Ac q cc]) ((W8.alloc (.cells #[] 36)).drew) = .ok v1 w1 := s1
      have t1' : Sem.run Tryz.prog (Builtin.append_ #[27, 27] 27 #[v1, .slice (some ⟨w1.heap.size, 0, none⟩) 1 1]) (w1.alloc (.cells #[.string (tx mn), .int .i64 mk] 36)) = .ok u1 z1 := t1
      have g10 : w1.cell? ⟨w.heap.size + 1, 0, none⟩ = some (.string (tx mn)) := (bb1.cell (p := ⟨w.heap.size + 1, 0, none⟩) hlt8).trans f0
      have g11 : w1.cell? ⟨w.heap.size + 1, 1, none⟩ = some (.int .i64 mk) := (bb1.cell (p := ⟨w.heap.size + 1, 1, none⟩) hlt8).trans f1
      obtain ⟨A1, c1, hv1, -, -, hr1⟩ := rr1.shape
      obtain ⟨m1, hm1⟩ : ∃ m2, (C ++ [(mn, mk)] : List Col).length = m2 := ⟨_, rfl⟩
      rw [hm1] at hv1
      subst hv1
      have FIN1 : Hid (m1 = (C ++ [(mn, mk)]).length ∧ ColsAt z1 A1 (C ++ [(mn, mk)])) := Lib.hid ⟨hm1.symm, hr1⟩
      have BB1 := Lib.hid (bdrew1 cc1)
      clear s1 t1 bb1 cc1 rr1 hr1 hm1
      obtain ⟨v2, w2, s2, bb2, u2, z2, t2, cc2, rr2⟩ := wide_mid (w := W8.drew) (c := cc) (mn, mk) (CA8.out.below hd) (by have := HQ.out; omega)
      rw [HQ.out] at s2
      have s2' : Sem.run Tryz.prog (Builtin.append_ #[27, 27] 27 #[.slice (some ⟨W8.heap.size, 0, none⟩) 0 0, .slice Ac q cc]) (((W8.alloc (.cells #[] 36)).alloc (.cells #[.string (tx mn), .int .i64 mk] 36)).drew) = .ok v2 w2 := s2
      have t2' : Sem.run Tryz.prog (Builtin.append_ #[27, 27] 27 #[v2, .slice (some ⟨W8.heap.size + 1, 0, none⟩) 1 1]) w2 = .ok u2 z2 := t2
      have g20 : w2.cell? ⟨w.heap.size + 1, 0, none⟩ = some (.string (tx mn)) := (bb2.cell (p := ⟨w.heap.size + 1, 0, none⟩) hlt8).trans f0
      have g21 : w2.cell? ⟨w.heap.size + 1, 1, none⟩ = some (.int .i64 mk) := (bb2.cell (p := ⟨w.heap.size + 1, 1, none⟩) hlt8).trans f1
      obtain ⟨A2, c2, hv2, -, -, hr2⟩ := rr2.shape
      obtain ⟨m2, hm2⟩ : ∃ m2, (C ++ [(mn, mk)] : List Col).length = m2 := ⟨_, rfl⟩
      rw [hm2] at hv2
      subst hv2
      have FIN2 : Hid (m2 = (C ++ [(mn, mk)]).length ∧ ColsAt z2 A2 (C ++ [(mn, mk)])) := Lib.hid ⟨hm2.symm, hr2⟩
      have BB2 := Lib.hid (bdrew1 cc2)
      clear s2 t2 bb2 cc2 rr2 hr2 hm2
      obtain ⟨v3, w3, s3, bb3, u3, z3, t3, cc3, rr3⟩ := wide_first (w := W8.drew) (c := cc) (mn, mk) (CA8.out.below hd) (by have := HQ.out; omega)
      rw [HQ.out] at s3
      have s3' : Sem.run Tryz.prog (Builtin.append_ #[27, 27] 27 #[.slice (some ⟨W8.heap.size + 1, 0, none⟩) 0 0, .slice Ac q cc]) (((W8.alloc (.cells #[.string (tx mn), .int .i64 mk] 36)).alloc (.cells #[] 36)).drew) = .ok v3 w3 := s3
      have t3' : Sem.run Tryz.prog (Builtin.append_ #[27, 27] 27 #[v3, .slice (some ⟨W8.heap.size, 0, none⟩) 1 1]) w3 = .ok u3 z3 := t3
      have g30 : w3.cell? ⟨w.heap.size + 1, 0, none⟩ = some (.string (tx mn)) := (bb3.cell (p := ⟨w.heap.size + 1, 0, none⟩) hlt8).trans f0
      have g31 : w3.cell? ⟨w.heap.size + 1, 1, none⟩ = some (.int .i64 mk) := (bb3.cell (p := ⟨w.heap.size + 1, 1, none⟩) hlt8).trans f1
      obtain ⟨A3, c3, hv3, -, -, hr3⟩ := rr3.shape
      obtain ⟨m3, hm3⟩ : ∃ m2, (C ++ [(mn, mk)] : List Col).length = m2 := ⟨_, rfl⟩
      rw [hm3] at hv3
      subst hv3
      have FIN3 : Hid (m3 = (C ++ [(mn, mk)]).length ∧ ColsAt z3 A3 (C ++ [(mn, mk)])) := Lib.hid ⟨hm3.symm, hr3⟩
      have BB3 := Lib.hid (bdrew1 cc3)
      clear s3 t3 bb3 cc3 rr3 hr3 hm3
      go_region_law (first
        | (refine step_append_runI rfl _ _ 27 27 rfl _ _ ?h3 ?h4 s1' ?_; (case h3 => rfl); (case h4 => rfl))
        | (refine step_append_runI rfl _ _ 27 27 rfl _ _ ?h3 ?h4 t1' ?_; (case h3 => rfl); (case h4 => rfl))
        | (refine step_append_runI rfl _ _ 27 27 rfl _ _ ?h3 ?h4 s2' ?_; (case h3 => rfl); (case h4 => rfl))
        | (refine step_append_runI rfl _ _ 27 27 rfl _ _ ?h3 ?h4 t2' ?_; (case h3 => rfl); (case h4 => rfl))
        | (refine step_append_runI rfl _ _ 27 27 rfl _ _ ?h3 ?h4 s3' ?_; (case h3 => rfl); (case h4 => rfl))
        | (refine step_append_runI rfl _ _ 27 27 rfl _ _ ?h3 ?h4 t3' ?_; (case h3 => rfl); (case h4 => rfl)))
      all_goals
        go_wp2_with fail
        go_meet
        case rel => first | exact ⟨A1, m1, c1, rfl, FIN1, BB1⟩ | exact ⟨A2, m2, c2, rfl, FIN2, BB2⟩ | exact ⟨A3, m3, c3, rfl, FIN3, BB3⟩
    case rest =>
      obtain ⟨A3, n3, c3, rfl, HW, HB9⟩ := hcut
      obtain ⟨W9, rfl⟩ : ∃ W9, W9 = wc := ⟨wc, rfl⟩
      have NX9 := Lib.hid (NX8.out.below HB9.out)
      have B9 := Lib.hid (bstep B8.out HB9.out)
      have x9 := six_of (KX8.out.below HB9.out KX8.out.lt)
      have HSW : Hid (shortC (C ++ [(mn, mk)])) := Lib.hid (fun c hc => by
        rcases List.mem_append.1 hc with hc | hc
        · exact HSC.out c hc
        · rw [List.mem_singleton] at hc
          subst hc
          show mn.length ≤ 100
          omega)
      have HLW : Hid ((C ++ [(mn, mk)]).length ≤ 1000000) := Lib.hid (by rw [List.length_append, List.length_singleton]; have := HQ.out; omega)
      have KW := Lib.hid (kind_any (C ++ [(mn, mk)]) A3 c3 HLW.out (fun c hc => by have := HSW.out c hc; simp only [maxLen]; omega) X (by have := HCX.out; omega) HFX.out _ W9 NX9.out HW.out.2 a m (HV.out.below B9.out))
      have HKW := Lib.hid (Kd.kK_wide HKX.out (mn, mk))
      have RC := Lib.hid (fun W (hW : Below W9.heap.size W9 W) => refColumns_any (C ++ [(mn, mk)]) A3 c3 W (HW.out.2.below hW) HSW.out HLW.out)
      rw [← HW.out.1] at KW RC
      obtain ⟨kz, hkz⟩ : ∃ p, Kd.kK (C ++ [(mn, mk)]) X = p := ⟨_, rfl⟩
      obtain ⟨kz1, kz2⟩ := kz
      rw [hkz] at KW HKW
      obtain ⟨gb, hgb⟩ : ∃ b, Kd.goodB (C ++ [(mn, mk)]) = b := ⟨_, rfl⟩
      rw [hgb] at HKW RC
      clear hkz hgb f0 f1 KX8 KM8 NX8 CA8 B8 HB9
      obtain ⟨c0, c1, c2', c3', c4, c5⟩ := x9
      dsimp only at KW
      go_wp2_with fail
      refine KW.out.mono ?_
      rintro e W10 ⟨rfl, hb10⟩
      have B10 := Lib.hid (bstep B9.out hb10)
      have RC2 := Lib.hid (RC.out W10 hb10)
      clear hb10 KW RC c0 c1 c2' c3' c4 c5
      go_wp2_with fail
      refine RC2.out.mono ?_
      rintro e W11 ⟨rfl, hb11⟩
      have B11 := Lib.hid (bstep B10.out hb11)
      clear hb11 RC2
      cases gb
      · have hk := HKW.out
        rw [if_neg (by decide)] at hk
        cases hk
        go_wp2_with fail
        go_ret
        exact ⟨rfl, B11.out⟩
      · have hk := HKW.out
        rw [if_pos rfl] at hk
        cases hk
        go_wp2_with fail
        go_ret
        exact ⟨rfl, B11.out⟩
end Go.Proofs.YtfkbhlgoglmcpaaGreatDoor
