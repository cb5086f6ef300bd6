import Derived.Test.YteghhmomhlnccaaGreatDoorYP9
import Derived.Test.YteghhmomhlnccaaGreatDoorYP4
import Derived.Test.YteghhmomhlnccaaGreatDoorYP12
import Derived.Test.YteghhmomhlnccaaGreatDoorYP8
set_option linter.unusedVariables false
set_option linter.unusedSimpArgs false
namespace Go.Proofs.YteghhmomhlnccaaGreatDoor
open Go.RowKit Go.Lib
set_option maxRecDepth 100000
open Ex (Tree)
theorem step_call_any {P : Program} {ops : Array Oper} {o : Oper} {a : Act} {w : World} {K : Act → World → Prop} {Q : Exit → Act → World → Prop} {E : Prop}
  (hg : o.guard = none) (f : FuncId) (args : Array Value) (hrun : (execOp a.eval o).run P w = .ok (.enter f args) w) {R : Ending → World → Prop} (hc : Calls P f args w R) (hK : ∀ e w', R e w' → ∃ v, e = .returned v ∧ K (a.put o.dst v) w') :
  if Region.wanted o (yielded ops a.tmps) = true then Oper.wp P o a w K Q else E := by
 have hw : Region.wanted o (yielded ops a.tmps) = true := by simp [Region.wanted, hg]
 rw [if_pos hw]
 unfold Oper.wp
 rw [hrun, Oper.upon_enter]
 refine hc.mono fun e w' hh => ?_
 obtain ⟨v, rfl, hk⟩ := hK e w' hh
 exact hk
set_option maxHeartbeats 2000000 in
theorem withKids_copied (f : Tree → Tree) (op : Int) (t : List UInt8) (vk vn : Int) (vs : List UInt8) (ks : List Tree) (w : World) (A : Option Addr) (c : Nat) (hc : ks.length ≤ c) (hk : TreesAt w A 0 ks) (hn : ks.length ≤ 1000000)
  (HM : ∀ i (hi : i < ks.length) (W : World), Below w.heap.size w W → ∀ v, NodeV W v ks[i] → Calls Tryz.prog 46 #[v] W fun e w' => ∃ u, e = .returned u ∧ NodeNew W.heap.size w' u (f ks[i]) ∧ Below W.heap.size W w') :
  Calls Tryz.prog 47 #[.agg (ncells op t vk vn vs A ks.length c), .func (.func 46) #[] #[]] w fun e w' => ∃ u, e = .returned u ∧ NodeNew w.heap.size w' u (.node op t vk vn vs (ks.map f)) ∧ Below w.heap.size w w' := by
 have HMH := Lib.hid HM
 have b0 : Below w.heap.size w ((w.alloc (.cells (ncells op t vk vn vs A ks.length c) 26)).alloc (.cells (ncells 0 [] 0 0 [] none 0 0) 26)) := ((Below.refl _ _).alloc (Nat.le_refl _) _).alloc (by simp) _
 have k0 := (Whole.new w 26 (ncells op t vk vn vs A ks.length c)).alloc (.cells (ncells 0 [] 0 0 [] none 0 0) 26)
 have k1 := Whole.new (w.alloc (.cells (ncells op t vk vn vs A ks.length c) 26)) 26 (ncells 0 [] 0 0 [] none 0 0)
 have hz0 : ((w.alloc (.cells (ncells op t vk vn vs A ks.length c) 26)).alloc (.cells (ncells 0 [] 0 0 [] none 0 0) 26)).heap.size = w.heap.size + 2 := by simp only [World.size_alloc]
 simp only [World.size_alloc] at k1
 clear HM
 unfold ncells at *
 go_enter Tryz.func47, Tryz.ntmps47
 obtain ⟨W1, hW1⟩ : ∃ W1, (w.alloc (.cells #[.int .i64 op, .string (tx t), .int .i64 vk, .int .i64 vn, .string (tx vs), .slice A ks.length c] 26)).alloc (.cells #[.int .i64 0, .string (tx []), .int .i64 0, .int .i64 0, .string (tx []), .slice none 0 0] 26) = W1 := ⟨_, rfl⟩
 rw [hW1] at b0 k0 k1 hz0
 have CL := Lib.hid (cloneT_any (· < w.heap.size) A c ks W1 (hk.old b0).src (fun k hk => by have := b0.size; omega) hn)
 obtain ⟨c0, c1, c2, c3, c4, c5⟩ := six_of k0
 have HZ := Lib.hid hz0
 clear hz0
 go_wp2_with fail
 refine CL.out.mono ?_
 rintro e W2 ⟨v, rfl, hrow, hb2⟩
 rw [HZ.out] at hrow
 have K0 := k0.below hb2 k0.lt
 have K1 := Lib.hid (k1.below hb2 k1.lt)
 have B2 : Hid (Below w.heap.size w W2) := Lib.hid (b0.trans (hb2.mono b0.size))
 clear c0 c1 c2 c3 c4 c5 k0 k1 CL hW1
 obtain ⟨c0, c1, c2, c3, c4, c5⟩ := six_of K0
 have f5 := K0.frozen 5
 rcases hrow.kids (by omega) with ⟨hks, rfl⟩ | ⟨g, cap, rfl, hcap, hkids⟩
 ·subst hks
  have N0 := K0.set_ 5 (.slice none 0 0)
  have N1 := K1.out.far (p := ⟨w.heap.size, 5, none⟩) (by simp) (.slice none 0 0)
  have B3 := B2.out.setCell (p := ⟨w.heap.size, 5, none⟩) (Nat.le_refl _) (.slice none 0 0)
  obtain ⟨W3, hW3⟩ : ∃ W3, W2.setCell ⟨w.heap.size, 5, none⟩ (.slice none 0 0) = W3 := ⟨_, rfl⟩
  rw [hW3] at N0 N1 B3
  have hN0 : Whole W3 w.heap.size 26 (ncells op t vk vn vs none 0 0) := N0
  obtain ⟨m0, m1, m2, m3, m4, m5⟩ := six_of hN0
  have hN1 : Whole W3 (w.heap.size + 1) 26 (ncells 0 [] 0 0 [] none 0 0) := N1
  obtain ⟨x0, x1, x2, x3, x4, x5⟩ := six_of hN1
  obtain ⟨y0, y1, y2, y3, y4, y5⟩ := frozen6 hN1
  have HB3 := Lib.hid B3
  have HN1 := Lib.hid N1
  clear N0 N1 B3 hN0 hN1
  go_wp2_with fail
  go_loopg [5, 6, 14] 1 (fun j s5 s6 s14 wr => s14 = .int .i64 0 ∧ wr = W3)
  case atStart => exact ⟨rfl, rfl⟩
  case round =>
   obtain ⟨rfl, rfl⟩ := hrel
   have FIN := set6Z_whole HN1.out (.int .i64 op) (.string (tx t)) (.int .i64 vk) (.int .i64 vn) (.string (tx vs)) (.slice none 0 0)
   have FB := HB3.out.trans ((set6Z_touch wr (w.heap.size + 1) (.int .i64 op) (.string (tx t)) (.int .i64 vk) (.int .i64 vn) (.string (tx vs)) (.slice none 0 0)).below1 (B := w.heap.size) (by omega) HB3.out.size)
   have HFIN := Lib.hid FIN
   have HFB := Lib.hid FB
   clear FIN FB
   go_wp2_with fail
   exact bodyPost_ret (results_cell_row rfl _ _ (w.heap.size + 1) _ _ _ _ rfl HFIN.out Tryz.underlying26 rfl sizeExpr) rfl ⟨_, rfl, ⟨none, 0, rfl, Nat.le_refl _, by rw [List.map_nil, TreesIn]; trivial⟩, HFB.out⟩
 ·have N0 := K0.set_ 5 (.slice (some ⟨g, 0, none⟩) ks.length cap)
  have N1 := K1.out.far (p := ⟨w.heap.size, 5, none⟩) (by simp) (.slice (some ⟨g, 0, none⟩) ks.length cap)
  have B3 := B2.out.setCell (p := ⟨w.heap.size, 5, none⟩) (Nat.le_refl _) (.slice (some ⟨g, 0, none⟩) ks.length cap)
  have T3 : Touch [w.heap.size] W2 (W2.setCell ⟨w.heap.size, 5, none⟩ (.slice (some ⟨g, 0, none⟩) ks.length cap)) := Touch.one (by simp)
  have kids3 := hkids.moved T3 (by simp)
  obtain ⟨W3, hW3⟩ : ∃ W3, W2.setCell ⟨w.heap.size, 5, none⟩ (.slice (some ⟨g, 0, none⟩) ks.length cap) = W3 := ⟨_, rfl⟩
  rw [hW3] at N0 N1 B3 kids3
  have hN0 : Whole W3 w.heap.size 26 (ncells op t vk vn vs (some ⟨g, 0, none⟩) ks.length cap) := N0
  have hN1 : Whole W3 (w.heap.size + 1) 26 (ncells 0 [] 0 0 [] none 0 0) := N1
  have gB : w.heap.size + 2 ≤ g := kids3.own
  have HK3 := Lib.hid kids3
  have HB3 := Lib.hid B3
  have HN0 := Lib.hid hN0
  have HN1 := Lib.hid hN1
  obtain ⟨m0, m1, m2, m3, m4, m5⟩ := six_of hN0
  obtain ⟨n, hn'⟩ : ∃ n, ks.length = n := ⟨_, rfl⟩
  rw [hn'] at hn hcap HN0 m5 hW3 ⊢
  have HLEN := Lib.hid hn'
  have hn9 : (n : Int) ≤ 1000000 := by omega
  clear N0 N1 B3 hN0 hN1 T3 kids3 hkids hn' hrow hk
  go_wp2_with fail
  go_loopg [5, 6, 14] (n + 1) (fun j s5 s6 s14 wr => ∃ i : Nat, i ≤ n ∧ n < i + j ∧ s14 = .int .i64 (i : Nat) ∧ Hid (KidsAt w (w.heap.size + 2) g wr ((ks.map f).take i) (ks.drop i)) ∧ Hid (Below w.heap.size w wr) ∧ Hid (Whole wr w.heap.size 26 (ncells op t vk vn vs (some ⟨g, 0, none⟩) n cap)) ∧ Hid (Whole wr (w.heap.size + 1) 26 (ncells 0 [] 0 0 [] none 0 0)))
  case atStart => exact ⟨0, by omega, by omega, rfl, by rw [List.take_zero, List.drop_zero]; exact HK3, HB3, HN0, HN1⟩
  case round =>
   obtain ⟨i, hi, hj, rfl, HK, HB, HX, HR⟩ := hrel
   by_cases hlt : i < n
   ·have hlt' : (i : Int) < (n : Int) := by omega
    have hik : i < ks.length := by rw [HLEN.out]; exact hlt
    have hkd : KidsAt w (w.heap.size + 2) g wr ((ks.map f).take i) (ks[i] :: ks.drop (i + 1)) := by rw [List.getElem_cons_drop hik]; exact HK.out
    have hdl : ((ks.map f).take i).length = i := by rw [List.length_take, List.length_map]; omega
    have HDL := Lib.hid hdl
    obtain ⟨x, hx⟩ : ∃ x, ks[i] = x := ⟨_, rfl⟩
    have HXI := Lib.hid hx
    rw [hx] at hkd
    cases x with
    | node op' t' vk' vn' vs' ks' =>
    obtain ⟨C, c', q0, q1, q2, q3, q4, q5, hnv, -⟩ := hkd.next
    rw [hdl] at q0 q1 q2 q3 q4 q5
    have b4 : Below wr.heap.size wr (wr.alloc (.cells (ncells op' t' vk' vn' vs' C ks'.length c') 26)) := (Below.refl _ _).alloc (Nat.le_refl _) _
    have k4 := Whole.new wr 26 (ncells op' t' vk' vn' vs' C ks'.length c')
    have x4 := HX.out.below b4 HX.out.lt
    obtain ⟨W4, hW4⟩ : ∃ W4, wr.alloc (.cells (ncells op' t' vk' vn' vs' C ks'.length c') 26) = W4 := ⟨_, rfl⟩
    unfold ncells at *
    rw [hW4] at b4 k4 x4
    have d4 : Below W4.heap.size W4 W4.drew := (Below.refl _ _).drew
    have bw4 : Below w.heap.size w W4 := HB.out.trans (b4.mono HB.out.size)
    have call : Calls Tryz.prog 46 #[.agg #[.int .i64 op', .string (tx t'), .int .i64 vk', .int .i64 vn', .string (tx vs'), .slice C ks'.length c']] W4.drew fun e w3 => ∃ o2 t2 k2 n2 s2 A2 l2 c2, e = .returned (.agg #[.int .i64 o2, .string (tx t2), .int .i64 k2, .int .i64 n2, .string (tx s2), .slice A2 l2 c2]) ∧
      w3.cell? ⟨w.heap.size, 5, none⟩ = some (.slice (some ⟨g, 0, none⟩) n cap) ∧
      w3.cell? ⟨g, i * 6, none⟩ = some (.int .i64 op') ∧ w3.cell? ⟨g, i * 6 + 1, none⟩ = some (.string (tx t')) ∧ w3.cell? ⟨g, i * 6 + 2, none⟩ = some (.int .i64 vk') ∧ w3.cell? ⟨g, i * 6 + 3, none⟩ = some (.int .i64 vn') ∧ w3.cell? ⟨g, i * 6 + 4, none⟩ = some (.string (tx vs')) ∧ w3.cell? ⟨g, i * 6 + 5, none⟩ = some (.slice C ks'.length c') ∧
      w3.frozen? ⟨g, i * 6, none⟩ = false ∧ w3.frozen? ⟨g, i * 6 + 1, none⟩ = false ∧ w3.frozen? ⟨g, i * 6 + 2, none⟩ = false ∧ w3.frozen? ⟨g, i * 6 + 3, none⟩ = false ∧ w3.frozen? ⟨g, i * 6 + 4, none⟩ = false ∧ w3.frozen? ⟨g, i * 6 + 5, none⟩ = false ∧
      Hid (∃ W5, W5 = set6W w3 g (i * 6) (.int .i64 o2) (.string (tx t2)) (.int .i64 k2) (.int .i64 n2) (.string (tx s2)) (.slice A2 l2 c2) ∧ KidsAt w (w.heap.size + 2) g W5 ((ks.map f).take (i + 1)) (ks.drop (i + 1)) ∧ Below w.heap.size w W5 ∧ Whole W5 w.heap.size 26 (ncells op t vk vn vs (some ⟨g, 0, none⟩) n cap) ∧ Whole W5 (w.heap.size + 1) 26 (ncells 0 [] 0 0 [] none 0 0)) := by
     refine (HMH.out i hik W4.drew (bw4.trans (d4.mono bw4.size)) _ (by rw [HXI.out]; exact (hnv.below b4).below d4)).mono ?_
     rintro e w3 ⟨u, rfl, hu, hb3⟩
     have b5 : Below wr.heap.size wr w3 := b4.trans ((bdrew1 hb3).mono b4.size)
     have kd3 := hkd.below b5
     obtain ⟨C2, c2', q0', q1', q2', q3', q4', q5', -, qf⟩ := kd3.next
     rw [HDL.out] at q0' q1' q2' q3' q4' q5'
     have e5 : w3.cell? ⟨g, i * 6 + 5, none⟩ = some (.slice C ks'.length c') := (b5.cell (p := ⟨g, i * 6 + 5, none⟩) hkd.lt).trans q5
     obtain ⟨y, hy⟩ : ∃ y, f ks[i] = y := ⟨_, rfl⟩
     rw [hy] at hu
     cases y with
     | node o2 t2 k2 n2 s2 l2 =>
     obtain ⟨A2, c2, rfl, hc2, hk2⟩ := hu
     have hx3 := HX.out.below b5 HX.out.lt
     have hr3 := HR.out.below b5 HR.out.lt
     have hk2' : TreesIn (fun k => w.heap.size + 2 ≤ k ∧ k ≠ g) w3 A2 0 l2 := hk2.moved fun k hk hlt => by
      have h4 : W4.heap.size ≤ k := hk
      have h7 : wr.heap.size + 1 ≤ W4.heap.size := by rw [← hW4]; simp
      have h8 := HR.out.lt
      have h9 := hkd.lt
      exact ⟨rfl, by omega, by omega⟩
     have st := kd3.set_ (op := o2) (t := t2) (vk := k2) (vn := n2) (vs := s2) hc2 hk2'
     have T6 := set6_touch w3 g (i * 6) (.int .i64 o2) (.string (tx t2)) (.int .i64 k2) (.int .i64 n2) (.string (tx s2)) (.slice A2 l2.length c2)
     rw [HDL.out] at st
     refine ⟨o2, t2, k2, n2, s2, A2, l2.length, c2, rfl, (b5.cell (p := ⟨w.heap.size, 5, none⟩) HX.out.lt).trans (six_of HX.out).2.2.2.2.2, q0', q1', q2', q3', q4', e5, qf _, qf _, qf _, qf _, qf _, qf _, Lib.hid ⟨_, rfl, ?_, ?_, ?_, ?_⟩⟩
     ·have e7 : (ks.map f).take (i + 1) = (ks.map f).take i ++ [.node o2 t2 k2 n2 s2 l2] := by
       rw [List.take_succ_eq_append_getElem (by rw [List.length_map]; exact hik), List.getElem_map, hy]
      rw [e7]; exact st
     ·exact (HB.out.trans (b5.mono HB.out.size)).trans (T6.below1 (by omega) (by have := b5.size; have := HB.out.size; omega))
     ·exact (T6.block _ hx3.lt (by simp; omega)).trans hx3
     ·exact (T6.block _ hr3.lt (by simp; omega)).trans hr3
    have CALL := Lib.hid call
    obtain ⟨e0, e1, e2, e3, e4, e5⟩ := six_of k4
    obtain ⟨-, -, -, -, -, x5⟩ := six_of x4
    have hoff : i * 6 < 9223372036854775807 := by omega
    clear call hkd hnv k4 x4 d4 bw4 hx HXI
    go_wp2_with fail
    clear hW4
    go_region_law (first
     | (refine step_call_any rfl 46 #[.agg #[.int .i64 op', .string (tx t'), .int .i64 vk', .int .i64 vn', .string (tx vs'), .slice C ks'.length c']] ?h1 CALL.out ?_; (case h1 => kernel_rfl); rintro e w3 ⟨o2, t2, k2, n2, s2, A2, l2, c2, rfl, r5, s0, s1, s2', s3, s4, s5, z0, z1, z2, z3, z4, z5, FIN⟩; refine ⟨_, rfl, ?_⟩))
    all_goals
     obtain ⟨W5, hW5, k1, k2, k3, k4⟩ := FIN.out
     subst hW5
     have J1 := Lib.hid k1
     have J2 := Lib.hid k2
     have J3 := Lib.hid k3
     have J4 := Lib.hid k4
     clear k1 k2 k3 k4 s0 s1 s2' s3 s4 s5 z0 z1 z2 z3 z4 z5 r5 FIN e0 e1 e2 e3 e4 e5 x5 q0 q1 q2 q3 q4 q5
     go_wp2_with fail
     go_roundg (n - i)
     case measure => omega
     case rel => exact ⟨i + 1, by omega, by omega, by go_num, J1, J2, J3, J4⟩
   ·have hlt' : ¬ (i : Int) < (n : Int) := by omega
    have hie : i = n := by omega
    obtain ⟨m0, m1, m2, m3, m4, m5⟩ := six_of HX.out
    obtain ⟨x0, x1, x2, x3, x4, x5⟩ := six_of HR.out
    obtain ⟨y0, y1, y2, y3, y4, y5⟩ := frozen6 HR.out
    have hT := set6Z_touch wr (w.heap.size + 1) (.int .i64 op) (.string (tx t)) (.int .i64 vk) (.int .i64 vn) (.string (tx vs)) (.slice (some ⟨g, 0, none⟩) n cap)
    have FIN := Lib.hid (set6Z_whole HR.out (.int .i64 op) (.string (tx t)) (.int .i64 vk) (.int .i64 vn) (.string (tx vs)) (.slice (some ⟨g, 0, none⟩) n cap))
    have FB := Lib.hid (HB.out.trans (hT.below1 (B := w.heap.size) (by omega) HB.out.size))
    have FK : Hid (TreesIn (w.heap.size ≤ ·) (set6Z wr (w.heap.size + 1) (.int .i64 op) (.string (tx t)) (.int .i64 vk) (.int .i64 vn) (.string (tx vs)) (.slice (some ⟨g, 0, none⟩) n cap)) (some ⟨g, 0, none⟩) 0 (ks.map f)) := Lib.hid (by
     have h1 := HK.out
     rw [hie, List.take_of_length_le (by rw [List.length_map]; have := HLEN.out; omega), List.drop_of_length_le (by have := HLEN.out; omega)] at h1
     exact h1.all.moved fun k hk hlt => ⟨hT.block k hlt (by simp; omega), by omega⟩)
    clear hT
    go_wp2_with fail
    exact bodyPost_ret (results_cell_row rfl _ _ (w.heap.size + 1) _ _ _ _ rfl FIN.out Tryz.underlying26 rfl sizeExpr) rfl ⟨_, rfl, ⟨some ⟨g, 0, none⟩, cap, by rw [List.length_map, HLEN.out], by rw [List.length_map, HLEN.out]; omega, FK.out⟩, FB.out⟩
set_option maxHeartbeats 2000000 in
theorem withKids_put (f : Tree → Tree) (op : Int) (t : List UInt8) (vk vn : Int) (vs : List UInt8) (ks : List Tree) (pn py : Nat) (w : World) (A : Option Addr) (c : Nat) (hc : ks.length ≤ c) (hk : TreesAt w A 0 ks) (hn : ks.length ≤ 1000000)
  (HM : ∀ i (hi : i < ks.length) (W : World), Below w.heap.size w W → ∀ v, NodeV W v ks[i] → Calls Tryz.prog 48 #[v, .pointer (some ⟨pn, 0, none⟩), .pointer (some ⟨py, 0, none⟩)] W fun e w' => ∃ u, e = .returned u ∧ NodeNew W.heap.size w' u (f ks[i]) ∧ Below W.heap.size W w') :
  Calls Tryz.prog 47 #[.agg (ncells op t vk vn vs A ks.length c), .func (.func 48) #[] #[.pointer (some ⟨pn, 0, none⟩), .pointer (some ⟨py, 0, none⟩)]] w fun e w' => ∃ u, e = .returned u ∧ NodeNew w.heap.size w' u (.node op t vk vn vs (ks.map f)) ∧ Below w.heap.size w w' := by
 have HMH := Lib.hid HM
 have b0 : Below w.heap.size w ((w.alloc (.cells (ncells op t vk vn vs A ks.length c) 26)).alloc (.cells (ncells 0 [] 0 0 [] none 0 0) 26)) := ((Below.refl _ _).alloc (Nat.le_refl _) _).alloc (by simp) _
 have k0 := (Whole.new w 26 (ncells op t vk vn vs A ks.length c)).alloc (.cells (ncells 0 [] 0 0 [] none 0 0) 26)
 have k1 := Whole.new (w.alloc (.cells (ncells op t vk vn vs A ks.length c) 26)) 26 (ncells 0 [] 0 0 [] none 0 0)
 have hz0 : ((w.alloc (.cells (ncells op t vk vn vs A ks.length c) 26)).alloc (.cells (ncells 0 [] 0 0 [] none 0 0) 26)).heap.size = w.heap.size + 2 := by simp only [World.size_alloc]
 simp only [World.size_alloc] at k1
 clear HM
 unfold ncells at *
 go_enter Tryz.func47, Tryz.ntmps47
 obtain ⟨W1, hW1⟩ : ∃ W1, (w.alloc (.cells #[.int .i64 op, .string (tx t), .int .i64 vk, .int .i64 vn, .string (tx vs), .slice A ks.length c] 26)).alloc (.cells #[.int .i64 0, .string (tx []), .int .i64 0, .int .i64 0, .string (tx []), .slice none 0 0] 26) = W1 := ⟨_, rfl⟩
 rw [hW1] at b0 k0 k1 hz0
 have CL := Lib.hid (cloneT_any (· < w.heap.size) A c ks W1 (hk.old b0).src (fun k hk => by have := b0.size; omega) hn)
 obtain ⟨c0, c1, c2, c3, c4, c5⟩ := six_of k0
 have HZ := Lib.hid hz0
 clear hz0
 go_wp2_with fail
 refine CL.out.mono ?_
 rintro e W2 ⟨v, rfl, hrow, hb2⟩
 rw [HZ.out] at hrow
 have K0 := k0.below hb2 k0.lt
 have K1 := Lib.hid (k1.below hb2 k1.lt)
 have B2 : Hid (Below w.heap.size w W2) := Lib.hid (b0.trans (hb2.mono b0.size))
 clear c0 c1 c2 c3 c4 c5 k0 k1 CL hW1
 obtain ⟨c0, c1, c2, c3, c4, c5⟩ := six_of K0
 have f5 := K0.frozen 5
 rcases hrow.kids (by omega) with ⟨hks, rfl⟩ | ⟨g, cap, rfl, hcap, hkids⟩
 ·subst hks
  have N0 := K0.set_ 5 (.slice none 0 0)
  have N1 := K1.out.far (p := ⟨w.heap.size, 5, none⟩) (by simp) (.slice none 0 0)
  have B3 := B2.out.setCell (p := ⟨w.heap.size, 5, none⟩) (Nat.le_refl _) (.slice none 0 0)
  obtain ⟨W3, hW3⟩ : ∃ W3, W2.setCell ⟨w.heap.size, 5, none⟩ (.slice none 0 0) = W3 := ⟨_, rfl⟩
  rw [hW3] at N0 N1 B3
  have hN0 : Whole W3 w.heap.size 26 (ncells op t vk vn vs none 0 0) := N0
  obtain ⟨m0, m1, m2, m3, m4, m5⟩ := six_of hN0
  have hN1 : Whole W3 (w.heap.size + 1) 26 (ncells 0 [] 0 0 [] none 0 0) := N1
  obtain ⟨x0, x1, x2, x3, x4, x5⟩ := six_of hN1
  obtain ⟨y0, y1, y2, y3, y4, y5⟩ := frozen6 hN1
  have HB3 := Lib.hid B3
  have HN1 := Lib.hid N1
  clear N0 N1 B3 hN0 hN1
  go_wp2_with fail
  go_loopg [5, 6, 14] 1 (fun j s5 s6 s14 wr => s14 = .int .i64 0 ∧ wr = W3)
  case atStart => exact ⟨rfl, rfl⟩
  case round =>
   obtain ⟨rfl, rfl⟩ := hrel
   have FIN := set6Z_whole HN1.out (.int .i64 op) (.string (tx t)) (.int .i64 vk) (.int .i64 vn) (.string (tx vs)) (.slice none 0 0)
   have FB := HB3.out.trans ((set6Z_touch wr (w.heap.size + 1) (.int .i64 op) (.string (tx t)) (.int .i64 vk) (.int .i64 vn) (.string (tx vs)) (.slice none 0 0)).below1 (B := w.heap.size) (by omega) HB3.out.size)
   have HFIN := Lib.hid FIN
   have HFB := Lib.hid FB
   clear FIN FB
   go_wp2_with fail
   exact bodyPost_ret (results_cell_row rfl _ _ (w.heap.size + 1) _ _ _ _ rfl HFIN.out Tryz.underlying26 rfl sizeExpr) rfl ⟨_, rfl, ⟨none, 0, rfl, Nat.le_refl _, by rw [List.map_nil, TreesIn]; trivial⟩, HFB.out⟩
 ·have N0 := K0.set_ 5 (.slice (some ⟨g, 0, none⟩) ks.length cap)
  have N1 := K1.out.far (p := ⟨w.heap.size, 5, none⟩) (by simp) (.slice (some ⟨g, 0, none⟩) ks.length cap)
  have B3 := B2.out.setCell (p := ⟨w.heap.size, 5, none⟩) (Nat.le_refl _) (.slice (some ⟨g, 0, none⟩) ks.length cap)
  have T3 : Touch [w.heap.size] W2 (W2.setCell ⟨w.heap.size, 5, none⟩ (.slice (some ⟨g, 0, none⟩) ks.length cap)) := Touch.one (by simp)
  have kids3 := hkids.moved T3 (by simp)
  obtain ⟨W3, hW3⟩ : ∃ W3, W2.setCell ⟨w.heap.size, 5, none⟩ (.slice (some ⟨g, 0, none⟩) ks.length cap) = W3 := ⟨_, rfl⟩
  rw [hW3] at N0 N1 B3 kids3
  have hN0 : Whole W3 w.heap.size 26 (ncells op t vk vn vs (some ⟨g, 0, none⟩) ks.length cap) := N0
  have hN1 : Whole W3 (w.heap.size + 1) 26 (ncells 0 [] 0 0 [] none 0 0) := N1
  have gB : w.heap.size + 2 ≤ g := kids3.own
  have HK3 := Lib.hid kids3
  have HB3 := Lib.hid B3
  have HN0 := Lib.hid hN0
  have HN1 := Lib.hid hN1
  obtain ⟨m0, m1, m2, m3, m4, m5⟩ := six_of hN0
  obtain ⟨n, hn'⟩ : ∃ n, ks.length = n := ⟨_, rfl⟩
  rw [hn'] at hn hcap HN0 m5 hW3 ⊢
  have HLEN := Lib.hid hn'
  have hn9 : (n : Int) ≤ 1000000 := by omega
  clear N0 N1 B3 hN0 hN1 T3 kids3 hkids hn' hrow hk
  go_wp2_with fail
  go_loopg [5, 6, 14] (n + 1) (fun j s5 s6 s14 wr => ∃ i : Nat, i ≤ n ∧ n < i + j ∧ s14 = .int .i64 (i : Nat) ∧ Hid (KidsAt w (w.heap.size + 2) g wr ((ks.map f).take i) (ks.drop i)) ∧ Hid (Below w.heap.size w wr) ∧ Hid (Whole wr w.heap.size 26 (ncells op t vk vn vs (some ⟨g, 0, none⟩) n cap)) ∧ Hid (Whole wr (w.heap.size + 1) 26 (ncells 0 [] 0 0 [] none 0 0)))
  case atStart => exact ⟨0, by omega, by omega, rfl, by rw [List.take_zero, List.drop_zero]; exact HK3, HB3, HN0, HN1⟩
  case round =>
   obtain ⟨i, hi, hj, rfl, HK, HB, HX, HR⟩ := hrel
   by_cases hlt : i < n
   ·have hlt' : (i : Int) < (n : Int) := by omega
    have hik : i < ks.length := by rw [HLEN.out]; exact hlt
    have hkd : KidsAt w (w.heap.size + 2) g wr ((ks.map f).take i) (ks[i] :: ks.drop (i + 1)) := by rw [List.getElem_cons_drop hik]; exact HK.out
    have hdl : ((ks.map f).take i).length = i := by rw [List.length_take, List.length_map]; omega
    have HDL := Lib.hid hdl
    obtain ⟨x, hx⟩ : ∃ x, ks[i] = x := ⟨_, rfl⟩
    have HXI := Lib.hid hx
    rw [hx] at hkd
    cases x with
    | node op' t' vk' vn' vs' ks' =>
    obtain ⟨C, c', q0, q1, q2, q3, q4, q5, hnv, -⟩ := hkd.next
    rw [hdl] at q0 q1 q2 q3 q4 q5
    have b4 : Below wr.heap.size wr (wr.alloc (.cells (ncells op' t' vk' vn' vs' C ks'.length c') 26)) := (Below.refl _ _).alloc (Nat.le_refl _) _
    have k4 := Whole.new wr 26 (ncells op' t' vk' vn' vs' C ks'.length c')
    have x4 := HX.out.below b4 HX.out.lt
    obtain ⟨W4, hW4⟩ : ∃ W4, wr.alloc (.cells (ncells op' t' vk' vn' vs' C ks'.length c') 26) = W4 := ⟨_, rfl⟩
    unfold ncells at *
    rw [hW4] at b4 k4 x4
    have d4 : Below W4.heap.size W4 W4.drew := (Below.refl _ _).drew
    have bw4 : Below w.heap.size w W4 := HB.out.trans (b4.mono HB.out.size)
    have call : Calls Tryz.prog 48 #[.agg #[.int .i64 op', .string (tx t'), .int .i64 vk', .int .i64 vn', .string (tx vs'), .slice C ks'.length c'], .pointer (some ⟨pn, 0, none⟩), .pointer (some ⟨py, 0, none⟩)] W4.drew fun e w3 => ∃ o2 t2 k2 n2 s2 A2 l2 c2, e = .returned (.agg #[.int .i64 o2, .string (tx t2), .int .i64 k2, .int .i64 n2, .string (tx s2), .slice A2 l2 c2]) ∧
      w3.cell? ⟨w.heap.size, 5, none⟩ = some (.slice (some ⟨g, 0, none⟩) n cap) ∧
      w3.cell? ⟨g, i * 6, none⟩ = some (.int .i64 op') ∧ w3.cell? ⟨g, i * 6 + 1, none⟩ = some (.string (tx t')) ∧ w3.cell? ⟨g, i * 6 + 2, none⟩ = some (.int .i64 vk') ∧ w3.cell? ⟨g, i * 6 + 3, none⟩ = some (.int .i64 vn') ∧ w3.cell? ⟨g, i * 6 + 4, none⟩ = some (.string (tx vs')) ∧ w3.cell? ⟨g, i * 6 + 5, none⟩ = some (.slice C ks'.length c') ∧
      w3.frozen? ⟨g, i * 6, none⟩ = false ∧ w3.frozen? ⟨g, i * 6 + 1, none⟩ = false ∧ w3.frozen? ⟨g, i * 6 + 2, none⟩ = false ∧ w3.frozen? ⟨g, i * 6 + 3, none⟩ = false ∧ w3.frozen? ⟨g, i * 6 + 4, none⟩ = false ∧ w3.frozen? ⟨g, i * 6 + 5, none⟩ = false ∧
      Hid (∃ W5, W5 = set6W w3 g (i * 6) (.int .i64 o2) (.string (tx t2)) (.int .i64 k2) (.int .i64 n2) (.string (tx s2)) (.slice A2 l2 c2) ∧ KidsAt w (w.heap.size + 2) g W5 ((ks.map f).take (i + 1)) (ks.drop (i + 1)) ∧ Below w.heap.size w W5 ∧ Whole W5 w.heap.size 26 (ncells op t vk vn vs (some ⟨g, 0, none⟩) n cap) ∧ Whole W5 (w.heap.size + 1) 26 (ncells 0 [] 0 0 [] none 0 0)) := by
     refine (HMH.out i hik W4.drew (bw4.trans (d4.mono bw4.size)) _ (by rw [HXI.out]; exact (hnv.below b4).below d4)).mono ?_
     rintro e w3 ⟨u, rfl, hu, hb3⟩
     have b5 : Below wr.heap.size wr w3 := b4.trans ((bdrew1 hb3).mono b4.size)
     have kd3 := hkd.below b5
     obtain ⟨C2, c2', q0', q1', q2', q3', q4', q5', -, qf⟩ := kd3.next
     rw [HDL.out] at q0' q1' q2' q3' q4' q5'
     have e5 : w3.cell? ⟨g, i * 6 + 5, none⟩ = some (.slice C ks'.length c') := (b5.cell (p := ⟨g, i * 6 + 5, none⟩) hkd.lt).trans q5
     obtain ⟨y, hy⟩ : ∃ y, f ks[i] = y := ⟨_, rfl⟩
     rw [hy] at hu
     cases y with
     | node o2 t2 k2 n2 s2 l2 =>
     obtain ⟨A2, c2, rfl, hc2, hk2⟩ := hu
     have hx3 := HX.out.below b5 HX.out.lt
     have hr3 := HR.out.below b5 HR.out.lt
     have hk2' : TreesIn (fun k => w.heap.size + 2 ≤ k ∧ k ≠ g) w3 A2 0 l2 := hk2.moved fun k hk hlt => by
      have h4 : W4.heap.size ≤ k := hk
      have h7 : wr.heap.size + 1 ≤ W4.heap.size := by rw [← hW4]; simp
      have h8 := HR.out.lt
      have h9 := hkd.lt
      exact ⟨rfl, by omega, by omega⟩
     have st := kd3.set_ (op := o2) (t := t2) (vk := k2) (vn := n2) (vs := s2) hc2 hk2'
     have T6 := set6_touch w3 g (i * 6) (.int .i64 o2) (.string (tx t2)) (.int .i64 k2) (.int .i64 n2) (.string (tx s2)) (.slice A2 l2.length c2)
     rw [HDL.out] at st
     refine ⟨o2, t2, k2, n2, s2, A2, l2.length, c2, rfl, (b5.cell (p := ⟨w.heap.size, 5, none⟩) HX.out.lt).trans (six_of HX.out).2.2.2.2.2, q0', q1', q2', q3', q4', e5, qf _, qf _, qf _, qf _, qf _, qf _, Lib.hid ⟨_, rfl, ?_, ?_, ?_, ?_⟩⟩
     ·have e7 : (ks.map f).take (i + 1) = (ks.map f).take i ++ [.node o2 t2 k2 n2 s2 l2] := by
       rw [List.take_succ_eq_append_getElem (by rw [List.length_map]; exact hik), List.getElem_map, hy]
      rw [e7]; exact st
     ·exact (HB.out.trans (b5.mono HB.out.size)).trans (T6.below1 (by omega) (by have := b5.size; have := HB.out.size; omega))
     ·exact (T6.block _ hx3.lt (by simp; omega)).trans hx3
     ·exact (T6.block _ hr3.lt (by simp; omega)).trans hr3
    have CALL := Lib.hid call
    obtain ⟨e0, e1, e2, e3, e4, e5⟩ := six_of k4
    obtain ⟨-, -, -, -, -, x5⟩ := six_of x4
    have hoff : i * 6 < 9223372036854775807 := by omega
    clear call hkd hnv k4 x4 d4 bw4 hx HXI
    go_wp2_with fail
    clear hW4
    go_region_law (first
     | (refine step_call_any rfl 48 #[.agg #[.int .i64 op', .string (tx t'), .int .i64 vk', .int .i64 vn', .string (tx vs'), .slice C ks'.length c'], .pointer (some ⟨pn, 0, none⟩), .pointer (some ⟨py, 0, none⟩)] ?h1 CALL.out ?_; (case h1 => kernel_rfl); rintro e w3 ⟨o2, t2, k2, n2, s2, A2, l2, c2, rfl, r5, s0, s1, s2', s3, s4, s5, z0, z1, z2, z3, z4, z5, FIN⟩; refine ⟨_, rfl, ?_⟩))
    all_goals
     obtain ⟨W5, hW5, k1, k2, k3, k4⟩ := FIN.out
     subst hW5
     have J1 := Lib.hid k1
     have J2 := Lib.hid k2
     have J3 := Lib.hid k3
     have J4 := Lib.hid k4
     clear k1 k2 k3 k4 s0 s1 s2' s3 s4 s5 z0 z1 z2 z3 z4 z5 r5 FIN e0 e1 e2 e3 e4 e5 x5 q0 q1 q2 q3 q4 q5
     go_wp2_with fail
     go_roundg (n - i)
     case measure => omega
     case rel => exact ⟨i + 1, by omega, by omega, by go_num, J1, J2, J3, J4⟩
   ·have hlt' : ¬ (i : Int) < (n : Int) := by omega
    have hie : i = n := by omega
    obtain ⟨m0, m1, m2, m3, m4, m5⟩ := six_of HX.out
    obtain ⟨x0, x1, x2, x3, x4, x5⟩ := six_of HR.out
    obtain ⟨y0, y1, y2, y3, y4, y5⟩ := frozen6 HR.out
    have hT := set6Z_touch wr (w.heap.size + 1) (.int .i64 op) (.string (tx t)) (.int .i64 vk) (.int .i64 vn) (.string (tx vs)) (.slice (some ⟨g, 0, none⟩) n cap)
    have FIN := Lib.hid (set6Z_whole HR.out (.int .i64 op) (.string (tx t)) (.int .i64 vk) (.int .i64 vn) (.string (tx vs)) (.slice (some ⟨g, 0, none⟩) n cap))
    have FB := Lib.hid (HB.out.trans (hT.below1 (B := w.heap.size) (by omega) HB.out.size))
    have FK : Hid (TreesIn (w.heap.size ≤ ·) (set6Z wr (w.heap.size + 1) (.int .i64 op) (.string (tx t)) (.int .i64 vk) (.int .i64 vn) (.string (tx vs)) (.slice (some ⟨g, 0, none⟩) n cap)) (some ⟨g, 0, none⟩) 0 (ks.map f)) := Lib.hid (by
     have h1 := HK.out
     rw [hie, List.take_of_length_le (by rw [List.length_map]; have := HLEN.out; omega), List.drop_of_length_le (by have := HLEN.out; omega)] at h1
     exact h1.all.moved fun k hk hlt => ⟨hT.block k hlt (by simp; omega), by omega⟩)
    clear hT
    go_wp2_with fail
    exact bodyPost_ret (results_cell_row rfl _ _ (w.heap.size + 1) _ _ _ _ rfl FIN.out Tryz.underlying26 rfl sizeExpr) rfl ⟨_, rfl, ⟨some ⟨g, 0, none⟩, cap, by rw [List.length_map, HLEN.out], by rw [List.length_map, HLEN.out]; omega, FK.out⟩, FB.out⟩
end Go.Proofs.YteghhmomhlnccaaGreatDoor
namespace Go.Proofs.YteghhmomhlnccaaGreatDoor
open Go.RowKit Go.Lib
set_option maxRecDepth 100000
open Ex (Tree)
set_option maxHeartbeats 1000000 in
theorem copied_all (N : Nat) : ∀ (T : Tree), Ex.count T ≤ N → Ex.count T ≤ 1000000 → ∀ (v : Value) (w : World), NodeV w v T →
  Calls Tryz.prog 46 #[v] w fun e w' => ∃ u, e = .returned u ∧ NodeNew w.heap.size w' u T ∧ Below w.heap.size w w' := by
 induction N with
 | zero => intro T h; have := Ex.count_pos T; omega
 | succ N ih =>
  intro T hN hM v w h
  cases T with
  | node op t vk vn vs ks =>
  obtain ⟨A, c, rfl, hcc, hk⟩ := h
  have hks0 : Ex.counts ks + 1 = Ex.count (.node op t vk vn vs ks) := by rw [Ex.count]
  have hlen := Ex.length_counts ks
  have b0 : Below w.heap.size w ((w.alloc (.cells (ncells op t vk vn vs A ks.length c) 26)).alloc (.cells (ncells 0 [] 0 0 [] none 0 0) 26)) := ((Below.refl _ _).alloc (Nat.le_refl _) _).alloc (by simp) _
  have k0 := (Whole.new w 26 (ncells op t vk vn vs A ks.length c)).alloc (.cells (ncells 0 [] 0 0 [] none 0 0) 26)
  have k1 := Whole.new (w.alloc (.cells (ncells op t vk vn vs A ks.length c) 26)) 26 (ncells 0 [] 0 0 [] none 0 0)
  have hz0 : ((w.alloc (.cells (ncells op t vk vn vs A ks.length c) 26)).alloc (.cells (ncells 0 [] 0 0 [] none 0 0) 26)).heap.size = w.heap.size + 2 := by simp only [World.size_alloc]
  simp only [World.size_alloc] at k1
  have CC := withKids_copied id op t vk vn vs ks _ A c hcc (hk.below b0) (by omega) (fun i hi W hW v hv => by
   have := count_lt (op := op) (t := t) (vk := vk) (vn := vn) (vs := vs) (List.getElem_mem hi)
   exact ih ks[i] (by omega) (by omega) v W hv)
  rw [List.map_id] at CC
  unfold ncells at *
  obtain ⟨W1, hW1⟩ : ∃ W1, (w.alloc (.cells #[.int .i64 op, .string (tx t), .int .i64 vk, .int .i64 vn, .string (tx vs), .slice A ks.length c] 26)).alloc (.cells #[.int .i64 0, .string (tx []), .int .i64 0, .int .i64 0, .string (tx []), .slice none 0 0] 26) = W1 := ⟨_, rfl⟩
  rw [hW1] at b0 k0 k1 hz0 CC
  have HC := Lib.hid CC
  have HZ := Lib.hid hz0
  have K1 := Lib.hid k1
  have B0 := Lib.hid b0
  obtain ⟨c0, c1, c2, c3, c4, c5⟩ := six_of k0
  clear CC hz0 k1 b0 k0 ih hks0 hlen hN hM hk
  go_enter Tryz.func46, Tryz.ntmps46
  go_wp2_with fail
  refine HC.out.mono ?_
  rintro e W2 ⟨u, rfl, hu, hb⟩
  have R1 := K1.out.below hb K1.out.lt
  obtain ⟨A2, c2', rfl, hc2, hk2⟩ := hu
  obtain ⟨x0, x1, x2, x3, x4, x5⟩ := six_of R1
  obtain ⟨y0, y1, y2, y3, y4, y5⟩ := frozen6 R1
  have hT := set6Z_touch W2 (w.heap.size + 1) (.int .i64 op) (.string (tx t)) (.int .i64 vk) (.int .i64 vn) (.string (tx vs)) (.slice A2 ks.length c2')
  have FIN := Lib.hid (set6Z_whole R1 (.int .i64 op) (.string (tx t)) (.int .i64 vk) (.int .i64 vn) (.string (tx vs)) (.slice A2 ks.length c2'))
  have BW := B0.out.trans (hb.mono B0.out.size)
  have FB := Lib.hid (BW.trans (hT.below1 (B := w.heap.size) (by omega) BW.size))
  have FK : Hid (TreesIn (w.heap.size ≤ ·) (set6Z W2 (w.heap.size + 1) (.int .i64 op) (.string (tx t)) (.int .i64 vk) (.int .i64 vn) (.string (tx vs)) (.slice A2 ks.length c2')) A2 0 ks) := Lib.hid (hk2.moved fun k hk hlt => ⟨hT.block k hlt (by have := HZ.out; simp; omega), by have := HZ.out; omega⟩)
  have HCC := Lib.hid hc2
  clear hT BW hb hk2 R1 c0 c1 c2 c3 c4 c5 HC
  go_wp2_with fail
  exact bodyPost_ret (results_cell_row rfl _ _ (w.heap.size + 1) _ _ _ _ rfl FIN.out Tryz.underlying26 rfl sizeExpr) rfl ⟨_, rfl, ⟨A2, c2', rfl, HCC.out, FK.out⟩, FB.out⟩
end Go.Proofs.YteghhmomhlnccaaGreatDoor
namespace Go.Proofs.YteghhmomhlnccaaGreatDoor
open Go.RowKit Go.Lib
set_option maxRecDepth 100000
open Ex (Tree)
set_option maxHeartbeats 1000000 in
theorem put1_any (n : List UInt8) (Y T R : Tree) (op : Int) (t : List UInt8) (vk vn : Int) (vs : List UInt8) (ks : List Tree) (A : Option Addr) (c : Nat) (pn py : Nat) (v : Value) (w : World) (h : NodeV w v T)
  (hpn : Whole w pn 9 #[.string (tx n)]) (hpy : Whole w py 26 (ncells op t vk vn vs A ks.length c))
  (HC : ∀ W, Below w.heap.size w W → Calls Tryz.prog 19 #[v, .string (tx n), .agg (ncells op t vk vn vs A ks.length c)] W fun e w' => ∃ u, e = .returned u ∧ NodeNew W.heap.size w' u R ∧ Below W.heap.size W w') :
  Calls Tryz.prog 48 #[v, .pointer (some ⟨pn, 0, none⟩), .pointer (some ⟨py, 0, none⟩)] w fun e w' => ∃ u, e = .returned u ∧ NodeNew w.heap.size w' u R ∧ Below w.heap.size w w' := by
 cases T with
 | node op' t' vk' vn' vs' ks' =>
 obtain ⟨A', c', rfl, hcc, hk⟩ := h
 have b0 : Below w.heap.size w ((w.alloc (.cells (ncells op' t' vk' vn' vs' A' ks'.length c') 26)).alloc (.cells (ncells 0 [] 0 0 [] none 0 0) 26)) := ((Below.refl _ _).alloc (Nat.le_refl _) _).alloc (by simp) _
 have k0 := (Whole.new w 26 (ncells op' t' vk' vn' vs' A' ks'.length c')).alloc (.cells (ncells 0 [] 0 0 [] none 0 0) 26)
 have k1 := Whole.new (w.alloc (.cells (ncells op' t' vk' vn' vs' A' ks'.length c') 26)) 26 (ncells 0 [] 0 0 [] none 0 0)
 have hz0 : ((w.alloc (.cells (ncells op' t' vk' vn' vs' A' ks'.length c') 26)).alloc (.cells (ncells 0 [] 0 0 [] none 0 0) 26)).heap.size = w.heap.size + 2 := by simp only [World.size_alloc]
 simp only [World.size_alloc] at k1
 have CC := HC _ b0
 have pn0 := hpn.below b0 hpn.lt
 have py0 := hpy.below b0 hpy.lt
 unfold ncells at *
 obtain ⟨W1, hW1⟩ : ∃ W1, (w.alloc (.cells #[.int .i64 op', .string (tx t'), .int .i64 vk', .int .i64 vn', .string (tx vs'), .slice A' ks'.length c'] 26)).alloc (.cells #[.int .i64 0, .string (tx []), .int .i64 0, .int .i64 0, .string (tx []), .slice none 0 0] 26) = W1 := ⟨_, rfl⟩
 rw [hW1] at b0 k0 k1 hz0 CC pn0 py0
 have HC := Lib.hid CC
 have HZ := Lib.hid hz0
 have K1 := Lib.hid k1
 have B0 := Lib.hid b0
 obtain ⟨c0, c1, c2, c3, c4, c5⟩ := six_of k0
 obtain ⟨d0, d1, d2, d3, d4, d5⟩ := six_of py0
 have e0 : W1.cell? ⟨pn, 0, none⟩ = some (.string (tx n)) := pn0.cell 0
 clear CC hz0 k1 b0 k0 hk pn0 py0
 go_enter Tryz.func48, Tryz.ntmps48
 go_wp2_with fail
 refine HC.out.mono ?_
 rintro e W2 ⟨u, rfl, hu, hb⟩
 have R1 := K1.out.below hb K1.out.lt
 cases R with
 | node op2 t2 vk2 vn2 vs2 ks2 =>
 obtain ⟨A2, c2', rfl, hc2, hk2⟩ := hu
 obtain ⟨x0, x1, x2, x3, x4, x5⟩ := six_of R1
 obtain ⟨y0, y1, y2, y3, y4, y5⟩ := frozen6 R1
 have hT := set6Z_touch W2 (w.heap.size + 1) (.int .i64 op2) (.string (tx t2)) (.int .i64 vk2) (.int .i64 vn2) (.string (tx vs2)) (.slice A2 ks2.length c2')
 have FIN := Lib.hid (set6Z_whole R1 (.int .i64 op2) (.string (tx t2)) (.int .i64 vk2) (.int .i64 vn2) (.string (tx vs2)) (.slice A2 ks2.length c2'))
 have BW := B0.out.trans (hb.mono B0.out.size)
 have FB := Lib.hid (BW.trans (hT.below1 (B := w.heap.size) (by omega) BW.size))
 have FK : Hid (TreesIn (w.heap.size ≤ ·) (set6Z W2 (w.heap.size + 1) (.int .i64 op2) (.string (tx t2)) (.int .i64 vk2) (.int .i64 vn2) (.string (tx vs2)) (.slice A2 ks2.length c2')) A2 0 ks2) := Lib.hid (hk2.moved fun k hk hlt => ⟨hT.block k hlt (by have := HZ.out; simp; omega), by have := HZ.out; omega⟩)
 have HCC := Lib.hid hc2
 clear hT BW hb hk2 R1 c0 c1 c2 c3 c4 c5 HC d0 d1 d2 d3 d4 d5 e0
 go_wp2_with fail
 exact bodyPost_ret (results_cell_row rfl _ _ (w.heap.size + 1) _ _ _ _ rfl FIN.out Tryz.underlying26 rfl sizeExpr) rfl ⟨_, rfl, ⟨A2, c2', rfl, HCC.out, FK.out⟩, FB.out⟩
set_option maxHeartbeats 2000000 in
theorem put_all (n : List UInt8) (o2 : Int) (t2 : List UInt8) (k2 n2 : Int) (s2 : List UInt8) (l2 : List Tree) (hY : Ex.count (.node o2 t2 k2 n2 s2 l2) ≤ 1000000) (N : Nat) : ∀ (T : Tree), Ex.count T ≤ N → Ex.count T ≤ 1000000 → ∀ (v : Value) (A2 : Option Addr) (d2 : Nat) (w : World), NodeV w v T → l2.length ≤ d2 → TreesAt w A2 0 l2 →
  Calls Tryz.prog 19 #[v, .string (tx n), .agg (ncells o2 t2 k2 n2 s2 A2 l2.length d2)] w fun e w' => ∃ u, e = .returned u ∧ NodeNew w.heap.size w' u (Ex.put n (.node o2 t2 k2 n2 s2 l2) T) ∧ Below w.heap.size w w' := by
 induction N with
 | zero => intro T h; have := Ex.count_pos T; omega
 | succ N ih =>
  intro T hN hM v A2 d2 w h hd2 hl2
  cases T with
  | node op t vk vn vs ks =>
  obtain ⟨A, c, rfl, hcc, hk⟩ := h
  have hks0 : Ex.counts ks + 1 = Ex.count (.node op t vk vn vs ks) := by rw [Ex.count]
  have hlen := Ex.length_counts ks
  -- four blocks
  have b0 : Below w.heap.size w ((((w.alloc (.cells (ncells op t vk vn vs A ks.length c) 26)).alloc (.cells #[.string (tx n)] 9)).alloc (.cells (ncells o2 t2 k2 n2 s2 A2 l2.length d2) 26)).alloc (.cells (ncells 0 [] 0 0 [] none 0 0) 26)) :=
   ((((Below.refl _ _).alloc (Nat.le_refl _) _).alloc (by simp) _).alloc (by simp; omega) _).alloc (by simp; omega) _
  have k0 := (((Whole.new w 26 (ncells op t vk vn vs A ks.length c)).alloc (.cells #[.string (tx n)] 9)).alloc (.cells (ncells o2 t2 k2 n2 s2 A2 l2.length d2) 26)).alloc (.cells (ncells 0 [] 0 0 [] none 0 0) 26)
  have k1 := ((Whole.new (w.alloc (.cells (ncells op t vk vn vs A ks.length c) 26)) 9 #[.string (tx n)]).alloc (.cells (ncells o2 t2 k2 n2 s2 A2 l2.length d2) 26)).alloc (.cells (ncells 0 [] 0 0 [] none 0 0) 26)
  have k2' := (Whole.new ((w.alloc (.cells (ncells op t vk vn vs A ks.length c) 26)).alloc (.cells #[.string (tx n)] 9)) 26 (ncells o2 t2 k2 n2 s2 A2 l2.length d2)).alloc (.cells (ncells 0 [] 0 0 [] none 0 0) 26)
  have k3 := Whole.new (((w.alloc (.cells (ncells op t vk vn vs A ks.length c) 26)).alloc (.cells #[.string (tx n)] 9)).alloc (.cells (ncells o2 t2 k2 n2 s2 A2 l2.length d2) 26)) 26 (ncells 0 [] 0 0 [] none 0 0)
  have hz0 : ((((w.alloc (.cells (ncells op t vk vn vs A ks.length c) 26)).alloc (.cells #[.string (tx n)] 9)).alloc (.cells (ncells o2 t2 k2 n2 s2 A2 l2.length d2) 26)).alloc (.cells (ncells 0 [] 0 0 [] none 0 0) 26)).heap.size = w.heap.size + 4 := by simp only [World.size_alloc]
  simp only [World.size_alloc] at k1 k2' k3
  obtain ⟨W1, hW1⟩ : ∃ W1, (((w.alloc (.cells (ncells op t vk vn vs A ks.length c) 26)).alloc (.cells #[.string (tx n)] 9)).alloc (.cells (ncells o2 t2 k2 n2 s2 A2 l2.length d2) 26)).alloc (.cells (ncells 0 [] 0 0 [] none 0 0) 26) = W1 := ⟨_, rfl⟩
  rw [hW1] at b0 k0 k1 k2' k3 hz0
  have hy1 := hl2.below b0
  -- the two calls
  have CA := Lib.hid (copied_all 1000000 (.node o2 t2 k2 n2 s2 l2) hY hY _ W1 ⟨A2, d2, rfl, hd2, hy1⟩)
  have CB := withKids_put (Ex.put n (.node o2 t2 k2 n2 s2 l2)) op t vk vn vs ks (w.heap.size + 1) (w.heap.size + 1 + 1) W1 A c hcc (hk.below b0) (by omega) (fun i hi W hW v' hv => by
   have hci := count_lt (op := op) (t := t) (vk := vk) (vn := vn) (vs := vs) (List.getElem_mem hi)
   exact put1_any n (.node o2 t2 k2 n2 s2 l2) ks[i] _ o2 t2 k2 n2 s2 l2 A2 d2 (w.heap.size + 1) (w.heap.size + 1 + 1) v' W hv (k1.below hW k1.lt) (k2'.below hW k2'.lt) (fun W' hW' => ih ks[i] (by omega) (by omega) v' A2 d2 W' (hv.below hW') hd2 ((hy1.below hW).below hW')))
  have CBH : Hid (¬ (op = 2 ∧ t = n) → Calls Tryz.prog 47 #[.agg (ncells op t vk vn vs A ks.length c), .func (.func 48) #[] #[.pointer (some ⟨w.heap.size + 1, 0, none⟩), .pointer (some ⟨w.heap.size + 1 + 1, 0, none⟩)]] W1 fun e w' => ∃ u, e = .returned u ∧ NodeNew W1.heap.size w' u (Ex.put n (.node o2 t2 k2 n2 s2 l2) (.node op t vk vn vs ks)) ∧ Below W1.heap.size W1 w') := Lib.hid (fun hne => by
   rw [Ex.put, if_neg hne, Ex.puts_map]; exact CB)
  have CAH : Hid ((op = 2 ∧ t = n) → Calls Tryz.prog 46 #[.agg (ncells o2 t2 k2 n2 s2 A2 l2.length d2)] W1 fun e w' => ∃ u, e = .returned u ∧ NodeNew W1.heap.size w' u (Ex.put n (.node o2 t2 k2 n2 s2 l2) (.node op t vk vn vs ks)) ∧ Below W1.heap.size W1 w') := Lib.hid (fun hne => by
   rw [Ex.put, if_pos hne]; exact CA.out)
  generalize Ex.put n (.node o2 t2 k2 n2 s2 l2) (.node op t vk vn vs ks) = R at CAH CBH ⊢
  unfold ncells at *
  have HW1 := Lib.hid hW1
  have HZ := Lib.hid hz0
  have K3 := Lib.hid k3
  have B0 := Lib.hid b0
  obtain ⟨c0, c1, c2, c3, c4, c5⟩ := six_of k0
  obtain ⟨d0, d1, d2', d3, d4, d5⟩ := six_of k2'
  have e0 : W1.cell? ⟨w.heap.size + 1, 0, none⟩ = some (.string (tx n)) := k1.cell 0
  clear CA CB hz0 k1 b0 k0 k2' k3 ih hks0 hlen hN hM hk hy1 hl2 hY HW1
  by_cases h2 : op = 2
  ·by_cases h3 : t = n
   ·have CA := Lib.hid (CAH.out ⟨h2, h3⟩)
    subst h2; subst h3
    clear CBH CAH
    go_enter Tryz.func19, Tryz.ntmps19
    go_wp2_with fail
    refine CA.out.mono ?_
    rintro e W2 ⟨u, rfl, hu, hb⟩
    have R1 := K3.out.below hb K3.out.lt
    cases R with
    | node op2 t2 vk2 vn2 vs2 ks2 =>
    obtain ⟨A2, c2', rfl, hc2, hk2⟩ := hu
    obtain ⟨x0, x1, x2, x3, x4, x5⟩ := six_of R1
    obtain ⟨y0, y1, y2, y3, y4, y5⟩ := frozen6 R1
    have hT := set6Z_touch W2 (w.heap.size + 1 + 1 + 1) (.int .i64 op2) (.string (tx t2)) (.int .i64 vk2) (.int .i64 vn2) (.string (tx vs2)) (.slice A2 ks2.length c2')
    have FIN := Lib.hid (set6Z_whole R1 (.int .i64 op2) (.string (tx t2)) (.int .i64 vk2) (.int .i64 vn2) (.string (tx vs2)) (.slice A2 ks2.length c2'))
    have BW := B0.out.trans (hb.mono B0.out.size)
    have FB := Lib.hid (BW.trans (hT.below1 (B := w.heap.size) (by omega) BW.size))
    have FK : Hid (TreesIn (w.heap.size ≤ ·) (set6Z W2 (w.heap.size + 1 + 1 + 1) (.int .i64 op2) (.string (tx t2)) (.int .i64 vk2) (.int .i64 vn2) (.string (tx vs2)) (.slice A2 ks2.length c2')) A2 0 ks2) := Lib.hid (hk2.moved fun k hk hlt => ⟨hT.block k hlt (by have := HZ.out; simp; omega), by have := HZ.out; omega⟩)
    have HCC := Lib.hid hc2
    clear hT BW hb hk2 R1 c0 c1 c2 c3 c4 c5 d0 d1 d2' d3 d4 d5 e0
    go_wp2_with fail
    exact bodyPost_ret (results_cell_row rfl _ _ (w.heap.size + 1 + 1 + 1) _ _ _ _ rfl FIN.out Tryz.underlying26 rfl sizeExpr) rfl ⟨_, rfl, ⟨A2, c2', rfl, HCC.out, FK.out⟩, FB.out⟩
   ·have CB := Lib.hid (CBH.out (fun h => h3 h.2))
    subst h2
    have h3' : (t == n) = false := by simpa using h3
    clear CBH CAH h3
    go_enter Tryz.func19, Tryz.ntmps19
    go_wp2_with fail
    refine CB.out.mono ?_
    rintro e W2 ⟨u, rfl, hu, hb⟩
    have R1 := K3.out.below hb K3.out.lt
    cases R with
    | node op2 t2 vk2 vn2 vs2 ks2 =>
    obtain ⟨A2, c2', rfl, hc2, hk2⟩ := hu
    obtain ⟨x0, x1, x2, x3, x4, x5⟩ := six_of R1
    obtain ⟨y0, y1, y2, y3, y4, y5⟩ := frozen6 R1
    have hT := set6Z_touch W2 (w.heap.size + 1 + 1 + 1) (.int .i64 op2) (.string (tx t2)) (.int .i64 vk2) (.int .i64 vn2) (.string (tx vs2)) (.slice A2 ks2.length c2')
    have FIN := Lib.hid (set6Z_whole R1 (.int .i64 op2) (.string (tx t2)) (.int .i64 vk2) (.int .i64 vn2) (.string (tx vs2)) (.slice A2 ks2.length c2'))
    have BW := B0.out.trans (hb.mono B0.out.size)
    have FB := Lib.hid (BW.trans (hT.below1 (B := w.heap.size) (by omega) BW.size))
    have FK : Hid (TreesIn (w.heap.size ≤ ·) (set6Z W2 (w.heap.size + 1 + 1 + 1) (.int .i64 op2) (.string (tx t2)) (.int .i64 vk2) (.int .i64 vn2) (.string (tx vs2)) (.slice A2 ks2.length c2')) A2 0 ks2) := Lib.hid (hk2.moved fun k hk hlt => ⟨hT.block k hlt (by have := HZ.out; simp; omega), by have := HZ.out; omega⟩)
    have HCC := Lib.hid hc2
    clear hT BW hb hk2 R1 c0 c1 c2 c3 c4 c5 d0 d1 d2' d3 d4 d5 e0
    go_wp2_with fail
    exact bodyPost_ret (results_cell_row rfl _ _ (w.heap.size + 1 + 1 + 1) _ _ _ _ rfl FIN.out Tryz.underlying26 rfl sizeExpr) rfl ⟨_, rfl, ⟨A2, c2', rfl, HCC.out, FK.out⟩, FB.out⟩
  ·have CB := Lib.hid (CBH.out (fun h => h2 h.1))
   clear CBH CAH
   go_enter Tryz.func19, Tryz.ntmps19
   go_wp2_with fail
   refine CB.out.mono ?_
   rintro e W2 ⟨u, rfl, hu, hb⟩
   have R1 := K3.out.below hb K3.out.lt
   cases R with
   | node op2 t2 vk2 vn2 vs2 ks2 =>
   obtain ⟨A2, c2', rfl, hc2, hk2⟩ := hu
   obtain ⟨x0, x1, x2, x3, x4, x5⟩ := six_of R1
   obtain ⟨y0, y1, y2, y3, y4, y5⟩ := frozen6 R1
   have hT := set6Z_touch W2 (w.heap.size + 1 + 1 + 1) (.int .i64 op2) (.string (tx t2)) (.int .i64 vk2) (.int .i64 vn2) (.string (tx vs2)) (.slice A2 ks2.length c2')
   have FIN := Lib.hid (set6Z_whole R1 (.int .i64 op2) (.string (tx t2)) (.int .i64 vk2) (.int .i64 vn2) (.string (tx vs2)) (.slice A2 ks2.length c2'))
   have BW := B0.out.trans (hb.mono B0.out.size)
   have FB := Lib.hid (BW.trans (hT.below1 (B := w.heap.size) (by omega) BW.size))
   have FK : Hid (TreesIn (w.heap.size ≤ ·) (set6Z W2 (w.heap.size + 1 + 1 + 1) (.int .i64 op2) (.string (tx t2)) (.int .i64 vk2) (.int .i64 vn2) (.string (tx vs2)) (.slice A2 ks2.length c2')) A2 0 ks2) := Lib.hid (hk2.moved fun k hk hlt => ⟨hT.block k hlt (by have := HZ.out; simp; omega), by have := HZ.out; omega⟩)
   have HCC := Lib.hid hc2
   clear hT BW hb hk2 R1 c0 c1 c2 c3 c4 c5 d0 d1 d2' d3 d4 d5 e0
   go_wp2_with fail
   exact bodyPost_ret (results_cell_row rfl _ _ (w.heap.size + 1 + 1 + 1) _ _ _ _ rfl FIN.out Tryz.underlying26 rfl sizeExpr) rfl ⟨_, rfl, ⟨A2, c2', rfl, HCC.out, FK.out⟩, FB.out⟩
end Go.Proofs.YteghhmomhlnccaaGreatDoor
namespace Go.Proofs.YteghhmomhlnccaaGreatDoor
open Go.RowKit Go.Lib
set_option maxRecDepth 100000
open Ex (Tree)
mutual
theorem count_put (n : List UInt8) (Y : Tree) : ∀ X : Tree, Ex.count (Ex.put n Y X) ≤ Ex.count X * Ex.count Y
 | .node op t vk vn vs ks => by
  have hY := Ex.count_pos Y
  rw [Ex.put]
  split
  ·rw [Ex.count, Nat.add_mul]; omega
  ·rw [Ex.count, Ex.count, Nat.add_mul]
   have := counts_put n Y ks
   omega
theorem counts_put (n : List UInt8) (Y : Tree) : ∀ l : List Tree, Ex.counts (Ex.puts n Y l) ≤ Ex.counts l * Ex.count Y
 | [] => by rw [Ex.puts, Ex.counts]; omega
 | x :: l => by
  have h1 := count_put n Y x
  have h2 := counts_put n Y l
  rw [Ex.puts, Ex.counts, Ex.counts, Nat.add_mul]; omega
end
mutual
theorem fit_put (n : List UInt8) {Y : Tree} (hY : fitT Y) : ∀ X : Tree, fitT X → fitT (Ex.put n Y X)
 | .node op t vk vn vs ks, h => by
  rw [Ex.put]
  split
  ·exact hY
  ·rw [fitT] at h ⊢
   exact ⟨h.1, h.2.1, fits_put n hY ks h.2.2⟩
theorem fits_put (n : List UInt8) {Y : Tree} (hY : fitT Y) : ∀ l : List Tree, fitTs l → fitTs (Ex.puts n Y l)
 | [], h => by rw [Ex.puts]; exact h
 | x :: l, h => by
  rw [Ex.puts, fitTs]
  rw [fitTs] at h
  exact ⟨fit_put n hY x h.1, fits_put n hY l h.2⟩
end
end Go.Proofs.YteghhmomhlnccaaGreatDoor
