/- same: has a page just these pieces? -/
import Derived.Test.YtjnblkibejmdjaaPC2
namespace Go.Proofs.Ytjnblkibejmdjaa
open Go.RowKit
set_option linter.unusedVariables false
theorem conv_at {W : World} {g n : Nat} {l : List UInt8} (h : BB W g l) (hl : l.length = n) (W' : World) (hb : Below W.heap.size W W') : Sem.run Try.prog (convert 29 9 (.slice (some ⟨g, 0, none⟩) n n)) W' = .ok (.string ⟨l.toArray⟩) W' := by
  have := conv_bytes ((h.below hb).holds0) n
  rw [hl] at this
  exact this
theorem wpAnyH_weaken {P : Program} {md : Region.Mode} {ops : Array Oper} {Q : Exit → Act → World → Prop} {S S' : World → Prop} (hs : ∀ w, S' w → S w) : ∀ (fuel : Nat) (listed : Array Bool) (a : Act) (w : World), wpAnyH P md ops Q S' fuel listed a w → wpAnyH P md ops Q S fuel listed a w
  | 0, _, _, _, h => h
  | fuel + 1, _, _, _, h => ⟨h.1, fun i hi => wpOp_mono (fun _ w' h' => ⟨hs w' h'.1, wpAnyH_weaken hs fuel _ _ _ h'.2⟩) (h.2 i hi)⟩
set_option maxRecDepth 100000 in
set_option maxHeartbeats 2000000 in
theorem same_any {w : World} {P : Pg} (h : PgAt w P) (A : Option Addr) (c : Nat) (hS : Strs w A (strL P.L)) :
    Calls Try.prog 11 #[P.ptr, .slice A P.L.length c, .int .i64 (P.size : Nat)] w fun e w' => e = .returned (.bool true) ∧ Below w.heap.size w w' := by
  have hLl : P.L.length = P.xs.length := bbs_len _
  have hfit := h.fit
  have hsz1 := h.sz1
  have hsz2 := h.sz2
  have hfew := h.few
  have hleft : (P.left : Int) = (P.size : Int) - 1 - 4 * (P.L.length : Int) - (used P.L : Nat) := by unfold Pg.left; omega
  have SL : Hid (∀ W, Below w.heap.size w W → Calls Try.prog 15 #[P.ptr] W fun e w' => e = .returned (.int .i64 (P.L.length : Nat)) ∧ Below w.heap.size w w') := Lib.hid fun W hb => (slots_at (h.below hb)).mono (by rintro e w' ⟨rfl, rfl⟩; exact ⟨by rw [hLl], hb⟩)
  have RM : Hid (∀ W, Below w.heap.size w W → Calls Try.prog 16 #[P.ptr] W fun e w' => e = .returned (.int .i64 ((P.size : Int) - 1 - 4 * (P.L.length : Int) - (used P.L : Nat))) ∧ Below w.heap.size w w') := Lib.hid fun W hb => (room_at (h.below hb)).mono (by rintro e w' ⟨rfl, k, rfl⟩; exact ⟨by rw [hleft], below_drewN hb k⟩)
  have RR : Hid (∀ W, Below w.heap.size w W → Calls Try.prog 7 #[.slice A P.L.length c, .int .i64 (P.size : Nat)] W fun e w' => e = .returned (.int .i64 ((P.size : Int) - 1 - 4 * (P.L.length : Int) - (used P.L : Nat))) ∧ Below w.heap.size w w') := Lib.hid fun W hb => (refRoom_any A c P.L P.size W (hS.below hb) hsz2 (by omega) (by omega)).mono (by rintro e w' ⟨rfl, rfl⟩; exact ⟨rfl, hb⟩)
  have BY : Hid (∀ W, Below w.heap.size w W → Calls Try.prog 13 #[P.ptr] W fun e w' => ∃ g, e = .returned (.slice (some ⟨g, 0, none⟩) P.size P.size) ∧ Below w.heap.size w w' ∧ ∀ W', Below w'.heap.size w' W' → Sem.run Try.prog (convert 29 9 (.slice (some ⟨g, 0, none⟩) P.size P.size)) W' = .ok (.string ⟨(pageB P.size P.L).toArray⟩) W') := Lib.hid fun W hb => (bytes_at (h.below hb)).mono (by rintro e w' ⟨g, rfl, h1, h2, h3⟩; exact ⟨g, rfl, below_next hb h3, fun W' hb' => conv_at h2 (pageB_length _ _ (by omega)) W' hb'⟩)
  have RB : Hid (∀ W, Below w.heap.size w W → Calls Try.prog 24 #[.slice A P.L.length c, .int .i64 (P.size : Nat)] W fun e w' => ∃ g, e = .returned (.slice (some ⟨g, 0, none⟩) P.size P.size) ∧ Below w.heap.size w w' ∧ Below W.heap.size W w' ∧ ∀ W', Below w'.heap.size w' W' → Sem.run Try.prog (convert 29 9 (.slice (some ⟨g, 0, none⟩) P.size P.size)) W' = .ok (.string ⟨(pageB P.size P.L).toArray⟩) W') := Lib.hid fun W hb => (refBytes_any A c P.L P.size W (hS.below hb) hsz1 hsz2 (by omega) (by omega)).mono (by rintro e w' ⟨g, rfl, h1, h2, h3⟩; exact ⟨g, rfl, below_next hb h3, h3, fun W' hb' => conv_at h2 (pageB_length _ _ (by omega)) W' hb'⟩)
  have B0 : Below w.heap.size w w.drew := (Below.refl _ _).drew
  have H := Lib.hid h
  have HS := Lib.hid hS
  generalize hR : (P.size : Int) - 1 - 4 * (P.L.length : Int) - (used P.L : Nat) = room at *
  generalize hPB : (pageB P.size P.L) = pb at *
  replace hLl := Lib.hid hLl
  clear h hS hleft
  go_enter Try.func11, Try.ntmps11
  go_wp2_with fail
  refine wp_region_held_drew (S := fun W => Below w.heap.size w W) (by kernel_rfl) B0 (fun _ => ?_)
  refine wpAnyH_take (i := 0) (oi := { dst := some 14, op := Op.move (Operand.tmp 0), type := 24, pos := "law.go:30", after := #[], guard := none }) (v := ?_) rfl (by kernel_rfl) (by kernel_rfl) (by kernel_rfl) (fun _ _ _ h => h) (Or.inl ⟨by rfl, ?_⟩) B0 ?_
  rotate_left
  · (intro W hw; go_simp; try with_reducible rfl)
  simp only [Act.put, List.setIfInBounds_toArray, List.set_cons_zero, List.set_cons_succ]
  refine wpAnyH_take (i := 2) (oi := { dst := some 16, op := Op.move (Operand.tmp 1), type := 28, pos := "law.go:30", after := #[], guard := none }) (v := ?_) rfl (by kernel_rfl) (by kernel_rfl) (by kernel_rfl) (fun _ _ _ h => h) (Or.inl ⟨by rfl, ?_⟩) B0 ?_
  rotate_left
  · (intro W hw; go_simp; try with_reducible rfl)
  simp only [Act.put, List.setIfInBounds_toArray, List.set_cons_zero, List.set_cons_succ]
  refine wpAnyH_take (i := 3) (oi := { dst := some 17, op := Op.call { callee := Callee.builtin Builtin.len, args := #[Operand.tmp 16], argTypes := #[28] }, type := 3, pos := "law.go:30", after := #[{ on := 2, ground := Ground.data }], guard := none }) (v := ?_) rfl (by kernel_rfl) (by kernel_rfl) (by kernel_rfl) (fun _ _ _ h => h) (Or.inl ⟨by rfl, ?_⟩) B0 ?_
  rotate_left
  · (intro W hw; go_simp; try with_reducible rfl)
  simp only [Act.put, List.setIfInBounds_toArray, List.set_cons_zero, List.set_cons_succ]
  refine wpAnyH_ready (rs := [1]) (by kernel_rfl) (by simp) ?_
  refine AllReadyH.cons (o := { dst := some 15, op := Op.call { callee := Callee.value (Operand.func 15), args := #[Operand.tmp 14], argTypes := #[24] }, type := 3, pos := "law.go:30", after := #[{ on := 0, ground := Ground.data }], guard := none }) rfl (fun K hK => ?_) AllReadyH.nil
  go_simp
  with_reducible refine (SL.out _ B0).mono ?_
  rintro e w1 ⟨rfl, b1⟩
  go_wp2_with fail
  refine hK.out _ _ b1 (fun _ => ?_)
  clear hK K
  try simp only [Act.put, List.setIfInBounds_toArray, List.set_cons_zero, List.set_cons_succ]
  refine wpAnyH_take (i := 4) (oi := { dst := some 18, op := Op.binOp BinOp.neq 3 (Operand.tmp 15) (Operand.tmp 17) 3, type := 4, pos := "law.go:30", after := #[{ on := 1, ground := Ground.data }, { on := 3, ground := Ground.data }], guard := none }) (v := ?_) rfl (by kernel_rfl) (by kernel_rfl) (by kernel_rfl) (fun _ _ _ h => h) (Or.inl ⟨by rfl, ?_⟩) b1 ?_
  rotate_left
  · (intro W hw; go_simp; try with_reducible rfl)
  simp only [Act.put, List.setIfInBounds_toArray, List.set_cons_zero, List.set_cons_succ]
  refine wpAnyH_take (i := 5) (oi := { dst := some 19, op := Op.move (Operand.tmp 18), type := 4, pos := "law.go:30", after := #[{ on := 4, ground := Ground.data }, { on := 1, ground := Ground.chain }], guard := none }) (v := ?_) rfl (by kernel_rfl) (by kernel_rfl) (by kernel_rfl) (fun _ _ _ h => h) (Or.inl ⟨by rfl, ?_⟩) b1 ?_
  rotate_left
  · (intro W hw; go_simp; try with_reducible rfl)
  simp only [Act.put, List.setIfInBounds_toArray, List.set_cons_zero, List.set_cons_succ]
  refine wpAnyH_take (i := 6) (oi := { dst := some 20, op := Op.move (Operand.tmp 0), type := 24, pos := "law.go:30", after := #[{ on := 5, ground := Ground.guard }], guard := some (5, false) }) (v := ?_) rfl (by kernel_rfl) (by kernel_rfl) (by kernel_rfl) (fun _ _ _ h => h) (Or.inl ⟨by rfl, ?_⟩) b1 ?_
  rotate_left
  · (intro W hw; go_simp; try with_reducible rfl)
  simp only [Act.put, List.setIfInBounds_toArray, List.set_cons_zero, List.set_cons_succ]
  refine wpAnyH_take (i := 8) (oi := { dst := some 22, op := Op.move (Operand.tmp 1), type := 28, pos := "law.go:30", after := #[{ on := 5, ground := Ground.guard }], guard := some (5, false) }) (v := ?_) rfl (by kernel_rfl) (by kernel_rfl) (by kernel_rfl) (fun _ _ _ h => h) (Or.inl ⟨by rfl, ?_⟩) b1 ?_
  rotate_left
  · (intro W hw; go_simp; try with_reducible rfl)
  simp only [Act.put, List.setIfInBounds_toArray, List.set_cons_zero, List.set_cons_succ]
  refine wpAnyH_take (i := 9) (oi := { dst := some 23, op := Op.move (Operand.tmp 2), type := 3, pos := "law.go:30", after := #[{ on := 5, ground := Ground.guard }], guard := some (5, false) }) (v := ?_) rfl (by kernel_rfl) (by kernel_rfl) (by kernel_rfl) (fun _ _ _ h => h) (Or.inl ⟨by rfl, ?_⟩) b1 ?_
  rotate_left
  · (intro W hw; go_simp; try with_reducible rfl)
  simp only [Act.put, List.setIfInBounds_toArray, List.set_cons_zero, List.set_cons_succ]
  refine wpAnyH_ready (rs := [7]) (by kernel_rfl) (by simp) ?_
  refine AllReadyH.cons (o := { dst := some 21, op := Op.call { callee := Callee.value (Operand.func 16), args := #[Operand.tmp 20], argTypes := #[24] }, type := 3, pos := "law.go:30", after := #[{ on := 6, ground := Ground.data }, { on := 5, ground := Ground.chain }, { on := 5, ground := Ground.guard }], guard := some (5, false) }) rfl (fun K hK => ?_) AllReadyH.nil
  go_simp
  with_reducible refine (RM.out _ b1).mono ?_
  rintro e w2 ⟨rfl, b2⟩
  go_wp2_with fail
  refine hK.out _ _ b2 (fun _ => ?_)
  clear hK K
  try simp only [Act.put, List.setIfInBounds_toArray, List.set_cons_zero, List.set_cons_succ]
  refine wpAnyH_ready (rs := [10]) (by kernel_rfl) (by simp) ?_
  refine AllReadyH.cons (o := { dst := some 24, op := Op.call { callee := Callee.value (Operand.func 7), args := #[Operand.tmp 22, Operand.tmp 23], argTypes := #[28, 3] }, type := 3, pos := "law.go:30", after := #[{ on := 8, ground := Ground.data }, { on := 9, ground := Ground.data }, { on := 7, ground := Ground.chain }, { on := 5, ground := Ground.guard }], guard := some (5, false) }) rfl (fun K hK => ?_) AllReadyH.nil
  go_simp
  with_reducible refine (RR.out _ b2).mono ?_
  rintro e w3 ⟨rfl, b3⟩
  go_wp2_with fail
  refine hK.out _ _ b3 (fun _ => ?_)
  clear hK K
  try simp only [Act.put, List.setIfInBounds_toArray, List.set_cons_zero, List.set_cons_succ]
  refine wpAnyH_take (i := 11) (oi := { dst := some 25, op := Op.binOp BinOp.neq 3 (Operand.tmp 21) (Operand.tmp 24) 3, type := 4, pos := "law.go:30", after := #[{ on := 7, ground := Ground.data }, { on := 10, ground := Ground.data }, { on := 5, ground := Ground.guard }], guard := some (5, false) }) (v := ?_) rfl (by kernel_rfl) (by kernel_rfl) (by kernel_rfl) (fun _ _ _ h => h) (Or.inl ⟨by rfl, ?_⟩) b3 ?_
  rotate_left
  · (intro W hw; go_simp; try with_reducible rfl)
  simp only [Act.put, List.setIfInBounds_toArray, List.set_cons_zero, List.set_cons_succ]
  refine wpAnyH_take (i := 12) (oi := { dst := some 26, op := Op.pick (Operand.tmp 19) (Operand.const (Value.bool true)) (Operand.tmp 25), type := 4, pos := "law.go:30", after := #[{ on := 5, ground := Ground.data }, { on := 11, ground := Ground.data }], guard := none }) (v := ?_) rfl (by kernel_rfl) (by kernel_rfl) (by kernel_rfl) (fun _ _ _ h => h) (Or.inl ⟨by rfl, ?_⟩) b3 ?_
  rotate_left
  · (intro W hw; go_simp; try with_reducible rfl)
  simp only [Act.put, List.setIfInBounds_toArray, List.set_cons_zero, List.set_cons_succ]
  refine wpAnyH_take (i := 13) (oi := { dst := some 27, op := Op.move (Operand.tmp 26), type := 4, pos := "law.go:30", after := #[{ on := 12, ground := Ground.data }, { on := 10, ground := Ground.chain }], guard := none }) (v := ?_) rfl (by kernel_rfl) (by kernel_rfl) (by kernel_rfl) (fun _ _ _ h => h) (Or.inl ⟨by rfl, ?_⟩) b3 ?_
  rotate_left
  · (intro W hw; go_simp; try with_reducible rfl)
  simp only [Act.put, List.setIfInBounds_toArray, List.set_cons_zero, List.set_cons_succ]
  refine wpAnyH_take (i := 14) (oi := { dst := some 28, op := Op.move (Operand.tmp 0), type := 24, pos := "law.go:30", after := #[{ on := 13, ground := Ground.guard }], guard := some (13, false) }) (v := ?_) rfl (by kernel_rfl) (by kernel_rfl) (by kernel_rfl) (fun _ _ _ h => h) (Or.inl ⟨by rfl, ?_⟩) b3 ?_
  rotate_left
  · (intro W hw; go_simp; try with_reducible rfl)
  simp only [Act.put, List.setIfInBounds_toArray, List.set_cons_zero, List.set_cons_succ]
  refine wpAnyH_take (i := 17) (oi := { dst := some 31, op := Op.move (Operand.tmp 1), type := 28, pos := "law.go:30", after := #[{ on := 13, ground := Ground.guard }], guard := some (13, false) }) (v := ?_) rfl (by kernel_rfl) (by kernel_rfl) (by kernel_rfl) (fun _ _ _ h => h) (Or.inl ⟨by rfl, ?_⟩) b3 ?_
  rotate_left
  · (intro W hw; go_simp; try with_reducible rfl)
  simp only [Act.put, List.setIfInBounds_toArray, List.set_cons_zero, List.set_cons_succ]
  refine wpAnyH_take (i := 18) (oi := { dst := some 32, op := Op.move (Operand.tmp 2), type := 3, pos := "law.go:30", after := #[{ on := 13, ground := Ground.guard }], guard := some (13, false) }) (v := ?_) rfl (by kernel_rfl) (by kernel_rfl) (by kernel_rfl) (fun _ _ _ h => h) (Or.inl ⟨by rfl, ?_⟩) b3 ?_
  rotate_left
  · (intro W hw; go_simp; try with_reducible rfl)
  simp only [Act.put, List.setIfInBounds_toArray, List.set_cons_zero, List.set_cons_succ]
  refine wpAnyH_ready (rs := [15]) (by kernel_rfl) (by simp) ?_
  refine AllReadyH.cons (o := { dst := some 29, op := Op.call { callee := Callee.value (Operand.func 13), args := #[Operand.tmp 28], argTypes := #[24] }, type := 29, pos := "law.go:30", after := #[{ on := 14, ground := Ground.data }, { on := 13, ground := Ground.chain }, { on := 13, ground := Ground.guard }], guard := some (13, false) }) rfl (fun K hK => ?_) AllReadyH.nil
  go_simp
  with_reducible refine (BY.out _ b3).mono ?_
  rintro e w4 ⟨g4, rfl, b4, hc4⟩
  go_wp2_with fail
  refine hK.out _ _ b4 (fun _ => ?_)
  clear hK K
  try simp only [Act.put, List.setIfInBounds_toArray, List.set_cons_zero, List.set_cons_succ]
  refine wpAnyH_weaken (S' := fun W => Below w4.heap.size w4 W) (fun W h => below_next b4 h) _ _ _ _ ?_
  refine wpAnyH_take (i := 16) (oi := { dst := some 30, op := Op.convert 29 9 (Operand.tmp 29), type := 9, pos := "law.go:30", after := #[{ on := 15, ground := Ground.data }, { on := 13, ground := Ground.guard }], guard := some (13, false) }) (v := .string ⟨pb.toArray⟩) rfl (by kernel_rfl) (by kernel_rfl) (by kernel_rfl) (fun _ _ _ h => h) (Or.inl ⟨by rfl, ?_⟩) (Below.refl _ _) ?_
  · (intro W hw; go_simp; try with_reducible rfl)
  simp only [Act.put, List.setIfInBounds_toArray, List.set_cons_zero, List.set_cons_succ]
  refine wpAnyH_ready (rs := [19]) (by kernel_rfl) (by simp) ?_
  refine AllReadyH.cons (o := { dst := some 33, op := Op.call { callee := Callee.value (Operand.func 24), args := #[Operand.tmp 31, Operand.tmp 32], argTypes := #[28, 3] }, type := 29, pos := "law.go:30", after := #[{ on := 17, ground := Ground.data }, { on := 18, ground := Ground.data }, { on := 15, ground := Ground.chain }, { on := 13, ground := Ground.guard }], guard := some (13, false) }) rfl (fun K hK => ?_) AllReadyH.nil
  go_simp
  with_reducible refine (RB.out _ b4).mono ?_
  rintro e w5 ⟨g5, rfl, b5, hbr5, hc5⟩
  go_wp2_with fail
  refine hK.out _ _ hbr5 (fun _ => ?_)
  clear hK K
  try simp only [Act.put, List.setIfInBounds_toArray, List.set_cons_zero, List.set_cons_succ]
  refine wpAnyH_weaken (S' := fun W => Below w5.heap.size w5 W) (fun W h => below_next hbr5 h) _ _ _ _ ?_
  refine wpAnyH_take (i := 20) (oi := { dst := some 34, op := Op.convert 29 9 (Operand.tmp 33), type := 9, pos := "law.go:30", after := #[{ on := 19, ground := Ground.data }, { on := 13, ground := Ground.guard }], guard := some (13, false) }) (v := .string ⟨pb.toArray⟩) rfl (by kernel_rfl) (by kernel_rfl) (by kernel_rfl) (fun _ _ _ h => h) (Or.inl ⟨by rfl, ?_⟩) (Below.refl _ _) ?_
  · (intro W hw; go_simp; try with_reducible rfl)
  simp only [Act.put, List.setIfInBounds_toArray, List.set_cons_zero, List.set_cons_succ]
  refine wpAnyH_take (i := 21) (oi := { dst := some 35, op := Op.binOp BinOp.neq 9 (Operand.tmp 30) (Operand.tmp 34) 9, type := 4, pos := "law.go:30", after := #[{ on := 16, ground := Ground.data }, { on := 20, ground := Ground.data }, { on := 13, ground := Ground.guard }], guard := some (13, false) }) (v := ?_) rfl (by kernel_rfl) (by kernel_rfl) (by kernel_rfl) (fun _ _ _ h => h) (Or.inl ⟨by rfl, ?_⟩) (Below.refl _ _) ?_
  rotate_left
  · (intro W hw; go_simp; try with_reducible rfl)
  simp only [Act.put, List.setIfInBounds_toArray, List.set_cons_zero, List.set_cons_succ]
  refine wpAnyH_take (i := 22) (oi := { dst := some 36, op := Op.pick (Operand.tmp 27) (Operand.const (Value.bool true)) (Operand.tmp 35), type := 4, pos := "law.go:30", after := #[{ on := 13, ground := Ground.data }, { on := 21, ground := Ground.data }], guard := none }) (v := ?_) rfl (by kernel_rfl) (by kernel_rfl) (by kernel_rfl) (fun _ _ _ h => h) (Or.inl ⟨by rfl, ?_⟩) (Below.refl _ _) ?_
  rotate_left
  · (intro W hw; go_simp; try with_reducible rfl)
  simp only [Act.put, List.setIfInBounds_toArray, List.set_cons_zero, List.set_cons_succ]
  refine wpAnyH_done (by kernel_rfl) ?_ _
  have B5 := Lib.hid b5
  clear SL RM RR BY RB B0 b1 b2 b3 b4 hc4 hbr5 hc5 hR hPB b5
  go_wp2_with fail
  go_loopg [7] (P.L.length + 1) (fun j s7 wr => ∃ i : Nat, i ≤ P.L.length ∧ P.L.length < i + j ∧ s7 = .int .i64 (i : Nat) ∧ Below w.heap.size w wr)
  case atStart => exact ⟨0, by omega, by omega, rfl, B5.out⟩
  case round =>
    obtain ⟨i, hi, hj, rfl, hb⟩ := hrel
    have hPr := H.out.below hb
    have HB := Lib.hid hb
    by_cases hlt : i < P.L.length
    · have hlti : (i : Int) < (P.L.length : Int) := by omega
      obtain ⟨ga, oa, rfl, hga, hca⟩ := HS.out.one i hlt
      have hcw := (hb.cell (p := ⟨ga, oa + i, none⟩) hga).trans hca
      have hix : i < P.xs.length := by rw [← hLl.out]; exact hlt
      have hLi : P.L[i] = P.xs[i].b := bbs_at _ _ _
      by_cases he : P.L[i] = []
      · have GT := Lib.hid (get_empty hPr i hix (by rw [← hLi]; exact he))
        rw [he] at hcw
        clear hca hb hPr hLi he B5
        go_wp2_with fail
        refine GT.out.mono ?_
        rintro e w6 ⟨rfl, rfl⟩
        go_wp2_with fail
        go_quiet (fail)
        go_wp2_with fail
        go_roundg (P.L.length - i)
        case measure => omega
        case rel => exact ⟨i + 1, by omega, by omega, rfl, below_drewN HB.out nq⟩
      · have GT := get_ok hPr i hix (by rw [← hLi]; exact he)
        rw [← hLi] at GT
        have hxl : P.L[i].length ≤ 1024 := by
          have := used_at P.L i hlt
          omega
        have CVB := Lib.hid fun (W : World) (B : Option Addr) (d : Nat) (hh : Holds W B P.L[i]) => conv_bytes hh d
        have hne1 : (⟨P.L[i].toArray⟩ : ByteArray).toList.isEmpty = false := by
          rw [ByteArray.toList_eq]
          simp [he]
        replace GT := Lib.hid GT
        generalize P.L[i] = b at *
        generalize hsb : (⟨b.toArray⟩ : ByteArray) = sb at *
        clear hca hb hPr hLi he B5
        go_wp2_with fail
        refine GT.out.mono ?_
        rintro e w6 ⟨v, rfl, hr6, hb6⟩
        obtain ⟨B6, d6, rfl, hh6, -, -⟩ := hr6.shape
        have CV : ∀ N, Sem.run Try.prog (convert 29 9 (.slice B6 b.length d6)) (w6.drewN N) = .ok (.string sb) (w6.drewN N) := fun N => CVB.out (w6.drewN N) B6 d6 (hh6.below (below_drewN (Below.refl _ _) N))
        have hcw6 := (hb6.cell (p := ⟨ga, oa + i, none⟩) (Nat.lt_of_lt_of_le hga HB.out.size)).trans hcw
        have HB6 := Lib.hid (below_next HB.out hb6)
        clear GT CVB hr6 hh6 hb6 hsb hcw
        go_wp2_with fail
        go_quiet (fail)
        go_wp2_with fail
        go_roundg (P.L.length - i)
        case measure => omega
        case rel => exact ⟨i + 1, by omega, by omega, rfl, below_drewN HB6.out nq⟩
    · have hge : ¬ (i : Int) < (P.L.length : Int) := by omega
      have G1 := Lib.hid fun (W : World) (hbW : Below w.heap.size w W) => get_no (H.out.below hbW) (P.L.length : Int) (.inr (by rw [hLl.out]; omega))
      have G2 := Lib.hid fun (W : World) (hbW : Below w.heap.size w W) => get_no (H.out.below hbW) (-1) (.inl (by omega))
      clear hb hPr B5
      go_wp2_with fail
      refine (G1.out _ HB.out).mono ?_
      rintro e w6 ⟨rfl, rfl⟩
      go_wp2_with fail
      refine (G2.out _ HB.out).mono ?_
      rintro e w7 ⟨rfl, rfl⟩
      go_wp2_with fail
      go_ret
      exact ⟨rfl, HB.out⟩
end Go.Proofs.Ytjnblkibejmdjaa
