/- DiskPlays walked. -/
import Derived.Test.YtmcgjlidfgbdfaaDRn
import Derived.Deep.CutBlock
namespace Go.Proofs.Ytmcgjlidfgbdfaa
open Go.RowKit

/-- what is held may be less. -/
theorem wpAnyH_weaken {P : Program} {md : Region.Mode} {ops : Array Oper} {Q : Exit → Act → World → Prop} {S S' : World → Prop} (hs : ∀ w, S' w → S w) : ∀ (fuel : Nat) (listed : Array Bool) (a : Act) (w : World), wpAnyH P md ops Q S' fuel listed a w → wpAnyH P md ops Q S fuel listed a w
  | 0, _, _, _, h => h
  | fuel + 1, _, _, _, h => ⟨h.1, fun i hi => wpOp_mono (fun _ w' h' => ⟨hs w' h'.1, wpAnyH_weaken hs fuel _ _ _ h'.2⟩) (h.2 i hi)⟩
set_option maxRecDepth 100000 in
set_option maxHeartbeats 8000000 in
theorem plays_good (n size : Nat) (a : Option Addr) (c : Nat) (xs : List ActG) (w : World) (h1 : 1 ≤ n) (h2 : n ≤ 20) (h3 : 64 ≤ size) (h4 : size ≤ 1024) (hA : CameA w a xs) :
    Calls Try.prog 3 #[.int .i64 (n : Nat), .int .i64 (size : Nat), .slice a xs.length c] w fun e w' => e = .returned (.bool true) ∧ Below w.heap.size w w' := by
  have i1 : (1 : Int) ≤ (n : Int) := by omega
  have i2 : (n : Int) ≤ 20 := by omega
  have i3 : (64 : Int) ≤ (size : Int) := by omega
  have i4 : (size : Int) ≤ 1024 := by omega
  have NB := Lib.hid (fun W hb => OwnD.new w n size W hb h1 (by omega) h3 h4)
  have RN := Lib.hid (fun W => rnew_at n size (by omega) h4 W)
  have HA := Lib.hid hA
  clear h1 h2 h3 h4 hA
  go_enter Try.func3, Try.ntmps3
  go_wp2_with fail
  refine (awake_any _).mono ?_
  rintro e w1 ⟨rfl, b1⟩
  have NC := Lib.hid (NB.out w1 b1)
  clear b1 NB
  go_wp2_with fail
  refine NC.out.mono ?_
  rintro e w2 ⟨p, rfl, o2⟩
  have O2 := Lib.hid o2
  clear o2 NC
  go_wp2_with fail
  refine (RN.out w2).mono ?_
  rintro e w3 ⟨rfl, lv, hr, hb⟩
  have B3 := Lib.hid (Both.start O2.out hr hb)
  generalize w2.heap.size = q at *
  clear hr hb O2 RN
  go_wp2_with fail
  go_loopg [10, 11, 12, 13, 14] 101 (fun j s10 s11 s12 s13 s14 wr => ∃ (i : Nat) (m : Mod) (F : List Nat) (r : Rf), i ≤ xs.length ∧ i ≤ 100 ∧ 100 < i + j ∧ s10 = .int .i64 (i : Nat) ∧ Play n size i m ∧ Both w wr p q F m r)
  case atStart =>
    obtain ⟨F, r, hb⟩ := B3.out
    exact ⟨0, _, F, r, by omega, by omega, by omega, rfl, Play.new _ _, hb⟩
  case round =>
    obtain ⟨i, m, F, r, hi, hi2, hj, rfl, hP, hB⟩ := hrel
    clear B3
    have HP := Lib.hid hP
    have HB := Lib.hid hB
    clear hP hB
    by_cases h1 : i < xs.length
    · have h1' : (i : Int) < (xs.length : Int) := by omega
      by_cases h2 : i < 100
      · have h2' : (i : Int) < 100 := by omega
        obtain ⟨ab, off, rfl, hab, c0, c1, c2, c3⟩ := (HA.out.below HB.out.bel).cell i h1
        by_cases h3 : 200 < xs[i].b.length ∧ xs[i].b.length ≤ 1024
        · obtain ⟨h3, h4⟩ := h3
          have h3' : (200 : Int) < (xs[i].b.length : Int) := by omega
          have h4' : (xs[i].b.length : Int) ≤ 1024 := by omega
          go_wp2_with fail
          go_roundg (100 - i)
          case measure => omega
          case rel => exact ⟨i + 1, m, F, r, by omega, by omega, by omega, rfl, HP.out.up, HB.out⟩
        · go_upto_region 12 with fail
          go_cut [79] (fun s79 wc => s79 = .bool false ∧ wc = wr)
          case first =>
            by_cases h4 : 200 < xs[i].b.length
            · have h4' : (200 : Int) < (xs[i].b.length : Int) := by omega
              have h5' : ¬ (xs[i].b.length : Int) ≤ 1024 := by omega
              go_wp2_with fail
              go_meet
              case rel => exact ⟨rfl, rfl⟩
            · have h4' : ¬ (200 : Int) < (xs[i].b.length : Int) := by omega
              go_wp2_with fail
              go_meet
              case rel => exact ⟨rfl, rfl⟩
          case rest =>
            obtain ⟨rfl, rfl⟩ := hcut
            have PC := Lib.hid (plays_call HB.out (HP.out.okay hi2 (by omega) (by omega) (by omega)) HP.out (HA.out.bytes i h1).1 (HA.out.far h1) (HA.out.fits i h1).2.1 (HA.out.fits i h1).2.2)
            have HP2 := Lib.hid (HP.out.step xs[i] (HA.out.fits i h1).2.1)
            go_upto_region 13 with fail
            go_cut [127] (fun s127 wc => s127 = .bool false ∧ ∃ F' r', Both w wc p q F' (stepM m xs[i]) r')
            case first =>
              refine wp_region_held_drew (S := fun _ => True) (by kernel_rfl) trivial (fun _ => ?_)
              refine wpAnyH_take (i := 0) (oi := { dst := some 80, op := Op.move (Operand.tmp 7), type := 24, pos := "law.go:78", after := #[], guard := none }) (v := ?_) rfl (by kernel_rfl) (by kernel_rfl) (by kernel_rfl) (fun _ _ _ h => h) (Or.inl ⟨by rfl, ?_⟩) trivial ?_
              rotate_left
              · (intro w _; go_simp; try with_reducible rfl)
              simp only [Act.put, List.setIfInBounds_toArray, List.set_cons_zero, List.set_cons_succ]
              refine wpAnyH_take (i := 1) (oi := { dst := some 81, op := Op.move (Operand.tmp 9), type := 28, pos := "law.go:78", after := #[], guard := none }) (v := ?_) rfl (by kernel_rfl) (by kernel_rfl) (by kernel_rfl) (fun _ _ _ h => h) (Or.inl ⟨by rfl, ?_⟩) trivial ?_
              rotate_left
              · (intro w _; go_simp; try with_reducible rfl)
              simp only [Act.put, List.setIfInBounds_toArray, List.set_cons_zero, List.set_cons_succ]
              refine wpAnyH_take (i := 2) (oi := { dst := some 82, op := Op.move (Operand.tmp 2), type := 22, pos := "law.go:78", after := #[], guard := none }) (v := ?_) rfl (by kernel_rfl) (by kernel_rfl) (by kernel_rfl) (fun _ _ _ h => h) (Or.inl ⟨by rfl, ?_⟩) trivial ?_
              rotate_left
              · (intro w _; go_simp; try with_reducible rfl)
              simp only [Act.put, List.setIfInBounds_toArray, List.set_cons_zero, List.set_cons_succ]
              refine wpAnyH_take (i := 3) (oi := { dst := some 83, op := Op.move (Operand.tmp 10), type := 3, pos := "law.go:78", after := #[], guard := none }) (v := ?_) rfl (by kernel_rfl) (by kernel_rfl) (by kernel_rfl) (fun _ _ _ h => h) (Or.inl ⟨by rfl, ?_⟩) trivial ?_
              rotate_left
              · (intro w _; go_simp; try with_reducible rfl)
              simp only [Act.put, List.setIfInBounds_toArray, List.set_cons_zero, List.set_cons_succ]
              refine wpAnyH_take (i := 4) (oi := { dst := some 84, op := Op.indexAddr 22 (Operand.tmp 82) (Operand.tmp 83), type := 0, pos := "law.go:78", after := #[{ on := 2, ground := Ground.data }, { on := 3, ground := Ground.data }], guard := none }) (v := ?_) rfl (by kernel_rfl) (by kernel_rfl) (by kernel_rfl) (fun _ _ _ h => h) (Or.inl ⟨by rfl, ?_⟩) trivial ?_
              rotate_left
              · (intro w _; go_simp; try with_reducible rfl)
              simp only [Act.put, List.setIfInBounds_toArray, List.set_cons_zero, List.set_cons_succ]
              refine wpAnyH_ready (rs := [5]) (by kernel_rfl) (by simp) ?_
              refine AllReadyH.cons (o := { dst := some 85, op := Op.load 33 (Operand.tmp 84), type := 33, pos := "law.go:78", after := #[{ on := 4, ground := Ground.data }], guard := none }) rfl (fun K hK => ?_) AllReadyH.nil
              go_simp
              refine hK.out _ _ trivial (fun _ => ?_)
              clear hK K
              try simp only [Act.put, List.setIfInBounds_toArray, List.set_cons_zero, List.set_cons_succ]
              refine wpAnyH_ready (rs := [6]) (by kernel_rfl) (by simp) ?_
              refine AllReadyH.cons (o := { dst := some 86, op := Op.call { callee := Callee.value (Operand.func 11), args := #[Operand.tmp 80, Operand.tmp 81, Operand.tmp 85], argTypes := #[24, 28, 33] }, type := 4, pos := "law.go:78", after := #[{ on := 0, ground := Ground.data }, { on := 1, ground := Ground.data }, { on := 5, ground := Ground.data }], guard := none }) rfl (fun K hK => ?_) AllReadyH.nil
              go_simp
              with_reducible refine PC.out.mono ?_
              rintro e w4 ⟨rfl, d4, d5, ⟨A2, c2x, d2⟩, e1, e2, e3, e4, e5, FIN⟩
              go_wp2_with fail
              refine hK.out _ _ trivial (fun _ => ?_)
              clear hK K
              try simp only [Act.put, List.setIfInBounds_toArray, List.set_cons_zero, List.set_cons_succ]
              refine wpAnyH_weaken (S' := fun W => W = w4) (fun _ _ => trivial) _ _ _ _ ?_
              refine wpAnyH_take (i := 7) (oi := { dst := some 87, op := Op.unOp UnOp.not 4 (Operand.tmp 86), type := 4, pos := "law.go:78", after := #[{ on := 6, ground := Ground.data }], guard := none }) (v := ?_) rfl (by kernel_rfl) (by kernel_rfl) (by kernel_rfl) (fun _ _ _ h => h) (Or.inl ⟨by rfl, ?_⟩) rfl ?_
              rotate_left
              · (intro w hw; cases hw; go_simp; try with_reducible rfl)
              simp only [Act.put, List.setIfInBounds_toArray, List.set_cons_zero, List.set_cons_succ]
              refine wpAnyH_take (i := 8) (oi := { dst := some 88, op := Op.move (Operand.tmp 87), type := 4, pos := "law.go:78", after := #[{ on := 7, ground := Ground.data }, { on := 6, ground := Ground.chain }], guard := none }) (v := ?_) rfl (by kernel_rfl) (by kernel_rfl) (by kernel_rfl) (fun _ _ _ h => h) (Or.inl ⟨by rfl, ?_⟩) rfl ?_
              rotate_left
              · (intro w hw; cases hw; go_simp; try with_reducible rfl)
              simp only [Act.put, List.setIfInBounds_toArray, List.set_cons_zero, List.set_cons_succ]
              refine wpAnyH_take (i := 9) (oi := { dst := some 89, op := Op.move (Operand.tmp 7), type := 24, pos := "law.go:78", after := #[{ on := 8, ground := Ground.guard }], guard := some (8, false) }) (v := ?_) rfl (by kernel_rfl) (by kernel_rfl) (by kernel_rfl) (fun _ _ _ h => h) (Or.inl ⟨by rfl, ?_⟩) rfl ?_
              rotate_left
              · (intro w hw; cases hw; go_simp; try with_reducible rfl)
              simp only [Act.put, List.setIfInBounds_toArray, List.set_cons_zero, List.set_cons_succ]
              refine wpAnyH_take (i := 11) (oi := { dst := some 91, op := Op.move (Operand.tmp 9), type := 28, pos := "law.go:78", after := #[{ on := 8, ground := Ground.guard }], guard := some (8, false) }) (v := ?_) rfl (by kernel_rfl) (by kernel_rfl) (by kernel_rfl) (fun _ _ _ h => h) (Or.inl ⟨by rfl, ?_⟩) rfl ?_
              rotate_left
              · (intro w hw; cases hw; go_simp; try with_reducible rfl)
              simp only [Act.put, List.setIfInBounds_toArray, List.set_cons_zero, List.set_cons_succ]
              refine wpAnyH_take (i := 12) (oi := { dst := some 92, op := Op.nilCheck (Operand.tmp 91), type := 0, pos := "law.go:78", after := #[{ on := 11, ground := Ground.data }, { on := 8, ground := Ground.guard }], guard := some (8, false) }) (v := ?_) rfl (by kernel_rfl) (by kernel_rfl) (by kernel_rfl) (fun _ _ _ h => h) (Or.inl ⟨by rfl, ?_⟩) rfl ?_
              rotate_left
              · (intro w hw; cases hw; go_simp; try with_reducible rfl)
              simp only [Act.put, List.setIfInBounds_toArray, List.set_cons_zero, List.set_cons_succ]
              refine wpAnyH_take (i := 13) (oi := { dst := some 93, op := Op.fieldAddr 38 (Operand.tmp 92) 4, type := 0, pos := "law.go:78", after := #[{ on := 12, ground := Ground.data }, { on := 8, ground := Ground.guard }], guard := some (8, false) }) (v := ?_) rfl (by kernel_rfl) (by kernel_rfl) (by kernel_rfl) (fun _ _ _ h => h) (Or.inl ⟨by rfl, ?_⟩) rfl ?_
              rotate_left
              · (intro w hw; cases hw; go_simp; try with_reducible rfl)
              simp only [Act.put, List.setIfInBounds_toArray, List.set_cons_zero, List.set_cons_succ]
              refine wpAnyH_take (i := 14) (oi := { dst := some 94, op := Op.load 4 (Operand.tmp 93), type := 4, pos := "law.go:78", after := #[{ on := 13, ground := Ground.data }, { on := 8, ground := Ground.guard }], guard := some (8, false) }) (v := ?_) rfl (by kernel_rfl) (by kernel_rfl) (by kernel_rfl) (fun _ _ _ h => h) (Or.inl ⟨by rfl, ?_⟩) rfl ?_
              rotate_left
              · (intro w hw; cases hw; go_simp; try with_reducible rfl)
              simp only [Act.put, List.setIfInBounds_toArray, List.set_cons_zero, List.set_cons_succ]
              refine wpAnyH_ready (rs := [10]) (by kernel_rfl) (by simp) ?_
              refine AllReadyH.cons (o := { dst := some 90, op := Op.call { callee := Callee.value (Operand.func 12), args := #[Operand.tmp 89], argTypes := #[24] }, type := 4, pos := "law.go:78", after := #[{ on := 9, ground := Ground.data }, { on := 8, ground := Ground.chain }, { on := 8, ground := Ground.guard }], guard := some (8, false) }) rfl (fun K hK => ?_) AllReadyH.nil
              go_simp
              with_reducible refine e1.out.mono ?_
              rintro e w5 ⟨rfl, hw5⟩
              cases hw5
              go_wp2_with fail
              refine hK.out _ _ rfl (fun _ => ?_)
              clear hK K
              try simp only [Act.put, List.setIfInBounds_toArray, List.set_cons_zero, List.set_cons_succ]
              refine wpAnyH_take (i := 15) (oi := { dst := some 95, op := Op.binOp BinOp.neq 4 (Operand.tmp 90) (Operand.tmp 94) 4, type := 4, pos := "law.go:78", after := #[{ on := 10, ground := Ground.data }, { on := 14, ground := Ground.data }, { on := 8, ground := Ground.guard }], guard := some (8, false) }) (v := ?_) rfl (by kernel_rfl) (by kernel_rfl) (by kernel_rfl) (fun _ _ _ h => h) (Or.inl ⟨by rfl, ?_⟩) rfl ?_
              rotate_left
              · (intro w hw; cases hw; go_simp; try with_reducible rfl)
              simp only [Act.put, List.setIfInBounds_toArray, List.set_cons_zero, List.set_cons_succ]
              refine wpAnyH_take (i := 16) (oi := { dst := some 96, op := Op.pick (Operand.tmp 88) (Operand.const (Value.bool true)) (Operand.tmp 95), type := 4, pos := "law.go:78", after := #[{ on := 8, ground := Ground.data }, { on := 15, ground := Ground.data }], guard := none }) (v := ?_) rfl (by kernel_rfl) (by kernel_rfl) (by kernel_rfl) (fun _ _ _ h => h) (Or.inl ⟨by rfl, ?_⟩) rfl ?_
              rotate_left
              · (intro w hw; cases hw; go_simp; try with_reducible rfl)
              simp only [Act.put, List.setIfInBounds_toArray, List.set_cons_zero, List.set_cons_succ]
              refine wpAnyH_take (i := 17) (oi := { dst := some 97, op := Op.move (Operand.tmp 96), type := 4, pos := "law.go:78", after := #[{ on := 16, ground := Ground.data }, { on := 10, ground := Ground.chain }], guard := none }) (v := ?_) rfl (by kernel_rfl) (by kernel_rfl) (by kernel_rfl) (fun _ _ _ h => h) (Or.inl ⟨by rfl, ?_⟩) rfl ?_
              rotate_left
              · (intro w hw; cases hw; go_simp; try with_reducible rfl)
              simp only [Act.put, List.setIfInBounds_toArray, List.set_cons_zero, List.set_cons_succ]
              refine wpAnyH_take (i := 18) (oi := { dst := some 98, op := Op.move (Operand.tmp 7), type := 24, pos := "law.go:78", after := #[{ on := 17, ground := Ground.guard }], guard := some (17, false) }) (v := ?_) rfl (by kernel_rfl) (by kernel_rfl) (by kernel_rfl) (fun _ _ _ h => h) (Or.inl ⟨by rfl, ?_⟩) rfl ?_
              rotate_left
              · (intro w hw; cases hw; go_simp; try with_reducible rfl)
              simp only [Act.put, List.setIfInBounds_toArray, List.set_cons_zero, List.set_cons_succ]
              refine wpAnyH_take (i := 20) (oi := { dst := some 100, op := Op.move (Operand.tmp 9), type := 28, pos := "law.go:78", after := #[{ on := 17, ground := Ground.guard }], guard := some (17, false) }) (v := ?_) rfl (by kernel_rfl) (by kernel_rfl) (by kernel_rfl) (fun _ _ _ h => h) (Or.inl ⟨by rfl, ?_⟩) rfl ?_
              rotate_left
              · (intro w hw; cases hw; go_simp; try with_reducible rfl)
              simp only [Act.put, List.setIfInBounds_toArray, List.set_cons_zero, List.set_cons_succ]
              refine wpAnyH_take (i := 21) (oi := { dst := some 101, op := Op.nilCheck (Operand.tmp 100), type := 0, pos := "law.go:78", after := #[{ on := 20, ground := Ground.data }, { on := 17, ground := Ground.guard }], guard := some (17, false) }) (v := ?_) rfl (by kernel_rfl) (by kernel_rfl) (by kernel_rfl) (fun _ _ _ h => h) (Or.inl ⟨by rfl, ?_⟩) rfl ?_
              rotate_left
              · (intro w hw; cases hw; go_simp; try with_reducible rfl)
              simp only [Act.put, List.setIfInBounds_toArray, List.set_cons_zero, List.set_cons_succ]
              refine wpAnyH_take (i := 22) (oi := { dst := some 102, op := Op.fieldAddr 38 (Operand.tmp 101) 5, type := 0, pos := "law.go:78", after := #[{ on := 21, ground := Ground.data }, { on := 17, ground := Ground.guard }], guard := some (17, false) }) (v := ?_) rfl (by kernel_rfl) (by kernel_rfl) (by kernel_rfl) (fun _ _ _ h => h) (Or.inl ⟨by rfl, ?_⟩) rfl ?_
              rotate_left
              · (intro w hw; cases hw; go_simp; try with_reducible rfl)
              simp only [Act.put, List.setIfInBounds_toArray, List.set_cons_zero, List.set_cons_succ]
              refine wpAnyH_take (i := 23) (oi := { dst := some 103, op := Op.load 3 (Operand.tmp 102), type := 3, pos := "law.go:78", after := #[{ on := 22, ground := Ground.data }, { on := 17, ground := Ground.guard }], guard := some (17, false) }) (v := ?_) rfl (by kernel_rfl) (by kernel_rfl) (by kernel_rfl) (fun _ _ _ h => h) (Or.inl ⟨by rfl, ?_⟩) rfl ?_
              rotate_left
              · (intro w hw; cases hw; go_simp; try with_reducible rfl)
              simp only [Act.put, List.setIfInBounds_toArray, List.set_cons_zero, List.set_cons_succ]
              refine wpAnyH_ready (rs := [19]) (by kernel_rfl) (by simp) ?_
              refine AllReadyH.cons (o := { dst := some 99, op := Op.call { callee := Callee.value (Operand.func 13), args := #[Operand.tmp 98], argTypes := #[24] }, type := 3, pos := "law.go:78", after := #[{ on := 18, ground := Ground.data }, { on := 17, ground := Ground.chain }, { on := 17, ground := Ground.guard }], guard := some (17, false) }) rfl (fun K hK => ?_) AllReadyH.nil
              go_simp
              with_reducible refine e2.out.mono ?_
              rintro e w5 ⟨rfl, hw5⟩
              cases hw5
              go_wp2_with fail
              refine hK.out _ _ rfl (fun _ => ?_)
              clear hK K
              try simp only [Act.put, List.setIfInBounds_toArray, List.set_cons_zero, List.set_cons_succ]
              refine wpAnyH_take (i := 24) (oi := { dst := some 104, op := Op.binOp BinOp.neq 3 (Operand.tmp 99) (Operand.tmp 103) 3, type := 4, pos := "law.go:78", after := #[{ on := 19, ground := Ground.data }, { on := 23, ground := Ground.data }, { on := 17, ground := Ground.guard }], guard := some (17, false) }) (v := ?_) rfl (by kernel_rfl) (by kernel_rfl) (by kernel_rfl) (fun _ _ _ h => h) (Or.inl ⟨by rfl, ?_⟩) rfl ?_
              rotate_left
              · (intro w hw; cases hw; go_simp; try with_reducible rfl)
              simp only [Act.put, List.setIfInBounds_toArray, List.set_cons_zero, List.set_cons_succ]
              refine wpAnyH_take (i := 25) (oi := { dst := some 105, op := Op.pick (Operand.tmp 97) (Operand.const (Value.bool true)) (Operand.tmp 104), type := 4, pos := "law.go:78", after := #[{ on := 17, ground := Ground.data }, { on := 24, ground := Ground.data }], guard := none }) (v := ?_) rfl (by kernel_rfl) (by kernel_rfl) (by kernel_rfl) (fun _ _ _ h => h) (Or.inl ⟨by rfl, ?_⟩) rfl ?_
              rotate_left
              · (intro w hw; cases hw; go_simp; try with_reducible rfl)
              simp only [Act.put, List.setIfInBounds_toArray, List.set_cons_zero, List.set_cons_succ]
              refine wpAnyH_take (i := 26) (oi := { dst := some 106, op := Op.move (Operand.tmp 105), type := 4, pos := "law.go:78", after := #[{ on := 25, ground := Ground.data }, { on := 19, ground := Ground.chain }], guard := none }) (v := ?_) rfl (by kernel_rfl) (by kernel_rfl) (by kernel_rfl) (fun _ _ _ h => h) (Or.inl ⟨by rfl, ?_⟩) rfl ?_
              rotate_left
              · (intro w hw; cases hw; go_simp; try with_reducible rfl)
              simp only [Act.put, List.setIfInBounds_toArray, List.set_cons_zero, List.set_cons_succ]
              refine wpAnyH_take (i := 27) (oi := { dst := some 107, op := Op.move (Operand.tmp 7), type := 24, pos := "law.go:78", after := #[{ on := 26, ground := Ground.guard }], guard := some (26, false) }) (v := ?_) rfl (by kernel_rfl) (by kernel_rfl) (by kernel_rfl) (fun _ _ _ h => h) (Or.inl ⟨by rfl, ?_⟩) rfl ?_
              rotate_left
              · (intro w hw; cases hw; go_simp; try with_reducible rfl)
              simp only [Act.put, List.setIfInBounds_toArray, List.set_cons_zero, List.set_cons_succ]
              refine wpAnyH_take (i := 29) (oi := { dst := some 109, op := Op.move (Operand.tmp 9), type := 28, pos := "law.go:78", after := #[{ on := 26, ground := Ground.guard }], guard := some (26, false) }) (v := ?_) rfl (by kernel_rfl) (by kernel_rfl) (by kernel_rfl) (fun _ _ _ h => h) (Or.inl ⟨by rfl, ?_⟩) rfl ?_
              rotate_left
              · (intro w hw; cases hw; go_simp; try with_reducible rfl)
              simp only [Act.put, List.setIfInBounds_toArray, List.set_cons_zero, List.set_cons_succ]
              refine wpAnyH_take (i := 30) (oi := { dst := some 110, op := Op.nilCheck (Operand.tmp 109), type := 0, pos := "law.go:78", after := #[{ on := 29, ground := Ground.data }, { on := 26, ground := Ground.guard }], guard := some (26, false) }) (v := ?_) rfl (by kernel_rfl) (by kernel_rfl) (by kernel_rfl) (fun _ _ _ h => h) (Or.inl ⟨by rfl, ?_⟩) rfl ?_
              rotate_left
              · (intro w hw; cases hw; go_simp; try with_reducible rfl)
              simp only [Act.put, List.setIfInBounds_toArray, List.set_cons_zero, List.set_cons_succ]
              refine wpAnyH_take (i := 31) (oi := { dst := some 111, op := Op.fieldAddr 38 (Operand.tmp 110) 2, type := 0, pos := "law.go:78", after := #[{ on := 30, ground := Ground.data }, { on := 26, ground := Ground.guard }], guard := some (26, false) }) (v := ?_) rfl (by kernel_rfl) (by kernel_rfl) (by kernel_rfl) (fun _ _ _ h => h) (Or.inl ⟨by rfl, ?_⟩) rfl ?_
              rotate_left
              · (intro w hw; cases hw; go_simp; try with_reducible rfl)
              simp only [Act.put, List.setIfInBounds_toArray, List.set_cons_zero, List.set_cons_succ]
              refine wpAnyH_take (i := 32) (oi := { dst := some 112, op := Op.load 36 (Operand.tmp 111), type := 36, pos := "law.go:78", after := #[{ on := 31, ground := Ground.data }, { on := 26, ground := Ground.guard }], guard := some (26, false) }) (v := ?_) rfl (by kernel_rfl) (by kernel_rfl) (by kernel_rfl) (fun _ _ _ h => h) (Or.inl ⟨by rfl, ?_⟩) rfl ?_
              rotate_left
              · (intro w hw; cases hw; go_simp; try with_reducible rfl)
              simp only [Act.put, List.setIfInBounds_toArray, List.set_cons_zero, List.set_cons_succ]
              refine wpAnyH_take (i := 33) (oi := { dst := some 113, op := Op.call { callee := Callee.builtin Builtin.len, args := #[Operand.tmp 112], argTypes := #[36] }, type := 3, pos := "law.go:78", after := #[{ on := 32, ground := Ground.data }, { on := 26, ground := Ground.guard }], guard := some (26, false) }) (v := ?_) rfl (by kernel_rfl) (by kernel_rfl) (by kernel_rfl) (fun _ _ _ h => h) (Or.inl ⟨by rfl, ?_⟩) rfl ?_
              rotate_left
              · (intro w hw; cases hw; go_simp; try with_reducible rfl)
              simp only [Act.put, List.setIfInBounds_toArray, List.set_cons_zero, List.set_cons_succ]
              refine wpAnyH_ready (rs := [28]) (by kernel_rfl) (by simp) ?_
              refine AllReadyH.cons (o := { dst := some 108, op := Op.call { callee := Callee.value (Operand.func 14), args := #[Operand.tmp 107], argTypes := #[24] }, type := 3, pos := "law.go:78", after := #[{ on := 27, ground := Ground.data }, { on := 26, ground := Ground.chain }, { on := 26, ground := Ground.guard }], guard := some (26, false) }) rfl (fun K hK => ?_) AllReadyH.nil
              go_simp
              with_reducible refine e3.out.mono ?_
              rintro e w5 ⟨rfl, hw5⟩
              cases hw5
              go_wp2_with fail
              refine hK.out _ _ rfl (fun _ => ?_)
              clear hK K
              try simp only [Act.put, List.setIfInBounds_toArray, List.set_cons_zero, List.set_cons_succ]
              refine wpAnyH_take (i := 34) (oi := { dst := some 114, op := Op.binOp BinOp.neq 3 (Operand.tmp 108) (Operand.tmp 113) 3, type := 4, pos := "law.go:78", after := #[{ on := 28, ground := Ground.data }, { on := 33, ground := Ground.data }, { on := 26, ground := Ground.guard }], guard := some (26, false) }) (v := ?_) rfl (by kernel_rfl) (by kernel_rfl) (by kernel_rfl) (fun _ _ _ h => h) (Or.inl ⟨by rfl, ?_⟩) rfl ?_
              rotate_left
              · (intro w hw; cases hw; go_simp; try with_reducible rfl)
              simp only [Act.put, List.setIfInBounds_toArray, List.set_cons_zero, List.set_cons_succ]
              refine wpAnyH_take (i := 35) (oi := { dst := some 115, op := Op.pick (Operand.tmp 106) (Operand.const (Value.bool true)) (Operand.tmp 114), type := 4, pos := "law.go:78", after := #[{ on := 26, ground := Ground.data }, { on := 34, ground := Ground.data }], guard := none }) (v := ?_) rfl (by kernel_rfl) (by kernel_rfl) (by kernel_rfl) (fun _ _ _ h => h) (Or.inl ⟨by rfl, ?_⟩) rfl ?_
              rotate_left
              · (intro w hw; cases hw; go_simp; try with_reducible rfl)
              simp only [Act.put, List.setIfInBounds_toArray, List.set_cons_zero, List.set_cons_succ]
              refine wpAnyH_take (i := 36) (oi := { dst := some 116, op := Op.move (Operand.tmp 115), type := 4, pos := "law.go:78", after := #[{ on := 35, ground := Ground.data }, { on := 28, ground := Ground.chain }], guard := none }) (v := ?_) rfl (by kernel_rfl) (by kernel_rfl) (by kernel_rfl) (fun _ _ _ h => h) (Or.inl ⟨by rfl, ?_⟩) rfl ?_
              rotate_left
              · (intro w hw; cases hw; go_simp; try with_reducible rfl)
              simp only [Act.put, List.setIfInBounds_toArray, List.set_cons_zero, List.set_cons_succ]
              refine wpAnyH_take (i := 37) (oi := { dst := some 117, op := Op.move (Operand.tmp 7), type := 24, pos := "law.go:78", after := #[{ on := 36, ground := Ground.guard }], guard := some (36, false) }) (v := ?_) rfl (by kernel_rfl) (by kernel_rfl) (by kernel_rfl) (fun _ _ _ h => h) (Or.inl ⟨by rfl, ?_⟩) rfl ?_
              rotate_left
              · (intro w hw; cases hw; go_simp; try with_reducible rfl)
              simp only [Act.put, List.setIfInBounds_toArray, List.set_cons_zero, List.set_cons_succ]
              refine wpAnyH_take (i := 39) (oi := { dst := some 119, op := Op.move (Operand.tmp 0), type := 3, pos := "law.go:78", after := #[{ on := 36, ground := Ground.guard }], guard := some (36, false) }) (v := ?_) rfl (by kernel_rfl) (by kernel_rfl) (by kernel_rfl) (fun _ _ _ h => h) (Or.inl ⟨by rfl, ?_⟩) rfl ?_
              rotate_left
              · (intro w hw; cases hw; go_simp; try with_reducible rfl)
              simp only [Act.put, List.setIfInBounds_toArray, List.set_cons_zero, List.set_cons_succ]
              refine wpAnyH_ready (rs := [38]) (by kernel_rfl) (by simp) ?_
              refine AllReadyH.cons (o := { dst := some 118, op := Op.call { callee := Callee.value (Operand.func 15), args := #[Operand.tmp 117], argTypes := #[24] }, type := 3, pos := "law.go:78", after := #[{ on := 37, ground := Ground.data }, { on := 36, ground := Ground.chain }, { on := 36, ground := Ground.guard }], guard := some (36, false) }) rfl (fun K hK => ?_) AllReadyH.nil
              go_simp
              with_reducible refine e4.out.mono ?_
              rintro e w5 ⟨rfl, hw5⟩
              cases hw5
              go_wp2_with fail
              refine hK.out _ _ rfl (fun _ => ?_)
              clear hK K
              try simp only [Act.put, List.setIfInBounds_toArray, List.set_cons_zero, List.set_cons_succ]
              refine wpAnyH_take (i := 40) (oi := { dst := some 120, op := Op.binOp BinOp.neq 3 (Operand.tmp 118) (Operand.tmp 119) 3, type := 4, pos := "law.go:78", after := #[{ on := 38, ground := Ground.data }, { on := 39, ground := Ground.data }, { on := 36, ground := Ground.guard }], guard := some (36, false) }) (v := ?_) rfl (by kernel_rfl) (by kernel_rfl) (by kernel_rfl) (fun _ _ _ h => h) (Or.inl ⟨by rfl, ?_⟩) rfl ?_
              rotate_left
              · (intro w hw; cases hw; go_simp; try with_reducible rfl)
              simp only [Act.put, List.setIfInBounds_toArray, List.set_cons_zero, List.set_cons_succ]
              refine wpAnyH_take (i := 41) (oi := { dst := some 121, op := Op.pick (Operand.tmp 116) (Operand.const (Value.bool true)) (Operand.tmp 120), type := 4, pos := "law.go:78", after := #[{ on := 36, ground := Ground.data }, { on := 40, ground := Ground.data }], guard := none }) (v := ?_) rfl (by kernel_rfl) (by kernel_rfl) (by kernel_rfl) (fun _ _ _ h => h) (Or.inl ⟨by rfl, ?_⟩) rfl ?_
              rotate_left
              · (intro w hw; cases hw; go_simp; try with_reducible rfl)
              simp only [Act.put, List.setIfInBounds_toArray, List.set_cons_zero, List.set_cons_succ]
              refine wpAnyH_take (i := 42) (oi := { dst := some 122, op := Op.move (Operand.tmp 121), type := 4, pos := "law.go:78", after := #[{ on := 41, ground := Ground.data }, { on := 38, ground := Ground.chain }], guard := none }) (v := ?_) rfl (by kernel_rfl) (by kernel_rfl) (by kernel_rfl) (fun _ _ _ h => h) (Or.inl ⟨by rfl, ?_⟩) rfl ?_
              rotate_left
              · (intro w hw; cases hw; go_simp; try with_reducible rfl)
              simp only [Act.put, List.setIfInBounds_toArray, List.set_cons_zero, List.set_cons_succ]
              refine wpAnyH_take (i := 43) (oi := { dst := some 123, op := Op.move (Operand.tmp 7), type := 24, pos := "law.go:78", after := #[{ on := 42, ground := Ground.guard }], guard := some (42, false) }) (v := ?_) rfl (by kernel_rfl) (by kernel_rfl) (by kernel_rfl) (fun _ _ _ h => h) (Or.inl ⟨by rfl, ?_⟩) rfl ?_
              rotate_left
              · (intro w hw; cases hw; go_simp; try with_reducible rfl)
              simp only [Act.put, List.setIfInBounds_toArray, List.set_cons_zero, List.set_cons_succ]
              refine wpAnyH_take (i := 45) (oi := { dst := some 125, op := Op.move (Operand.tmp 1), type := 3, pos := "law.go:78", after := #[{ on := 42, ground := Ground.guard }], guard := some (42, false) }) (v := ?_) rfl (by kernel_rfl) (by kernel_rfl) (by kernel_rfl) (fun _ _ _ h => h) (Or.inl ⟨by rfl, ?_⟩) rfl ?_
              rotate_left
              · (intro w hw; cases hw; go_simp; try with_reducible rfl)
              simp only [Act.put, List.setIfInBounds_toArray, List.set_cons_zero, List.set_cons_succ]
              refine wpAnyH_ready (rs := [44]) (by kernel_rfl) (by simp) ?_
              refine AllReadyH.cons (o := { dst := some 124, op := Op.call { callee := Callee.value (Operand.func 16), args := #[Operand.tmp 123], argTypes := #[24] }, type := 3, pos := "law.go:78", after := #[{ on := 43, ground := Ground.data }, { on := 42, ground := Ground.chain }, { on := 42, ground := Ground.guard }], guard := some (42, false) }) rfl (fun K hK => ?_) AllReadyH.nil
              go_simp
              with_reducible refine e5.out.mono ?_
              rintro e w5 ⟨rfl, hw5⟩
              cases hw5
              go_wp2_with fail
              refine hK.out _ _ rfl (fun _ => ?_)
              clear hK K
              try simp only [Act.put, List.setIfInBounds_toArray, List.set_cons_zero, List.set_cons_succ]
              refine wpAnyH_take (i := 46) (oi := { dst := some 126, op := Op.binOp BinOp.neq 3 (Operand.tmp 124) (Operand.tmp 125) 3, type := 4, pos := "law.go:78", after := #[{ on := 44, ground := Ground.data }, { on := 45, ground := Ground.data }, { on := 42, ground := Ground.guard }], guard := some (42, false) }) (v := ?_) rfl (by kernel_rfl) (by kernel_rfl) (by kernel_rfl) (fun _ _ _ h => h) (Or.inl ⟨by rfl, ?_⟩) rfl ?_
              rotate_left
              · (intro w hw; cases hw; go_simp; try with_reducible rfl)
              simp only [Act.put, List.setIfInBounds_toArray, List.set_cons_zero, List.set_cons_succ]
              refine wpAnyH_take (i := 47) (oi := { dst := some 127, op := Op.pick (Operand.tmp 122) (Operand.const (Value.bool true)) (Operand.tmp 126), type := 4, pos := "law.go:78", after := #[{ on := 42, ground := Ground.data }, { on := 46, ground := Ground.data }], guard := none }) (v := ?_) rfl (by kernel_rfl) (by kernel_rfl) (by kernel_rfl) (fun _ _ _ h => h) (Or.inl ⟨by rfl, ?_⟩) rfl ?_
              rotate_left
              · (intro w hw; cases hw; go_simp; try with_reducible rfl)
              simp only [Act.put, List.setIfInBounds_toArray, List.set_cons_zero, List.set_cons_succ]
              refine wpAnyH_done (by kernel_rfl) ?_ _
              clear d4 d5 d2 e1 e2 e3 e4 e5
              go_wp2_with fail
              go_meet
              case rel => exact ⟨by first | rfl | simp, FIN.out⟩
            case rest =>
              obtain ⟨rfl, F2, r2, hb2⟩ := hcut
              clear PC HB HP h3
              generalize stepM m xs[i] = m2 at *
              have ok2 := HP2.out.n
              have hse := seen_at hb2.rf (by rw [hb2.same.n, ok2]; omega) ones (by decide)
              rw [hb2.q] at hse
              have SE := Lib.hid hse
              have HB2 := Lib.hid hb2
              clear hse hb2 c0 c1 c2 c3
              go_wp2_with fail
              refine SE.out.mono ?_
              rintro e w5 ⟨v, rfl, hr, hbel⟩
              obtain ⟨A5, c5, ev, hc5, hz⟩ := hr.shape
              rw [seenR_length, HB2.out.same.n, HP2.out.n] at ev hc5
              subst ev
              have HB5 := Lib.hid (HB2.out.below hbel)
              have R5 := Lib.hid hr
              have hc5' : (n : Int) ≤ (c5 : Int) := by omega
              clear SE HB2 hr hbel hz hc5
              go_wp2_with fail
              go_loopg [12, 13, 14] (n + 1) (fun j s12 s13 s14 wi => ∃ k : Nat, k ≤ n ∧ n < k + j ∧ s12 = .int .i64 (k : Nat) ∧ Below w5.heap.size w5 wi)
              case atStart => exact ⟨0, by omega, by omega, rfl, Below.refl _ _⟩
              case round =>
                obtain ⟨k, hk, hj3, rfl, hbi⟩ := hrel
                have HBI := Lib.hid hbi
                have HBB := Lib.hid (HB5.out.below hbi)
                have d4 := Whole.cell HBB.out.rf.top 4
                simp only [rcells, List.getElem?_toArray, List.getElem?_cons_zero, List.getElem?_cons_succ] at d4
                rw [HB5.out.q, HB5.out.same.dark] at d4
                clear hbi
                by_cases hend : k = n
                · have hno : ¬ (k : Int) < (n : Int) := by omega
                  go_wp2_with fail
                  go_roundg (100 - i)
                  case measure => omega
                  case rel => exact ⟨i + 1, m2, F2, r2, by omega, by omega, by omega, rfl, HP2.out, HBB.out⟩
                · have hlt : (k : Int) < (n : Int) := by omega
                  by_cases hdk : m2.dark = true
                  · rw [hdk] at d4
                    go_wp2_with fail
                    go_roundg (100 - i)
                    case measure => omega
                    case rel => exact ⟨i + 1, m2, F2, r2, by omega, by omega, by omega, rfl, HP2.out, HBB.out⟩
                  · have hdk' : m2.dark = false := by simpa using hdk
                    rw [hdk'] at d4
                    have RD := Lib.hid (HBB.out.d.read (by have := HP2.out.waits; omega) hdk' k (by rw [HP2.out.n]; omega))
                    have SN := Lib.hid (HBB.out.same.seen ones k (by rw [HP2.out.n]; omega))
                    have hsz := HP2.out.size
                    rw [hsz] at RD SN
                    clear hdk hdk' hsz
                    go_wp2_with fail
                    refine RD.out.mono ?_
                    rintro e w6 ⟨g, rfl, hg, hbb, hpl, hb6⟩
                    have CV' : ∀ N, Sem.run Try.prog (convert 30 9 (.slice (some ⟨g, 0, none⟩) size size)) (w6.drewN N) = .ok (.string (padS size (m2.cont ones k))) (w6.drewN N) := fun N => by
                      have CV := conv_bytes (hbb.holds0.below (below_drewN (Below.refl _ _) N)) size
                      rw [hpl] at CV
                      exact CV
                    have hb56 := below_next HBI.out hb6
                    have B56 := Lib.hid hb56
                    obtain ⟨A7, c7, e7, -, hcell⟩ := (R5.out.below hb56).shape
                    obtain ⟨g5, e8, -, -, hz⟩ := hcell k (by rw [seenR_length, HB5.out.same.n, HP2.out.n]; omega)
                    have e9 : A5 = A7 := by injection e7
                    rw [e8] at e9
                    subst e9
                    have SN' := SN.out
                    rw [List.getElem?_eq_getElem (by rw [seenR_length, HB5.out.same.n, HP2.out.n]; omega)] at SN'
                    injection SN' with SN'
                    rw [SN'] at hz
                    clear hg hbb hpl hb6 hb56 hcell e7 e8 SN SN' RD HBB
                    generalize padS size (m2.cont ones k) = ps at *
                    go_wp2_with fail
                    go_quiet (fail)
                    go_wp2_with fail
                    go_roundg (n - k)
                    case measure => omega
                    case rel => exact ⟨k + 1, by omega, by omega, rfl, below_drewN B56.out _⟩
      · have h2' : ¬ (i : Int) < 100 := by omega
        go_wp2_with fail
        go_ret
        exact ⟨rfl, HB.out.bel⟩
    · have h1' : ¬ (i : Int) < (xs.length : Int) := by omega
      go_wp2_with fail
      go_ret
      exact ⟨rfl, HB.out.bel⟩
end Go.Proofs.Ytmcgjlidfgbdfaa
