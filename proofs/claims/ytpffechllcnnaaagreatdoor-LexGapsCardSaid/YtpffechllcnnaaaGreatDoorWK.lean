/- LexGaps, walked. -/
import Derived.Test.YtpffechllcnnaaaGreatDoorWK0
import Derived.Deep.RegionHeld
namespace Go.Proofs.YtpffechllcnnaaaGreatDoor
open Go.RowKit Go.Lib
set_option linter.unusedVariables false

theorem pick (x : Int) (n : Nat) (h1 : 1 ≤ n) (h2 : n ≤ 5000) : ∃ k : Nat, k < n ∧ wrap64 ((IntKind.u64.wrap x).tmod n) = (k : Int) := by
  have h0 : 0 ≤ IntKind.u64.wrap x := by simp [IntKind.wrap, IntKind.bits, IntKind.signed]; omega
  rw [Int.tmod_eq_emod_of_nonneg h0]
  have a := Int.emod_nonneg (IntKind.u64.wrap x) (show (n : Int) ≠ 0 by omega)
  have b := Int.emod_lt_of_pos (IntKind.u64.wrap x) (show (0 : Int) < n by omega)
  exact ⟨((IntKind.u64.wrap x) % n).toNat, by omega, by rw [← IntWalk.i64_left, IntWalk.i64_in _ (by omega)]; omega⟩
abbrev fltObj (c p : Int) : Obj := .cells #[.int .i64 c, .int .i64 p] 26
theorem fault_kept {w W : World} (h : Below (w.drew.alloc (fltObj 0 0)).heap.size (w.drew.alloc (fltObj 0 0)) W) :
    W.cell? ⟨w.heap.size, 0, none⟩ = some (.int .i64 0) ∧ W.cell? ⟨w.heap.size, 1, none⟩ = some (.int .i64 0) ∧ W.frozen? ⟨w.heap.size, 0, none⟩ = false ∧ W.frozen? ⟨w.heap.size, 1, none⟩ = false := by
  have h0 : Whole (w.drew.alloc (fltObj 0 0)) w.heap.size 26 #[.int .i64 0, .int .i64 0] := Whole.new w.drew _ _
  have h1 : Whole W w.heap.size 26 #[.int .i64 0, .int .i64 0] := Whole.below h0 h h0.lt
  exact ⟨by rw [h1.cell 0]; rfl, by rw [h1.cell 1]; rfl, h1.frozen 0, h1.frozen 1⟩
def GapEnd (w3 : World) (B : Option Addr) (T' : List Lx.Tk) (g : Nat) (wc : World) : Prop := wc.cell? ⟨g, 0, none⟩ = some (.int .i64 0) ∧ TAt wc B T' ∧ Below w3.heap.size w3 wc
theorem gap_new {w3 W : World} {B : Option Addr} {T' : List Lx.Tk} (hT : TAt W B T') (hb : Below w3.heap.size w3 W) : GapEnd w3 B T' W.heap.size (W.alloc (fltObj 0 0)) :=
  ⟨by have h : Whole (W.alloc (fltObj 0 0)) W.heap.size 26 #[.int .i64 0, .int .i64 0] := Whole.new _ _ _
      rw [h.cell 0]; rfl, hT.below ((Below.refl _ _).alloc (Nat.le_refl _) _), hb.alloc hb.size _⟩
theorem gap_old {w3 W : World} {B : Option Addr} {T' : List Lx.Tk} (hT : TAt W B T') (hb : Below (w3.drew.alloc (fltObj 0 0)).heap.size (w3.drew.alloc (fltObj 0 0)) W) (hB : ∀ b o, B = some ⟨b, o, none⟩ → (w3.drew.alloc (fltObj 0 0)).heap.size ≤ b)
    (h3 : Below w3.heap.size w3 ((W.setCell ⟨w3.heap.size, 0, none⟩ (.int .i64 0)).setCell ⟨w3.heap.size, 1, none⟩ (.int .i64 0))) : GapEnd w3 B T' w3.heap.size ((W.setCell ⟨w3.heap.size, 0, none⟩ (.int .i64 0)).setCell ⟨w3.heap.size, 1, none⟩ (.int .i64 0)) := by
  have h0 : Whole (w3.drew.alloc (fltObj 0 0)) w3.heap.size 26 #[.int .i64 0, .int .i64 0] := Whole.new w3.drew _ _
  have h1 : Whole W w3.heap.size 26 #[.int .i64 0, .int .i64 0] := Whole.below h0 hb h0.lt
  have h2 := (h1.set_ 0 (.int .i64 0)).set_ 1 (.int .i64 0)
  have hne : ∀ b o, B = some ⟨b, o, none⟩ → b ≠ w3.heap.size := fun b o e => by
    have := hB b o e
    rw [World.size_alloc] at this
    have e2 : w3.drew.heap.size = w3.heap.size := rfl
    omega
  exact ⟨by rw [h2.cell 0]; rfl, (hT.setCell _ _ _ hne).setCell _ _ _ hne, h3⟩
set_option maxRecDepth 100000 in
set_option maxHeartbeats 2000000 in
theorem gaps_any (s note : ByteArray) (at_ : Int) (w : World) (a : Addr) (m : Int) (hv : Env w a m) (hat : -9223372036854775808 ≤ at_ ∧ at_ ≤ 9223372036854775807) (hs : s.size ≤ 2000) (hn : note.size ≤ 1000) :
    Calls Tryz.prog 5 #[.string s, .int .i64 at_, .string note] w fun e w' => e = .returned (.bool true) ∧ Below w.heap.size w w' := by
  have AW := Lib.hid (awake_any w a m hv)
  have HV := Lib.hid hv
  have hs2 : decide ((2000 : Int) < (s.size : Int)) = false := by simp; omega
  have hn2 : decide ((1000 : Int) < (note.size : Int)) = false := by simp; omega
  clear hv
  go_enter Tryz.func5, Tryz.ntmps5
  go_wp2_with fail
  refine (AW.out).mono ?_
  rintro e w1 ⟨rfl, hb1⟩
  have B1 := Lib.hid hb1
  have L1 := Lib.hid (lex_any s w1 a m (HV.out.below hb1))
  clear hb1 AW
  cases hlx : Lx.lx s.data.toList with
  | bad c p =>
    have hc := Lx.lx_bad hlx
    have L2 : Hid (Calls Tryz.prog 8 #[.string s] w1 fun e w' => LexBad w1 (c : Nat) (p : Nat) e w') := Lib.hid (by have := L1.out; rw [hlx] at this; exact this)
    have hc1 : ((c : Int) == 0) = false := by rw [beq_eq_false_iff_ne]; omega
    have hc2 : ((c : Int) != 0) = true := by rw [bne_iff_ne]; omega
    clear L1 hlx hc
    go_wp2_with fail
    refine (L2.out).mono ?_
    rintro e w2 ⟨rfl, hb2⟩
    have B2 := Lib.hid (bstep B1.out hb2)
    clear hb2 L2
    go_wp2
    go_ret
    exact ⟨rfl, B2.out.alloc B2.out.size _⟩
  | ok T =>
    have L2 : Hid (Calls Tryz.prog 8 #[.string s] w1 fun e w' => LexOk w1 T e w') := Lib.hid (by have := L1.out; rw [hlx] at this; exact this)
    obtain ⟨A0, hA0, hTl, hTat⟩ := Lx.lx_ok hlx
    have hT1 : 1 ≤ T.length := by rw [hA0]; simp
    rw [list_size] at hTl
    have HLX := Lib.hid hlx
    have HTAT := Lib.hid hTat
    clear L1 hlx hA0 hTat
    go_wp2_with fail
    refine (L2.out).mono ?_
    rintro e w2 ⟨A, cp, rfl, hcp, hT, hb2, -⟩
    have bw : Below w2.heap.size w2 (w2.alloc (fltObj 0 0)) := (Below.refl _ _).alloc (Nat.le_refl _) _
    have B3 := Lib.hid (bstep (bstep B1.out hb2) bw)
    have HT3 := Lib.hid (hT.below bw)
    clear hb2 L2 hT bw B1
    go_wp2_with fail
    clear hs2 hn2
    go_loopg [9] (note.size + 1) (fun j s9 wr => ∃ i : Nat, i ≤ note.size ∧ note.size < i + j ∧ s9 = .int .i64 (i : Nat) ∧ Hid (∀ c ∈ note.data.toList.take i, c ≠ 10) ∧ wr = w2.alloc (fltObj 0 0))
    case atStart => exact ⟨0, by omega, by omega, rfl, Lib.hid (by simp), rfl⟩
    case round =>
      obtain ⟨i, hi, hj, rfl, HI, rfl⟩ := hrel
      by_cases hlt : i < note.size
      · have hlt' : (i : Int) < (note.size : Int) := by omega
        have hi9 : (i : Int) < 1001 := by omega
        by_cases h10 : (note[i].toNat : Int) = 10
        · have b1 : ((note[i].toNat : Int) == 10) = true := by rw [beq_iff_eq]; exact h10
          clear h10
          go_wp2_with fail
          go_ret
          exact ⟨rfl, B3.out⟩
        · have b1 : ((note[i].toNat : Int) == 10) = false := by rw [beq_eq_false_iff_ne]; exact h10
          have HI2 : Hid (∀ c ∈ note.data.toList.take (i + 1), c ≠ 10) := Lib.hid (by
            rw [take_snoc' note i hlt]
            intro c hc
            rw [List.mem_append] at hc
            rcases hc with hc | hc
            · exact HI.out c hc
            · simp only [List.mem_singleton] at hc
              subst hc
              intro e
              apply h10
              rw [e]; rfl)
          clear h10 HI
          go_wp2_with fail
          go_roundg (note.size - i)
          case measure => omega
          case rel => exact ⟨i + 1, by omega, by omega, by go_num, HI2, rfl⟩
      · have hlt' : ¬ (i : Int) < (note.size : Int) := by omega
        have HNO : Hid (∀ c ∈ note.data.toList, c ≠ 10) := Lib.hid (by
          have := HI.out
          rwa [List.take_of_length_le (by rw [list_size]; omega)] at this)
        clear HI
        obtain ⟨k, hk, hke⟩ := pick at_ T.length hT1 (by omega)
        have hk' : (k : Int) < (T.length : Int) := by omega
        have hT5 : (T.length : Int) ≤ 2001 := by omega
        have hT6 : (0 : Int) < (T.length : Int) := by omega
        have hT7 : ((T.length : Int) == 0) = false := by rw [beq_eq_false_iff_ne]; omega
        by_cases hend : k + 1 = T.length
        · have he : ((k : Int) == (T.length : Int) - 1) = true := by rw [beq_iff_eq]; omega
          go_wp2_with fail
          go_ret
          exact ⟨rfl, B3.out⟩
        · have he : ((k : Int) == (T.length : Int) - 1) = false := by rw [beq_eq_false_iff_ne]; omega
          obtain ⟨b, off, hAe, hbl, c0, c1, c2⟩ := HT3.out k hk
          subst hAe
          have hp := HTAT.out k hk
          rw [list_size] at hp
          have HG := Lib.hid (Lx.gaps_T s.data.toList note.data.toList T k (by rw [list_size]; exact hs) (by rw [list_size]; exact hn) HLX.out HNO.out (by omega))
          obtain ⟨p, hpe⟩ : ∃ p, p = T[k].at_ := ⟨_, rfl⟩
          rw [← hpe] at hp c2
          rw [← hpe] at HG
          clear hpe
          have hp' : (p : Int) ≤ (s.size : Int) := by omega
          have hX : (s.extract 0 p ++ (⟨#[32, 9, 35]⟩ : ByteArray) ++ note ++ (⟨#[10, 32]⟩ : ByteArray) ++ s.extract p s.size).data.toList = s.data.toList.take p ++ (Lx.gap note.data.toList ++ s.data.toList.drop p) := by
            simp only [ByteArray.data_append, Array.toList_append, take_str, drop_str]
            simp [Lx.gap]
          have B3' := B3.out
          have hT'l : (T.take k ++ (T.drop k).map (Lx.Tk.far (note.data.toList.length + 5))).length = T.length := Lx.far_length _ _ _
          have HFAR := Lib.hid (Lx.far_at T k (note.data.toList.length + 5))
          generalize hT' : T.take k ++ (T.drop k).map (Lx.Tk.far (note.data.toList.length + 5)) = T' at *
          have LL : Hid (∀ W, Below w.heap.size w W → Calls Tryz.prog 8 #[.string (s.extract 0 p ++ (⟨#[32, 9, 35]⟩ : ByteArray) ++ note ++ (⟨#[10, 32]⟩ : ByteArray) ++ s.extract p s.size)] W fun e w' => LexOk W T' e w') := Lib.hid (fun W hb => by
            have := lex_any (s.extract 0 p ++ (⟨#[32, 9, 35]⟩ : ByteArray) ++ note ++ (⟨#[10, 32]⟩ : ByteArray) ++ s.extract p s.size) W a m (HV.out.below hb)
            rw [hX, HG.out] at this
            exact this)
          go_upto_region 17 with fail
          rw [hke]
          clear hke he hT' hX HG
          generalize hw3 : w2.alloc (fltObj 0 0) = w3 at *
          clear hw3
          have LL2 : Hid (∀ W, Below w3.heap.size w3 W → Calls Tryz.prog 8 #[.string (s.extract 0 p ++ (⟨#[32, 9, 35]⟩ : ByteArray) ++ note ++ (⟨#[10, 32]⟩ : ByteArray) ++ s.extract p s.size)] W fun e w' => LexOk W T' e w') := Lib.hid (fun W hb => LL.out W (bstep B3.out hb))
          go_cut [12, 13] from 61 to 76 (fun s12 s13 wc => ∃ (g : Nat) (B : Option Addr) (cB : Nat), s13 = .pointer (some ⟨g, 0, none⟩) ∧ s12 = .slice B T.length cB ∧ GapEnd w3 B T' g wc)
          case first =>
            have z1 : ¬ 9223372036854775807 < p + 3 := by omega
            have z2 : ¬ 9223372036854775807 < p + 3 + note.size := by omega
            have z3 : ¬ 9223372036854775807 < p + 3 + note.size + 2 := by omega
            have z4 : ¬ 9223372036854775807 < p + 3 + note.size + 2 + (s.size - p) := by omega
            have QD : Hid (Below w3.heap.size w3 w3.drew) := Lib.hid (Below.refl _ _).drew
            refine wp_region_held_drew (S := fun W => Below w3.heap.size w3 W) (by kernel_rfl) QD.out (fun _ => ?_)
            refine wpAnyH_take (i := 0) (oi := { dst := some 62, op := Op.move (Operand.tmp 0), type := 9, pos := "law.go:82", after := #[], guard := none }) (v := ?_) rfl (by kernel_rfl) (by kernel_rfl) (by kernel_rfl) (fun _ _ _ h => h) (Or.inl ⟨by rfl, ?_⟩) QD.out ?_
            rotate_left
            · (intro W hw; go_simp; try with_reducible rfl)
            simp only [Act.put, List.setIfInBounds_toArray, List.set_cons_zero, List.set_cons_succ]
            refine wpAnyH_take (i := 1) (oi := { dst := some 63, op := Op.move (Operand.tmp 11), type := 3, pos := "law.go:82", after := #[], guard := none }) (v := ?_) rfl (by kernel_rfl) (by kernel_rfl) (by kernel_rfl) (fun _ _ _ h => h) (Or.inl ⟨by rfl, ?_⟩) QD.out ?_
            rotate_left
            · (intro W hw; go_simp; try with_reducible rfl)
            simp only [Act.put, List.setIfInBounds_toArray, List.set_cons_zero, List.set_cons_succ]
            refine wpAnyH_take (i := 2) (oi := { dst := some 64, op := Op.slice 9 (Operand.tmp 62) none (some (Operand.tmp 63)) none, type := 9, pos := "law.go:82", after := #[{ on := 0, ground := Ground.data }, { on := 1, ground := Ground.data }], guard := none }) (v := ?_) rfl (by kernel_rfl) (by kernel_rfl) (by kernel_rfl) (fun _ _ _ h => h) (Or.inl ⟨by rfl, ?_⟩) QD.out ?_
            rotate_left
            · (intro W hw; go_simp; try with_reducible rfl)
            simp only [Act.put, List.setIfInBounds_toArray, List.set_cons_zero, List.set_cons_succ]
            refine wpAnyH_take (i := 3) (oi := { dst := some 65, op := Op.binOp BinOp.add 9 (Operand.tmp 64) (Operand.const (Value.string { data := #[32, 9, 35] })) 9, type := 9, pos := "law.go:82", after := #[{ on := 2, ground := Ground.data }], guard := none }) (v := ?_) rfl (by kernel_rfl) (by kernel_rfl) (by kernel_rfl) (fun _ _ _ h => h) (Or.inl ⟨by rfl, ?_⟩) QD.out ?_
            rotate_left
            · (intro W hw; go_simp; try with_reducible rfl)
            simp only [Act.put, List.setIfInBounds_toArray, List.set_cons_zero, List.set_cons_succ]
            refine wpAnyH_take (i := 4) (oi := { dst := some 66, op := Op.move (Operand.tmp 2), type := 9, pos := "law.go:82", after := #[], guard := none }) (v := ?_) rfl (by kernel_rfl) (by kernel_rfl) (by kernel_rfl) (fun _ _ _ h => h) (Or.inl ⟨by rfl, ?_⟩) QD.out ?_
            rotate_left
            · (intro W hw; go_simp; try with_reducible rfl)
            simp only [Act.put, List.setIfInBounds_toArray, List.set_cons_zero, List.set_cons_succ]
            refine wpAnyH_take (i := 5) (oi := { dst := some 67, op := Op.binOp BinOp.add 9 (Operand.tmp 65) (Operand.tmp 66) 9, type := 9, pos := "law.go:82", after := #[{ on := 3, ground := Ground.data }, { on := 4, ground := Ground.data }], guard := none }) (v := ?_) rfl (by kernel_rfl) (by kernel_rfl) (by kernel_rfl) (fun _ _ _ h => h) (Or.inl ⟨by rfl, ?_⟩) QD.out ?_
            rotate_left
            · (intro W hw; go_simp; try with_reducible rfl)
            simp only [Act.put, List.setIfInBounds_toArray, List.set_cons_zero, List.set_cons_succ]
            refine wpAnyH_take (i := 6) (oi := { dst := some 68, op := Op.binOp BinOp.add 9 (Operand.tmp 67) (Operand.const (Value.string { data := #[10, 32] })) 9, type := 9, pos := "law.go:82", after := #[{ on := 5, ground := Ground.data }], guard := none }) (v := ?_) rfl (by kernel_rfl) (by kernel_rfl) (by kernel_rfl) (fun _ _ _ h => h) (Or.inl ⟨by rfl, ?_⟩) QD.out ?_
            rotate_left
            · (intro W hw; go_simp; try with_reducible rfl)
            simp only [Act.put, List.setIfInBounds_toArray, List.set_cons_zero, List.set_cons_succ]
            refine wpAnyH_take (i := 7) (oi := { dst := some 69, op := Op.move (Operand.tmp 0), type := 9, pos := "law.go:82", after := #[], guard := none }) (v := ?_) rfl (by kernel_rfl) (by kernel_rfl) (by kernel_rfl) (fun _ _ _ h => h) (Or.inl ⟨by rfl, ?_⟩) QD.out ?_
            rotate_left
            · (intro W hw; go_simp; try with_reducible rfl)
            simp only [Act.put, List.setIfInBounds_toArray, List.set_cons_zero, List.set_cons_succ]
            refine wpAnyH_take (i := 8) (oi := { dst := some 70, op := Op.move (Operand.tmp 11), type := 3, pos := "law.go:82", after := #[], guard := none }) (v := ?_) rfl (by kernel_rfl) (by kernel_rfl) (by kernel_rfl) (fun _ _ _ h => h) (Or.inl ⟨by rfl, ?_⟩) QD.out ?_
            rotate_left
            · (intro W hw; go_simp; try with_reducible rfl)
            simp only [Act.put, List.setIfInBounds_toArray, List.set_cons_zero, List.set_cons_succ]
            refine wpAnyH_take (i := 9) (oi := { dst := some 71, op := Op.slice 9 (Operand.tmp 69) (some (Operand.tmp 70)) none none, type := 9, pos := "law.go:82", after := #[{ on := 7, ground := Ground.data }, { on := 8, ground := Ground.data }], guard := none }) (v := ?_) rfl (by kernel_rfl) (by kernel_rfl) (by kernel_rfl) (fun _ _ _ h => h) (Or.inl ⟨by rfl, ?_⟩) QD.out ?_
            rotate_left
            · (intro W hw; go_simp; try with_reducible rfl)
            simp only [Act.put, List.setIfInBounds_toArray, List.set_cons_zero, List.set_cons_succ]
            refine wpAnyH_take (i := 10) (oi := { dst := some 72, op := Op.binOp BinOp.add 9 (Operand.tmp 68) (Operand.tmp 71) 9, type := 9, pos := "law.go:82", after := #[{ on := 6, ground := Ground.data }, { on := 9, ground := Ground.data }], guard := none }) (v := ?_) rfl (by kernel_rfl) (by kernel_rfl) (by kernel_rfl) (fun _ _ _ h => h) (Or.inl ⟨by rfl, ?_⟩) QD.out ?_
            rotate_left
            · (intro W hw; go_simp; try with_reducible rfl)
            simp only [Act.put, List.setIfInBounds_toArray, List.set_cons_zero, List.set_cons_succ]
            refine wpAnyH_ready (rs := [11, 15]) (by kernel_rfl) (by simp) ?_
            refine AllReadyH.cons (o := { dst := some 73, op := Op.call { callee := Callee.value (Operand.func 8), args := #[Operand.tmp 72], argTypes := #[9] }, type := 27, pos := "law.go:82", after := #[{ on := 10, ground := Ground.data }], guard := none }) rfl (fun K hK => ?_) (AllReadyH.cons (o := { dst := some 13, op := Op.alloc 26, type := 0, pos := "law.go:82", after := #[], guard := none }) rfl (fun K hK => ?_) AllReadyH.nil)
            ·
              go_simp
              refine (LL2.out _ QD.out).mono ?_
              rintro e W ⟨B, cB, rfl, hcB, hTB, hbB, hBB⟩
              have Q1 : Hid (Below w3.heap.size w3 W) := Lib.hid (bstep QD.out hbB)
              rw [hT'l]
              refine hK.out _ _ Q1.out (fun _ => ?_)
              clear hK K
              try simp only [Act.put, List.setIfInBounds_toArray, List.set_cons_zero, List.set_cons_succ]
              refine wpAnyH_take (i := 12) (oi := { dst := some 61, op := Op.move (Operand.tmp 73), type := 27, pos := "law.go:82", after := #[{ on := 11, ground := Ground.data }], guard := none }) (v := ?_) rfl (by kernel_rfl) (by kernel_rfl) (by kernel_rfl) (fun _ _ _ h => h) (Or.inl ⟨by rfl, ?_⟩) Q1.out ?_
              rotate_left
              · (intro W hw; go_simp; try with_reducible rfl)
              simp only [Act.put, List.setIfInBounds_toArray, List.set_cons_zero, List.set_cons_succ]
              refine wpAnyH_take (i := 13) (oi := { dst := some 74, op := Op.extract (Operand.tmp 61) 0, type := 23, pos := "law.go:82", after := #[{ on := 12, ground := Ground.data }], guard := none }) (v := ?_) rfl (by kernel_rfl) (by kernel_rfl) (by kernel_rfl) (fun _ _ _ h => h) (Or.inl ⟨by rfl, ?_⟩) Q1.out ?_
              rotate_left
              · (intro W hw; go_simp; try with_reducible rfl)
              simp only [Act.put, List.setIfInBounds_toArray, List.set_cons_zero, List.set_cons_succ]
              refine wpAnyH_take (i := 14) (oi := { dst := some 75, op := Op.extract (Operand.tmp 61) 1, type := 26, pos := "law.go:82", after := #[{ on := 12, ground := Ground.data }, { on := 16, ground := Ground.gcOnly Departure.lateStores }], guard := none }) (v := ?_) rfl (by kernel_rfl) (by kernel_rfl) (by kernel_rfl) (fun _ _ _ h => h) (Or.inl ⟨by rfl, ?_⟩) Q1.out ?_
              rotate_left
              · (intro W hw; go_simp; try with_reducible rfl)
              simp only [Act.put, List.setIfInBounds_toArray, List.set_cons_zero, List.set_cons_succ]
              have Q2 := Lib.hid (Q1.out.alloc Q1.out.size (fltObj 0 0))
              refine wpAnyH_ready (rs := [15]) (by kernel_rfl) (by simp) ?_
              refine AllReadyH.cons (o := { dst := some 13, op := Op.alloc 26, type := 0, pos := "law.go:82", after := #[], guard := none }) rfl (fun K hK => ?_) AllReadyH.nil
              go_simp
              refine hK.out _ _ Q2.out (fun _ => ?_)
              clear hK K
              try simp only [Act.put, List.setIfInBounds_toArray, List.set_cons_zero, List.set_cons_succ]
              refine wpAnyH_take (i := 16) (oi := { dst := some 12, op := Op.assign (Operand.tmp 74), type := 23, pos := "law.go:82", after := #[{ on := 13, ground := Ground.data }, { on := 11, ground := Ground.chain }, { on := 0, ground := Ground.phase }, { on := 1, ground := Ground.phase }, { on := 2, ground := Ground.phase }, { on := 3, ground := Ground.phase }, { on := 4, ground := Ground.phase }, { on := 5, ground := Ground.phase }, { on := 6, ground := Ground.phase }, { on := 7, ground := Ground.phase }, { on := 8, ground := Ground.phase }, { on := 9, ground := Ground.phase }, { on := 10, ground := Ground.phase }, { on := 11, ground := Ground.phase }, { on := 12, ground := Ground.phase }, { on := 13, ground := Ground.phase }, { on := 14, ground := Ground.textOnly Departure.lateStores }, { on := 15, ground := Ground.phase }], guard := none }) (v := ?_) rfl (by kernel_rfl) (by kernel_rfl) (by kernel_rfl) (fun _ _ _ h => h) (Or.inl ⟨by rfl, ?_⟩) Q2.out ?_
              rotate_left
              · (intro W hw; go_simp; try with_reducible rfl)
              simp only [Act.put, List.setIfInBounds_toArray, List.set_cons_zero, List.set_cons_succ]
              refine wpAnyH_ready (rs := [17]) (by kernel_rfl) (by simp) ?_
              refine AllReadyH.cons (o := { dst := none, op := Op.store 26 (Operand.tmp 13) (Operand.tmp 75), type := 0, pos := "law.go:82", after := #[{ on := 15, ground := Ground.data }, { on := 14, ground := Ground.data }, { on := 16, ground := Ground.chain }, { on := 0, ground := Ground.phase }, { on := 1, ground := Ground.phase }, { on := 2, ground := Ground.phase }, { on := 3, ground := Ground.phase }, { on := 4, ground := Ground.phase }, { on := 5, ground := Ground.phase }, { on := 6, ground := Ground.phase }, { on := 7, ground := Ground.phase }, { on := 8, ground := Ground.phase }, { on := 9, ground := Ground.phase }, { on := 10, ground := Ground.phase }, { on := 11, ground := Ground.phase }, { on := 12, ground := Ground.phase }, { on := 13, ground := Ground.phase }, { on := 14, ground := Ground.phase }, { on := 15, ground := Ground.phase }, { on := 16, ground := Ground.phase }], guard := none }) rfl (fun K hK => ?_) AllReadyH.nil
              go_simp
              refine hK.out _ _ Q2.out (fun _ => ?_)
              clear hK K
              try simp only [Act.put, List.setIfInBounds_toArray, List.set_cons_zero, List.set_cons_succ]
              refine wpAnyH_done (by kernel_rfl) ?_ _
              have HE := Lib.hid (gap_new hTB Q1.out)
              go_wp2_with fail
              go_meet
              case rel => exact ⟨_, B, cB, rfl, rfl, HE.out⟩
            ·
              go_simp
              have Q1 := Lib.hid (QD.out.alloc QD.out.size (fltObj 0 0))
              refine hK.out _ _ Q1.out (fun _ => ?_)
              clear hK K
              try simp only [Act.put, List.setIfInBounds_toArray, List.set_cons_zero, List.set_cons_succ]
              refine wpAnyH_ready (rs := [11]) (by kernel_rfl) (by simp) ?_
              refine AllReadyH.cons (o := { dst := some 73, op := Op.call { callee := Callee.value (Operand.func 8), args := #[Operand.tmp 72], argTypes := #[9] }, type := 27, pos := "law.go:82", after := #[{ on := 10, ground := Ground.data }], guard := none }) rfl (fun K hK => ?_) AllReadyH.nil
              go_simp
              refine (LL2.out _ Q1.out).mono ?_
              rintro e W ⟨B, cB, rfl, hcB, hTB, hbB, hBB⟩
              obtain ⟨e0, e1, e2, e3⟩ := fault_kept hbB
              have Q2 : Hid (Below w3.heap.size w3 W) := Lib.hid (bstep Q1.out hbB)
              rw [hT'l]
              refine hK.out _ _ Q2.out (fun _ => ?_)
              clear hK K
              try simp only [Act.put, List.setIfInBounds_toArray, List.set_cons_zero, List.set_cons_succ]
              refine wpAnyH_take (i := 12) (oi := { dst := some 61, op := Op.move (Operand.tmp 73), type := 27, pos := "law.go:82", after := #[{ on := 11, ground := Ground.data }], guard := none }) (v := ?_) rfl (by kernel_rfl) (by kernel_rfl) (by kernel_rfl) (fun _ _ _ h => h) (Or.inl ⟨by rfl, ?_⟩) Q2.out ?_
              rotate_left
              · (intro W hw; go_simp; try with_reducible rfl)
              simp only [Act.put, List.setIfInBounds_toArray, List.set_cons_zero, List.set_cons_succ]
              refine wpAnyH_take (i := 13) (oi := { dst := some 74, op := Op.extract (Operand.tmp 61) 0, type := 23, pos := "law.go:82", after := #[{ on := 12, ground := Ground.data }], guard := none }) (v := ?_) rfl (by kernel_rfl) (by kernel_rfl) (by kernel_rfl) (fun _ _ _ h => h) (Or.inl ⟨by rfl, ?_⟩) Q2.out ?_
              rotate_left
              · (intro W hw; go_simp; try with_reducible rfl)
              simp only [Act.put, List.setIfInBounds_toArray, List.set_cons_zero, List.set_cons_succ]
              refine wpAnyH_take (i := 14) (oi := { dst := some 75, op := Op.extract (Operand.tmp 61) 1, type := 26, pos := "law.go:82", after := #[{ on := 12, ground := Ground.data }, { on := 16, ground := Ground.gcOnly Departure.lateStores }], guard := none }) (v := ?_) rfl (by kernel_rfl) (by kernel_rfl) (by kernel_rfl) (fun _ _ _ h => h) (Or.inl ⟨by rfl, ?_⟩) Q2.out ?_
              rotate_left
              · (intro W hw; go_simp; try with_reducible rfl)
              simp only [Act.put, List.setIfInBounds_toArray, List.set_cons_zero, List.set_cons_succ]
              refine wpAnyH_take (i := 16) (oi := { dst := some 12, op := Op.assign (Operand.tmp 74), type := 23, pos := "law.go:82", after := #[{ on := 13, ground := Ground.data }, { on := 11, ground := Ground.chain }, { on := 0, ground := Ground.phase }, { on := 1, ground := Ground.phase }, { on := 2, ground := Ground.phase }, { on := 3, ground := Ground.phase }, { on := 4, ground := Ground.phase }, { on := 5, ground := Ground.phase }, { on := 6, ground := Ground.phase }, { on := 7, ground := Ground.phase }, { on := 8, ground := Ground.phase }, { on := 9, ground := Ground.phase }, { on := 10, ground := Ground.phase }, { on := 11, ground := Ground.phase }, { on := 12, ground := Ground.phase }, { on := 13, ground := Ground.phase }, { on := 14, ground := Ground.textOnly Departure.lateStores }, { on := 15, ground := Ground.phase }], guard := none }) (v := ?_) rfl (by kernel_rfl) (by kernel_rfl) (by kernel_rfl) (fun _ _ _ h => h) (Or.inl ⟨by rfl, ?_⟩) Q2.out ?_
              rotate_left
              · (intro W hw; go_simp; try with_reducible rfl)
              simp only [Act.put, List.setIfInBounds_toArray, List.set_cons_zero, List.set_cons_succ]
              have hq3 : Below w3.heap.size w3 ((W.setCell ⟨w3.heap.size, 0, none⟩ (.int .i64 0)).setCell ⟨w3.heap.size, 1, none⟩ (.int .i64 0)) := (Q2.out.setCell (p := ⟨w3.heap.size, 0, none⟩) (Nat.le_refl _) _).setCell (p := ⟨w3.heap.size, 1, none⟩) (Nat.le_refl _) _
              have Q3 := Lib.hid hq3
              refine wpAnyH_ready (rs := [17]) (by kernel_rfl) (by simp) ?_
              refine AllReadyH.cons (o := { dst := none, op := Op.store 26 (Operand.tmp 13) (Operand.tmp 75), type := 0, pos := "law.go:82", after := #[{ on := 15, ground := Ground.data }, { on := 14, ground := Ground.data }, { on := 16, ground := Ground.chain }, { on := 0, ground := Ground.phase }, { on := 1, ground := Ground.phase }, { on := 2, ground := Ground.phase }, { on := 3, ground := Ground.phase }, { on := 4, ground := Ground.phase }, { on := 5, ground := Ground.phase }, { on := 6, ground := Ground.phase }, { on := 7, ground := Ground.phase }, { on := 8, ground := Ground.phase }, { on := 9, ground := Ground.phase }, { on := 10, ground := Ground.phase }, { on := 11, ground := Ground.phase }, { on := 12, ground := Ground.phase }, { on := 13, ground := Ground.phase }, { on := 14, ground := Ground.phase }, { on := 15, ground := Ground.phase }, { on := 16, ground := Ground.phase }], guard := none }) rfl (fun K hK => ?_) AllReadyH.nil
              go_simp
              refine hK.out _ _ Q3.out (fun _ => ?_)
              clear hK K
              try simp only [Act.put, List.setIfInBounds_toArray, List.set_cons_zero, List.set_cons_succ]
              refine wpAnyH_done (by kernel_rfl) ?_ _
              have HE := Lib.hid (gap_old hTB hbB hBB hq3)
              go_wp2_with fail
              go_meet
              case rel => exact ⟨_, B, cB, rfl, rfl, HE.out⟩
          case rest =>
            obtain ⟨g, B, cB, rfl, rfl, hg, hTB, hbB⟩ := hcut
            have HTA := Lib.hid (HT3.out.below hbB)
            have HTB := Lib.hid hTB
            have BB3 := Lib.hid (bstep B3.out hbB)
            clear hTB hbB LL LL2 HT3 c0 c1 c2 HLX
            go_wp2_with fail
            go_loopg [14] (T.length + 1) (fun j s14 wr => ∃ i : Nat, i ≤ T.length ∧ T.length < i + j ∧ s14 = .int .i64 (i : Nat) ∧ ∃ q, wr = wc.drewN q)
            case atStart => exact ⟨0, by omega, by omega, rfl, 0, rfl⟩
            case round =>
              obtain ⟨z, hz, hj, rfl, q, rfl⟩ := hrel
              by_cases hlt : z < T.length
              · have hlt' : (z : Int) < (T.length : Int) := by omega
                have hz9 : (z : Int) < 5001 := by omega
                obtain ⟨b1, o1, hA1, hb1, a0, a1, a2⟩ := HTA.out z hlt
                cases hA1
                have hlt2 : z < T'.length := by omega
                obtain ⟨b2, o2, hB2, hb2, g0, g1, g2⟩ := HTB.out z hlt2
                subst hB2
                obtain ⟨r1, r2, r3⟩ := HFAR.out z hlt hlt2
                have hat9 := HTAT.out z hlt
                rw [list_size] at hat9
                rw [r1] at g0
                rw [r2] at g1
                rw [r3, list_size] at g2
                clear r1 r2 r3
                generalize T[z] = x at *
                obtain ⟨xk, xt, xa⟩ := x
                dsimp only at a0 a1 a2 g0 g1 g2 hat9
                have hxa : (xa : Int) ≤ 2000 := by omega
                by_cases hkz : k ≤ z
                · rw [if_pos hkz] at g2
                  have hkz' : (k : Int) ≤ (z : Int) := by omega
                  have g2' : wc.cell? ⟨b2, o2 + z * 3 + 2, none⟩ = some (.int .i64 ((xa : Int) + ((note.size : Int) + 5))) := by rw [g2]; simp
                  clear g2
                  go_wp2_with fail
                  go_quiet (fail)
                  go_wp2_with fail
                  go_roundg (T.length - z)
                  case measure => omega
                  case rel => exact ⟨z + 1, by omega, by omega, by go_num, q + nq, rfl⟩
                · rw [if_neg hkz] at g2
                  have hkz' : ¬ (k : Int) ≤ (z : Int) := by omega
                  have g2' : wc.cell? ⟨b2, o2 + z * 3 + 2, none⟩ = some (.int .i64 (xa : Int)) := by rw [g2]; simp
                  clear g2
                  go_wp2_with fail
                  go_quiet (fail)
                  go_wp2_with fail
                  go_roundg (T.length - z)
                  case measure => omega
                  case rel => exact ⟨z + 1, by omega, by omega, by go_num, q + nq, rfl⟩
              · have hlt' : ¬ (z : Int) < (T.length : Int) := by omega
                go_wp2_with fail
                go_ret
                exact ⟨rfl, _root_.Go.Proofs.YtpffechllcnnaaaGreatDoor.below_drewN BB3.out q⟩

set_option maxRecDepth 100000 in
/-- LexGaps, for all that comes. -/
theorem lexGaps_all (s note : ByteArray) (at_ : Int) (w : World) (a : Addr) (m : Int) (hv : Env w a m) (hat : -9223372036854775808 ≤ at_ ∧ at_ ≤ 9223372036854775807) :
    Calls Tryz.prog 5 #[.string s, .int .i64 at_, .string note] w fun e w' => e = .returned (.bool true) ∧ Below w.heap.size w w' := by
  by_cases h : s.size ≤ 2000 ∧ note.size ≤ 1000
  · exact gaps_any s note at_ w a m hv hat h.1 h.2
  · have AW := Lib.hid (awake_any w a m hv)
    have hd : (decide ((2000 : Int) < (s.size : Int)) || decide ((1000 : Int) < (note.size : Int))) = true := by simp; omega
    clear hv
    by_cases h1 : s.size ≤ 2000
    · have d1 : decide ((2000 : Int) < (s.size : Int)) = false := by simp; omega
      have d2 : decide ((1000 : Int) < (note.size : Int)) = true := by simp; omega
      clear hd h h1
      go_enter Tryz.func5, Tryz.ntmps5
      go_wp2_with fail
      refine (AW.out).mono ?_
      rintro e w1 ⟨rfl, hb1⟩
      have B1 := Lib.hid hb1
      clear hb1 AW
      go_wp2
      go_ret
      exact ⟨rfl, B1.out⟩
    · have d1 : decide ((2000 : Int) < (s.size : Int)) = true := by simp; omega
      clear hd h h1
      go_enter Tryz.func5, Tryz.ntmps5
      go_wp2_with fail
      refine (AW.out).mono ?_
      rintro e w1 ⟨rfl, hb1⟩
      have B1 := Lib.hid hb1
      clear hb1 AW
      go_wp2
      go_ret
      exact ⟨rfl, B1.out⟩
end Go.Proofs.YtpffechllcnnaaaGreatDoor
