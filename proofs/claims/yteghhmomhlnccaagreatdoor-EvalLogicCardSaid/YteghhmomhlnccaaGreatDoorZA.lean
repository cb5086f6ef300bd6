import Derived.Test.YteghhmomhlnccaaGreatDoorZI
import Derived.Test.YteghhmomhlnccaaGreatDoorZV1
import Derived.Test.YteghhmomhlnccaaGreatDoorZGQB
import Derived.Test.YteghhmomhlnccaaGreatDoorZHMB
import Derived.Test.YteghhmomhlnccaaGreatDoorZN
import Derived.Test.YteghhmomhlnccaaGreatDoorZIQB
import Derived.Test.YteghhmomhlnccaaGreatDoorZV
import Derived.Test.YteghhmomhlnccaaGreatDoorZC

/- eval: are values of those kinds?; fail, truth, whole, joined, stands, reckoned, within. -/
namespace Go.Proofs.YteghhmomhlnccaaGreatDoor
open Go.RowKit Go.Lib
set_option linter.unusedVariables false
set_option linter.unusedSimpArgs false
set_option maxRecDepth 100000
attribute [local go_sem ↓] eqVal neqVal
open Ev (V R Pl)
abbrev vv (v : V) : Value := .agg (vcells v)
abbrev outR (r : R) : Value := .tuple #[vv r.v, .int .i64 r.e]
theorem same_z {v : V} (h : Pl v) : same v.k v.n (tx v.s) 0 0 ⟨#[]⟩ = decide (v.k = 0) := by
  rw [Bool.eq_iff_iff, same_iff, decide_eq_true_iff]
  constructor
  · exact fun h => h.1
  · intro h0; have := h.null h0; subst this; exact ⟨rfl, rfl, rfl⟩
theorem same_b {v : V} (h : Pl v) (x : Int) : same v.k v.n (tx v.s) 3 x ⟨#[]⟩ = decide (v.k = 3 ∧ v.n = x) := by
  rw [Bool.eq_iff_iff, same_iff, decide_eq_true_iff]
  constructor
  · exact fun h => ⟨h.1, h.2.1⟩
  · rintro ⟨h1, h2⟩; exact ⟨h1, h2, by rw [(h.truth h1).2]⟩
theorem sizeVal : (Tryz.prog.info? 23).map (·.size) = some 3 := by kernel_rfl
/-- a value and an error are told. -/
theorem fin_R {fn : Func} {p u : Tmp} (h : fn.results = #[.cell p 23, .tmp u]) {a : Act} {w W : World} {g : Nat} {k n k0 n0 : Int} {s s0 : ByteArray} {e : Int} (hp : a.tmps.getD p undef = .pointer (some ⟨g, 0, none⟩)) (hu : a.tmps.getD u undef = .int .i64 e) (hd : a.defers = []) (hr : Row3 W g k0 n0 s0) (hb : Below w.heap.size w W) (hg : w.heap.size ≤ g) {r : R} (hR : outR r = .tuple #[val k n s, .int .i64 e]) :
    bodyPost Tryz.prog fn (fun e w' => e = .returned (outR r) ∧ Below w.heap.size w w') .ret a (((W.setCell ⟨g, 0, none⟩ (.int .i64 k)).setCell ⟨g, 1, none⟩ (.int .i64 n)).setCell ⟨g, 2, none⟩ (.string s)) :=
  bodyPost_ret (results_two h _ _ g _ _ _ _ hp (hr.set3 k n s) Tryz.underlying23 rfl sizeVal _ hu) hd ⟨by rw [hR], ((hb.setCell (p := ⟨g, 0, none⟩) hg _).setCell (p := ⟨g, 1, none⟩) hg _).setCell (p := ⟨g, 2, none⟩) hg _⟩

theorem are1_any (v : V) (q : Int) (w : World) : Calls Tryz.prog 66 #[vv v, .int .i64 q] w fun e w' => e = .returned (.bool (decide (v.k = q ∨ v.k = 0))) ∧ Below w.heap.size w w' := by
  obtain ⟨k, n, s⟩ := v
  have B0 : Hid (Below w.heap.size w (w.alloc (.cells (vcells ⟨k, n, s⟩) 23))) := Lib.hid ((Below.refl _ _).alloc (Nat.le_refl _) _)
  obtain ⟨c0, c1, c2⟩ := (Row3.new w k n (tx s)).holds
  unfold vcells at *
  dsimp only at *
  by_cases h1 : k = q
  · have HD : Hid (decide (k = q ∨ k = 0) = true) := Lib.hid (by simp [h1])
    have h1' : (k == q) = true := by simpa using h1
    clear h1
    go_enter Tryz.func66, Tryz.ntmps66
    go_wp2_with fail
    go_ret
    exact ⟨retB2 HD.out.symm, B0.out⟩
  · have h1' : (k == q) = false := by simpa using h1
    by_cases h2 : k = 0
    · have HD : Hid (decide (k = q ∨ k = 0) = true) := Lib.hid (by simp [h2])
      have h2' : (k == 0) = true := by simpa using h2
      clear h1 h2
      go_enter Tryz.func66, Tryz.ntmps66
      go_wp2_with fail
      go_ret
      exact ⟨retB2 HD.out.symm, B0.out⟩
    · have HD : Hid (decide (k = q ∨ k = 0) = false) := Lib.hid (by simp [h1, h2])
      have h2' : (k == 0) = false := by simpa using h2
      clear h1 h2
      go_enter Tryz.func66, Tryz.ntmps66
      go_wp2_with fail
      go_ret
      exact ⟨retB2 HD.out.symm, B0.out⟩

/-- are values of those kinds, one each? -/
def Ev.areB : List V → List Int → Bool
  | [], [] => true
  | v :: l, q :: m => decide (v.k = q ∨ v.k = 0) && Ev.areB l m
  | _, _ => false
theorem Ev.areB_iff : ∀ (l : List V) (m : List Int), Ev.areB l m = true ↔ l.length = m.length ∧ ∀ i (h : i < l.length) (h2 : i < m.length), l[i].k = m[i] ∨ l[i].k = 0
  | [], [] => by simp [Ev.areB]
  | [], _ :: _ => by simp [Ev.areB]
  | _ :: _, [] => by simp [Ev.areB]
  | v :: l, q :: m => by
    rw [Ev.areB, Bool.and_eq_true, decide_eq_true_iff, Ev.areB_iff l m]
    constructor
    · rintro ⟨h1, h2, h3⟩
      refine ⟨by simp [h2], fun i hi hi2 => ?_⟩
      cases i with
      | zero => exact h1
      | succ i => exact h3 i (by simpa using hi) (by simpa using hi2)
    · rintro ⟨h1, h2⟩
      exact ⟨h2 0 (by simp) (by simp), by simpa using h1, fun i hi hi2 => h2 (i + 1) (by simpa using hi) (by simpa using hi2)⟩
theorem Ev.areB_len {l : List V} {m : List Int} (h : l.length ≠ m.length) : Ev.areB l m = false := by
  rw [Bool.eq_false_iff]; intro e; exact h ((Ev.areB_iff l m).1 e).1
theorem Ev.areB_at {l : List V} {m : List Int} (i : Nat) (h : i < l.length) (h2 : i < m.length) (hq : ¬ (l[i].k = m[i] ∨ l[i].k = 0)) : Ev.areB l m = false := by
  rw [Bool.eq_false_iff]; intro e; exact hq (((Ev.areB_iff l m).1 e).2 i h h2)
set_option maxHeartbeats 1000000 in
theorem equalV_any (L : List V) (K : List Int) (A AK : Option Addr) (c ck : Nat) (w : World) (hA : ValsAt w A L) (hK : IntsAt w AK K) (hn : L.length ≤ 1000000) :
    Calls Tryz.prog 65 #[.slice A L.length c, .slice AK K.length ck, .func (.func 66) #[] #[]] w fun e w' => e = .returned (.bool (Ev.areB L K)) ∧ Below w.heap.size w w' := by
  by_cases hl : L.length = K.length
  · have HL := Lib.hid hl
    have hn9 : (L.length : Int) ≤ 1000000 := by omega
    obtain ⟨n, hn'⟩ : ∃ n, L.length = n := ⟨_, rfl⟩
    rw [← hl]
    rw [hn'] at hn9 ⊢
    have HN := Lib.hid hn'
    clear hl hn' hn
    go_enter Tryz.func65, Tryz.ntmps65
    go_wp2_with fail
    go_loopg [7, 8, 9, 17] (n + 1) (fun j s7 s8 s9 s17 wr => ∃ i : Nat, i ≤ n ∧ n < i + j ∧ s17 = .int .i64 (i : Nat) ∧ Hid (∀ k (h1 : k < L.length) (h2 : k < K.length), k < i → L[k].k = K[k] ∨ L[k].k = 0) ∧ Hid (Below w.heap.size w wr))
    case atStart => exact ⟨0, by omega, by omega, rfl, Lib.hid (fun k _ _ h => absurd h (Nat.not_lt_zero _)), Lib.hid (Below.refl _ _)⟩
    case round =>
      obtain ⟨i, hi, hj, rfl, HE, HB⟩ := hrel
      by_cases hlt : i < n
      · have hlt' : (i : Int) < (n : Int) := by omega
        have hik : i < L.length := by rw [HN.out]; exact hlt
        have hil : i < K.length := by rw [← HL.out]; exact hik
        obtain ⟨b, o, rfl, hx, c0, c1, c2⟩ := (hA.below HB.out) i hik
        obtain ⟨x, hx'⟩ : ∃ x, L[i] = x := ⟨_, rfl⟩
        rw [hx'] at c0 c1 c2
        have b1 : Below wr.heap.size wr (wr.alloc (.cells (vcells x) 23)) := (Below.refl _ _).alloc (Nat.le_refl _) _
        obtain ⟨d0, d1, d2⟩ := (Row3.new wr x.k x.n (tx x.s)).holds
        obtain ⟨b', o', rfl, hy, e0⟩ := (hK.below (bstep HB.out b1)) i hil
        obtain ⟨q, hq'⟩ : ∃ q, K[i] = q := ⟨_, rfl⟩
        rw [hq'] at e0
        have HCC := Lib.hid (fun W => are1_any x q W)
        have B1 := Lib.hid b1
        have HX := Lib.hid hx'
        have HQ := Lib.hid hq'
        clear hx hy hx' hq' b1
        unfold vv vcells at *
        go_wp2_with fail
        refine (HCC.out _).mono ?_
        rintro e w2 ⟨rfl, hb⟩
        have HB2 := Lib.hid (bstep (bstep HB.out B1.out) hb)
        clear hb HCC B1 c0 c1 c2 d0 d1 d2 e0
        cases hq : decide (x.k = q ∨ x.k = 0)
        · have HF := Lib.hid (Ev.areB_at i hik hil (by rw [HX.out, HQ.out]; exact of_decide_eq_false hq))
          go_wp2_with fail
          go_ret
          exact ⟨by rw [HF.out]; rfl, HB2.out⟩
        · have HE2 : Hid (∀ k (h1 : k < L.length) (h2 : k < K.length), k < i + 1 → L[k].k = K[k] ∨ L[k].k = 0) := Lib.hid (fun k h1 h2 h3 => by
            by_cases hki : k = i
            · subst hki; rw [HX.out, HQ.out]; exact of_decide_eq_true hq
            · exact HE.out k h1 h2 (by omega))
          clear HE
          go_wp2_with fail
          go_roundg (n - i)
          case measure => omega
          case rel => exact ⟨i + 1, by omega, by omega, by go_num, HE2, HB2⟩
      · have hlt' : ¬ (i : Int) < (n : Int) := by omega
        have HF : Hid (Ev.areB L K = true) := Lib.hid ((Ev.areB_iff L K).2 ⟨HL.out, fun k h1 h2 => HE.out k h1 h2 (by have := HN.out; omega)⟩)
        go_wp2_with fail
        go_ret
        exact ⟨by rw [HF.out]; rfl, HB.out⟩
  · have HF := Lib.hid (Ev.areB_len hl)
    have hl' : ((L.length : Int) != (K.length : Int)) = true := by rw [bne_iff_ne]; omega
    clear hl
    go_enter Tryz.func65, Tryz.ntmps65
    go_wp2_with fail
    go_ret
    exact ⟨by rw [HF.out]; rfl, Below.refl _ _⟩
theorem are_any (L : List V) (K : List Int) (A AK : Option Addr) (c ck : Nat) (w : World) (hA : ValsAt w A L) (hK : IntsAt w AK K) (hn : L.length ≤ 1000000) :
    Calls Tryz.prog 34 #[.slice A L.length c, .slice AK K.length ck] w fun e w' => e = .returned (.bool (Ev.areB L K)) ∧ Below w.heap.size w w' := by
  have H := Lib.hid (equalV_any L K A AK c ck w hA hK hn)
  clear hA hK hn
  generalize L.length = l at *
  generalize K.length = m at *
  go_enter Tryz.func34, Tryz.ntmps34
  go_wp2_with fail
  refine H.out.mono ?_
  rintro e w2 ⟨rfl, hb⟩
  go_wp2_with fail
  go_ret
  exact ⟨rfl, hb⟩
theorem efail_any (c : Int) (w : World) : Calls Tryz.prog 59 #[.int .i64 c] w fun e w' => e = .returned (outR (Ev.err c)) ∧ Below w.heap.size w w' := by
  have R0 := Lib.hid (Row3.new w 0 0 ⟨#[]⟩)
  have B0 := Lib.hid ((Below.refl w.heap.size w).alloc (Nat.le_refl _) (.cells #[.int .i64 0, .int .i64 0, .string ⟨#[]⟩] 23))
  go_enter Tryz.func59, Tryz.ntmps59
  go_wp2_with fail
  refine (null_any _).mono ?_
  rintro e w1 ⟨rfl, hb1⟩
  have R1 := Lib.hid (R0.out.below hb1 R0.out.lt)
  have B1 := Lib.hid (bstep B0.out hb1)
  clear hb1 R0 B0
  obtain ⟨d1, d2, d3⟩ := R1.out.holds
  have f0 := R1.out.frozen 0
  have f1 := R1.out.frozen 1
  have f2 := R1.out.frozen 2
  go_wp2_with fail
  exact fin_R Tryz.results59 rfl rfl rfl R1.out B1.out (Nat.le_refl _) rfl
end Go.Proofs.YteghhmomhlnccaaGreatDoor

/- eval: truth, whole, joined, stands, reckoned, within, column. -/
namespace Go.Proofs.YteghhmomhlnccaaGreatDoor
open Go.RowKit Go.Lib
set_option linter.unusedVariables false
set_option linter.unusedSimpArgs false
set_option maxRecDepth 100000
attribute [local go_sem ↓] eqVal neqVal
open Ev (V R Pl)
/-- a row of one value, and of one kind. -/
theorem are_one (v : V) (q : Int) (W : World) (g : Nat) (hg : g = W.heap.size) : Calls Tryz.prog 34 #[.slice (some ⟨g, 0, none⟩) 1 1, .slice (some ⟨g + 1, 0, none⟩) 1 1] ((W.alloc (.cells (vcells v) 23)).alloc (.cells #[.int .i64 q] 3)) fun e w' => e = .returned (.bool (decide (v.k = q ∨ v.k = 0))) ∧ Below W.heap.size W w' := by
  subst hg
  have b0 : Below W.heap.size W (W.alloc (.cells (vcells v) 23)) := (Below.refl _ _).alloc (Nat.le_refl _) _
  have b1 : Below W.heap.size W ((W.alloc (.cells (vcells v) 23)).alloc (.cells #[.int .i64 q] 3)) := b0.alloc (by simp) _
  have k0 := (Whole.new W 23 (vcells v)).alloc (.cells #[.int .i64 q] 3)
  have k1 := Whole.new (W.alloc (.cells (vcells v) 23)) 3 #[.int .i64 q]
  rw [World.size_alloc] at k1
  have hA : ValsAt ((W.alloc (.cells (vcells v) 23)).alloc (.cells #[.int .i64 q] 3)) (some ⟨W.heap.size, 0, none⟩) [v] := ValsAt.of_cells k0.lt (fun j u hu => by rw [Nat.zero_add, k0.cell, ← hu]; simp [valCells])
  have hK : IntsAt ((W.alloc (.cells (vcells v) 23)).alloc (.cells #[.int .i64 q] 3)) (some ⟨W.heap.size + 1, 0, none⟩) [q] := IntsAt.whole k1
  refine (are_any [v] [q] _ _ 1 1 _ hA hK (by simp)).mono ?_
  rintro e w' ⟨rfl, hb⟩
  exact ⟨by simp [Ev.areB], bstep b1 hb⟩
def Ev.truthR (r : R) : R := if r.e = 0 then (if r.v.k = 3 ∨ r.v.k = 0 then Ev.ok r.v else Ev.err 10) else Ev.err r.e
set_option maxHeartbeats 1000000 in
theorem truth_any (r : R) (w : World) : Calls Tryz.prog 28 #[vv r.v, .int .i64 r.e] w fun e w' => e = .returned (outR (Ev.truthR r)) ∧ Below w.heap.size w w' := by
  obtain ⟨⟨k, n, s⟩, c⟩ := r
  have b0 := (Below.refl w.heap.size w).alloc (Nat.le_refl _) (.cells (vcells ⟨k, n, s⟩) 23)
  have b1 := b0.alloc (by simp) (.cells #[.int .i64 0, .int .i64 0, .string ⟨#[]⟩] 23)
  have q0 := (Row3.new w k n (tx s)).alloc (.cells #[.int .i64 0, .int .i64 0, .string ⟨#[]⟩] 23)
  have r0 := Row3.new (w.alloc (.cells (vcells ⟨k, n, s⟩) 23)) 0 0 ⟨#[]⟩
  rw [World.size_alloc] at r0
  unfold vv vcells at *
  dsimp only at *
  have B1 := Lib.hid b1
  have R0 := Lib.hid r0
  have Q0 := Lib.hid q0
  obtain ⟨c0, c1, c2⟩ := q0.holds
  have FAIL := Lib.hid efail_any
  by_cases h : c = 0
  · have h' : (c != 0) = false := by simpa using h
    have AO := Lib.hid (fun W g hg => are_one ⟨k, n, s⟩ 3 W g hg)
    by_cases hk : k = 3 ∨ k = 0
    · have HR : Hid (Ev.truthR ⟨⟨k, n, s⟩, c⟩ = Ev.ok ⟨k, n, s⟩) := Lib.hid (by rw [Ev.truthR, if_pos h, if_pos hk])
      have HK : Hid (decide (k = 3 ∨ k = 0) = true) := Lib.hid (by simpa using hk)
      dsimp only at AO
      rw [HK.out] at AO
      clear h hk b0 b1 q0 r0
      go_enter Tryz.func28, Tryz.ntmps28
      go_wp2_with fail
      refine (AO.out _ _ (by simp)).mono ?_
      rintro e w2 ⟨rfl, hb⟩
      have Q2 := Q0.out.below hb (by simp; omega)
      have R2 := Lib.hid (R0.out.below hb (by simp))
      have B2 := Lib.hid (bstep B1.out hb)
      clear c0 c1 c2 hb
      obtain ⟨c0, c1, c2⟩ := Q2.holds
      obtain ⟨d1, d2, d3⟩ := R2.out.holds
      have f0 := R2.out.frozen 0
      have f1 := R2.out.frozen 1
      have f2 := R2.out.frozen 2
      clear Q2
      go_wp2_with fail
      exact fin_R Tryz.results28 rfl rfl rfl R2.out B2.out (by omega) (by rw [HR.out]; rfl)
    · have HR : Hid (Ev.truthR ⟨⟨k, n, s⟩, c⟩ = Ev.err 10) := Lib.hid (by rw [Ev.truthR, if_pos h, if_neg hk])
      have HK : Hid (decide (k = 3 ∨ k = 0) = false) := Lib.hid (by simpa using hk)
      dsimp only at AO
      rw [HK.out] at AO
      clear h hk b0 b1 q0 r0
      go_enter Tryz.func28, Tryz.ntmps28
      go_wp2_with fail
      refine (AO.out _ _ (by simp)).mono ?_
      rintro e w2 ⟨rfl, hb⟩
      have R2 := Lib.hid (R0.out.below hb (by simp))
      have B2 := Lib.hid (bstep B1.out hb)
      clear c0 c1 c2 hb
      go_wp2_with fail
      refine (FAIL.out _ _).mono ?_
      rintro e w3 ⟨rfl, hb3⟩
      have R3 := Lib.hid (R2.out.below hb3 R2.out.lt)
      have B3 := Lib.hid (bstep B2.out hb3)
      clear hb3
      obtain ⟨d1, d2, d3⟩ := R3.out.holds
      have f0 := R3.out.frozen 0
      have f1 := R3.out.frozen 1
      have f2 := R3.out.frozen 2
      unfold outR vv vcells Ev.err Ev.z
      go_wp2_with fail
      exact fin_R Tryz.results28 rfl rfl rfl R3.out B3.out (by omega) (by rw [HR.out]; rfl)
  · have h' : (c != 0) = true := by simpa using h
    have HR : Hid (Ev.truthR ⟨⟨k, n, s⟩, c⟩ = Ev.err c) := Lib.hid (by rw [Ev.truthR, if_neg h])
    clear h b0 b1 q0 r0 c0 c1 c2
    go_enter Tryz.func28, Tryz.ntmps28
    go_wp2_with fail
    refine (FAIL.out _ _).mono ?_
    rintro e w3 ⟨rfl, hb3⟩
    have R3 := Lib.hid (R0.out.below hb3 R0.out.lt)
    have B3 := Lib.hid (bstep B1.out hb3)
    clear hb3
    obtain ⟨d1, d2, d3⟩ := R3.out.holds
    have f0 := R3.out.frozen 0
    have f1 := R3.out.frozen 1
    have f2 := R3.out.frozen 2
    unfold outR vv vcells Ev.err Ev.z
    go_wp2_with fail
    exact fin_R Tryz.results28 rfl rfl rfl R3.out B3.out (by omega) (by rw [HR.out]; rfl)
def Ev.wholeR (n c : Int) : R := if c = 0 then Ev.ok ⟨1, n, []⟩ else Ev.err c
theorem whole_any (n c : Int) (w : World) : Calls Tryz.prog 117 #[.int .i64 n, .int .i64 c] w fun e w' => e = .returned (outR (Ev.wholeR n c)) ∧ Below w.heap.size w w' := by
  have R0 := Lib.hid (Row3.new w 0 0 ⟨#[]⟩)
  have B0 := Lib.hid ((Below.refl w.heap.size w).alloc (Nat.le_refl _) (.cells #[.int .i64 0, .int .i64 0, .string ⟨#[]⟩] 23))
  by_cases h : c = 0
  · have h' : (c != 0) = false := by simpa using h
    have HR : Hid (Ev.wholeR n c = Ev.ok ⟨1, n, []⟩) := Lib.hid (by rw [Ev.wholeR, if_pos h])
    clear h
    go_enter Tryz.func117, Tryz.ntmps117
    go_wp2_with fail
    refine (int_any _ _).mono ?_
    rintro e w1 ⟨rfl, hb1⟩
    have R1 := Lib.hid (R0.out.below hb1 R0.out.lt)
    have B1 := Lib.hid (bstep B0.out hb1)
    clear hb1 R0 B0
    obtain ⟨d1, d2, d3⟩ := R1.out.holds
    have f0 := R1.out.frozen 0
    have f1 := R1.out.frozen 1
    have f2 := R1.out.frozen 2
    go_wp2_with fail
    exact fin_R Tryz.results117 rfl rfl rfl R1.out B1.out (Nat.le_refl _) (by rw [HR.out]; rfl)
  · have h' : (c != 0) = true := by simpa using h
    have HR : Hid (Ev.wholeR n c = Ev.err c) := Lib.hid (by rw [Ev.wholeR, if_neg h])
    clear h
    go_enter Tryz.func117, Tryz.ntmps117
    go_wp2_with fail
    refine (efail_any _ _).mono ?_
    rintro e w1 ⟨rfl, hb1⟩
    have R1 := Lib.hid (R0.out.below hb1 R0.out.lt)
    have B1 := Lib.hid (bstep B0.out hb1)
    clear hb1 R0 B0
    obtain ⟨d1, d2, d3⟩ := R1.out.holds
    have f0 := R1.out.frozen 0
    have f1 := R1.out.frozen 1
    have f2 := R1.out.frozen 2
    unfold outR vv vcells Ev.err Ev.z
    go_wp2_with fail
    exact fin_R Tryz.results117 rfl rfl rfl R1.out B1.out (Nat.le_refl _) (by rw [HR.out]; rfl)
def Ev.joinR (l : List UInt8) : R := if l.length ≤ 200 then Ev.ok ⟨2, 0, l⟩ else Ev.err 3
theorem joined_any (l : List UInt8) (w : World) (hl : l.length ≤ 1000000) : Calls Tryz.prog 116 #[.string (tx l)] w fun e w' => e = .returned (outR (Ev.joinR l)) ∧ Below w.heap.size w w' := by
  have R0 := Lib.hid (Row3.new w 0 0 ⟨#[]⟩)
  have B0 := Lib.hid ((Below.refl w.heap.size w).alloc (Nat.le_refl _) (.cells #[.int .i64 0, .int .i64 0, .string ⟨#[]⟩] 23))
  have hs : (tx l).size = l.length := by simp [ByteArray.size, tx]
  have hl9 : (l.length : Int) ≤ 1000000 := by omega
  by_cases h : l.length ≤ 200
  · have h' : ¬ (200 : Int) < (l.length : Int) := by omega
    have HR : Hid (Ev.joinR l = Ev.ok ⟨2, 0, l⟩) := Lib.hid (by rw [Ev.joinR, if_pos h])
    have TS := Lib.hid (fun W => text_small (tx l) W (by rw [hs]; exact h))
    clear h hs hl
    go_enter Tryz.func116, Tryz.ntmps116
    go_wp2_with fail
    refine (TS.out _).mono ?_
    rintro e w1 ⟨rfl, hb1⟩
    have R1 := Lib.hid (R0.out.below hb1 R0.out.lt)
    have B1 := Lib.hid (bstep B0.out hb1)
    clear hb1 R0 B0
    obtain ⟨d1, d2, d3⟩ := R1.out.holds
    have f0 := R1.out.frozen 0
    have f1 := R1.out.frozen 1
    have f2 := R1.out.frozen 2
    go_wp2_with fail
    exact fin_R Tryz.results116 rfl rfl rfl R1.out B1.out (Nat.le_refl _) (by rw [HR.out]; rfl)
  · have h' : (200 : Int) < (l.length : Int) := by omega
    have HR : Hid (Ev.joinR l = Ev.err 3) := Lib.hid (by rw [Ev.joinR, if_neg h])
    clear h hs hl
    go_enter Tryz.func116, Tryz.ntmps116
    go_wp2_with fail
    refine (efail_any _ _).mono ?_
    rintro e w1 ⟨rfl, hb1⟩
    have R1 := Lib.hid (R0.out.below hb1 R0.out.lt)
    have B1 := Lib.hid (bstep B0.out hb1)
    clear hb1 R0 B0
    obtain ⟨d1, d2, d3⟩ := R1.out.holds
    have f0 := R1.out.frozen 0
    have f1 := R1.out.frozen 1
    have f2 := R1.out.frozen 2
    unfold outR vv vcells Ev.err Ev.z
    go_wp2_with fail
    exact fin_R Tryz.results116 rfl rfl rfl R1.out B1.out (Nat.le_refl _) (by rw [HR.out]; rfl)
end Go.Proofs.YteghhmomhlnccaaGreatDoor

/- eval: stands, reckoned, within, column (gen_kc.py). -/
namespace Go.Proofs.YteghhmomhlnccaaGreatDoor
open Go.RowKit Go.Lib
set_option linter.unusedVariables false
set_option linter.unusedSimpArgs false
set_option maxRecDepth 100000
attribute [local go_sem ↓] eqVal neqVal
open Ev (V R Pl)
def Ev.standB (t : List UInt8) (o : Int) : Bool := if t == [61] then decide (o = 0) else if t == [33, 61] then !decide (o = 0) else if t == [60] then decide (o < 0) else if t == [60, 61] then decide (o ≤ 0) else if t == [62] then decide (0 < o) else decide (0 ≤ o)
theorem stands_any (t : List UInt8) (o : Int) (w : World) : Calls Tryz.prog 114 #[.string (tx t), .int .i64 o] w fun e w' => e = .returned (.bool (Ev.standB t o)) ∧ w' = w := by
  cases t0 : (t == [61])
  case true =>
    have HR : Hid (Ev.standB t o = (decide (o = 0))) := Lib.hid (by simp only [Ev.standB, t0] <;> rfl)
    go_enter Tryz.func114, Tryz.ntmps114
    go_wp2_with fail
    all_goals (go_ret; exact ⟨retB2 (by (rw [HR.out]) <;> first | rfl | (rw [Bool.eq_iff_iff]; simp; done) | (rw [Bool.eq_iff_iff]; simp; omega)), rfl⟩)
  case false =>
    cases t1 : (t == [33, 61])
    case true =>
      have HR : Hid (Ev.standB t o = (!decide (o = 0))) := Lib.hid (by simp only [Ev.standB, t0, t1] <;> rfl)
      go_enter Tryz.func114, Tryz.ntmps114
      go_wp2_with fail
      all_goals (go_ret; exact ⟨retB2 (by (rw [HR.out]) <;> first | rfl | (rw [Bool.eq_iff_iff]; simp; done) | (rw [Bool.eq_iff_iff]; simp; omega)), rfl⟩)
    case false =>
      cases t2 : (t == [60])
      case true =>
        have HR : Hid (Ev.standB t o = (decide (o < 0))) := Lib.hid (by simp only [Ev.standB, t0, t1, t2] <;> rfl)
        go_enter Tryz.func114, Tryz.ntmps114
        go_wp2_with fail
        all_goals (go_ret; exact ⟨retB2 (by (rw [HR.out]) <;> first | rfl | (rw [Bool.eq_iff_iff]; simp; done) | (rw [Bool.eq_iff_iff]; simp; omega)), rfl⟩)
      case false =>
        cases t3 : (t == [60, 61])
        case true =>
          have HR : Hid (Ev.standB t o = (decide (o ≤ 0))) := Lib.hid (by simp only [Ev.standB, t0, t1, t2, t3] <;> rfl)
          go_enter Tryz.func114, Tryz.ntmps114
          go_wp2_with fail
          all_goals (go_ret; exact ⟨retB2 (by (rw [HR.out]) <;> first | rfl | (rw [Bool.eq_iff_iff]; simp; done) | (rw [Bool.eq_iff_iff]; simp; omega)), rfl⟩)
        case false =>
          cases t4 : (t == [62])
          case true =>
            have HR : Hid (Ev.standB t o = (decide (0 < o))) := Lib.hid (by simp only [Ev.standB, t0, t1, t2, t3, t4] <;> rfl)
            go_enter Tryz.func114, Tryz.ntmps114
            go_wp2_with fail
            all_goals (go_ret; exact ⟨retB2 (by (rw [HR.out]) <;> first | rfl | (rw [Bool.eq_iff_iff]; simp; done) | (rw [Bool.eq_iff_iff]; simp; omega)), rfl⟩)
          case false =>
            have HR : Hid (Ev.standB t o = (decide (0 ≤ o))) := Lib.hid (by simp only [Ev.standB, t0, t1, t2, t3, t4] <;> rfl)
            go_enter Tryz.func114, Tryz.ntmps114
            go_wp2_with fail
            all_goals (go_ret; exact ⟨retB2 (by (rw [HR.out]) <;> first | rfl | (rw [Bool.eq_iff_iff]; simp; done) | (rw [Bool.eq_iff_iff]; simp; omega)), rfl⟩)
theorem Ev.whole_num (n : Int) : Ev.wholeR (sv n) (se n) = Ev.num n := by
  unfold Ev.wholeR Ev.num sv se
  by_cases h : Fits n
  · simp [h]
  · simp [h]
theorem fits_tmod {a b : Int} (hb : Fits b) (h0 : b ≠ 0) : Fits (a.tmod b) := by
  have h := Int.natAbs_tmod a b
  have h2 := Nat.mod_lt a.natAbs (show b.natAbs > 0 by omega)
  unfold Fits at *
  omega
/-- a mark between two numbers. -/
def Ev.reckR (t : List UInt8) (a b : Int) : R :=
  if t == [43] then Ev.num (a + b) else if t == [45] then Ev.num (a - b) else if t == [42] then Ev.num (a * b) else if b = 0 then Ev.err 5 else if t == [47] then Ev.num (a.tdiv b) else Ev.num (a.tmod b)
theorem reckoned_any (t : List UInt8) (a b : Int) (w : World) (ha : Fits a) (hb : Fits b) : Calls Tryz.prog 118 #[.string (tx t), .int .i64 a, .int .i64 b] w fun e w' => (∃ n c, e = .returned (.tuple #[.int .i64 n, .int .i64 c]) ∧ Ev.wholeR n c = Ev.reckR t a b) ∧ w' = w := by
  cases t0 : (t == [43])
  case true =>
    have HC := Lib.hid (fun W => add_any a b W ha hb)
    clear ha hb
    go_enter Tryz.func118, Tryz.ntmps118
    go_wp2_with fail
    refine (HC.out _).mono ?_
    rintro e w1 ⟨rfl, rfl⟩
    go_wp2_with fail
    refine bodyPost_ret (results_tmp2 Tryz.results118 _ _ _) rfl ⟨⟨_, _, rfl, by simp only [Ev.reckR, t0]; exact Ev.whole_num _⟩, rfl⟩
  case false =>
    cases t1 : (t == [45])
    case true =>
      have HC := Lib.hid (fun W => sub_any a b W ha hb)
      clear ha hb
      go_enter Tryz.func118, Tryz.ntmps118
      go_wp2_with fail
      refine (HC.out _).mono ?_
      rintro e w1 ⟨rfl, rfl⟩
      go_wp2_with fail
      refine bodyPost_ret (results_tmp2 Tryz.results118 _ _ _) rfl ⟨⟨_, _, rfl, by simp only [Ev.reckR, t0, t1]; exact Ev.whole_num _⟩, rfl⟩
    case false =>
      cases t2 : (t == [42])
      case true =>
        have HC := Lib.hid (fun W => mul_any a b W ha hb)
        clear ha hb
        go_enter Tryz.func118, Tryz.ntmps118
        go_wp2_with fail
        refine (HC.out _).mono ?_
        rintro e w1 ⟨rfl, rfl⟩
        go_wp2_with fail
        refine bodyPost_ret (results_tmp2 Tryz.results118 _ _ _) rfl ⟨⟨_, _, rfl, by simp only [Ev.reckR, t0, t1, t2]; exact Ev.whole_num _⟩, rfl⟩
      case false =>
        by_cases h0 : b = 0
        · subst h0
          cases t3 : (t == [47])
          case false =>
            have HC := Lib.hid (fun W => rem_zero a W)
            clear ha hb
            go_enter Tryz.func118, Tryz.ntmps118
            go_wp2_with fail
            refine (HC.out _).mono ?_
            rintro e w1 ⟨rfl, rfl⟩
            go_wp2_with fail
            refine bodyPost_ret (results_tmp2 Tryz.results118 _ _ _) rfl ⟨⟨_, _, rfl, by simp only [Ev.reckR, t0, t1, t2]; rfl⟩, rfl⟩
          case true =>
            have HC := Lib.hid (fun W => div_zero a W)
            clear ha hb
            go_enter Tryz.func118, Tryz.ntmps118
            go_wp2_with fail
            refine (HC.out _).mono ?_
            rintro e w1 ⟨rfl, rfl⟩
            go_wp2_with fail
            refine bodyPost_ret (results_tmp2 Tryz.results118 _ _ _) rfl ⟨⟨_, _, rfl, by simp only [Ev.reckR, t0, t1, t2]; rfl⟩, rfl⟩
        · cases t3 : (t == [47])
          case false =>
            have HF := Lib.hid (fits_tmod (a := a) hb h0)
            have H0 := Lib.hid h0
            have HC := Lib.hid (fun W => rem_any a b W ha hb h0)
            clear ha hb
            go_enter Tryz.func118, Tryz.ntmps118
            go_wp2_with fail
            refine (HC.out _).mono ?_
            rintro e w1 ⟨rfl, rfl⟩
            go_wp2_with fail
            refine bodyPost_ret (results_tmp2 Tryz.results118 _ _ _) rfl ⟨⟨_, _, rfl, by simp only [Ev.reckR, t0, t1, t2, t3]; rw [if_neg H0.out]; simp [Ev.wholeR, Ev.num, HF.out]⟩, rfl⟩
          case true =>
            have H0 := Lib.hid h0
            have HC := Lib.hid (fun W => div_any a b W ha hb h0)
            clear ha hb
            go_enter Tryz.func118, Tryz.ntmps118
            go_wp2_with fail
            refine (HC.out _).mono ?_
            rintro e w1 ⟨rfl, rfl⟩
            go_wp2_with fail
            refine bodyPost_ret (results_tmp2 Tryz.results118 _ _ _) rfl ⟨⟨_, _, rfl, by simp only [Ev.reckR, t0, t1, t2, t3]; rw [if_neg H0.out]; exact Ev.whole_num _⟩, rfl⟩
theorem within_any (n : Int) (m : Nat) (w : World) : Calls Tryz.prog 121 #[.int .i64 n, .int .i64 (m : Nat)] w fun e w' => e = .returned (.int .i64 (Ev.cutN n m : Nat)) ∧ w' = w := by
  have HR : Hid (((Ev.cutN n m : Nat) : Int) = min (max n 0) (m : Int)) := Lib.hid (by
    unfold Ev.cutN
    by_cases h1 : n < 0
    · rw [if_pos h1]; omega
    · rw [if_neg h1]
      by_cases h2 : n < (m : Int)
      · rw [if_pos h2]; omega
      · rw [if_neg h2]; omega)
  go_enter Tryz.func121, Tryz.ntmps121
  go_wp2_with fail
  go_ret
  exact ⟨by rw [HR.out]; rfl, rfl⟩
abbrev ovV (C : List Col) (Ac : Option Addr) (cc : Nat) (W : List V) (Ar : Option Addr) (cr : Nat) : Value := .agg #[.slice Ac C.length cc, .slice Ar W.length cr]
def Ev.colR (C : List Col) (W : List V) (t : List UInt8) : R := match Kd.ix C t with | none => Ev.err 9 | some i => Ev.ok (W.getD i Ev.z)
theorem column_any (C : List Col) (W : List V) (Ac Ar : Option Addr) (cc cr : Nat) (t : List UInt8) (w : World) (hA : ColsAt w Ac C) (hV : ValsAt w Ar W) (hC : C.length ≤ 1000000) (hl : W.length = C.length) :
    Calls Tryz.prog 53 #[ovV C Ac cc W Ar cr, .string (tx t)] w fun e w' => e = .returned (outR (Ev.colR C W t)) ∧ Below w.heap.size w w' := by
  have b0 := (Below.refl w.heap.size w).alloc (Nat.le_refl _) (.cells #[.slice Ac C.length cc, .slice Ar W.length cr] 60)
  have b1 := b0.alloc (by simp) (.cells #[.int .i64 0, .int .i64 0, .string ⟨#[]⟩] 23)
  have k0 := (Whole.new w 60 #[.slice Ac C.length cc, .slice Ar W.length cr]).alloc (.cells #[.int .i64 0, .int .i64 0, .string ⟨#[]⟩] 23)
  have r0 := Row3.new (w.alloc (.cells #[.slice Ac C.length cc, .slice Ar W.length cr] 60)) 0 0 ⟨#[]⟩
  rw [World.size_alloc] at r0
  have FI := Lib.hid (find_any C t Ac cc _ (hA.below b1) hC)
  have HV := Lib.hid (hV.below b1)
  have B1 := Lib.hid b1
  have K0 := Lib.hid k0
  have R0 := Lib.hid r0
  have x0 := k0.cell 0
  have x1 := k0.cell 1
  simp only [List.getElem?_toArray, List.getElem?_cons_zero, List.getElem?_cons_succ] at x0 x1
  have HIX := Lib.hid (fun i => @Kd.ix_spec C t i)
  have HL := Lib.hid hl
  clear hA hV hl b0 b1 k0 r0
  obtain ⟨ix, hix⟩ : ∃ ix, Kd.ix C t = ix := ⟨_, rfl⟩
  have HX := Lib.hid hix
  rw [hix] at FI HIX
  clear hix
  unfold ovV at *
  have hC9 : (C.length : Int) ≤ 1000000 := by omega
  obtain ⟨m, hm⟩ : ∃ m, C.length = m := ⟨_, rfl⟩
  have HM := Lib.hid hm
  rw [hm] at FI x0 B1 K0 R0 HV hC9 ⊢
  clear hm hC
  cases ix with
  | none =>
    have HR : Hid (Ev.colR C W t = Ev.err 9) := Lib.hid (by rw [Ev.colR, HX.out])
    have HXV : Hid (Kd.ixV none = -1) := Lib.hid rfl
    rw [HXV.out] at FI
    go_enter Tryz.func53, Tryz.ntmps53
    go_wp2_with fail
    refine FI.out.mono ?_
    rintro e w1 ⟨rfl, hb1⟩
    have B2 := Lib.hid (bstep B1.out hb1)
    have R1 := Lib.hid (R0.out.below hb1 R0.out.lt)
    clear hb1 FI x0 x1
    go_wp2_with fail
    refine (efail_any _ _).mono ?_
    rintro e w3 ⟨rfl, hb3⟩
    have R3 := Lib.hid (R1.out.below hb3 R1.out.lt)
    have B3 := Lib.hid (bstep B2.out hb3)
    clear hb3 R1 B2 R0 B1
    obtain ⟨d1, d2, d3⟩ := R3.out.holds
    have f0 := R3.out.frozen 0
    have f1 := R3.out.frozen 1
    have f2 := R3.out.frozen 2
    unfold outR vv vcells Ev.err Ev.z
    go_wp2_with fail
    exact fin_R Tryz.results53 rfl rfl rfl R3.out B3.out (by omega) (by rw [HR.out]; rfl)
  | some i =>
    obtain ⟨hi, -, -⟩ := HIX.out i rfl
    have hiW : i < W.length := by rw [HL.out]; exact hi
    have hi9 : (i : Int) < (m : Int) := by have := HM.out; omega
    have hiw : (i : Int) < (W.length : Int) := by omega
    have HR : Hid (Ev.colR C W t = Ev.ok W[i]) := Lib.hid (by rw [Ev.colR, HX.out]; show Ev.ok (W.getD i Ev.z) = _; rw [List.getD_eq_getElem?_getD, List.getElem?_eq_getElem hiW]; rfl)
    have HXV : Hid (Kd.ixV (some i) = (i : Nat)) := Lib.hid rfl
    rw [HXV.out] at FI
    obtain ⟨x, hx⟩ : ∃ x, W[i] = x := ⟨_, rfl⟩
    have VAL : Hid (∀ w1, Below (w.heap.size + 1 + 1) ((w.alloc (.cells #[.slice Ac m cc, .slice Ar W.length cr] 60)).alloc (.cells #[.int .i64 0, .int .i64 0, .string ⟨#[]⟩] 23)) w1 → ∃ b o, Ar = some ⟨b, o, none⟩ ∧ b < w1.heap.size ∧ w1.cell? ⟨b, o + i * 3, none⟩ = some (.int .i64 x.k) ∧ w1.cell? ⟨b, o + i * 3 + 1, none⟩ = some (.int .i64 x.n) ∧ w1.cell? ⟨b, o + i * 3 + 2, none⟩ = some (.string (tx x.s))) := Lib.hid (fun w1 hb => by rw [← hx]; exact (HV.out.below (by simpa using hb)) i hiW)
    rw [hx] at HR
    clear hx
    generalize W.length = wl at *
    go_enter Tryz.func53, Tryz.ntmps53
    go_wp2_with fail
    refine FI.out.mono ?_
    rintro e w1 ⟨rfl, hb1⟩
    obtain ⟨b, o, rfl, hbl, y0, y1, y2⟩ := VAL.out w1 (by simpa using hb1)
    have B2 := Lib.hid (bstep B1.out hb1)
    have R1 := Lib.hid (R0.out.below hb1 R0.out.lt)
    have k1 := K0.out.below hb1 K0.out.lt
    clear x0 x1
    have x0 := k1.cell 0
    have x1 := k1.cell 1
    simp only [List.getElem?_toArray, List.getElem?_cons_zero, List.getElem?_cons_succ] at x0 x1
    clear hb1 FI VAL R0 B1 k1
    obtain ⟨d1, d2, d3⟩ := R1.out.holds
    have f0 := R1.out.frozen 0
    have f1 := R1.out.frozen 1
    have f2 := R1.out.frozen 2
    go_wp2_with fail
    exact fin_R Tryz.results53 rfl rfl rfl R1.out B2.out (by omega) (by rw [HR.out]; rfl)
end Go.Proofs.YteghhmomhlnccaaGreatDoor

/- eval: marked, signed, called (gen_kd.py). -/
namespace Go.Proofs.YteghhmomhlnccaaGreatDoor
open Go.RowKit Go.Lib
set_option linter.unusedVariables false
set_option linter.unusedSimpArgs false
set_option maxRecDepth 100000
attribute [local go_sem ↓] eqVal neqVal
open Ev (V R Pl)
theorem pl_plain {v : V} (h : Pl v) : plainB v.k v.n (tx v.s) = true := by
  have hs : (tx v.s).size = v.s.length := by simp [ByteArray.size, tx]
  rw [plainB_iff]
  rcases h with ⟨h1, h2, h3⟩ | ⟨h1, -, h3⟩ | ⟨h1, h2, h3⟩ | ⟨h1, h2, h3⟩
  · exact .inl ⟨h1, h2, by rw [hs, h3]; rfl⟩
  · exact .inr (.inl ⟨h1, by rw [hs, h3]; rfl⟩)
  · exact .inr (.inr (.inl ⟨h1, h2, by rw [hs]; exact h3⟩))
  · exact .inr (.inr (.inr ⟨h1, by rw [hs, h3]; rfl, by omega, by omega⟩))
theorem Ev.less_bef (a b : V) : Ev.less a b = befB a.k a.n (tx a.s) b.k b.n (tx b.s) := by
  unfold Ev.less befB
  rw [ByteArray.toList_eq, ByteArray.toList_eq]
theorem Ev.cmp_stands (t : List UInt8) {a b : V} (ha : Pl a) (hb : Pl b) : Ev.standB t (cmpV a.k a.n (tx a.s) b.k b.n (tx b.s)) = Ev.cmpB t a b := by
  have h1 : Ev.less a b = true ↔ ord a.k a.n (tx a.s) b.k b.n (tx b.s) < 0 := by rw [Ev.less_bef]; exact ord_bef (pl_plain ha) (pl_plain hb)
  have h2 : Ev.less b a = true ↔ 0 < ord a.k a.n (tx a.s) b.k b.n (tx b.s) := by
    rw [Ev.less_bef, ord_bef (pl_plain hb) (pl_plain ha), ord_neg]; omega
  rw [cmpV, pl_plain ha, pl_plain hb]
  simp only [Bool.and_self, if_true]
  generalize ord a.k a.n (tx a.s) b.k b.n (tx b.s) = o at *
  unfold Ev.standB Ev.cmpB
  simp only [beq_iff_eq]
  generalize Ev.less a b = x at *
  generalize Ev.less b a = y at *
  have e1 : x = decide (o < 0) := by rw [Bool.eq_iff_iff, h1]; simp
  have e2 : y = decide (0 < o) := by rw [Bool.eq_iff_iff, h2]; simp
  subst e1 e2
  split
  · rw [Bool.eq_iff_iff]; simp; omega
  split
  · rw [Bool.eq_iff_iff]; simp; omega
  split
  · rfl
  split
  · rw [Bool.eq_iff_iff]; simp
  split
  · rfl
  · rw [Bool.eq_iff_iff]; simp
theorem Ev.lev3 {t : List UInt8} : Ex.lev t = 3 ↔ (t = [61] ∨ t = [33, 61] ∨ t = [60] ∨ t = [60, 61] ∨ t = [62] ∨ t = [62, 61]) := by
  constructor
  · intro h
    by_cases e0 : t = [61]
    · exact .inl e0
    by_cases e1 : t = [33, 61]
    · exact .inr (.inl e1)
    by_cases e2 : t = [60]
    · exact .inr (.inr (.inl e2))
    by_cases e3 : t = [60, 61]
    · exact .inr (.inr (.inr (.inl e3)))
    by_cases e4 : t = [62]
    · exact .inr (.inr (.inr (.inr (.inl e4))))
    by_cases e5 : t = [62, 61]
    · exact .inr (.inr (.inr (.inr (.inr e5))))
    exfalso
    unfold Ex.lev at h
    simp only [Bool.cond_eq_ite, beq_iff_eq, if_neg e0, if_neg e1, if_neg e2, if_neg e3, if_neg e4, if_neg e5] at h
    repeat' split at h
    all_goals omega
  · rintro (rfl | rfl | rfl | rfl | rfl | rfl) <;> rfl
theorem vals_two {w : World} {A : Option Addr} {a b : V} (h : ValsAt w A [a, b]) : ∃ B O, A = some ⟨B, O, none⟩ ∧ B < w.heap.size ∧
    (w.cell? ⟨B, O, none⟩ = some (.int .i64 a.k) ∧ w.cell? ⟨B, O + 1, none⟩ = some (.int .i64 a.n) ∧ w.cell? ⟨B, O + 2, none⟩ = some (.string (tx a.s))) ∧
    (w.cell? ⟨B, O + 3, none⟩ = some (.int .i64 b.k) ∧ w.cell? ⟨B, O + 3 + 1, none⟩ = some (.int .i64 b.n) ∧ w.cell? ⟨B, O + 3 + 2, none⟩ = some (.string (tx b.s))) := by
  obtain ⟨B, O, rfl, h1, h2, h3, h4⟩ := h 0 (by simp)
  obtain ⟨B', O', e, -, k2, k3, k4⟩ := h 1 (by simp)
  cases e
  exact ⟨_, _, rfl, h1, ⟨by simpa using h2, by simpa using h3, by simpa using h4⟩, by simpa using k2, by simpa using k3, by simpa using k4⟩
theorem vals_one {w : World} {A : Option Addr} {a : V} (h : ValsAt w A [a]) : ∃ B O, A = some ⟨B, O, none⟩ ∧ B < w.heap.size ∧
    (w.cell? ⟨B, O, none⟩ = some (.int .i64 a.k) ∧ w.cell? ⟨B, O + 1, none⟩ = some (.int .i64 a.n) ∧ w.cell? ⟨B, O + 2, none⟩ = some (.string (tx a.s))) := by
  obtain ⟨B, O, rfl, h1, h2, h3, h4⟩ := h 0 (by simp)
  exact ⟨_, _, rfl, h1, by simpa using h2, by simpa using h3, by simpa using h4⟩
/-- a call that leaves what was. -/
theorem call_over {f : FuncId} {args : Array Value} {W0 W : World} {Q : Ending → Prop} (hW : Below W0.heap.size W0 W) (h : Calls Tryz.prog f args W fun e w' => Q e ∧ Below W.heap.size W w') : Calls Tryz.prog f args W fun e w' => Q e ∧ Below W0.heap.size W0 w' := h.mono fun e w' h => ⟨h.1, bstep hW h.2⟩
end Go.Proofs.YteghhmomhlnccaaGreatDoor

/- eval: Contains; isNull, firstKnown, chosen of kids that comesTo serves. -/
namespace Go.Proofs.YteghhmomhlnccaaGreatDoor
open Go.RowKit Go.Lib
set_option linter.unusedVariables false
set_option linter.unusedSimpArgs false
set_option maxRecDepth 100000
attribute [local go_sem ↓] eqVal neqVal
open Ex (Tree)
open Ev (V R Pl)
theorem zsame {v : V} (h : Pl v) : same 0 0 ⟨#[]⟩ v.k v.n (tx v.s) = decide (v.k = 0) := by
  rw [← same_z h, Bool.eq_iff_iff, same_iff, same_iff]
  constructor
  · rintro ⟨h1, h2, h3⟩; exact ⟨h1.symm, h2.symm, h3.symm⟩
  · rintro ⟨h1, h2, h3⟩; exact ⟨h1.symm, h2.symm, h3.symm⟩
set_option maxHeartbeats 1000000 in
theorem index_any (L : List V) (A : Option Addr) (c : Nat) (w : World) (hA : ValsAt w A L) (hP : ∀ v ∈ L, Pl v) (hn : L.length ≤ 1000000) :
    Calls Tryz.prog 113 #[.slice A L.length c, .agg #[.int .i64 0, .int .i64 0, .string ⟨#[]⟩]] w fun e w' => (∃ i : Int, e = .returned (.int .i64 i) ∧ decide (0 ≤ i) = L.any (fun v => decide (v.k = 0))) ∧ Below w.heap.size w w' := by
  have b0 : Below w.heap.size w (w.alloc (.cells #[.int .i64 0, .int .i64 0, .string ⟨#[]⟩] 23)) := (Below.refl _ _).alloc (Nat.le_refl _) _
  have HZ := Lib.hid (Row3.new w 0 0 ⟨#[]⟩)
  have HA := Lib.hid (hA.below b0)
  have HP := Lib.hid hP
  have B0 := Lib.hid b0
  obtain ⟨m, hm⟩ : ∃ m, L.length = m := ⟨_, rfl⟩
  have HM := Lib.hid hm
  rw [hm]
  have hm9 : (m : Int) ≤ 1000000 := by omega
  clear hA hP hn hm b0
  go_enter Tryz.func113, Tryz.ntmps113
  go_wp2_with fail
  obtain ⟨W0, hW0⟩ : ∃ W0, w.alloc (.cells #[.int .i64 0, .int .i64 0, .string ⟨#[]⟩] 23) = W0 := ⟨_, rfl⟩
  rw [hW0] at HZ B0 HA ⊢
  go_loopg [5, 8] (m + 1) (fun j s5 s8 wr => ∃ i : Nat, i ≤ m ∧ m < i + j ∧ s8 = .int .i64 (i : Nat) ∧ Hid (∀ k (h1 : k < L.length), k < i → ¬ L[k].k = 0) ∧ Hid (Below W0.heap.size W0 wr))
  case atStart => exact ⟨0, by omega, by omega, rfl, Lib.hid (fun k _ h => absurd h (Nat.not_lt_zero _)), Lib.hid (Below.refl _ _)⟩
  case round =>
    obtain ⟨i, hi, hj, rfl, HE, HB⟩ := hrel
    obtain ⟨z0, z1, z2⟩ := (HZ.out.below HB.out HZ.out.lt).holds
    have BF := Lib.hid (bstep B0.out HB.out)
    by_cases hlt : i < m
    · have hlt' : (i : Int) < (m : Int) := by omega
      have hik : i < L.length := by rw [HM.out]; exact hlt
      obtain ⟨b, o, rfl, hx, c0, c1, c2⟩ := (HA.out.below HB.out) i hik
      have hs := zsame (HP.out _ (List.getElem_mem hik))
      obtain ⟨x, hx'⟩ : ∃ x, L[i] = x := ⟨_, rfl⟩
      have HX := Lib.hid hx'
      rw [hx'] at c0 c1 c2 hs
      clear hx'
      cases hq : decide (x.k = 0)
      · rw [hq] at hs
        have HE2 : Hid (∀ k (h1 : k < L.length), k < i + 1 → ¬ L[k].k = 0) := Lib.hid (fun k h1 h3 => by
          by_cases hki : k = i
          · subst hki; rw [HX.out]; exact of_decide_eq_false hq
          · exact HE.out k h1 (by omega))
        clear HE hq
        go_wp2_with fail
        go_quiet (fail)
        go_wp2_with fail
        go_roundg (m - i)
        case measure => omega
        case rel => exact ⟨i + 1, by omega, by omega, by go_num, HE2, Lib.hid (below_drewN HB.out _)⟩
      · rw [hq] at hs
        have HR : Hid (decide ((0 : Int) ≤ (i : Nat)) = L.any (fun v => decide (v.k = 0))) := Lib.hid (by
          rw [Bool.eq_iff_iff, List.any_eq_true]
          constructor
          · intro _; exact ⟨_, List.getElem_mem hik, by rw [HX.out]; exact hq⟩
          · intro _; simp)
        clear HE hq
        go_wp2_with fail
        go_quiet (fail)
        go_wp2_with fail
        go_ret
        exact ⟨⟨_, rfl, HR.out⟩, by first | exact BF.out | exact below_drewN BF.out _⟩
    · have hlt' : ¬ (i : Int) < (m : Int) := by omega
      have HR : Hid (decide ((0 : Int) ≤ -1) = L.any (fun v => decide (v.k = 0))) := Lib.hid (by
        rw [show decide ((0 : Int) ≤ -1) = false by decide, eq_comm, Bool.eq_false_iff]
        intro h
        obtain ⟨v, hv, hz⟩ := List.any_eq_true.1 h
        obtain ⟨k, hk, rfl⟩ := List.getElem_of_mem hv
        exact HE.out k hk (by have := HM.out; omega) (of_decide_eq_true hz))
      go_wp2_with fail
      go_ret
      exact ⟨⟨_, rfl, HR.out⟩, by first | exact BF.out | exact below_drewN BF.out _⟩
theorem contains_any (L : List V) (A : Option Addr) (c : Nat) (w : World) (hA : ValsAt w A L) (hP : ∀ v ∈ L, Pl v) (hn : L.length ≤ 1000000) :
    Calls Tryz.prog 90 #[.slice A L.length c, .agg #[.int .i64 0, .int .i64 0, .string ⟨#[]⟩]] w fun e w' => e = .returned (.bool (L.any (fun v => decide (v.k = 0)))) ∧ Below w.heap.size w w' := by
  have b0 : Below w.heap.size w (w.alloc (.cells #[.int .i64 0, .int .i64 0, .string ⟨#[]⟩] 23)) := (Below.refl _ _).alloc (Nat.le_refl _) _
  obtain ⟨z0, z1, z2⟩ := (Row3.new w 0 0 ⟨#[]⟩).holds
  have IX := Lib.hid (index_any L A c _ (hA.below b0) hP hn)
  have B0 := Lib.hid b0
  clear hA hP hn b0
  generalize L.length = m at *
  go_enter Tryz.func90, Tryz.ntmps90
  go_wp2_with fail
  refine IX.out.mono ?_
  rintro e w1 ⟨⟨i, rfl, hi⟩, hb⟩
  have B1 := Lib.hid (bstep B0.out hb)
  have HI := Lib.hid hi
  clear hb IX z0 z1 z2 hi
  go_wp2_with fail
  go_ret
  exact ⟨retB2 HI.out, B1.out⟩

/-- comesTo of a tree, over columns and a row that lie in a world. -/
def CT (C : List Col) (Ac : Option Addr) (cc : Nat) (W : List V) (Ar : Option Addr) (cr : Nat) (w0 : World) (T : Tree) : Prop :=
  ∀ v w, Below w0.heap.size w0 w → NodeV w v T → Calls Tryz.prog 27 #[ovV C Ac cc W Ar cr, v] w fun e w' => e = .returned (outR (Ev.ev C W T)) ∧ Below w.heap.size w w'
end Go.Proofs.YteghhmomhlnccaaGreatDoor
