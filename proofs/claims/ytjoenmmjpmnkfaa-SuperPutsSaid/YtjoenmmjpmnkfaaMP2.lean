import Derived.Test.YtjoenmmjpmnkfaaMP1

/- The reader: single, must, number. -/
namespace Go.Proofs.Ytjoenmmjpmnkfaa
open Go.RowKit

theorem grown_set {w0 W : World} {r : Nat} (h : w0.grownBy W (some r)) (i : Nat) (u : Value) : w0.grownBy (W.setCell ⟨r, i, none⟩ u) (some r) :=
  ⟨h.os, h.tape, h.output, by simpa using h.size, fun k hk hn => (Below.heap_setCell W ⟨r, i, none⟩ u k (fun e => hn (by rw [e]))).trans (h.block k hk hn)⟩
theorem grown_below {w0 W W' : World} {r : Nat} (h : w0.grownBy W (some r)) (hb : Below W.heap.size W W') : w0.grownBy W' (some r) :=
  ⟨hb.os.trans h.os, hb.tape.trans h.tape, hb.output.trans h.output, Nat.le_trans h.size hb.size, fun k hk hn => (hb.block k (Nat.lt_of_lt_of_le hk h.size)).trans (h.block k hk hn)⟩
/-- the bytes lie elsewhere. -/
def RFar (A : Option Addr) (l : List UInt8) (r : Nat) : Prop := 0 < l.length → ∀ a, A = some a → a.block ≠ r
/-- the reader in memory, bytes that stood there in w0, and whether it has gone wrong; since w0 nothing else has turned. -/
def Rdr (w0 w1 W : World) (r : Nat) (l : List UInt8) (wrong : Bool) : Prop :=
  ∃ A c, Whole W r 100 #[.slice A l.length c, .bool wrong] ∧ Holds w0 A l ∧ l.length ≤ c ∧ RFar A l r ∧ w0.grownBy W (some r) ∧ w1.grownBy W (some r)

theorem RFar.drop {A : Option Addr} {l : List UInt8} {r : Nat} (h : RFar A l r) (k c : Nat) : RFar (if c = k then A else A.map (·.add k)) (l.drop k) r := by
  intro hl a ha
  rw [List.length_drop] at hl
  split at ha
  · exact h (by omega) a ha
  · cases A with
    | none => cases ha
    | some a' =>
      simp at ha
      subst ha
      have := h (by omega) a' rfl
      unfold Addr.add
      split <;> exact this
theorem Holds.grown {w W : World} {r : Nat} {A : Option Addr} {l : List UInt8} (h : Holds w A l) (hf : RFar A l r) (hg : w.grownBy W (some r)) : Holds W A l := fun i hi => by
  obtain ⟨b, o, e, hlt, hc⟩ := h i hi
  have hne : b ≠ r := hf (by omega) _ e
  refine ⟨b, o, e, Nat.lt_of_lt_of_le hlt hg.size, ?_⟩
  rw [← hc]
  exact World.cell?_of_block (hg.block b hlt (fun q => hne (by injection q)))
theorem Rdr.wrongly {w0 w1 W : World} {r : Nat} {l : List UInt8} {b : Bool} (h : Rdr w0 w1 W r l b) (b' : Bool) : Rdr w0 w1 (W.setCell ⟨r, 1, none⟩ (.bool b')) r l b' := by
  obtain ⟨A, c, hw, hh, hc, hf, hg, hg1⟩ := h
  exact ⟨A, c, hw.set_ 1 _, hh, hc, hf, grown_set hg _ _, grown_set hg1 _ _⟩
theorem Rdr.resting {w0 w1 W : World} {r : Nat} {l : List UInt8} {b : Bool} (h : Rdr w0 w1 W r l b) (A : Option Addr) (c : Nat) (l' : List UInt8) (hh : Holds w0 A l') (hc : l'.length ≤ c) (hf : RFar A l' r) : Rdr w0 w1 (W.setCell ⟨r, 0, none⟩ (.slice A l'.length c)) r l' b := by
  obtain ⟨A', c', hw, _, _, _, hg, hg1⟩ := h
  exact ⟨A, c, hw.set_ 0 _, hh, hc, hf, grown_set hg _ _, grown_set hg1 _ _⟩
theorem Rdr.cells {w0 w1 W : World} {r : Nat} {l : List UInt8} {b : Bool} (h : Rdr w0 w1 W r l b) : ∃ A c, W.cell? ⟨r, 0, none⟩ = some (.slice A l.length c) ∧ W.cell? ⟨r, 1, none⟩ = some (.bool b) ∧ W.frozen? ⟨r, 0, none⟩ = false ∧ W.frozen? ⟨r, 1, none⟩ = false ∧ Holds w0 A l ∧ Holds W A l ∧ l.length ≤ c ∧ RFar A l r := by
  obtain ⟨A, c, hw, hh, hc, hf, hg, hg1⟩ := h
  exact ⟨A, c, hw.cell 0, hw.cell 1, hw.frozen 0, hw.frozen 1, hh, hh.grown hf hg, hc, hf⟩
/-- from here on. -/
theorem Rdr.rebase {w0 w1 W : World} {r : Nat} {l : List UInt8} {b : Bool} (h : Rdr w0 w1 W r l b) : Rdr w0 W W r l b := by
  obtain ⟨A, c, hw, hh, hc, hf, hg, hg1⟩ := h
  exact ⟨A, c, hw, hh, hc, hf, hg, World.grownBy.refl W _⟩
theorem Rdr.grown {w0 w1 W : World} {r : Nat} {l : List UInt8} {b : Bool} (h : Rdr w0 w1 W r l b) : w0.grownBy W (some r) ∧ w1.grownBy W (some r) := by
  obtain ⟨A, c, hw, hh, hc, hf, hg, hg1⟩ := h
  exact ⟨hg, hg1⟩

set_option maxRecDepth 100000 in
theorem must_any {w0 w1 W : World} {r : Nat} {l : List UInt8} {b : Bool} (h : Rdr w0 w1 W r l b) (p : Bool) :
    Calls Try.prog 65 #[.pointer (some ⟨r, 0, none⟩), .bool p] W fun e w' => e = .returned (.tuple #[]) ∧ Rdr w0 w1 w' r l (b || !p) := by
  obtain ⟨A, c, c0, c1, f0, f1, -, -, -, -⟩ := h.cells
  have H := Lib.hid h
  have HW := Lib.hid (h.wrongly (b || !p))
  clear h c0 f0
  cases b
  · go_enter Try.func65, Try.ntmps65
    go_wp2_with fail
    go_end0
    exact ⟨rfl, HW.out⟩
  · go_enter Try.func65, Try.ntmps65
    go_wp2_with fail
    go_end0
    exact ⟨rfl, HW.out⟩

set_option maxRecDepth 100000 in
theorem single_none {w0 w1 W : World} {r : Nat} {b : Bool} (h : Rdr w0 w1 W r [] b) :
    Calls Try.prog 64 #[.pointer (some ⟨r, 0, none⟩)] W fun e w' => e = .returned (.int .u8 0) ∧ Rdr w0 w1 w' r [] true := by
  obtain ⟨A, c, c0, c1, f0, f1, -, -, -, -⟩ := h.cells
  have HW := Lib.hid (h.wrongly true)
  clear h
  simp only [List.length_nil] at c0
  go_enter Try.func64, Try.ntmps64
  go_wp2_with fail
  go_ret
  exact ⟨rfl, HW.out⟩

set_option maxRecDepth 100000 in
theorem single_some {w0 w1 W : World} {r : Nat} {x : UInt8} {l : List UInt8} {b : Bool} (h : Rdr w0 w1 W r (x :: l) b) (hl : (x :: l).length ≤ 9000000) :
    Calls Try.prog 64 #[.pointer (some ⟨r, 0, none⟩)] W fun e w' => e = .returned (.int .u8 (x.toNat : Nat)) ∧ Rdr w0 w1 w' r l b := by
  obtain ⟨A, c, c0, c1, f0, f1, hh, hW, hc, hf⟩ := h.cells
  obtain ⟨g, o, rfl, hb, k0⟩ := hW 0 (by simp)
  have hd := hh.drop 1 c hc
  simp only [List.drop_succ_cons, List.drop_zero, List.length_cons] at hd hc c0 hl
  simp only [List.getElem_cons_zero, Nat.add_zero] at k0
  have hgr : g ≠ r := hf (by simp) _ rfl
  have hfd := hf.drop 1 c
  simp only [List.drop_succ_cons, List.drop_zero] at hfd
  by_cases hc1 : c = 1
  · rw [if_pos hc1] at hd hfd
    have hl0 : l = [] := List.eq_nil_of_length_eq_zero (by omega)
    subst hl0
    have HW := Lib.hid (h.resting _ 0 [] hd (by simp) hfd)
    clear h hd hh hW hf hfd
    subst hc1
    go_enter Try.func64, Try.ntmps64
    go_wp2_with fail
    go_ret
    exact ⟨rfl, HW.out⟩
  · rw [if_neg hc1] at hd hfd
    have hz : ¬ (l.length : Int) + 1 = 0 := by omega
    have HW := h.resting _ (c - 1) l hd (by omega) hfd
    simp only [Option.map_some, Addr.add_lit] at HW
    replace HW := Lib.hid HW
    have c1' : (c = 1) = False := eq_false hc1
    clear h hd hh hW hc1 hf hfd
    go_enter Try.func64, Try.ntmps64
    go_wp2_with fail
    go_ret
    exact ⟨rfl, HW.out⟩

/-- the number at the front, from its i-th group on; what stands behind it. -/
def numFrom : Nat → Nat → List UInt8 → Option (Nat × List UInt8)
  | 0, _, _ => none
  | _ + 1, _, [] => none
  | k + 1, acc, x :: l =>
    if k = 0 ∧ x.toNat % 128 > 1 then none
    else if x.toNat < 128 then (if x.toNat = 0 ∧ k < 9 then none else some (acc + x.toNat % 128 * 128 ^ (9 - k), l))
    else numFrom k (acc + x.toNat % 128 * 128 ^ (9 - k)) l
def numOf (l : List UInt8) : Option (Nat × List UInt8) := numFrom 10 0 l

/-- what a reading call leaves: what it should tell, or that it has gone wrong. -/
def Read {α : Type} (w0 w1 : World) (r : Nat) (wrong : Bool) (n : Nat) (want : Option (α × List UInt8)) (is : α → Prop) (w' : World) : Prop :=
  match want with
  | some (x, l') => is x ∧ l'.length ≤ n ∧ Rdr w0 w1 w' r l' wrong
  | none => ∃ l', l'.length ≤ n ∧ Rdr w0 w1 w' r l' true

end Go.Proofs.Ytjoenmmjpmnkfaa

/- The reader's number. -/
namespace Go.Proofs.Ytjoenmmjpmnkfaa
open Go.RowKit

/-- one group, a byte of which y came. -/
def stepN (k acc y : Nat) (l : List UInt8) : Option (Nat × List UInt8) :=
  if k = 0 ∧ y % 128 > 1 then none
  else if y < 128 then (if y = 0 ∧ k < 9 then none else some (acc + y % 128 * 128 ^ (9 - k), l))
  else numFrom k (acc + y % 128 * 128 ^ (9 - k)) l
theorem numFrom_cons (k acc : Nat) (x : UInt8) (l : List UInt8) : numFrom (k + 1) acc (x :: l) = stepN k acc x.toNat l := rfl
theorem numFrom_nil (k acc : Nat) : numFrom k acc [] = none := by cases k <;> rfl

theorem single_any {w0 w1 W : World} {r : Nat} {l' : List UInt8} {b : Bool} (h : Rdr w0 w1 W r l' b) (hl : l'.length ≤ 9000000) :
    Calls Try.prog 64 #[.pointer (some ⟨r, 0, none⟩)] W fun e w' => ∃ (y : Nat) (l2 : List UInt8) (bad : Bool), y < 256 ∧ e = .returned (.int .u8 (y : Nat)) ∧ Rdr w0 w1 w' r l2 (b || bad) ∧ l2.length ≤ l'.length ∧
      ((bad = true ∧ l' = []) ∨ (bad = false ∧ ∃ x : UInt8, x.toNat = y ∧ l' = x :: l2)) := by
  cases l' with
  | nil =>
    refine (single_none h).mono ?_
    rintro e w' ⟨rfl, hr⟩
    exact ⟨0, [], true, by omega, rfl, by simpa using hr, Nat.le_refl _, .inl ⟨rfl, rfl⟩⟩
  | cons x l =>
    refine (single_some h hl).mono ?_
    rintro e w' ⟨rfl, hr⟩
    exact ⟨x.toNat, l, false, x.toNat_lt, rfl, by simpa using hr, by simp, .inr ⟨rfl, x, rfl, rfl⟩⟩

theorem group_of (y : Nat) (hy : y < 256) : IntKind.u64.wrap (bits .and .u8 (y : Int) 127) = ((y % 128 : Nat) : Int) := by
  have := u8_and_nat y 127 hy (by omega)
  rw [show y &&& 127 = y % 128 from Nat.and_two_pow_sub_one_eq_mod y 7] at this
  rw [show bits .and .u8 (y : Int) 127 = ((y % 128 : Nat) : Int) from this, IntKind.wrap_u64]
  omega
theorem shifted (g i : Nat) : IntKind.u64.wrap ((g : Int) * 2 ^ (7 * i)) = ((g * 2 ^ (7 * i) % 18446744073709551616 : Nat) : Int) := by
  rw [IntKind.wrap_u64, Int.natCast_emod, Int.natCast_mul, Int.natCast_pow]
  rfl
theorem lt64 (g i : Nat) (hg : g < 128) (hi : i ≤ 8) : g * 2 ^ (7 * i) < 18446744073709551616 :=
  Nat.lt_of_le_of_lt (Nat.mul_le_mul (show g ≤ 127 by omega) (Nat.pow_le_pow_right (by omega) (show 7 * i ≤ 56 by omega))) (by decide)
theorem lt64' (g i : Nat) (hg : g < 128) (hi : i ≤ 9) (h : ¬ (9 - i = 0 ∧ g > 1)) : g * 2 ^ (7 * i) < 18446744073709551616 := by
  by_cases h8 : i ≤ 8
  · exact lt64 g i hg h8
  · obtain rfl : i = 9 := by omega
    exact Nat.lt_of_le_of_lt (Nat.mul_le_mul_right _ (show g ≤ 1 by omega)) (by decide)
theorem back_nat (g i : Nat) (hg : g < 128) (hi : i ≤ 9) : (g * 2 ^ (7 * i) % 18446744073709551616) / 2 ^ (7 * i) = g ↔ ¬ (9 - i = 0 ∧ g > 1) := by
  constructor
  · rintro h ⟨h1, h2⟩
    obtain rfl : i = 9 := by omega
    have e : g * 2 ^ (7 * 9) % 18446744073709551616 = (g % 2) * 2 ^ (7 * 9) := by
      rw [show (18446744073709551616 : Nat) = 2 * 2 ^ (7 * 9) by decide]
      exact Nat.mul_mod_mul_right _ _ _
    rw [e, Nat.mul_div_cancel _ (Nat.two_pow_pos _)] at h
    omega
  · intro h
    rw [Nat.mod_eq_of_lt (lt64' g i hg hi h), Nat.mul_div_cancel _ (Nat.two_pow_pos _)]
theorem back_again (g i : Nat) (hg : g < 128) (hi : i ≤ 9) : ((((g * 2 ^ (7 * i) % 18446744073709551616 : Nat) : Int) / 2 ^ (7 * i)) == (g : Int)) = !decide (9 - i = 0 ∧ g > 1) := by
  have e : (((g * 2 ^ (7 * i) % 18446744073709551616 : Nat) : Int) / 2 ^ (7 * i)) = (((g * 2 ^ (7 * i) % 18446744073709551616) / 2 ^ (7 * i) : Nat) : Int) := by
    rw [Int.natCast_ediv, Int.natCast_pow]
    rfl
  rw [e, Bool.eq_iff_iff]
  simp only [beq_iff_eq, Bool.not_eq_true', decide_eq_false_iff_not, Int.natCast_inj]
  exact back_nat g i hg hi
theorem or_group (acc g i : Nat) (ha : acc < 18446744073709551616) : ∃ a2 : Nat, a2 < 18446744073709551616 ∧ bits .or .u64 (acc : Int) ((g * 2 ^ (7 * i) % 18446744073709551616 : Nat) : Int) = (a2 : Int) ∧
    (acc < 128 ^ i → g < 128 → i ≤ 9 → ¬ (9 - i = 0 ∧ g > 1) → a2 = acc + g * 128 ^ (9 - (9 - i)) ∧ a2 < 128 ^ (i + 1)) := by
  have hs : g * 2 ^ (7 * i) % 18446744073709551616 < 18446744073709551616 := Nat.mod_lt _ (by decide)
  refine ⟨acc ||| (g * 2 ^ (7 * i) % 18446744073709551616), Nat.or_lt_two_pow (n := 64) ha hs, u64_or_nat _ _ ha hs, ?_⟩
  intro h1 h2 h3 h4
  have hp : 128 ^ i = 2 ^ (7 * i) := by rw [show (128 : Nat) = 2 ^ 7 by rfl, ← Nat.pow_mul]
  rw [Nat.mod_eq_of_lt (lt64' g i h2 h3 h4), show 9 - (9 - i) = i by omega, hp]
  rw [hp] at h1
  have h5 := Nat.two_pow_add_eq_or_of_lt h1 g
  have h6 : 2 ^ (7 * i) * g ≤ 2 ^ (7 * i) * 127 := Nat.mul_le_mul_left _ (by omega)
  rw [Nat.or_comm, Nat.mul_comm g, ← h5, Nat.pow_succ, hp]
  clear hs h5
  generalize 2 ^ (7 * i) * g = z at *
  omega

theorem read_end {w0 w1 w : World} {r n i acc y g a2 : Nat} {b bad2 P1 P2 : Bool} {l l2 : List UInt8} (hN : numOf l = if bad2 then none else stepN (9 - i) acc y l2) (hP1 : decide (9 - i = 0 ∧ g > 1) = P1) (hg : y % 128 = g) (hy : y < 128) (hi : i ≤ 9)
    (hP2 : P2 = decide (0 < g ∨ i = 0)) (ha : bad2 = false → acc < 128 ^ i) (hv : acc < 128 ^ i → g < 128 → i ≤ 9 → ¬ (9 - i = 0 ∧ g > 1) → a2 = acc + g * 128 ^ (9 - (9 - i)) ∧ a2 < 128 ^ (i + 1)) (hl : l2.length ≤ n) (hr : Rdr w0 w1 w r l2 ((b || (bad2 || P1)) || !P2)) :
    Read w0 w1 r b n (numOf l) (fun x => a2 = x) w := by
  rw [hN]
  cases bad2 with
  | true => exact ⟨l2, hl, by simpa using hr⟩
  | false =>
    simp only [Bool.false_eq_true, if_false]
    unfold stepN
    rw [hg]
    cases P1 with
    | true =>
      rw [if_pos (by simpa using hP1)]
      exact ⟨l2, hl, by simpa using hr⟩
    | false =>
      have h1 : ¬ (9 - i = 0 ∧ g > 1) := of_decide_eq_false hP1
      rw [if_neg h1, if_pos hy]
      by_cases h2 : 0 < g ∨ i = 0
      · rw [if_neg (by omega)]
        rw [decide_eq_true h2] at hP2
        subst hP2
        exact ⟨(hv (ha rfl) (by omega) hi h1).1, hl, by simpa using hr⟩
      · rw [if_pos (by omega)]
        rw [decide_eq_false h2] at hP2
        subst hP2
        exact ⟨l2, hl, by simpa using hr⟩
theorem num_goes {i acc y g a2 : Nat} {bad2 P1 : Bool} {l l2 : List UInt8} (hN : numOf l = if bad2 then none else stepN (9 - i) acc y l2) (hP1 : decide (9 - i = 0 ∧ g > 1) = P1) (hg : y % 128 = g) (hy : ¬ y < 128) (hi : i ≤ 9)
    (ha : bad2 = false → acc < 128 ^ i) (hv : acc < 128 ^ i → g < 128 → i ≤ 9 → ¬ (9 - i = 0 ∧ g > 1) → a2 = acc + g * 128 ^ (9 - (9 - i)) ∧ a2 < 128 ^ (i + 1)) :
    ((bad2 || P1) = false → a2 < 128 ^ (i + 1)) ∧ numOf l = (if (bad2 || P1) then none else numFrom (10 - (i + 1)) a2 l2) := by
  rw [hN]
  cases bad2 with
  | true => exact ⟨fun h => (by cases h), rfl⟩
  | false =>
    simp only [Bool.false_or, Bool.false_eq_true, if_false]
    unfold stepN
    rw [hg]
    cases P1 with
    | true =>
      rw [if_pos (by simpa using hP1)]
      exact ⟨fun h => (by cases h), rfl⟩
    | false =>
      have h1 : ¬ (9 - i = 0 ∧ g > 1) := of_decide_eq_false hP1
      have h2 := hv (ha rfl) (by omega) hi h1
      rw [if_neg h1, if_neg hy]
      refine ⟨fun _ => h2.2, ?_⟩
      rw [← h2.1, show 9 - i = 10 - (i + 1) by omega]
      rfl

set_option maxRecDepth 100000 in
set_option maxHeartbeats 1000000 in
theorem number_any {w0 w1 W : World} {r : Nat} {l : List UInt8} {b : Bool} (h : Rdr w0 w1 W r l b) (hl : l.length ≤ 9000000) :
    Calls Try.prog 60 #[.pointer (some ⟨r, 0, none⟩)] W fun e w' => ∃ m : Nat, m < 18446744073709551616 ∧ e = .returned (.int .u64 (m : Nat)) ∧ Read w0 w1 r b l.length (numOf l) (fun x => m = x) w' := by
  have H := Lib.hid h
  clear h
  go_enter Try.func60, Try.ntmps60
  go_wp2_with fail
  go_loopg [3, 4] 11 (fun j s3 s4 wr => ∃ (i acc : Nat) (l' : List UInt8) (bad : Bool), i ≤ 10 ∧ 10 < i + j ∧ acc < 18446744073709551616 ∧ (bad = false → acc < 128 ^ i) ∧ s3 = .int .u64 (acc : Nat) ∧ s4 = .int .i64 (7 * i : Nat) ∧ l'.length ≤ l.length ∧
    Rdr w0 w1 wr r l' (b || bad) ∧ numOf l = (if bad then none else numFrom (10 - i) acc l'))
  case atStart => exact ⟨0, 0, l, false, by omega, by omega, by omega, fun _ => by omega, rfl, rfl, Nat.le_refl _, by simpa using H.out, rfl⟩
  case round =>
    obtain ⟨i, acc, l', bad, hi, hj, ha, hab, rfl, rfl, hll, hrd, hnum⟩ := hrel
    have HR := Lib.hid hrd
    have HN := Lib.hid hnum
    have HA := Lib.hid hab
    clear hrd hnum hab
    by_cases h10 : i = 10
    · subst h10
      have HN2 : Hid (numOf l = none) := Lib.hid (by rw [HN.out]; cases bad <;> rfl)
      obtain ⟨A, c, -, c1, -, f1, -, -, -, -⟩ := HR.out.cells
      have HW := Lib.hid (HR.out.wrongly true)
      clear HN HA
      go_wp2_with fail
      go_ret
      refine ⟨0, by omega, rfl, ?_⟩
      rw [HN2.out]
      exact ⟨l', hll, HW.out⟩
    · have hi9 : i ≤ 9 := by omega
      have h7 : ((7 * i : Nat) : Int) < 64 := by omega
      go_wp2_with fail
      refine (single_any HR.out (by omega)).mono ?_
      rintro e u1 ⟨y, l2, bad1, hy, rfl, hr1, hl2, hcase⟩
      have hN1 : numOf l = if (bad || bad1) then none else stepN (9 - i) acc y l2 := by
        rw [HN.out]
        rcases hcase with ⟨rfl, rfl⟩ | ⟨rfl, x, rfl, rfl⟩
        · cases bad <;> simp [numFrom_nil]
        · cases bad
          · rw [show 10 - i = (9 - i) + 1 by omega, numFrom_cons]; rfl
          · rfl
      rw [Bool.or_assoc] at hr1
      have hab1 : (bad || bad1) = false → acc < 128 ^ i := fun q => HA.out (by cases bad <;> simp_all)
      generalize (bad || bad1) = bad2 at *
      have HR1 := Lib.hid hr1
      have HN1 := Lib.hid hN1
      have HA1 := Lib.hid hab1
      clear hr1 hN1 hab1 hcase HR HN HA
      have hg := group_of y hy
      have hg128 : y % 128 < 128 := by omega
      have HSH := Lib.hid (shifted (y % 128) i)
      have HBK := Lib.hid (back_again (y % 128) i hg128 hi9)
      obtain ⟨a2, ha2, hor, hval⟩ := or_group acc (y % 128) i ha
      have HOR := Lib.hid hor
      have HV := Lib.hid hval
      clear hor hval
      generalize hgg : y % 128 = g at *
      have HG := Lib.hid hgg
      clear hgg
      go_wp2_with fail
      clear hg
      rw [HSH.out, HBK.out]
      generalize hP1 : decide (9 - i = 0 ∧ g > 1) = P1 at *
      have HP1 := Lib.hid hP1
      clear hP1
      refine (must_any HR1.out _).mono ?_
      rintro e w2 ⟨rfl, hr2⟩
      rw [Bool.not_not, Bool.or_assoc] at hr2
      have HR2 := Lib.hid hr2
      clear hr2
      go_upto_region 9 with fail
      rw [HSH.out, HOR.out]
      by_cases hy1 : y < 128
      · have hyI : (y : Int) < 128 := by omega
        by_cases hg0 : g = 0
        · subst hg0
          by_cases hi0 : i = 0
          · subst hi0
            have FIN := fun w' => read_end (w0 := w0) (w1 := w1) (w := w') (r := r) (b := b) (P2 := true) HN1.out HP1.out HG.out hy1 hi9 (by simp) HA1.out HV.out (Nat.le_trans hl2 hll)
            have HF := Lib.hid FIN
            clear FIN
            go_wp2_with fail
            refine (must_any HR2.out _).mono ?_
            rintro e w3 ⟨rfl, hr3⟩
            have H3 := Lib.hid (HF.out w3 hr3)
            clear hr3
            go_wp2_with fail
            go_ret
            exact ⟨a2, ha2, rfl, H3.out⟩
          · have hz : ((7 : Int) * (i : Int) == 0) = false := by simp; omega
            have FIN := fun w' => read_end (w0 := w0) (w1 := w1) (w := w') (r := r) (b := b) (P2 := false) HN1.out HP1.out HG.out hy1 hi9 (by simp; omega) HA1.out HV.out (Nat.le_trans hl2 hll)
            have HF := Lib.hid FIN
            clear FIN
            go_wp2_with fail
            refine (must_any HR2.out _).mono ?_
            rintro e w3 ⟨rfl, hr3⟩
            have H3 := Lib.hid (HF.out w3 hr3)
            clear hr3
            go_wp2_with fail
            go_ret
            exact ⟨a2, ha2, rfl, H3.out⟩
        · have hz : (0 : Int) < (g : Int) := by omega
          have FIN := fun w' => read_end (w0 := w0) (w1 := w1) (w := w') (r := r) (b := b) (P2 := true) HN1.out HP1.out HG.out hy1 hi9 (by simp; omega) HA1.out HV.out (Nat.le_trans hl2 hll)
          have HF := Lib.hid FIN
          clear FIN
          go_wp2_with fail
          refine (must_any HR2.out _).mono ?_
          rintro e w3 ⟨rfl, hr3⟩
          have H3 := Lib.hid (HF.out w3 hr3)
          clear hr3
          go_wp2_with fail
          go_ret
          exact ⟨a2, ha2, rfl, H3.out⟩
      · have hyI : ¬ (y : Int) < 128 := by omega
        have GO := Lib.hid (num_goes HN1.out HP1.out HG.out hy1 hi9 HA1.out HV.out)
        go_wp2_with fail
        go_roundg (10 - i)
        case measure => omega
        case rel => exact ⟨i + 1, a2, l2, (bad2 || P1), by omega, by omega, ha2, GO.out.1, rfl, by congr 1, Nat.le_trans hl2 hll, HR2.out, GO.out.2⟩
end Go.Proofs.Ytjoenmmjpmnkfaa

/- whole, text; got. -/
namespace Go.Proofs.Ytjoenmmjpmnkfaa
open Go.RowKit

/-- a whole number out of one from 0 on. -/
def zag (m : Nat) : Int := if m % 2 = 1 then -1 - (m / 2 : Nat) else (m / 2 : Nat)
def wholeOf (l : List UInt8) : Option (Int × List UInt8) := match numOf l with
  | some (m, l') => some (zag m, l')
  | none => none
def textOf (most : Nat) (l : List UInt8) : Option (ByteArray × List UInt8) := match numOf l with
  | some (n, l') => if most < n ∨ l'.length < n then none else some (⟨(l'.take n).toArray⟩, l'.drop n)
  | none => none
theorem zag_zig (n : Int) (h1 : -9223372036854775808 ≤ n) (h2 : n ≤ 9223372036854775807) : zag (zig n) = n := by
  unfold zag zig
  by_cases h : n < 0
  · rw [if_pos h, if_pos (by omega)]; omega
  · rw [if_neg h, if_neg (by omega)]; omega
theorem pk_odd_bit (m : Nat) (hm : m < 18446744073709551616) : (bits .and .u64 (m : Int) 1 == 1) = decide (m % 2 = 1) := by
  have h0 : bits .and .u64 (m : Int) 1 = ((m % 2 : Nat) : Int) := by
    have := u64_and_nat m 1 hm (by omega)
    rw [Nat.and_one_is_mod] at this
    exact this
  rw [h0, Bool.eq_iff_iff]
  simp only [beq_iff_eq, decide_eq_true_eq]
  omega
theorem pk_ret_i64 {a b : Int} (h : a = b) : Ending.returned (.int .i64 a) = .returned (.int .i64 b) := by rw [h]
theorem read_whole {w0 w1 w' : World} {r n m : Nat} {b : Bool} {l : List UInt8} (h : Read w0 w1 r b n (numOf l) (fun x => m = x) w') : Read w0 w1 r b n (wholeOf l) (fun x => zag m = x) w' := by
  unfold wholeOf
  cases hq : numOf l with
  | none => rw [hq] at h; exact h
  | some p => obtain ⟨x, l'⟩ := p; rw [hq] at h; exact ⟨by rw [h.1], h.2⟩
/-- how the reader stands behind a reading. -/
theorem read_state {α : Type} {w0 w1 w' : World} {r n : Nat} {b : Bool} {want : Option (α × List UInt8)} {is : α → Prop} (h : Read w0 w1 r b n want is w') :
    ∃ (l1 : List UInt8) (b1 : Bool), l1.length ≤ n ∧ Rdr w0 w1 w' r l1 b1 ∧ ((∃ x, want = some (x, l1) ∧ is x ∧ b1 = b) ∨ (want = none ∧ b1 = true)) := by
  cases want with
  | none => obtain ⟨l1, h1, h2⟩ := h; exact ⟨l1, true, h1, h2, .inr ⟨rfl, rfl⟩⟩
  | some p => obtain ⟨x, l'⟩ := p; exact ⟨l', b, h.2.1, h.2.2, .inl ⟨x, rfl, h.1, rfl⟩⟩
theorem below_of_grown {w0 W : World} {r : Nat} (h : w0.grownBy W (some r)) (hr : w0.heap.size ≤ r) : Below w0.heap.size w0 W :=
  ⟨h.os, h.tape, h.output, h.size, fun k hk => h.block k hk (fun e => by injection e; omega)⟩

end Go.Proofs.Ytjoenmmjpmnkfaa

/- got: what a reading takes off the front; GetUint, GetInt, GetText. -/
namespace Go.Proofs.Ytjoenmmjpmnkfaa
open Go.RowKit

/-- what a call tells of bytes: what stands at their front, and what behind, in new memory; or the error. -/
def Gets {α : Type} (w : World) (want : Option (α × List UInt8)) (mk : α → Value) (zero : Value) (e : Ending) (w' : World) : Prop :=
  Below w.heap.size w w' ∧ match want with
  | some (x, l') => ∃ v, e = .returned (.tuple #[mk x, v, .int .i64 0]) ∧ Row w' w.heap.size v l'
  | none => e = .returned (.tuple #[zero, .slice none 0 0, .int .i64 7])
theorem Gets.yes {α : Type} {w w' : World} {want : Option (α × List UInt8)} {mk : α → Value} {zero v : Value} {x : α} {l' : List UInt8} (h : want = some (x, l')) (hb : Below w.heap.size w w') (hr : Row w' w.heap.size v l') : Gets w want mk zero (.returned (.tuple #[mk x, v, .int .i64 0])) w' := by
  subst h; exact ⟨hb, v, rfl, hr⟩
theorem Gets.no {α : Type} {w w' : World} {want : Option (α × List UInt8)} {mk : α → Value} {zero : Value} (h : want = none) (hb : Below w.heap.size w w') : Gets w want mk zero (.returned (.tuple #[zero, .slice none 0 0, .int .i64 7])) w' := by
  subst h; exact ⟨hb, rfl⟩

theorem Rdr.new {w : World} {A : Option Addr} {c : Nat} {l : List UInt8} (h : Holds w A l) (hc : l.length ≤ c) : Rdr w w (w.alloc (.cells #[.slice A l.length c, .bool false] 100)) w.heap.size l false := by
  refine ⟨A, c, Whole.new w 100 _, h, hc, fun hl a ha => ?_, ⟨rfl, rfl, rfl, by simp, fun k hk _ => Below.heap_alloc w _ k hk⟩, ⟨rfl, rfl, rfl, by simp, fun k hk _ => Below.heap_alloc w _ k hk⟩⟩
  obtain ⟨b, o, e, hlt, _⟩ := h 0 hl
  rw [ha] at e
  cases e
  simp only
  omega

set_option maxRecDepth 100000 in
theorem nothing_uint (w : World) : Calls Try.prog 63 #[] w fun e w' => e = .returned (.tuple #[.int .u64 0, .slice none 0 0, .int .i64 7]) ∧ w' = w := by
  go_enter Try.func63, Try.ntmps63
  go_wp2_with fail
  go_ret3
  exact ⟨rfl, rfl⟩

set_option maxRecDepth 100000 in
set_option maxHeartbeats 1000000 in
theorem got_uint (A : Option Addr) (c : Nat) (l : List UInt8) (w : World) (h : Holds w A l) (hc : l.length ≤ c) (hl : l.length ≤ 100000) :
    Calls Try.prog 59 #[.slice A l.length c, .func (.func 60) #[] #[]] w (Gets w (numOf l) (fun x => .int .u64 (x : Nat)) (.int .u64 0)) := by
  have RN := Lib.hid (number_any (Rdr.new h hc) (by omega))
  clear h
  go_enter Try.func59, Try.ntmps59
  go_wp2_with fail
  refine RN.out.mono ?_
  rintro e w1 ⟨m, hm, rfl, hr⟩
  obtain ⟨l1, b1, hl1, hrd, hcase⟩ := read_state hr
  have hb1 := below_of_grown hrd.grown.1 (Nat.le_refl _)
  obtain ⟨A1, c1, k0, k1, -, -, -, hW, hc1, -⟩ := hrd.cells
  have CL := Lib.hid (clone_any A1 c1 l1 w1 hW (by omega))
  clear hr RN hrd hW
  rcases hcase with ⟨x, hn, rfl, rfl⟩ | ⟨hn, rfl⟩
  · have HN := Lib.hid hn
    clear hn
    go_wp2_with fail
    refine CL.out.mono ?_
    rintro e w2 ⟨v, rfl, hrow, hb2⟩
    have G := Lib.hid (Gets.yes (mk := fun x => .int .u64 (x : Nat)) (zero := .int .u64 0) HN.out (below_next hb1 hb2) (hrow.le hb1.size))
    clear hrow hb2
    go_wp2_with fail
    go_ret3
    exact G.out
  · have G := Lib.hid (Gets.no (mk := fun x => .int .u64 (x : Nat)) (zero := .int .u64 0) hn hb1)
    clear hn
    go_wp2_with fail
    refine (nothing_uint _).mono ?_
    rintro e w2 ⟨rfl, rfl⟩
    go_wp2_with fail
    go_ret3
    exact G.out

set_option maxRecDepth 100000 in
theorem get_uint (A : Option Addr) (c : Nat) (l : List UInt8) (w : World) (h : Holds w A l) (hc : l.length ≤ c) (hl : l.length ≤ 100000) :
    Calls Try.prog 46 #[.slice A l.length c] w (Gets w (numOf l) (fun x => .int .u64 (x : Nat)) (.int .u64 0)) := by
  have GT := Lib.hid (got_uint A c l w h hc hl)
  clear h
  go_enter Try.func46, Try.ntmps46
  go_wp2_with fail
  refine GT.out.mono ?_
  intro e w1 hg
  have HG := Lib.hid hg
  obtain ⟨hb, hg⟩ := hg
  cases hq : numOf l with
  | some p =>
    obtain ⟨x, l'⟩ := p
    rw [hq] at hg
    obtain ⟨v, rfl, -⟩ := hg
    clear hq
    go_wp2_with fail
    go_ret3
    exact HG.out
  | none =>
    rw [hq] at hg
    subst hg
    clear hq
    go_wp2_with fail
    go_ret3
    exact HG.out

end Go.Proofs.Ytjoenmmjpmnkfaa

/- Plain: what is packed is got back. -/
namespace Go.Proofs.Ytjoenmmjpmnkfaa

theorem byte_toNat (m : Nat) (h : m < 256) : (UInt8.ofNat m).toNat = m := by rw [UInt8.toNat_ofNat']; exact Nat.mod_eq_of_lt h
theorem numFrom_grp : ∀ (k : Nat), k ≤ 9 → ∀ (n acc : Nat) (t : List UInt8), n < 2 ^ (7 * k + 1) → (k < 9 → n ≠ 0) → numFrom (k + 1) acc (grp n ++ t) = some (acc + n * 128 ^ (9 - k), t)
  | 0, _ => by
    intro n acc t hn h0
    have hn2 : n < 2 := by simpa using hn
    rw [grp_small (by omega), List.singleton_append, numFrom_cons]
    unfold stepN
    rw [byte_toNat n (by omega), if_neg (by omega), if_pos (by omega), if_neg (by have := h0 (by omega); omega), Nat.mod_eq_of_lt (by omega)]
  | k + 1, hk => by
    intro n acc t hn h0
    by_cases hs : n < 128
    · rw [grp_small hs, List.singleton_append, numFrom_cons]
      unfold stepN
      rw [byte_toNat n (by omega), if_neg (by omega), if_pos hs, if_neg (by intro ⟨h1, h2⟩; exact h0 h2 h1), Nat.mod_eq_of_lt hs]
    · rw [grp_more hs, List.cons_append, numFrom_cons]
      unfold stepN
      rw [byte_toNat _ (by omega), if_neg (by omega), if_neg (by omega)]
      have hd : n / 128 < 2 ^ (7 * k + 1) := by
        have e : 2 ^ (7 * (k + 1) + 1) = 128 * 2 ^ (7 * k + 1) := by rw [show 7 * (k + 1) + 1 = 7 + (7 * k + 1) by omega, Nat.pow_add]
        rw [e] at hn
        exact Nat.div_lt_of_lt_mul hn
      rw [numFrom_grp k (by omega) (n / 128) _ t hd (fun _ => by omega)]
      have e1 : 9 - k = (9 - (k + 1)) + 1 := by omega
      rw [e1, Nat.pow_succ]
      have e2 : (n % 128 + 128) % 128 = n % 128 := by omega
      rw [e2]
      generalize 128 ^ (9 - (k + 1)) = z
      congr 2
      have h3 : n / 128 * (z * 128) = (n / 128 * 128) * z := by rw [Nat.mul_comm z, Nat.mul_assoc]
      have h4 : n * z = (n % 128) * z + (n / 128 * 128) * z := by rw [← Nat.add_mul]; congr 1; omega
      rw [h3, h4, Nat.add_assoc]
theorem numOf_grp (n : Nat) (h : n < 18446744073709551616) (t : List UInt8) : numOf (grp n ++ t) = some (n, t) := by
  have := numFrom_grp 9 (Nat.le_refl _) n 0 t h (fun q => absurd q (by omega))
  rw [show 9 - 9 = 0 from rfl, Nat.pow_zero, Nat.mul_one, Nat.zero_add] at this
  exact this
theorem wholeOf_grp (n : Int) (h1 : -9223372036854775808 ≤ n) (h2 : n ≤ 9223372036854775807) (t : List UInt8) : wholeOf (grp (zig n) ++ t) = some (n, t) := by
  unfold wholeOf
  rw [numOf_grp _ (zig_lt h1 h2)]
  simp only
  rw [zag_zig n h1 h2]
theorem textOf_txt (most : Nat) (s : ByteArray) (h : s.size ≤ most) (hm : most < 18446744073709551616) (t : List UInt8) : textOf most (txt s ++ t) = some (s, t) := by
  have hs : s.data.toList.length = s.size := Array.length_toList
  unfold textOf txt
  rw [List.append_assoc, numOf_grp _ (by omega)]
  simp only
  rw [if_neg (by rw [List.length_append, hs]; omega), List.take_left' hs, List.drop_left' hs]
end Go.Proofs.Ytjoenmmjpmnkfaa

/- The reference's GetUint. -/
namespace Go.Proofs.Ytjoenmmjpmnkfaa
open Go.RowKit

/-- what a reading by places tells: what stands there, the next place. -/
def Placed {α : Type} (n : Nat) (want : Option (α × List UInt8)) (mk : α → Value) (zero : Value) : Value :=
  match want with
  | some (x, l') => .tuple #[mk x, .int .i64 ((n - l'.length : Nat) : Int), .bool true]
  | none => .tuple #[zero, .int .i64 0, .bool false]
theorem placed_some {α : Type} {l : List UInt8} {q : Nat} (hq : q ≤ l.length) (x : α) (mk : α → Value) (zero : Value) : Placed l.length (some (x, l.drop q)) mk zero = .tuple #[mk x, .int .i64 (q : Nat), .bool true] := by
  unfold Placed
  simp only
  rw [List.length_drop, show l.length - (l.length - q) = q by omega]
theorem unit_pow (i p acc : Nat) (hi : i ≤ 9) (hp : p < 128) (h9 : i = 9 → p ≤ 1) (ha : acc < 128 ^ i) : acc + p * 128 ^ i < 18446744073709551616 ∧ (i < 9 → acc + p * 128 ^ i < 128 ^ (i + 1)) := by
  have hs : 128 ^ (i + 1) = 128 ^ i * 128 := Nat.pow_succ 128 i
  generalize hu : 128 ^ i = u at *
  constructor
  · rcases Nat.lt_or_ge i 9 with h | h
    · have h1 : 128 ^ i ≤ 128 ^ 8 := Nat.pow_le_pow_right (by omega) (by omega)
      rw [hu] at h1
      have h2 : p * u ≤ 127 * u := Nat.mul_le_mul_right _ (by omega)
      have : 128 ^ 8 = 72057594037927936 := by decide
      omega
    · have e9 : i = 9 := by omega
      have h2 : p * u ≤ 1 * u := Nat.mul_le_mul_right _ (h9 e9)
      have h3 : u = 9223372036854775808 := by rw [← hu, e9]
      omega
  · intro h
    rw [hs]
    have h2 : p * u ≤ 127 * u := Nat.mul_le_mul_right _ (by omega)
    omega

set_option maxRecDepth 100000 in
set_option maxHeartbeats 1000000 in
theorem refGetUint (B : Option Addr) (c : Nat) (l : List UInt8) (p0 : Nat) (w : World) (h : Holds w B l) (hl : l.length ≤ 3000) (hp0 : p0 ≤ l.length) :
    Calls Try.prog 40 #[.slice B l.length c, .int .i64 (p0 : Nat)] w fun e w' => e = .returned (Placed l.length (numOf (l.drop p0)) (fun x => .int .u64 (x : Nat)) (.int .u64 0)) ∧ ∃ k, w' = w.drewN k := by
  have H := Lib.hid h
  clear h
  go_enter Try.func40, Try.ntmps40
  go_wp2_with fail
  go_loopg [7, 8, 9] 11 (fun j s7 s8 s9 wr => ∃ i acc u : Nat, i ≤ 10 ∧ 10 < i + j ∧ p0 + i ≤ l.length ∧ s7 = .int .u64 (acc : Nat) ∧ s8 = .int .u64 (u : Nat) ∧ s9 = .int .i64 (i : Nat) ∧ (i ≤ 9 → u = 128 ^ i ∧ acc < 128 ^ i) ∧ numOf (l.drop p0) = numFrom (10 - i) acc (l.drop (p0 + i)) ∧ ∃ k, wr = w.drewN k)
  case atStart => exact ⟨0, 0, 1, by omega, by omega, by omega, rfl, rfl, rfl, fun _ => ⟨rfl, by decide⟩, rfl, 0, rfl⟩
  case round =>
    obtain ⟨i, acc, u, hi, hj, hpl, rfl, rfl, rfl, hu, hn, m, rfl⟩ := hrel
    have HN := Lib.hid hn
    clear hn
    have hl9 : (l.length : Int) ≤ 3000 := by omega
    have hp9 : (p0 : Int) ≤ 3000 := by omega
    have hi9 : (i : Int) ≤ 10 := by omega
    by_cases hend : i = 10
    · subst hend
      have HF : Hid (numOf (l.drop p0) = none) := Lib.hid (by rw [HN.out]; rfl)
      clear hu
      go_wp2_with fail
      go_ret3
      exact ⟨by rw [HF.out]; rfl, m, rfl⟩
    · have hlt : (i : Int) < 10 := by omega
      by_cases hfull : p0 + i = l.length
      · have hf1 : (l.length : Int) ≤ (p0 : Int) + (i : Int) := by omega
        have HF : Hid (numOf (l.drop p0) = none) := Lib.hid (by
          rw [HN.out, hfull, List.drop_length]
          obtain ⟨k, hk⟩ : ∃ k, 10 - i = k + 1 := ⟨9 - i, by omega⟩
          rw [hk]; rfl)
        clear hu hfull
        go_wp2_with fail
        go_ret3
        exact ⟨by rw [HF.out]; rfl, m, rfl⟩
      · have hf1 : ¬ (l.length : Int) ≤ (p0 : Int) + (i : Int) := by omega
        have hlt2 : p0 + i < l.length := by omega
        obtain ⟨b, off, e, hbl, hcell⟩ := H.out (p0 + i) hlt2
        subst e
        have hdrop := List.drop_eq_getElem_cons hlt2
        generalize l[p0 + i] = x at *
        have hx := x.toNat_lt
        have HS : Hid (numOf (l.drop p0) = stepN (9 - i) acc x.toNat (l.drop (p0 + i + 1))) := Lib.hid (by
          rw [HN.out, hdrop, show 10 - i = (9 - i) + 1 by omega, numFrom_cons])
        generalize x.toNat = y at *
        obtain ⟨hu1, hu2⟩ := hu (by omega)
        clear hu HN hdrop
        have k1 : (y : Int) < 256 := by omega
        by_cases hA : i = 9 ∧ 1 < y % 128
        · obtain ⟨rfl, h2⟩ := hA
          have h2' : (1 : Int) < (y : Int) % 128 := by omega
          have HF : Hid (numOf (l.drop p0) = none) := Lib.hid (by rw [HS.out]; unfold stepN; rw [if_pos ⟨rfl, h2⟩])
          clear hu1 hu2 HS
          go_wp2_with fail
          go_ret3
          exact ⟨by rw [HF.out]; rfl, m, rfl⟩
        · obtain ⟨hb1, hb2⟩ := unit_pow i (y % 128) acc (by omega) (by omega) (by intro e; omega) hu2
          rw [← hu1] at hb1 hb2
          have e0 : IntKind.u64.wrap ((y : Int) % 128 * (u : Int)) = ((y % 128 * u : Nat) : Int) := by
            rw [show (y : Int) % 128 * (u : Int) = ((y % 128 * u : Nat) : Int) by rw [Int.natCast_mul]; rfl, IntKind.wrap_u64]; omega
          have e1 : IntKind.u64.wrap ((acc : Int) + ((y % 128 * u : Nat) : Int)) = ((acc + y % 128 * u : Nat) : Int) := by rw [IntKind.wrap_u64]; omega
          have hgA : i = 9 → (y : Int) % 128 ≤ 1 := by intro e; omega
          have hstep : stepN (9 - i) acc y (l.drop (p0 + i + 1)) = if y < 128 then (if y = 0 ∧ 9 - i < 9 then none else some (acc + y % 128 * u, l.drop (p0 + i + 1))) else numFrom (9 - i) (acc + y % 128 * u) (l.drop (p0 + i + 1)) := by
            unfold stepN
            rw [if_neg (by omega), show 9 - (9 - i) = i by omega, ← hu1]
          rw [hstep] at HS
          clear hstep hA hu2
          generalize hQ : y % 128 * u = Q at *
          generalize hN : acc + Q = N at *
          have HQ := Lib.hid hQ
          have HNN := Lib.hid hN
          have HBB := Lib.hid hb1
          clear hQ
          by_cases h9 : i = 9
          · subst h9
            have k3 : ¬ (1 : Int) < (y : Int) % 128 := by have := hgA rfl; omega
            by_cases h128 : y < 128
            · have k4 : (y : Int) < 128 := by omega
              by_cases hy0 : y = 0
              · have HF : Hid (numOf (l.drop p0) = none) := Lib.hid (by rw [HS.out, if_pos h128, if_pos ⟨hy0, by omega⟩])
                have k5 : (y : Int) = 0 := by omega
                clear hb1 hb2 hgA HS hu1 hN h128
                go_wp2_with fail
                go_ret3
                exact ⟨by rw [HF.out]; rfl, m, rfl⟩
              · have HF := Lib.hid (placed_some (l := l) (q := p0 + 9 + 1) (by omega) N (fun x => .int .u64 (x : Nat)) (.int .u64 0))
                have HE : Hid (numOf (l.drop p0) = some (N, l.drop (p0 + 9 + 1))) := Lib.hid (by rw [HS.out, if_pos h128, if_neg (by omega)])
                have k5 : ¬ (y : Int) = 0 := by omega
                clear hb1 hb2 hgA HS hu1 hN h128
                go_wp2_with fail
                go_ret3
                exact ⟨by rw [HE.out, HF.out]; rfl, m, rfl⟩
            · have k4 : ¬ (y : Int) < 128 := by omega
              have HE : Hid (numOf (l.drop p0) = numFrom 0 N (l.drop (p0 + 9 + 1))) := Lib.hid (by rw [HS.out, if_neg h128])
              have hz : 0 ≤ IntKind.u64.wrap ((u : Int) * 128) := wrap_u64_nonneg _
              obtain ⟨u', hu'⟩ := Int.eq_ofNat_of_zero_le hz
              clear hb1 hb2 hgA HS hu1 hN h128 hz
              go_wp2_with fail
              go_roundg (10 - 9)
              case measure => omega
              case rel => exact ⟨10, N, u', by omega, by omega, by omega, rfl, rfl, rfl, fun e => by omega, HE.out, m, rfl⟩
          · have k3 : ¬ (i : Int) = 9 := by omega
            have hb3 := hb2 (by omega)
            have hum : u * 128 = 128 ^ (i + 1) := by rw [hu1, Nat.pow_succ]
            have huk : u ≤ 72057594037927936 := by
              have : 128 ^ i ≤ 128 ^ 8 := Nat.pow_le_pow_right (by omega) (by omega)
              rw [hu1]
              exact Nat.le_trans this (by decide)
            have e2 : IntKind.u64.wrap ((u : Int) * 128) = ((u * 128 : Nat) : Int) := by rw [IntKind.wrap_u64]; omega
            by_cases h128 : y < 128
            · have k4 : (y : Int) < 128 := by omega
              by_cases hy0 : y = 0 ∧ 0 < i
              · have HF : Hid (numOf (l.drop p0) = none) := Lib.hid (by rw [HS.out, if_pos h128, if_pos ⟨hy0.1, by omega⟩])
                have k5 : (y : Int) = 0 := by omega
                have k6 : (0 : Int) < (i : Int) := by omega
                clear hb1 hb2 hgA HS hu1 hN h128 hb3 hum huk
                go_wp2_with fail
                go_ret3
                exact ⟨by rw [HF.out]; rfl, m, rfl⟩
              · have HF := Lib.hid (placed_some (l := l) (q := p0 + i + 1) (by omega) N (fun x => .int .u64 (x : Nat)) (.int .u64 0))
                have HE : Hid (numOf (l.drop p0) = some (N, l.drop (p0 + i + 1))) := Lib.hid (by rw [HS.out, if_pos h128, if_neg (by omega)])
                clear hb1 hb2 hgA HS hu1 hN h128 hb3 hum huk
                by_cases hy1 : y = 0
                · have k5 : (y : Int) = 0 := by omega
                  have k6 : ¬ (0 : Int) < (i : Int) := by omega
                  have hQ0 : Q = 0 := by rw [← HQ.out, hy1]; simp
                  have hNa : acc = N := by rw [← HNN.out, hQ0]; rfl
                  have hacc : acc < 18446744073709551616 := by have := HBB.out; omega
                  have e3 : IntKind.u64.wrap (acc : Int) = (N : Int) := by rw [← hNa, IntKind.wrap_u64]; omega
                  clear hQ0 hNa hacc
                  go_wp2_with fail
                  go_ret3
                  exact ⟨by rw [HE.out, HF.out]; rfl, m, rfl⟩
                · have k5 : ¬ (y : Int) = 0 := by omega
                  go_wp2_with fail
                  go_ret3
                  exact ⟨by rw [HE.out, HF.out]; rfl, m, rfl⟩
            · have k4 : ¬ (y : Int) < 128 := by omega
              have HE : Hid (numOf (l.drop p0) = numFrom (9 - i) N (l.drop (p0 + i + 1))) := Lib.hid (by rw [HS.out, if_neg h128])
              have HU := Lib.hid hum
              have HB := Lib.hid hb3
              clear hb1 hb2 hgA HS hu1 hN h128 hb3 hum huk
              go_wp2_with fail
              go_roundg (10 - i)
              case measure => omega
              case rel => exact ⟨i + 1, N, u * 128, by omega, by omega, by omega, rfl, rfl, rfl, fun _ => ⟨HU.out, HB.out⟩, by rw [HE.out, show 10 - (i + 1) = 9 - i by omega, show p0 + (i + 1) = p0 + i + 1 by omega], m, rfl⟩
end Go.Proofs.Ytjoenmmjpmnkfaa
