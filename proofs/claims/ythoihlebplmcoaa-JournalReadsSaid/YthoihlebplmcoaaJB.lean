/- The journal in memory; there, begin, left, behind, mark. -/
import Derived.Test.YthoihlebplmcoaaJA
import Derived.Test.YthoihlebplmcoaaMS2
import Derived.StillTailTactics
namespace Go.Proofs.Ythoihlebplmcoaa
open Go.RowKit
set_option linter.unusedVariables false

structure Jd where
  p : Nat
  dp : Nat
  fr : Nat
  tt : Nat
  f : Nat
  e : Nat
  A : Option Addr
  c : Nat
  row : List UInt8
  kept : Nat
  pend : Nat
abbrev Jd.v (J : Jd) : Value := .slice J.A J.row.length J.c
abbrev Jd.ptr (J : Jd) : Value := .pointer (some ⟨J.p, 0, none⟩)
def jcells (J : Jd) : Array Value := #[.pointer (some ⟨J.dp, 0, none⟩), .int .i64 (J.fr : Nat), .int .i64 (J.tt : Nat), .int .i64 (J.f : Nat), .int .u32 (J.e : Nat), J.v, .int .i64 (J.kept : Nat), .int .i64 (J.pend : Nat)]
def JIs (w : World) (J : Jd) : Prop := Whole w J.p 57 (jcells J)
section
variable {w : World} {J : Jd}
theorem JIs.c0 (h : JIs w J) : w.cell? ⟨J.p, 0, none⟩ = some (.pointer (some ⟨J.dp, 0, none⟩)) := Whole.cell h 0
theorem JIs.c1 (h : JIs w J) : w.cell? ⟨J.p, 1, none⟩ = some (.int .i64 (J.fr : Nat)) := Whole.cell h 1
theorem JIs.c2 (h : JIs w J) : w.cell? ⟨J.p, 2, none⟩ = some (.int .i64 (J.tt : Nat)) := Whole.cell h 2
theorem JIs.c3 (h : JIs w J) : w.cell? ⟨J.p, 3, none⟩ = some (.int .i64 (J.f : Nat)) := Whole.cell h 3
theorem JIs.c4 (h : JIs w J) : w.cell? ⟨J.p, 4, none⟩ = some (.int .u32 (J.e : Nat)) := Whole.cell h 4
theorem JIs.c5 (h : JIs w J) : w.cell? ⟨J.p, 5, none⟩ = some J.v := Whole.cell h 5
theorem JIs.c6 (h : JIs w J) : w.cell? ⟨J.p, 6, none⟩ = some (.int .i64 (J.kept : Nat)) := Whole.cell h 6
theorem JIs.c7 (h : JIs w J) : w.cell? ⟨J.p, 7, none⟩ = some (.int .i64 (J.pend : Nat)) := Whole.cell h 7
theorem JIs.fz (h : JIs w J) (i : Nat) : w.frozen? ⟨J.p, i, none⟩ = false := Whole.frozen h i
theorem JIs.lt (h : JIs w J) : J.p < w.heap.size := Whole.lt h
theorem JIs.below {w' : World} (h : JIs w J) (hb : Below w.heap.size w w') : JIs w' J := Whole.below h hb h.lt
theorem JIs.still {w' : World} (h : JIs w J) (hs : Still w w') : JIs w' J := Whole.still h hs (by decide) (by decide) (by decide)
end
theorem ret_i {a b : Int} (h : a = b) : Ending.returned (.int .i64 a) = .returned (.int .i64 b) := by rw [h]
/-- where the next record begins behind so many bytes. -/
def beg (f n : Nat) : Nat := if f - n % f < 12 then n + (f - n % f) else n
theorem there_nil (w : World) : Calls Try.prog 33 #[.pointer none] w fun e w' => e = .returned (.bool false) ∧ w' = w := by
  go_enter Try.func33, Try.ntmps33
  go_wp2_with fail
  go_ret
  exact ⟨rfl, rfl⟩
theorem there_any (p d : Nat) (w : World) (c0 : w.cell? ⟨p, 0, none⟩ = some (.pointer (some ⟨d, 0, none⟩))) : Calls Try.prog 33 #[.pointer (some ⟨p, 0, none⟩)] w fun e w' => e = .returned (.bool true) ∧ w' = w := by
  go_enter Try.func33, Try.ntmps33
  go_wp2_with fail
  go_ret
  exact ⟨rfl, rfl⟩
set_option maxRecDepth 100000 in
theorem begin_q (p f n : Nat) (w : World) (c3 : w.cell? ⟨p, 3, none⟩ = some (.int .i64 (f : Nat))) (hf : 60 ≤ f) (hf2 : f ≤ 1020) (hn : n ≤ 1000000) :
    Calls Try.prog 36 #[.pointer (some ⟨p, 0, none⟩), .int .i64 (n : Nat)] w fun e w' => e = .returned (.int .i64 (beg f n : Nat)) ∧ ∃ k, w' = w.drewN k := by
  have hm : n % f < f := Nat.mod_lt _ (by omega)
  have hmi : ((n % f : Nat) : Int) = (n : Int) % (f : Int) := by omega
  have h0 : 0 ≤ (n : Int) % (f : Int) := by omega
  have h1 : (n : Int) % (f : Int) < (f : Int) := by omega
  have HB : Hid (((beg f n : Nat) : Int) = if (f : Int) - (n : Int) % (f : Int) < 12 then (n : Int) + ((f : Int) - (n : Int) % (f : Int)) else n) := by
    refine Lib.hid ?_
    unfold beg
    split <;> split <;> omega
  have ht : (n : Int).tmod (f : Int) = (n : Int) % (f : Int) := Int.tmod_eq_emod_of_nonneg (by omega)
  clear hm hmi
  have HT := ht
  by_cases hlt : (f : Int) - (n : Int) % (f : Int) < 12
  · rw [if_pos hlt] at HB
    go_enter Try.func36, Try.ntmps36
    go_wp2_with fail
    go_quiet (fail)
    go_wp2_with fail
    go_ret
    exact ⟨ret_i HB.out.symm, _, rfl⟩
  · rw [if_neg hlt] at HB
    go_enter Try.func36, Try.ntmps36
    go_wp2_with fail
    go_quiet (fail)
    go_wp2_with fail
    go_ret
    exact ⟨ret_i HB.out.symm, _, rfl⟩
theorem beg_bounds (f n : Nat) (hf : 12 ≤ f) : n ≤ beg f n ∧ beg f n ≤ n + 11 := by
  unfold beg
  split <;> omega
set_option maxRecDepth 100000 in
theorem left_q (p a b f n c q : Nat) (A : Option Addr) (w : World) (c1 : w.cell? ⟨p, 1, none⟩ = some (.int .i64 (a : Nat))) (c2 : w.cell? ⟨p, 2, none⟩ = some (.int .i64 (b : Nat))) (c3 : w.cell? ⟨p, 3, none⟩ = some (.int .i64 (f : Nat))) (c5 : w.cell? ⟨p, 5, none⟩ = some (.slice A n c)) (hf : 60 ≤ f) (hf2 : f ≤ 1020) (hn : n ≤ 1000000) (hab : a ≤ b) (hb : b ≤ 600)
    (hq : ((b : Int) - (a : Int)) * (f : Int) = (q : Nat)) (hq1 : q ≤ 1000000) :
    Calls Try.prog 35 #[.pointer (some ⟨p, 0, none⟩)] w fun e w' => e = .returned (.int .i64 ((q : Nat) - (beg f n : Nat))) ∧ ∃ k, w' = w.drewN k := by
  have hb1 := beg_bounds f n (by omega)
  have B := Lib.hid fun (W : World) (c3 : W.cell? ⟨p, 3, none⟩ = some (.int .i64 (f : Nat))) => begin_q p f n W c3 hf hf2 hn
  generalize beg f n = z at *
  have hz : (z : Int) ≤ 1000011 := by omega
  have hqi : (q : Int) ≤ 1000000 := by omega
  clear hb1 hf hn
  go_enter Try.func35, Try.ntmps35
  go_wp2_with fail
  go_quiet ((go_at_call 36; exact Calls.quiet_of (B.out _ (by assumption))))
  go_wp2_with fail
  go_ret
  exact ⟨rfl, _, rfl⟩
set_option maxRecDepth 100000 in
theorem behind_q (p f n c : Nat) (A : Option Addr) (w : World) (c3 : w.cell? ⟨p, 3, none⟩ = some (.int .i64 (f : Nat))) (c5 : w.cell? ⟨p, 5, none⟩ = some (.slice A n c)) (hf : 60 ≤ f) (hf2 : f ≤ 1020) (hn : n ≤ 1000000) :
    Calls Try.prog 51 #[.pointer (some ⟨p, 0, none⟩)] w fun e w' => e = .returned (.int .i64 (((n + f - 1) / f : Nat) : Nat)) ∧ ∃ k, w' = w.drewN k := by
  have HB : Hid ((((n + f - 1) / f : Nat) : Int) = ((n : Int) + (f : Int) - 1) / (f : Int)) := Lib.hid (by rw [Int.natCast_ediv, Int.natCast_sub (by omega), Int.natCast_add]; rfl)
  have hq0 : 0 ≤ ((n : Int) + (f : Int) - 1) / (f : Int) := Int.ediv_nonneg (by omega) (by omega)
  have hq1 : ((n : Int) + (f : Int) - 1) / (f : Int) ≤ (n : Int) + (f : Int) - 1 := Int.ediv_le_self _ (by omega)
  go_enter Try.func51, Try.ntmps51
  go_wp2_with fail
  go_quiet (fail)
  go_wp2_with fail
  go_ret
  exact ⟨ret_i HB.out.symm, _, rfl⟩
set_option maxRecDepth 100000 in
theorem mark_any (p e : Nat) (he : e < 4294967296) (w : World) (c4 : w.cell? ⟨p, 4, none⟩ = some (.int .u32 (e : Nat))) :
    Calls Try.prog 50 #[.pointer (some ⟨p, 0, none⟩)] w fun r w' => ∃ g, r = .returned (.slice (some ⟨g, 0, none⟩) 4 4) ∧ w.heap.size ≤ g ∧ BB w' g (word4 e) ∧ Below w.heap.size w w' := by
  have hplt := World.block_lt_of_cell? w _ c4
  have HW := Lib.hid (word4_cells e he)
  go_enter Try.func50, Try.ntmps50
  go_wp2_with fail
  go_still_tail 23, (by kernel_rfl)
  change wpList _ _ _ _ _ w.drew
  go_wp2_with fail
  go_ret
  refine ⟨_, rfl, Nat.le_refl _, ?_, ((Below.refl _ _).alloc (Nat.le_refl _) _).drew⟩
  unfold BB
  rw [HW.out]
  exact Whole.drew (Whole.new w _ _)
end Go.Proofs.Ythoihlebplmcoaa
