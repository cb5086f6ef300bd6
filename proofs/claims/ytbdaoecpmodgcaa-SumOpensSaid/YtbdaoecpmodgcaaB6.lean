/- The reference's Word, Seal, number, Open; Same; SumOpens walked. -/
import Derived.Test.YtbdaoecpmodgcaaB5
import Derived.Laws.BytesArg
namespace Go.Proofs.Ytbdaoecpmodgcaa
open Go.RowKit

set_option maxRecDepth 100000 in
theorem refWord_any (x : Nat) (hx : x < 4294967296) (w : World) :
    Calls Try.prog 21 #[.int .u32 x] w fun r w' => ∃ v, r = .returned v ∧ Row w' w.heap.size v (word4 x) ∧ Below w.heap.size w w' := by
  have HC := Lib.hid (word4_cells x hx)
  go_enter Try.func21, Try.ntmps21
  go_wp2_with fail
  go_ret
  refine ⟨_, rfl, ?_, (Below.refl _ _).alloc (Nat.le_refl _) _⟩
  have h : BB (w.alloc (.cells (encB (word4 x)).toArray 5)) w.heap.size (word4 x) := Whole.new w 5 _
  have := Row.of_block (base := w.heap.size) h (Nat.le_refl _) (by simp [word4, maxLen])
  rw [HC.out] at this
  exact this

theorem ret_u64 {a b : Int} (h : a = b) : Ending.returned (.int .u64 a) = .returned (.int .u64 b) := by rw [h]
/-- bytes as a string. -/
theorem conv_bytes {w : World} {A : Option Addr} {l : List UInt8} (h : Holds w A l) (c : Nat) : Sem.run Try.prog (convert 22 9 (.slice A l.length c)) w = .ok (.string ⟨l.toArray⟩) w := by
  cases A with
  | none =>
    have hl : l = [] := by
      cases l with
      | nil => rfl
      | cons x r => obtain ⟨b, o, e, _⟩ := h 0 (by simp); cases e
    subst hl
    exact run_convert_bytes_nil w 22 5 Try.underlying22 Try.underlying5 _ c 9 Try.underlying9
  | some a =>
    cases l with
    | nil =>
      rw [run_convert_bytes_string w 22 9 5 _ _ c Try.underlying22 Try.underlying5 Try.underlying9]
      have := run_bytesToString (P := Try.prog) w a 0 c [] (run_loadCells_list w a [] (fun j v hv => by simp at hv))
      exact this
    | cons x r =>
      obtain ⟨b, o, e, _, _⟩ := h 0 (by simp)
      cases e
      have := run_convert_bytes_arg (P := Try.prog) w 22 5 Try.underlying22 Try.underlying5 b o (x :: r).length c ((x :: r).map fun y => (y.toNat : Int)) (by simp) (fun i hi => by
        obtain ⟨b', o', e', _, hc⟩ := h i hi
        cases e'
        rw [hc]
        rw [List.getD_eq_getElem?_getD, List.getElem?_map, List.getElem?_eq_getElem hi]
        rfl) 9 Try.underlying9
      rw [this]
      simp [strOfNums, Function.comp_def]

set_option maxRecDepth 100000 in
theorem same_any (A B : Option Addr) (c d : Nat) (a b : List UInt8) (w : World) (ha : Holds w A a) (hb : Holds w B b) :
    Calls Try.prog 12 #[.slice A a.length c, .slice B b.length d] w fun r w' => r = .returned (.bool (a == b)) ∧ w' = w := by
  have HA := conv_bytes ha c
  have HB := conv_bytes hb d
  clear ha hb
  go_enter Try.func12, Try.ntmps12
  go_wp2_with fail
  go_ret
  exact ⟨rfl, rfl⟩

set_option maxRecDepth 100000 in
set_option maxHeartbeats 1000000 in
theorem number_q (A : Option Addr) (c : Nat) (l : List UInt8) (w : World) (h : Holds w A l) (hl : 4 ≤ l.length) (hn : l.length ≤ 9223372036854775807) :
    Calls Try.prog 22 #[.slice A l.length c] w fun e w' => e = .returned (.int .u64 (num4 l : Nat)) ∧ ∃ k, w' = w.drewN k := by
  obtain ⟨x0, x1, x2, x3, r, rfl⟩ := front4 l hl
  obtain ⟨b, o, rfl, hb, c0⟩ := h 0 (by simp)
  obtain ⟨_, _, e, _, c1⟩ := h 1 (by simp)
  cases e
  obtain ⟨_, _, e, _, c2⟩ := h 2 (by simp)
  cases e
  obtain ⟨_, _, e, _, c3⟩ := h 3 (by simp)
  cases e
  simp only [List.getElem_cons_zero, List.getElem_cons_succ, Nat.add_zero] at c0 c1 c2 c3
  have HE : Hid (num4 (x0 :: x1 :: x2 :: x3 :: r) = x0.toNat + 256 * x1.toNat + 65536 * x2.toNat + 16777216 * x3.toNat) := Lib.hid rfl
  have l0 : (0 : Int) < ((x0 :: x1 :: x2 :: x3 :: r).length : Int) := by omega
  have l1 : (1 : Int) < ((x0 :: x1 :: x2 :: x3 :: r).length : Int) := by omega
  have l2 : (2 : Int) < ((x0 :: x1 :: x2 :: x3 :: r).length : Int) := by omega
  have l3 : (3 : Int) < ((x0 :: x1 :: x2 :: x3 :: r).length : Int) := by omega
  have b0 : x0.toNat < 256 := x0.toNat_lt
  have b1 : x1.toNat < 256 := x1.toNat_lt
  have b2 : x2.toNat < 256 := x2.toNat_lt
  have b3 : x3.toNat < 256 := x3.toNat_lt
  generalize num4 (x0 :: x1 :: x2 :: x3 :: r) = m at *
  generalize (x0 :: x1 :: x2 :: x3 :: r).length = L at *
  clear h hl
  generalize x0.toNat = y0 at *
  generalize x1.toNat = y1 at *
  generalize x2.toNat = y2 at *
  generalize x3.toNat = y3 at *
  go_enter Try.func22, Try.ntmps22
  go_wp2_with fail
  go_quiet (fail)
  go_wp2_with fail
  go_ret
  exact ⟨ret_u64 (by rw [HE.out]; omega), _, rfl⟩
theorem number_any (A : Option Addr) (c : Nat) (l : List UInt8) (w : World) (h : Holds w A l) (hl : 4 ≤ l.length) (hn : l.length ≤ 9223372036854775807) :
    Calls Try.prog 22 #[.slice A l.length c] w fun e w' => e = .returned (.int .u64 (num4 l : Nat)) ∧ Below w.heap.size w w' := by
  refine (number_q A c l w h hl hn).mono ?_
  rintro e w' ⟨rfl, k, rfl⟩
  exact ⟨rfl, below_drewN (Below.refl _ _) _⟩

set_option maxRecDepth 100000 in
set_option maxHeartbeats 1000000 in
theorem refSeal_any (e : Nat) (he : e < 4294967296) (A : Option Addr) (c : Nat) (b : List UInt8) (w : World) (h : Holds w A b) (hn : b.length ≤ 100000) :
    Calls Try.prog 13 #[.int .u32 e, .slice A b.length c] w fun r w' => ∃ v, r = .returned v ∧ Row w' w.heap.size v (sealed e b) ∧ Below w.heap.size w w' := by
  have H0 := Lib.hid h
  clear h
  go_enter Try.func13, Try.ntmps13
  go_wp2_with fail
  refine (refWord_any e he _).mono ?_
  rintro r w1 ⟨v1, rfl, r1, b1⟩
  obtain ⟨v2, w2, hr2, r2, g2, -⟩ := append_bytes r1 A c b (H0.out.below b1) (by simp [word4]; omega) b1.size
  have HR2 := Lib.hid hr2
  have B2 := Lib.hid (below_grown b1 g2 r1.block)
  have R2 := Lib.hid r2
  clear hr2 r2 g2 r1 b1
  go_wp2_with (at_builtin; refine Lib.wpList_append_run _ rfl _ _ 22 22 rfl _ _ rfl rfl _ _ HR2.out ?_)
  refine (refWord_any b.length (by omega) _).mono ?_
  rintro r w3 ⟨v3, rfl, r3, b3⟩
  have R3 := Lib.hid r3
  have B3 := Lib.hid b3
  clear r3 b3 HR2
  have hsum := sumOn_lt 0 (word4 e ++ b)
  have hTl : (word4 e ++ b).length ≤ 100004 := by simp [word4]; omega
  have HS : Hid (word4 b.length ++ word4 (sumOn 0 (word4 e ++ b)) ++ (word4 e ++ b) = sealed e b) := Lib.hid (by simp [sealed])
  generalize word4 e ++ b = T at *
  obtain ⟨A2, c2, e2, h2, l2, m2⟩ := R2.out.shape
  subst e2
  have H2 := Lib.hid h2
  clear h2
  have hsl : sumOn 0 T < 4294967296 := hsum
  go_wp2_with fail
  refine (refOf_below A2 c2 T _ (H2.out.below B3.out) (by omega)).mono ?_
  rintro r w4 ⟨rfl, b4⟩
  have R4 := Lib.hid (R3.out.below b4)
  have B4 := Lib.hid (below_next B3.out b4)
  clear b4 R3
  generalize sumOn 0 T = s at *
  go_wp2_with fail
  refine (refWord_any s hsl _).mono ?_
  rintro r w5 ⟨v5, rfl, r5, b5⟩
  obtain ⟨A5, c5, e5, h5, l5, m5⟩ := r5.shape
  subst e5
  obtain ⟨v6, w6, hr6, r6, g6, -⟩ := append_bytes (R4.out.below b5) A5 c5 (word4 s) h5 (by simp [word4]) (below_next B4.out b5).size
  have HR6 := Lib.hid hr6
  have B6 := Lib.hid (below_grown (below_next B4.out b5) g6 (R4.out.below b5).block)
  have R6 := Lib.hid r6
  clear hr6 r6 g6 r5 b5 h5 R4
  obtain ⟨v7, w7, hr7, r7, g7, -⟩ := append_bytes R6.out A2 c2 T (H2.out.below B6.out) (by simp [word4]; omega) B6.out.size
  have HR7 := Lib.hid hr7
  have B7 := Lib.hid (below_grown B6.out g7 R6.out.block)
  have R7 := Lib.hid r7
  clear hr7 r7 g7
  rw [HS.out] at R7
  go_wp2_with (first
    | (at_builtin; refine Lib.wpList_append_run _ rfl (.tmp 14) (.tmp 17) 22 22 rfl _ _ rfl rfl _ _ HR6.out ?_)
    | (at_builtin; refine Lib.wpList_append_run _ rfl (.tmp 19) (.tmp 20) 22 22 rfl _ _ rfl rfl _ _ HR7.out ?_))
  go_ret
  exact ⟨_, rfl, R7.out.le B2.out.size, below_next B2.out B7.out⟩
end Go.Proofs.Ytbdaoecpmodgcaa
