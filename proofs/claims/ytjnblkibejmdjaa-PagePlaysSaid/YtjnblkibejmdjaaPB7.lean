/- putNumber, number; the iterator over the pieces with their places. -/
import Derived.Test.YtjnblkibejmdjaaPB6
import Derived.Test.YtjnblkibejmdjaaPBI
import Derived.LoopNIn
import Derived.LoopIn
import Derived.OrdersIn
import Derived.TacticsIn
namespace Go.Proofs.Ytjnblkibejmdjaa
open Go.RowKit Go.Shelf
set_option linter.unusedVariables false
attribute [local go_sem] Oper.semAt_some
theorem BB.set_ {w : World} {g : Nat} {l : List UInt8} (h : BB w g l) (k : Nat) (x : UInt8) : BB (w.setCell ⟨g, k, none⟩ (.int .u8 (x.toNat : Nat))) g (l.set k x) := by
  have := Whole.set_ h k (.int .u8 (x.toNat : Nat))
  unfold BB
  rw [show (encB (l.set k x)).toArray = (encB l).toArray.setIfInBounds k (.int .u8 (x.toNat : Nat)) by simp [encB, List.map_set]]
  exact this
theorem w2_cells (n : Nat) (hn : n < 65536) : ((UInt8.ofNat (n % 256)).toNat : Int) = (n : Int) % 256 ∧ ((UInt8.ofNat (n / 256)).toNat : Int) = (n : Int) / 256 := by
  rw [UInt8.toNat_ofNat', UInt8.toNat_ofNat']
  omega
set_option maxRecDepth 100000 in
theorem putNumber_any (g o m c n : Nat) (l : List UInt8) (w : World) (hn : n < 65536) (h : BB w g l) (ho : o + 2 ≤ l.length) (hm : 2 ≤ m) :
    Calls Try.prog 31 #[.slice (some ⟨g, o, none⟩) m c, .int .i64 (n : Nat)] w fun e w' => e = .returned (.tuple #[]) ∧ BB w' g (lay l o (w2 n)) ∧ Touch [g] w w' := by
  obtain ⟨z0, c0⟩ : ∃ z, w.cell? ⟨g, o, none⟩ = some (.int .u8 z) := ⟨_, h.cell o (by omega)⟩
  have f0 := h.frozen o
  have h1 := h.set_ o (UInt8.ofNat (n % 256))
  obtain ⟨z1, c1⟩ : ∃ z, (w.setCell ⟨g, o, none⟩ (.int .u8 ((UInt8.ofNat (n % 256)).toNat : Nat))).cell? ⟨g, o + 1, none⟩ = some (.int .u8 z) := ⟨_, h1.cell (o + 1) (by rw [List.length_set]; omega)⟩
  have f1 := h1.frozen (o + 1)
  have h2 := h1.set_ (o + 1) (UInt8.ofNat (n / 256))
  have t2 : Touch [g] w ((w.setCell ⟨g, o, none⟩ (.int .u8 ((UInt8.ofNat (n % 256)).toNat : Nat))).setCell ⟨g, o + 1, none⟩ (.int .u8 ((UInt8.ofNat (n / 256)).toNat : Nat))) := (Touch.one (by simp)).setCell (by simp) _
  rw [set_lay2 _ _ _ _ ho] at h2
  obtain ⟨e0, e1⟩ := w2_cells n hn
  rw [e0] at h1 c1 f1 h2 t2
  rw [e1] at h2 t2
  have H2 := Lib.hid h2
  have T2 := Lib.hid t2
  have hm0 : (0 : Int) < (m : Int) := by omega
  have hm1 : (1 : Int) < (m : Int) := by omega
  have hni : (n : Int) < 65536 := by omega
  clear h h1 h2 t2 e0 e1 ho
  go_enter Try.func31, Try.ntmps31
  go_wp2_with fail
  go_end0
  exact ⟨rfl, H2.out, T2.out⟩
theorem ret_i64 {a b : Int} (h : a = b) : Ending.returned (.int .i64 a) = .returned (.int .i64 b) := by rw [h]
theorem i64_or8 (a b : Nat) (ha : a < 256) (hb : b < 256) : bits .or .i64 (a : Int) ((b : Int) * 256) = ((a + 256 * b : Nat) : Int) := by
  show IntKind.i64.wrap ((BitVec.ofInt 64 (a : Int) ||| BitVec.ofInt 64 ((b : Int) * 256)).toNat : Int) = _
  have h2 := Nat.two_pow_add_eq_or_of_lt (i := 8) (b := a) (by omega) b
  rw [BitVec.toNat_or, BitVec.toNat_ofInt, BitVec.toNat_ofInt]
  rw [show ((a : Int) % ((2 ^ 64 : Nat) : Int)).toNat = a by omega, show ((b : Int) * 256 % ((2 ^ 64 : Nat) : Int)).toNat = 2 ^ 8 * b by omega]
  rw [Nat.or_comm, ← h2]
  simp [IntKind.wrap, IntKind.bits, IntKind.signed]
  omega
/-- the number that stands at the front. -/
def num2 (l : List UInt8) : Nat := (l.getD 0 0).toNat + 256 * (l.getD 1 0).toNat
theorem num2_w2 (n : Nat) (hn : n < 65536) (r : List UInt8) : num2 (w2 n ++ r) = n := by
  simp [num2, w2, UInt8.toNat_ofNat']; omega
set_option maxRecDepth 100000 in
theorem number_q (A : Option Addr) (c : Nat) (l : List UInt8) (w : World) (h : Holds w A l) (hl : 2 ≤ l.length) (hn : l.length ≤ 1000000) :
    Calls Try.prog 28 #[.slice A l.length c] w fun e w' => e = .returned (.int .i64 (num2 l : Nat)) ∧ ∃ k, w' = w.drewN k := by
  obtain ⟨x0, x1, r, rfl⟩ : ∃ x0 x1 r, l = x0 :: x1 :: r := by
    match l, hl with
    | a :: b :: r, _ => exact ⟨a, b, r, rfl⟩
  obtain ⟨b, o, rfl, hb, c0⟩ := h 0 (by simp)
  obtain ⟨_, _, e, _, c1⟩ := h 1 (by simp)
  cases e
  simp only [List.getElem_cons_zero, List.getElem_cons_succ, Nat.add_zero] at c0 c1
  have HE : Hid (num2 (x0 :: x1 :: r) = x0.toNat + 256 * x1.toNat) := Lib.hid rfl
  have l0 : (0 : Int) < ((x0 :: x1 :: r).length : Int) := by omega
  have l1 : (1 : Int) < ((x0 :: x1 :: r).length : Int) := by omega
  have b0 : x0.toNat < 256 := x0.toNat_lt
  have b1 : x1.toNat < 256 := x1.toNat_lt
  generalize num2 (x0 :: x1 :: r) = m at *
  generalize (x0 :: x1 :: r).length = L at *
  clear h hl
  generalize x0.toNat = y0 at *
  generalize x1.toNat = y1 at *
  go_enter Try.func28, Try.ntmps28
  go_wp2_with fail
  go_quiet (fail)
  go_wp2_with fail
  go_ret
  refine ⟨ret_i64 ?_, _, rfl⟩
  rw [i64_or8 y0 y1 b0 b1, HE.out]
end Go.Proofs.Ytjnblkibejmdjaa
