/- Bytes that are read; On, Of, and the reference's Register and Of. -/
import Derived.Test.YtbdaoecpmodgcaaA2
namespace Go.Proofs.Ytbdaoecpmodgcaa
open Go.RowKit

/-- a slice's bytes, as they are read. -/
def Holds (w : World) (A : Option Addr) (l : List UInt8) : Prop :=
  ∀ i (h : i < l.length), ∃ b o, A = some ⟨b, o, none⟩ ∧ b < w.heap.size ∧ w.cell? ⟨b, o + i, none⟩ = some (.int .u8 (l[i].toNat : Nat))
theorem Holds.below {w w' : World} {A : Option Addr} {l : List UInt8} (h : Holds w A l) (hb : Below w.heap.size w w') : Holds w' A l := fun i hi => by
  obtain ⟨b, o, e, hlt, hc⟩ := h i hi
  exact ⟨b, o, e, Nat.lt_of_lt_of_le hlt hb.size, (hb.cell (p := ⟨b, o + i, none⟩) hlt).trans hc⟩
theorem Holds.nil (w : World) (A : Option Addr) : Holds w A [] := fun i h => absurd h (by simp)
theorem Holds.take {w : World} {A : Option Addr} {l : List UInt8} (h : Holds w A l) (k : Nat) : Holds w A (l.take k) := fun i hi => by
  have hl : i < l.length := by rw [List.length_take] at hi; omega
  obtain ⟨b, o, e, hlt, hc⟩ := h i hl
  exact ⟨b, o, e, hlt, by rw [hc]; simp⟩
theorem Holds.drop {w : World} {A : Option Addr} {l : List UInt8} (h : Holds w A l) (k c : Nat) (hc : l.length ≤ c) : Holds w (if c = k then A else A.map (·.add k)) (l.drop k) := fun i hi => by
  rw [List.length_drop] at hi
  obtain ⟨b, o, e, hlt, hcell⟩ := h (k + i) (by omega)
  rw [if_neg (by omega)]
  subst e
  refine ⟨b, o + k, by simp [Addr.add_lit], hlt, ?_⟩
  rw [Nat.add_assoc, hcell]
  simp
theorem Holds.at_ {w : World} {A : Option Addr} {P R : List UInt8} {x : UInt8} (h : Holds w A (P ++ x :: R)) : ∃ b o, A = some ⟨b, o, none⟩ ∧ b < w.heap.size ∧ w.cell? ⟨b, o + P.length, none⟩ = some (.int .u8 (x.toNat : Nat)) := by
  have := h P.length (by simp)
  simpa using this

theorem u32_xor_u8 (a b : Nat) (ha : a < 256) (hb : b < 256) : bits .xor .u8 (a : Int) (b : Int) = ((a ^^^ b : Nat) : Int) := u8_xor_nat a b ha hb

theorem not32 (s : Nat) (hs : s < 4294967296) : 4294967295 ^^^ s = 4294967295 - s := by
  have h := congrArg BitVec.toNat (BitVec.allOnes_xor (x := BitVec.ofNat 32 s))
  rw [BitVec.toNat_xor, BitVec.toNat_not, BitVec.toNat_allOnes, BitVec.toNat_ofNat, Nat.mod_eq_of_lt (by omega)] at h
  exact h
theorem u32_not (s : Nat) (hs : s < 4294967296) : bits .xor .u32 IntKind.u32.max (s : Int) = ((4294967295 - s : Nat) : Int) := by
  rw [← not32 s hs]
  exact u32_xor_nat 4294967295 s (by decide) hs
theorem low_byte (r : Nat) (x : UInt8) : bits .xor .u8 ((r : Int) % 256) (x.toNat : Int) = (((r % 256) ^^^ x.toNat : Nat) : Int) := by
  have := u8_xor_nat (r % 256) x.toNat (by omega) x.toNat_lt
  simpa using this
theorem high_bytes (r v : Nat) (hr : r < 4294967296) (hv : v < 4294967296) : bits .xor .u32 ((r : Int) / 256) (v : Int) = (((r / 256) ^^^ v : Nat) : Int) := by
  have := u32_xor_nat (r / 256) v (by omega) hv
  simpa using this

set_option maxRecDepth 100000 in
set_option maxHeartbeats 1000000 in
theorem on_any (s : Nat) (hs : s < 4294967296) (A : Option Addr) (c : Nat) (l : List UInt8) (w : World) (h : Holds w A l) (hn : l.length ≤ 9223372036854775807) :
    Calls Try.prog 9 #[.int .u32 s, .slice A l.length c] w fun e w' => e = .returned (.int .u32 (sumOn s l : Nat)) ∧ Below w.heap.size w w' := by
  have Z := fun W => zeroTab W
  have H0 := Lib.hid h
  clear h
  have SZ : (Try.prog.info? 37).map (·.size) = some (lowTab (stps 8)).size := by rw [lowTab_size]; exact size37
  have S2 : (lowTab fun _ => 0).size = (lowTab (stps 8)).size := by rw [lowTab_size, lowTab_size]
  go_enter Try.func9, Try.ntmps9
  go_wp2_with fail
  refine (low_any _).mono ?_
  rintro e w1 ⟨rfl, bel⟩
  have B1 := Lib.hid bel
  clear bel
  go_wp2_with (first
    | (refine wpList_store_row rfl 37 (.tmp 5) (.tmp 9) rfl w1.heap.size (lowTab (stps 8)) rfl rfl 37 (lowTab fun _ => 0) (Whole.new w1 37 _) SZ S2 (lowTab_one _) ?_))
  have W1 : Hid (Below w.heap.size w ((w1.alloc (.cells (lowTab fun _ => 0) 37)).setRow w1.heap.size (lowTab (stps 8))) ∧ Whole ((w1.alloc (.cells (lowTab fun _ => 0) 37)).setRow w1.heap.size (lowTab (stps 8))) w1.heap.size 37 (lowTab (stps 8))) :=
    ⟨below_setRow (B1.out.alloc B1.out.size _) B1.out.size _, setRow_heap _ _ _ _ _ _ (Whole.new w1 37 _)⟩
  have hN : Hid (bits .xor .u32 IntKind.u32.max (s : Int) = ((4294967295 - s : Nat) : Int)) := u32_not s hs
  simp only [hN.out]
  generalize hg : (w1.alloc (.cells (lowTab fun _ => 0) 37)).setRow w1.heap.size (lowTab (stps 8)) = W at *
  generalize hgs : w1.heap.size = g at *
  clear hg hgs Z SZ S2 B1
  have HT := Lib.hid W1.out.2
  have HB := Lib.hid W1.out.1
  clear W1
  have HH : Hid (Holds W A l) := H0.out.below HB.out
  go_loopg [6, 14] (l.length) (fun j s6 s14 wr => ∃ P R : List UInt8, l = P ++ R ∧ R.length ≤ j ∧ s6 = .int .u32 (reg (4294967295 - s) P : Nat) ∧ s14 = .int .i64 (P.length : Nat) ∧ wr = W)
  case atStart => exact ⟨[], l, rfl, Nat.le_refl _, rfl, rfl, rfl⟩
  case round =>
    obtain ⟨P, R, hl, hR, rfl, rfl, rfl⟩ := hrel
    have HL := Lib.hid hl
    have hr : reg (4294967295 - s) P < 4294967296 := reg_lt P _ (by omega)
    clear hl
    cases R with
    | nil =>
      have hlt : ¬ ((P.length : Int) < (l.length : Int)) := by rw [HL.out]; simp
      have HN : Hid (bits .xor .u32 IntKind.u32.max ((reg (4294967295 - s) P : Nat) : Int) = ((4294967295 - reg (4294967295 - s) P : Nat) : Int)) := u32_not _ hr
      have HE : Hid (sumOn s l = 4294967295 - reg (4294967295 - s) P) := Lib.hid (by rw [HL.out, List.append_nil]; rfl)
      clear HL
      generalize reg (4294967295 - s) P = r at *
      go_wp2_with fail
      go_ret
      exact ⟨ret_u32 (by rw [HN.out, HE.out]), HB.out⟩
    | cons x R =>
      have hlt : (P.length : Int) < (l.length : Int) := by rw [HL.out]; simp; omega
      have hh := HH.out
      rw [HL.out] at hh
      obtain ⟨b, o, e, hb, hc⟩ := hh.at_
      subst e
      clear hh
      have hP : P.length < l.length := by omega
      have hx : x.toNat < 256 := x.toNat_lt
      have HREL : Hid (l = (P ++ [x]) ++ R) := Lib.hid (by have := HL.out; simpa using this)
      have HR2 : Hid (reg (4294967295 - s) (P ++ [x]) = stps 8 (reg (4294967295 - s) P ^^^ x.toNat)) := Lib.hid (by rw [reg_append]; simp only [reg_cons, reg_nil])
      have hi : (reg (4294967295 - s) P % 256) ^^^ x.toNat < 256 := Nat.xor_lt_two_pow (n := 8) (by omega) hx
      have HS := Lib.hid (stps8_byte (reg (4294967295 - s) P) x.toNat hx)
      generalize hrr : reg (4294967295 - s) P = r at *
      clear HL
      have HRR := Lib.hid hrr
      clear hrr
      have hx1 := low_byte r x
      generalize hii : (r % 256) ^^^ x.toNat = i at *
      clear hii
      have hi8 : stps 8 i < 4294967296 := stps_lt (by omega) 8
      have HX2 := Lib.hid (high_bytes r (stps 8 i) hr hi8)
      have hcell : wr.cell? ⟨g, i, none⟩ = some (.int .u32 (stps 8 i : Nat)) := by rw [HT.out.cell]; exact lowTab_at _ i hi
      generalize stps 8 i = v at *
      go_wp2_with fail
      rw [HX2.out]
      go_roundg R.length
      case measure => simp at hR; omega
      case rel => exact ⟨P ++ [x], R, HREL.out, Nat.le_refl _, by rw [HR2.out, HS.out], by simp, rfl⟩
end Go.Proofs.Ytbdaoecpmodgcaa
