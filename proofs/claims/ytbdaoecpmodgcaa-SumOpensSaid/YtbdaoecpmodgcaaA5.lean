/- The reference's Of, the chapter's example, SumTells walked. -/
import Derived.Test.YtbdaoecpmodgcaaA4
import Derived.Deep.RegionHeld3
import Derived.Deep.RegionWith
import Derived.Deep.QuietTactic
import Derived.BigQuiet
import Derived.Lib.SlBytesConst
namespace Go.Proofs.Ytbdaoecpmodgcaa
open Go.RowKit

set_option maxRecDepth 100000 in
theorem refOf_any (A : Option Addr) (c : Nat) (l : List UInt8) (w : World) (h : Holds w A l) (hn : l.length ≤ 9223372036854775807) :
    Calls Try.prog 8 #[.slice A l.length c] w fun e w' => e = .returned (.int .u32 (sumOn 0 l : Nat)) ∧ w' = w := by
  have H0 := Lib.hid h
  clear h
  have hr : reg 4294967295 l < 4294967296 := reg_lt l _ (by omega)
  have HE : Hid (sumOn 0 l = 4294967295 - reg 4294967295 l) := Lib.hid rfl
  go_enter Try.func8, Try.ntmps8
  go_wp2_with fail
  refine (register_any 4294967295 (by decide) A c l _ H0.out hn).mono ?_
  rintro e w1 ⟨rfl, hw⟩
  subst hw
  generalize reg 4294967295 l = r at *
  go_wp2_with fail
  go_ret
  exact ⟨ret_u32 (by rw [HE.out]; omega), rfl⟩

def exampleBytes : List UInt8 := [49, 50, 51, 52, 53, 54, 55, 56, 57]
theorem example_sum : sumOn 0 exampleBytes = 3421780262 := by decide +kernel
theorem example_held (w : World) (fr : Nat × Nat) : Holds (w.alloc (.cells #[.int .u8 49, .int .u8 50, .int .u8 51, .int .u8 52, .int .u8 53, .int .u8 54, .int .u8 55, .int .u8 56, .int .u8 57] 5 fr)) (some ⟨w.heap.size, 0, none⟩) exampleBytes := by
  intro i hi
  refine ⟨w.heap.size, 0, rfl, by simp, ?_⟩
  have h9 : i < 9 := hi
  rw [Nat.zero_add, World.cell?_alloc_mark]
  match i, h9 with
  | 0, _ | 1, _ | 2, _ | 3, _ | 4, _ | 5, _ | 6, _ | 7, _ | 8, _ => rfl

set_option maxRecDepth 100000 in
theorem awake_any (w : World) : Calls Try.prog 6 #[] w fun e w' => e = .returned (.bool true) ∧ Below w.heap.size w w' := by
  go_enter Try.func6, Try.ntmps6
  have C := fun C0 => Lib.run_convert_bytes_const (P := Try.prog) w 22 5 C0 9 9 Try.underlying22 Try.underlying5
  go_wp2_with fail
  refine (of_any (some ⟨w.heap.size, 0, none⟩) 9 exampleBytes _ (example_held w _) (by decide)).mono ?_
  rintro e w1 ⟨rfl, b1⟩
  have B1 := Lib.hid b1
  clear b1 C
  rw [example_sum]
  go_wp2_with fail
  go_ret
  exact ⟨rfl, ((Below.refl _ _).alloc (Nat.le_refl _) _).trans (B1.out.mono (by simp))⟩

theorem refOf_below (A : Option Addr) (c : Nat) (l : List UInt8) (w : World) (h : Holds w A l) (hn : l.length ≤ 9223372036854775807) :
    Calls Try.prog 8 #[.slice A l.length c] w fun e w' => e = .returned (.int .u32 (sumOn 0 l : Nat)) ∧ Below w.heap.size w w' := by
  refine (refOf_any A c l w h hn).mono ?_
  rintro e w' ⟨rfl, rfl⟩
  exact ⟨rfl, Below.refl _ _⟩
/-- a place in a list, out of any number. -/
theorem place_of (a : Int) (n : Nat) (hn : n ≤ 3000) : ∃ k : Nat, k ≤ n ∧ wrap64 ((IntKind.u64.wrap a).tmod ((n : Int) + 1)) = (k : Int) := by
  have h0 : 0 ≤ IntKind.u64.wrap a := by rw [IntKind.wrap_u64]; omega
  have h1 := Int.emod_nonneg (IntKind.u64.wrap a) (show (n : Int) + 1 ≠ 0 by omega)
  have h2 := Int.emod_lt_of_pos (IntKind.u64.wrap a) (show 0 < (n : Int) + 1 by omega)
  rw [Int.tmod_eq_emod_of_nonneg h0]
  refine ⟨(IntKind.u64.wrap a % ((n : Int) + 1)).toNat, by omega, ?_⟩
  rw [show wrap64 (IntKind.u64.wrap a % ((n : Int) + 1)) = IntKind.u64.wrap a % ((n : Int) + 1) by unfold wrap64; omega]
  omega
theorem below_next {w W w' : World} (h : Below w.heap.size w W) (hb : Below W.heap.size W w') : Below w.heap.size w w' := h.trans (hb.mono h.size)

set_option maxRecDepth 100000 in
set_option maxHeartbeats 1000000 in
theorem sumTells_any (A : Option Addr) (c : Nat) (l : List UInt8) (at_ : Int) (w : World) (h : Holds w A l) (hc : l.length ≤ c) (hn : l.length ≤ 9223372036854775807) :
    Calls Try.prog 3 #[.slice A l.length c, .int .i64 at_] w fun e w' => e = .returned (.bool true) ∧ Below w.heap.size w w' := by
  have H0 := Lib.hid h
  clear h
  by_cases hbig : l.length ≤ 3000
  · go_enter Try.func3, Try.ntmps3
    go_wp2_with fail
    refine (awake_any _).mono ?_
    rintro e w1 ⟨rfl, b1⟩
    have B1 := Lib.hid b1
    have H1 := Lib.hid (H0.out.below b1)
    clear b1
    go_wp2_with fail
    refine (of_any A c l _ H1.out hn).mono ?_
    rintro e w2 ⟨rfl, b2⟩
    have B2 := Lib.hid b2
    have H2 := Lib.hid (H1.out.below b2)
    clear b2
    go_wp2_with fail
    obtain ⟨k, hk, hke⟩ := place_of at_ l.length hbig
    rw [hke]
    clear hke
    have hkl : ((l.take k).length : Int) = (k : Int) := by rw [List.length_take]; omega
    have HKL := Lib.hid hkl
    clear hkl
    have hsl : sumOn 0 l < 4294967296 := sumOn_lt 0 l
    have hsk : sumOn 0 (l.take k) < 4294967296 := sumOn_lt 0 _
    have HJ : Hid (sumOn (sumOn 0 (l.take k)) (l.drop k) = sumOn 0 l) := Lib.hid (by rw [sumOn_append, List.take_append_drop])
    have HNil : Hid (sumOn (sumOn 0 l) [] = sumOn 0 l) := Lib.hid (sumOn_nil _ hsl)
    have BB : Hid (Below w.heap.size w w2) := Lib.hid (below_next B1.out B2.out)
    have OF1 := fun (W : World) (hW : Below w.heap.size w W) => of_any A c (l.take k) W ((H0.out.below hW).take k) (by rw [List.length_take]; omega)
    rw [show (l.take k).length = k by rw [List.length_take]; omega] at OF1
    have ON2 := fun (W : World) => on_any (sumOn 0 l) hsl none 0 [] W (Holds.nil W _) (by simp)
    rw [HNil.out, List.length_nil] at ON2
    have RO := fun (W : World) (hW : Below w.heap.size w W) => refOf_below A c l W (H0.out.below hW) hn
    have O1 := Lib.hid OF1
    have O3 := Lib.hid ON2
    have O4 := Lib.hid RO
    clear OF1 ON2 RO
    have hk1 : (k : Int) ≤ (l.length : Int) := by omega
    have hk2 : (k : Int) ≤ (c : Int) := by omega
    have hk3 : (l.length : Int) ≤ (c : Int) := by omega
    by_cases hck : c = k
    · have ON1 := fun (W : World) (hW : Below w.heap.size w W) => on_any (sumOn 0 (l.take k)) hsk A (c - k) (l.drop k) W (by rw [List.drop_of_length_le (by omega)]; exact Holds.nil W _) (by rw [List.length_drop]; omega)
      rw [show (l.drop k).length = l.length - k by rw [List.length_drop], HJ.out] at ON1
      have O2 := Lib.hid ON1
      have hct : (c = k) = True := by simp [hck]
      clear ON1 HJ HNil hck
      generalize sumOn 0 l = s1 at *
      generalize sumOn 0 (l.take k) = s2 at *
      go_region_held3 (fun W' => Below w.heap.size w W')
        (first
          | exact BB.out.drew
          | exact below_next (by assumption) hbK)
        (first
          | (go_at_call 8; (with_reducible refine (O4.out _ (by assumption)).mono ?_); rintro e w' ⟨rfl, hbK⟩)
          | (go_at_call 7; (with_reducible refine (O1.out _ (by assumption)).mono ?_); rintro e w' ⟨rfl, hbK⟩)
          | (go_at_call 9; (with_reducible refine (O2.out _ (by assumption)).mono ?_); rintro e w' ⟨rfl, hbK⟩)
          | (go_at_call 9; (with_reducible refine (O3.out _).mono ?_); rintro e w' ⟨rfl, hbK⟩))
      go_split_ands
      go_wp2_with fail
      go_ret
      exact ⟨rfl, by assumption⟩
    · have ON1 := fun (W : World) (hW : Below w.heap.size w W) => on_any (sumOn 0 (l.take k)) hsk (A.map (·.add k)) (c - k) (l.drop k) W (by have := (H0.out.below hW).drop k c hc; rwa [if_neg hck] at this) (by rw [List.length_drop]; omega)
      rw [show (l.drop k).length = l.length - k by rw [List.length_drop], HJ.out] at ON1
      have O2 := Lib.hid ON1
      have hct : (c = k) = False := by simp [hck]
      clear ON1 HJ HNil hck
      generalize sumOn 0 l = s1 at *
      generalize sumOn 0 (l.take k) = s2 at *
      go_region_held3 (fun W' => Below w.heap.size w W')
        (first
          | exact BB.out.drew
          | exact below_next (by assumption) hbK)
        (first
          | (go_at_call 8; (with_reducible refine (O4.out _ (by assumption)).mono ?_); rintro e w' ⟨rfl, hbK⟩)
          | (go_at_call 7; (with_reducible refine (O1.out _ (by assumption)).mono ?_); rintro e w' ⟨rfl, hbK⟩)
          | (go_at_call 9; (with_reducible refine (O2.out _ (by assumption)).mono ?_); rintro e w' ⟨rfl, hbK⟩)
          | (go_at_call 9; (with_reducible refine (O3.out _).mono ?_); rintro e w' ⟨rfl, hbK⟩))
      go_split_ands
      go_wp2_with fail
      go_ret
      exact ⟨rfl, by assumption⟩
  · go_enter Try.func3, Try.ntmps3
    go_wp2_with fail
    refine (awake_any _).mono ?_
    rintro e w1 ⟨rfl, b1⟩
    have B1 := Lib.hid b1
    clear b1
    go_wp2_with fail
    go_ret
    exact ⟨rfl, B1.out⟩
end Go.Proofs.Ytbdaoecpmodgcaa
