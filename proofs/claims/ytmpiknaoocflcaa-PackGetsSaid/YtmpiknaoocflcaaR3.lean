/- whole, text; got. -/
import Derived.Test.YtmpiknaoocflcaaR2
namespace Go.Proofs.Ytmpiknaoocflcaa
open Go.RowKit

/-- a whole number out of one from 0 on. -/
def zag (m : Nat) : Int := if m % 2 = 1 then -1 - (m / 2 : Nat) else (m / 2 : Nat)
def wholeOf (l : List UInt8) : Option (Int × List UInt8) := match numOf l with
  | some (m, l') => some (zag m, l')
  | none => none
def textOf (most : Nat) (l : List UInt8) : Option (ByteArray × List UInt8) := match numOf l with
  | some (n, l') => if most < n ∨ l'.length < n then none else some (⟨(l'.take n).toArray⟩, l'.drop n)
  | none => none
theorem zag_zig (n : Int) (h1 : -9223372036854775808 ≤ n) (h2 : n ≤ 9223372036854775807) : zag (zig n) = n := by
  unfold zag zig
  by_cases h : n < 0
  · rw [if_pos h, if_pos (by omega)]; omega
  · rw [if_neg h, if_neg (by omega)]; omega
theorem odd_bit (m : Nat) (hm : m < 18446744073709551616) : (bits .and .u64 (m : Int) 1 == 1) = decide (m % 2 = 1) := by
  have h0 : bits .and .u64 (m : Int) 1 = ((m % 2 : Nat) : Int) := by
    have := u64_and_nat m 1 hm (by omega)
    rw [Nat.and_one_is_mod] at this
    exact this
  rw [h0, Bool.eq_iff_iff]
  simp only [beq_iff_eq, decide_eq_true_eq]
  omega
theorem ret_i64 {a b : Int} (h : a = b) : Ending.returned (.int .i64 a) = .returned (.int .i64 b) := by rw [h]
theorem read_whole {w0 w1 w' : World} {r n m : Nat} {b : Bool} {l : List UInt8} (h : Read w0 w1 r b n (numOf l) (fun x => m = x) w') : Read w0 w1 r b n (wholeOf l) (fun x => zag m = x) w' := by
  unfold wholeOf
  cases hq : numOf l with
  | none => rw [hq] at h; exact h
  | some p => obtain ⟨x, l'⟩ := p; rw [hq] at h; exact ⟨by rw [h.1], h.2⟩
/-- how the reader stands behind a reading. -/
theorem read_state {α : Type} {w0 w1 w' : World} {r n : Nat} {b : Bool} {want : Option (α × List UInt8)} {is : α → Prop} (h : Read w0 w1 r b n want is w') :
    ∃ (l1 : List UInt8) (b1 : Bool), l1.length ≤ n ∧ Rdr w0 w1 w' r l1 b1 ∧ ((∃ x, want = some (x, l1) ∧ is x ∧ b1 = b) ∨ (want = none ∧ b1 = true)) := by
  cases want with
  | none => obtain ⟨l1, h1, h2⟩ := h; exact ⟨l1, true, h1, h2, .inr ⟨rfl, rfl⟩⟩
  | some p => obtain ⟨x, l'⟩ := p; exact ⟨l', b, h.2.1, h.2.2, .inl ⟨x, rfl, h.1, rfl⟩⟩
theorem below_of_grown {w0 W : World} {r : Nat} (h : w0.grownBy W (some r)) (hr : w0.heap.size ≤ r) : Below w0.heap.size w0 W :=
  ⟨h.os, h.tape, h.output, h.size, fun k hk => h.block k hk (fun e => by injection e; omega)⟩

set_option maxRecDepth 100000 in
set_option maxHeartbeats 1000000 in
theorem whole_any {w0 w1 W : World} {r : Nat} {l : List UInt8} {b : Bool} (h : Rdr w0 w1 W r l b) (hl : l.length ≤ 9000000) :
    Calls Try.prog 40 #[.pointer (some ⟨r, 0, none⟩)] W fun e w' => ∃ z : Int, e = .returned (.int .i64 z) ∧ Read w0 w1 r b l.length (wholeOf l) (fun x => z = x) w' := by
  have NA := Lib.hid (number_any h hl)
  clear h
  go_enter Try.func40, Try.ntmps40
  go_wp2_with fail
  refine NA.out.mono ?_
  rintro e u1 ⟨m, hm, rfl, hr⟩
  have HR := Lib.hid (read_whole hr)
  clear hr
  have hb := odd_bit m hm
  by_cases ho : m % 2 = 1
  · have hz : zag m = -1 - (m / 2 : Nat) := if_pos ho
    have hx := i64_not (m / 2) (by omega)
    rw [decide_eq_true ho] at hb
    have HZ := Lib.hid hz
    have HX := Lib.hid hx
    clear hz hx
    go_wp2_with fail
    go_ret
    refine ⟨zag m, ret_i64 ?_, HR.out⟩
    rw [HZ.out, ← HX.out]
    simp
  · have hz : zag m = (m / 2 : Nat) := if_neg ho
    rw [decide_eq_false ho] at hb
    have HZ := Lib.hid hz
    clear hz
    go_wp2_with fail
    go_ret
    refine ⟨zag m, ret_i64 ?_, HR.out⟩
    rw [HZ.out]
    simp

set_option maxRecDepth 100000 in
set_option maxHeartbeats 1000000 in
theorem text_sized {w0 w1 W : World} {r : Nat} {l : List UInt8} {b : Bool} (h : Rdr w0 w1 W r l b) (hl : l.length ≤ 9000000) (most : Nat) :
    Calls Try.prog 43 #[.pointer (some ⟨r, 0, none⟩), .int .u64 most] W fun e w' => ∃ s : ByteArray, s.size ≤ 9000000 ∧ e = .returned (.string s) ∧ Read w0 w1 r b l.length (textOf most l) (fun x => s = x) w' := by
  have NA := Lib.hid (number_any h hl)
  clear h
  go_enter Try.func43, Try.ntmps43
  go_wp2_with fail
  refine NA.out.mono ?_
  rintro e u1 ⟨m, hm, rfl, hr⟩
  obtain ⟨l1, b1, hl1, hrd, hcase⟩ := read_state hr
  clear hr
  have HC := Lib.hid hcase
  obtain ⟨A, c, c0, c1, f0, f1, hh, hW, hc, hf⟩ := hrd.cells
  have hwr := hrd.wrongly true
  have hrest := fun (A' : Option Addr) (c' : Nat) (hA : Holds w0 A' (l1.drop m)) (hcc : (l1.drop m).length ≤ c') (hfA : Far A' (l1.drop m) r) => hrd.resting A' c' (l1.drop m) hA hcc hfA
  have hd := hh.drop m c hc
  have hfd := hf.drop m c
  by_cases h1 : most < m
  · have h1' : (most : Int) < (m : Int) := by omega
    have HF : Hid (Read w0 w1 r b l.length (textOf most l) (fun x => (ByteArray.mk #[]) = x) (u1.setCell ⟨r, 1, none⟩ (.bool true))) := Lib.hid (by
      unfold textOf
      rcases hcase with ⟨x, hn, rfl, rfl⟩ | ⟨hn, rfl⟩
      · rw [hn]; simp only; rw [if_pos (.inl h1)]; exact ⟨l1, hl1, hwr⟩
      · rw [hn]; exact ⟨l1, hl1, hwr⟩)
    clear hcase hwr hrest hd hrd hh hW hf hfd
    go_wp2_with fail
    go_ret
    exact ⟨_, by decide, rfl, HF.out⟩
  · have h1' : ¬ (most : Int) < (m : Int) := by omega
    by_cases h2 : l1.length < m
    · have h2' : (l1.length : Int) < (m : Int) := by omega
      have HF : Hid (Read w0 w1 r b l.length (textOf most l) (fun x => (ByteArray.mk #[]) = x) (u1.setCell ⟨r, 1, none⟩ (.bool true))) := Lib.hid (by
        unfold textOf
        rcases hcase with ⟨x, hn, rfl, rfl⟩ | ⟨hn, rfl⟩
        · rw [hn]; simp only; rw [if_pos (.inr h2)]; exact ⟨l1, hl1, hwr⟩
        · rw [hn]; exact ⟨l1, hl1, hwr⟩)
      clear hcase hwr hrest hd hrd hh hW hf hfd
      go_wp2_with fail
      go_ret
      exact ⟨_, by decide, rfl, HF.out⟩
    · have h2' : ¬ (l1.length : Int) < (m : Int) := by omega
      have hmc : (m : Int) ≤ (c : Int) := by omega
      have hml : (m : Int) ≤ (l1.length : Int) := by omega
      have hlt : (l1.take m).length = m := by rw [List.length_take]; omega
      have hld : (l1.drop m).length = l1.length - m := List.length_drop
      have FIN : ∀ (A' : Option Addr) (c' : Nat), Holds w0 A' (l1.drop m) → (l1.drop m).length ≤ c' → Far A' (l1.drop m) r → Read w0 w1 r b l.length (textOf most l) (fun x => (⟨(l1.take m).toArray⟩ : ByteArray) = x) (u1.setCell ⟨r, 0, none⟩ (.slice A' (l1.length - m) c')) := by
        intro A' c' hA hcc hfA
        have h5 := hrest A' c' hA hcc hfA
        rw [hld] at h5
        unfold textOf
        rcases hcase with ⟨x, hn, rfl, rfl⟩ | ⟨hn, rfl⟩
        · rw [hn]; simp only; rw [if_neg (by omega)]; exact ⟨rfl, by omega, h5⟩
        · rw [hn]; exact ⟨l1.drop m, by omega, h5⟩
      have hsz : (⟨(l1.take m).toArray⟩ : ByteArray).size ≤ 9000000 := by
        show (l1.take m).toArray.size ≤ 9000000
        simp
        omega
      have hcv := conv_bytes (hW.take m) c
      rw [hlt] at hcv
      by_cases hcm : c = m
      · rw [if_pos hcm] at hd hfd
        have HF := Lib.hid (FIN A (c - m) hd (by omega) hfd)
        have hcm' : (c = m) = True := eq_true hcm
        clear hcase hwr hrest hd hrd hh hW FIN hcm hf hfd
        go_wp2_with fail
        go_ret
        exact ⟨_, hsz, rfl, HF.out⟩
      · rw [if_neg hcm] at hd hfd
        have HF := Lib.hid (FIN _ (c - m) hd (by omega) hfd)
        have hcm' : (c = m) = False := eq_false hcm
        clear hcase hwr hrest hd hrd hh hW FIN hcm hf hfd
        go_wp2_with fail
        go_ret
        exact ⟨_, hsz, rfl, HF.out⟩
theorem text_any {w0 w1 W : World} {r : Nat} {l : List UInt8} {b : Bool} (h : Rdr w0 w1 W r l b) (hl : l.length ≤ 9000000) (most : Nat) :
    Calls Try.prog 43 #[.pointer (some ⟨r, 0, none⟩), .int .u64 most] W fun e w' => ∃ s : ByteArray, e = .returned (.string s) ∧ Read w0 w1 r b l.length (textOf most l) (fun x => s = x) w' :=
  (text_sized h hl most).mono fun _ _ ⟨s, _, he, hr⟩ => ⟨s, he, hr⟩
end Go.Proofs.Ytmpiknaoocflcaa
