/- got: what a reading takes off the front; GetUint, GetInt, GetText. -/
import Derived.Test.YtmpiknaoocflcaaR3
namespace Go.Proofs.Ytmpiknaoocflcaa
open Go.RowKit

/-- what a call tells of bytes: what stands at their front, and what behind, in new memory; or the error. -/
def Gets {α : Type} (w : World) (want : Option (α × List UInt8)) (mk : α → Value) (zero : Value) (e : Ending) (w' : World) : Prop :=
  Below w.heap.size w w' ∧ match want with
  | some (x, l') => ∃ v, e = .returned (.tuple #[mk x, v, .int .i64 0]) ∧ Row w' w.heap.size v l'
  | none => e = .returned (.tuple #[zero, .slice none 0 0, .int .i64 7])
theorem Gets.yes {α : Type} {w w' : World} {want : Option (α × List UInt8)} {mk : α → Value} {zero v : Value} {x : α} {l' : List UInt8} (h : want = some (x, l')) (hb : Below w.heap.size w w') (hr : Row w' w.heap.size v l') : Gets w want mk zero (.returned (.tuple #[mk x, v, .int .i64 0])) w' := by
  subst h; exact ⟨hb, v, rfl, hr⟩
theorem Gets.no {α : Type} {w w' : World} {want : Option (α × List UInt8)} {mk : α → Value} {zero : Value} (h : want = none) (hb : Below w.heap.size w w') : Gets w want mk zero (.returned (.tuple #[zero, .slice none 0 0, .int .i64 7])) w' := by
  subst h; exact ⟨hb, rfl⟩

theorem Rdr.new {w : World} {A : Option Addr} {c : Nat} {l : List UInt8} (h : Holds w A l) (hc : l.length ≤ c) : Rdr w w (w.alloc (.cells #[.slice A l.length c, .bool false] 87)) w.heap.size l false := by
  refine ⟨A, c, Whole.new w 87 _, h, hc, fun hl a ha => ?_, ⟨rfl, rfl, rfl, by simp, fun k hk _ => Below.heap_alloc w _ k hk⟩, ⟨rfl, rfl, rfl, by simp, fun k hk _ => Below.heap_alloc w _ k hk⟩⟩
  obtain ⟨b, o, e, hlt, _⟩ := h 0 hl
  rw [ha] at e
  cases e
  simp only
  omega

set_option maxRecDepth 100000 in
theorem getText1 {w0 w1 W : World} {r : Nat} {l : List UInt8} {b : Bool} (h : Rdr w0 w1 W r l b) (hl : l.length ≤ 9000000) :
    Calls Try.prog 42 #[.pointer (some ⟨r, 0, none⟩)] W fun e w' => ∃ s : ByteArray, e = .returned (.string s) ∧ Read w0 w1 r b l.length (textOf 65536 l) (fun x => s = x) w' := by
  have TA := Lib.hid (text_any h hl 65536)
  clear h
  go_enter Try.func42, Try.ntmps42
  go_wp2_with fail
  refine TA.out.mono ?_
  rintro e w' ⟨s, rfl, hr⟩
  have HR := Lib.hid hr
  clear hr
  go_wp2_with fail
  go_ret
  exact ⟨_, rfl, HR.out⟩

set_option maxRecDepth 100000 in
theorem nothing_uint (w : World) : Calls Try.prog 50 #[] w fun e w' => e = .returned (.tuple #[.int .u64 0, .slice none 0 0, .int .i64 7]) ∧ w' = w := by
  go_enter Try.func50, Try.ntmps50
  go_wp2_with fail
  go_ret3
  exact ⟨rfl, rfl⟩

set_option maxRecDepth 100000 in
set_option maxHeartbeats 1000000 in
theorem got_uint (A : Option Addr) (c : Nat) (l : List UInt8) (w : World) (h : Holds w A l) (hc : l.length ≤ c) (hl : l.length ≤ 100000) :
    Calls Try.prog 37 #[.slice A l.length c, .func (.func 38) #[] #[]] w (Gets w (numOf l) (fun x => .int .u64 (x : Nat)) (.int .u64 0)) := by
  have RN := Lib.hid (number_any (Rdr.new h hc) (by omega))
  clear h
  go_enter Try.func37, Try.ntmps37
  go_wp2_with fail
  refine RN.out.mono ?_
  rintro e w1 ⟨m, hm, rfl, hr⟩
  obtain ⟨l1, b1, hl1, hrd, hcase⟩ := read_state hr
  have hb1 := below_of_grown hrd.grown.1 (Nat.le_refl _)
  obtain ⟨A1, c1, k0, k1, -, -, -, hW, hc1, -⟩ := hrd.cells
  have CL := Lib.hid (clone_any A1 c1 l1 w1 hW (by omega))
  clear hr RN hrd hW
  rcases hcase with ⟨x, hn, rfl, rfl⟩ | ⟨hn, rfl⟩
  · have HN := Lib.hid hn
    clear hn
    go_wp2_with fail
    refine CL.out.mono ?_
    rintro e w2 ⟨v, rfl, hrow, hb2⟩
    have G := Lib.hid (Gets.yes (mk := fun x => .int .u64 (x : Nat)) (zero := .int .u64 0) HN.out (below_next hb1 hb2) (hrow.le hb1.size))
    clear hrow hb2
    go_wp2_with fail
    go_ret3
    exact G.out
  · have G := Lib.hid (Gets.no (mk := fun x => .int .u64 (x : Nat)) (zero := .int .u64 0) hn hb1)
    clear hn
    go_wp2_with fail
    refine (nothing_uint _).mono ?_
    rintro e w2 ⟨rfl, rfl⟩
    go_wp2_with fail
    go_ret3
    exact G.out

set_option maxRecDepth 100000 in
theorem get_uint (A : Option Addr) (c : Nat) (l : List UInt8) (w : World) (h : Holds w A l) (hc : l.length ≤ c) (hl : l.length ≤ 100000) :
    Calls Try.prog 15 #[.slice A l.length c] w (Gets w (numOf l) (fun x => .int .u64 (x : Nat)) (.int .u64 0)) := by
  have GT := Lib.hid (got_uint A c l w h hc hl)
  clear h
  go_enter Try.func15, Try.ntmps15
  go_wp2_with fail
  refine GT.out.mono ?_
  intro e w1 hg
  have HG := Lib.hid hg
  obtain ⟨hb, hg⟩ := hg
  cases hq : numOf l with
  | some p =>
    obtain ⟨x, l'⟩ := p
    rw [hq] at hg
    obtain ⟨v, rfl, -⟩ := hg
    clear hq
    go_wp2_with fail
    go_ret3
    exact HG.out
  | none =>
    rw [hq] at hg
    subst hg
    clear hq
    go_wp2_with fail
    go_ret3
    exact HG.out

set_option maxRecDepth 100000 in
theorem nothing_int (w : World) : Calls Try.prog 54 #[] w fun e w' => e = .returned (.tuple #[.int .i64 0, .slice none 0 0, .int .i64 7]) ∧ w' = w := by
  go_enter Try.func54, Try.ntmps54
  go_wp2_with fail
  go_ret3
  exact ⟨rfl, rfl⟩

set_option maxRecDepth 100000 in
set_option maxHeartbeats 1000000 in
theorem got_int (A : Option Addr) (c : Nat) (l : List UInt8) (w : World) (h : Holds w A l) (hc : l.length ≤ c) (hl : l.length ≤ 100000) :
    Calls Try.prog 39 #[.slice A l.length c, .func (.func 40) #[] #[]] w (Gets w (wholeOf l) (fun x => .int .i64 x) (.int .i64 0)) := by
  have RN := Lib.hid (whole_any (Rdr.new h hc) (by omega))
  clear h
  go_enter Try.func39, Try.ntmps39
  go_wp2_with fail
  refine RN.out.mono ?_
  rintro e w1 ⟨m, rfl, hr⟩
  obtain ⟨l1, b1, hl1, hrd, hcase⟩ := read_state hr
  have hb1 := below_of_grown hrd.grown.1 (Nat.le_refl _)
  obtain ⟨A1, c1, k0, k1, -, -, -, hW, hc1, -⟩ := hrd.cells
  have CL := Lib.hid (clone_any A1 c1 l1 w1 hW (by omega))
  clear hr RN hrd hW
  rcases hcase with ⟨x, hn, rfl, rfl⟩ | ⟨hn, rfl⟩
  · have HN := Lib.hid hn
    clear hn
    go_wp2_with fail
    refine CL.out.mono ?_
    rintro e w2 ⟨v, rfl, hrow, hb2⟩
    have G := Lib.hid (Gets.yes (mk := fun x => .int .i64 x) (zero := .int .i64 0) HN.out (below_next hb1 hb2) (hrow.le hb1.size))
    clear hrow hb2
    go_wp2_with fail
    go_ret3
    exact G.out
  · have G := Lib.hid (Gets.no (mk := fun x => .int .i64 x) (zero := .int .i64 0) hn hb1)
    clear hn
    go_wp2_with fail
    refine (nothing_int _).mono ?_
    rintro e w2 ⟨rfl, rfl⟩
    go_wp2_with fail
    go_ret3
    exact G.out

set_option maxRecDepth 100000 in
theorem get_int (A : Option Addr) (c : Nat) (l : List UInt8) (w : World) (h : Holds w A l) (hc : l.length ≤ c) (hl : l.length ≤ 100000) :
    Calls Try.prog 16 #[.slice A l.length c] w (Gets w (wholeOf l) (fun x => .int .i64 x) (.int .i64 0)) := by
  have GT := Lib.hid (got_int A c l w h hc hl)
  clear h
  go_enter Try.func16, Try.ntmps16
  go_wp2_with fail
  refine GT.out.mono ?_
  intro e w1 hg
  have HG := Lib.hid hg
  obtain ⟨hb, hg⟩ := hg
  cases hq : wholeOf l with
  | some p =>
    obtain ⟨x, l'⟩ := p
    rw [hq] at hg
    obtain ⟨v, rfl, -⟩ := hg
    clear hq
    go_wp2_with fail
    go_ret3
    exact HG.out
  | none =>
    rw [hq] at hg
    subst hg
    clear hq
    go_wp2_with fail
    go_ret3
    exact HG.out

set_option maxRecDepth 100000 in
theorem nothing_text (w : World) : Calls Try.prog 55 #[] w fun e w' => e = .returned (.tuple #[.string ⟨#[]⟩, .slice none 0 0, .int .i64 7]) ∧ w' = w := by
  go_enter Try.func55, Try.ntmps55
  go_wp2_with fail
  go_ret3
  exact ⟨rfl, rfl⟩

set_option maxRecDepth 100000 in
set_option maxHeartbeats 1000000 in
theorem got_text (A : Option Addr) (c : Nat) (l : List UInt8) (w : World) (h : Holds w A l) (hc : l.length ≤ c) (hl : l.length ≤ 100000) :
    Calls Try.prog 41 #[.slice A l.length c, .func (.func 42) #[] #[]] w (Gets w (textOf 65536 l) (fun x => .string x) (.string ⟨#[]⟩)) := by
  have RN := Lib.hid (getText1 (Rdr.new h hc) (by omega))
  clear h
  go_enter Try.func41, Try.ntmps41
  go_wp2_with fail
  refine RN.out.mono ?_
  rintro e w1 ⟨m, rfl, hr⟩
  obtain ⟨l1, b1, hl1, hrd, hcase⟩ := read_state hr
  have hb1 := below_of_grown hrd.grown.1 (Nat.le_refl _)
  obtain ⟨A1, c1, k0, k1, -, -, -, hW, hc1, -⟩ := hrd.cells
  have CL := Lib.hid (clone_any A1 c1 l1 w1 hW (by omega))
  clear hr RN hrd hW
  rcases hcase with ⟨x, hn, rfl, rfl⟩ | ⟨hn, rfl⟩
  · have HN := Lib.hid hn
    clear hn
    go_wp2_with fail
    refine CL.out.mono ?_
    rintro e w2 ⟨v, rfl, hrow, hb2⟩
    have G := Lib.hid (Gets.yes (mk := fun x => .string x) (zero := .string ⟨#[]⟩) HN.out (below_next hb1 hb2) (hrow.le hb1.size))
    clear hrow hb2
    go_wp2_with fail
    go_ret3
    exact G.out
  · have G := Lib.hid (Gets.no (mk := fun x => .string x) (zero := .string ⟨#[]⟩) hn hb1)
    clear hn
    go_wp2_with fail
    refine (nothing_text _).mono ?_
    rintro e w2 ⟨rfl, rfl⟩
    go_wp2_with fail
    go_ret3
    exact G.out

set_option maxRecDepth 100000 in
theorem get_text (A : Option Addr) (c : Nat) (l : List UInt8) (w : World) (h : Holds w A l) (hc : l.length ≤ c) (hl : l.length ≤ 100000) :
    Calls Try.prog 17 #[.slice A l.length c] w (Gets w (textOf 65536 l) (fun x => .string x) (.string ⟨#[]⟩)) := by
  have GT := Lib.hid (got_text A c l w h hc hl)
  clear h
  go_enter Try.func17, Try.ntmps17
  go_wp2_with fail
  refine GT.out.mono ?_
  intro e w1 hg
  have HG := Lib.hid hg
  obtain ⟨hb, hg⟩ := hg
  cases hq : textOf 65536 l with
  | some p =>
    obtain ⟨x, l'⟩ := p
    rw [hq] at hg
    obtain ⟨v, rfl, -⟩ := hg
    clear hq
    go_wp2_with fail
    go_ret3
    exact HG.out
  | none =>
    rw [hq] at hg
    subst hg
    clear hq
    go_wp2_with fail
    go_ret3
    exact HG.out

end Go.Proofs.Ytmpiknaoocflcaa
