/- GetRow. -/
import Derived.Test.YtmpiknaoocflcaaS2
namespace Go.Proofs.Ytmpiknaoocflcaa
open Go.RowKit

/-- what GetRow tells. -/
def GetsR (w : World) (want : Option (List Tri × List UInt8)) (e : Ending) (w' : World) : Prop :=
  Below w.heap.size w w' ∧ match want with
  | some (vs, l') => ∃ v r, e = .returned (.tuple #[v, r, .int .i64 0]) ∧ RowAt w w' vs v ∧ Row w' w.heap.size r l'
  | none => e = .returned (.tuple #[.slice none 0 0, .slice none 0 0, .int .i64 7])
theorem GetsR.yes {w w' : World} {want : Option (List Tri × List UInt8)} {v r : Value} {vs : List Tri} {l' : List UInt8} (h : want = some (vs, l')) (hb : Below w.heap.size w w') (hv : RowAt w w' vs v) (hr : Row w' w.heap.size r l') : GetsR w want (.returned (.tuple #[v, r, .int .i64 0])) w' := by
  subst h; exact ⟨hb, v, r, rfl, hv, hr⟩
theorem GetsR.no {w w' : World} {want : Option (List Tri × List UInt8)} (h : want = none) (hb : Below w.heap.size w w') : GetsR w want (.returned (.tuple #[.slice none 0 0, .slice none 0 0, .int .i64 7])) w' := by
  subst h; exact ⟨hb, rfl⟩
theorem RowAt.below {w w0 w1 w2 : World} {vs : List Tri} {v : Value} (h : RowAt w w1 vs v) (h0 : w0.heap.size ≤ w.heap.size) (hb : Below w1.heap.size w1 w2) : RowAt w0 w2 vs v := by
  obtain ⟨q, hv, hq, hr⟩ := h
  exact ⟨q, hv, Nat.le_trans h0 hq, hr.below hb hr.lt⟩
set_option maxRecDepth 100000 in
theorem nothing_row (w : World) : Calls Try.prog 62 #[] w fun e w' => e = .returned (.tuple #[.slice none 0 0, .slice none 0 0, .int .i64 7]) ∧ w' = w := by
  go_enter Try.func62, Try.ntmps62
  go_wp2_with fail
  go_ret3
  exact ⟨rfl, rfl⟩

set_option maxRecDepth 100000 in
set_option maxHeartbeats 1000000 in
theorem got_row (A : Option Addr) (c : Nat) (l : List UInt8) (w : World) (h : Holds w A l) (hc : l.length ≤ c) (hl : l.length ≤ 1000000) :
    Calls Try.prog 48 #[.slice A l.length c, .func (.func 49) #[] #[]] w (GetsR w (rowOf l)) := by
  have RN := Lib.hid (row_any (Rdr.new h hc) (by omega) (by simp) (by simp))
  clear h
  go_enter Try.func48, Try.ntmps48
  go_wp2_with fail
  refine RN.out.mono ?_
  rintro e w1 ⟨v, rfl, hr⟩
  obtain ⟨l1, b1, hl1, hrd, hcase⟩ := read_state hr
  have hb1 := below_of_grown hrd.grown.1 (Nat.le_refl _)
  obtain ⟨A1, c1, k0, k1, -, -, -, hW, hc1, -⟩ := hrd.cells
  have CL := Lib.hid (clone_any A1 c1 l1 w1 hW (by omega))
  clear hr RN hrd hW
  rcases hcase with ⟨x, hn, hx, rfl⟩ | ⟨hn, rfl⟩
  · have HN := Lib.hid hn
    have HX := Lib.hid hx
    clear hn hx
    go_wp2_with fail
    refine CL.out.mono ?_
    rintro e w2 ⟨v2, rfl, hrow, hb2⟩
    have G := Lib.hid (GetsR.yes HN.out (below_next hb1 hb2) (HX.out.below (by simp) hb2) (hrow.le hb1.size))
    clear hrow hb2
    go_wp2_with fail
    go_ret3
    exact G.out
  · have G := Lib.hid (GetsR.no hn hb1)
    clear hn
    go_wp2_with fail
    refine (nothing_row _).mono ?_
    rintro e w2 ⟨rfl, rfl⟩
    go_wp2_with fail
    go_ret3
    exact G.out

set_option maxRecDepth 100000 in
theorem get_row (A : Option Addr) (c : Nat) (l : List UInt8) (w : World) (h : Holds w A l) (hc : l.length ≤ c) (hl : l.length ≤ 1000000) :
    Calls Try.prog 23 #[.slice A l.length c] w (GetsR w (rowOf l)) := by
  have GT := Lib.hid (got_row A c l w h hc hl)
  clear h
  go_enter Try.func23, Try.ntmps23
  go_wp2_with fail
  refine GT.out.mono ?_
  intro e w1 hg
  have HG := Lib.hid hg
  obtain ⟨hb, hg⟩ := hg
  cases hq : rowOf l with
  | some p =>
    obtain ⟨x, l'⟩ := p
    rw [hq] at hg
    obtain ⟨v, r, rfl, -⟩ := hg
    clear hq
    go_wp2_with fail
    go_ret3
    exact HG.out
  | none =>
    rw [hq] at hg
    subst hg
    clear hq
    go_wp2_with fail
    go_ret3
    exact HG.out
end Go.Proofs.Ytmpiknaoocflcaa
