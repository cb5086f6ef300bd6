/- A trail of one's own, and the chapter's example; TrailNil walked. -/
import Derived.Test.YtekbfjdjgpgmpaaS5
namespace Go.Proofs.Ytekbfjdjgpgmpaa
open Go.RowKit

/-- all of the trail is new since w0, and nothing else has changed. -/
def Mine (w0 : World) (p : Nat) (w : World) (ts : List ByteArray) (ms : List Nat) : Prop := ∃ F, IsTrail w p F ts ms ∧ Below w0.heap.size w0 w ∧ ∀ b ∈ F, w0.heap.size ≤ b

theorem Mine.below {w0 w w' : World} {p : Nat} {ts : List ByteArray} {ms : List Nat} (h : Mine w0 p w ts ms) (hb : Below w.heap.size w w') : Mine w0 p w' ts ms := by
  obtain ⟨F, h1, h2, h3⟩ := h
  exact ⟨F, h1.below hb, h2.trans (hb.mono h2.size), h3⟩
theorem Mine.new (w : World) : Mine w w.heap.size (w.alloc (.cells #[.slice none 0 0, .slice none 0 0] 53)) [] [] :=
  ⟨_, new_trail w, (Below.refl _ w).alloc (Nat.le_refl _) _, by simp⟩
theorem Mine.goes {w0 w w' : World} {p : Nat} {F : List Nat} {ts ts' : List ByteArray} {ms ms' : List Nat} (h2 : Below w0.heap.size w0 w) (h3 : ∀ b ∈ F, w0.heap.size ≤ b) (hg : Goes w w' p F ts' ms') : Mine w0 p w' ts' ms' := by
  obtain ⟨F', g1, g2, g3⟩ := hg
  refine ⟨F', g1, g2.fresh h2 h3, fun b hb => ?_⟩
  rcases g3 b hb with h | h
  · exact h3 b h
  · exact Nat.le_trans h2.size h
theorem Mine.add {w0 w : World} {p : Nat} {ts : List ByteArray} {ms : List Nat} (h : Mine w0 p w ts ms) (x : ByteArray) (hn : ts.length < 1048576) :
    Calls Try.prog 10 #[.pointer (some ⟨p, 0, none⟩), .string x] w fun e w' => e = .returned (.int .i64 0) ∧ Mine w0 p w' (ts ++ [x]) ms := by
  obtain ⟨F, h1, h2, h3⟩ := h
  refine (add_ok h1 x hn).mono ?_
  rintro e w' ⟨rfl, hg⟩
  exact ⟨rfl, Mine.goes (ts := ts) (ms := ms) h2 h3 hg⟩
theorem Mine.mark {w0 w : World} {p : Nat} {ts : List ByteArray} {ms : List Nat} (h : Mine w0 p w ts ms) (hn : ms.length < 1048576) (ht : ts.length ≤ 1048576) :
    Calls Try.prog 11 #[.pointer (some ⟨p, 0, none⟩)] w fun e w' => e = .returned (.int .i64 ms.length) ∧ Mine w0 p w' ts (ms ++ [ts.length]) := by
  obtain ⟨F, h1, h2, h3⟩ := h
  refine (mark_ok h1 hn ht).mono ?_
  rintro e w' ⟨rfl, hg⟩
  exact ⟨rfl, Mine.goes (ts := ts) (ms := ms) h2 h3 hg⟩
theorem Mine.forget {w0 w : World} {p : Nat} {ts : List ByteArray} {ms : List Nat} (h : Mine w0 p w ts ms) (m : Int) (k : Nat) (hm : m = k) (hk : k < ms.length) :
    Calls Try.prog 16 #[.pointer (some ⟨p, 0, none⟩), .int .i64 m] w fun e w' => e = .returned (.int .i64 0) ∧ Mine w0 p w' ts (ms.take k) := by
  obtain ⟨F, h1, h2, h3⟩ := h
  refine (forget_yes h1 m k hm hk).mono ?_
  rintro e w' ⟨rfl, hg⟩
  exact ⟨rfl, Mine.goes (ts := ts) (ms := ms) h2 h3 hg⟩
theorem Mine.since {w0 w : World} {p : Nat} {ts : List ByteArray} {ms : List Nat} (h : Mine w0 p w ts ms) (m : Int) (k l : Nat) (hm : m = k) (hk : ms[k]? = some l) (hl : l ≤ ts.length) (hn : ts.length ≤ 1000000) :
    Calls Try.prog 18 #[.pointer (some ⟨p, 0, none⟩), .int .i64 m] w fun e w' => ∃ v, e = .returned (.tuple #[v, .int .i64 0]) ∧ w'.ownsRow w.heap.size 9 1 v (ts.length - l) (texts (ts.drop l)) ∧ Below w.heap.size w w' ∧ Mine w0 p w' ts ms := by
  have h' := h
  obtain ⟨F, h1, h2, h3⟩ := h
  refine (since_yes h1 m k l hm hk hl hn).mono ?_
  rintro e w' ⟨v, rfl, o, b⟩
  exact ⟨v, rfl, o, b, h'.below b⟩
theorem Mine.cut {w0 w : World} {p : Nat} {ts : List ByteArray} {ms : List Nat} (h : Mine w0 p w ts ms) (m : Int) (k l : Nat) (hm : m = k) (hk : ms[k]? = some l) (hl : l ≤ ts.length) (hn : ts.length ≤ 1000000) :
    Calls Try.prog 13 #[.pointer (some ⟨p, 0, none⟩), .int .i64 m] w fun e w' => ∃ v, e = .returned (.tuple #[v, .int .i64 0]) ∧ w'.ownsRow w.heap.size 9 1 v (ts.length - l) (texts (ts.drop l).reverse) ∧ Mine w0 p w' (ts.take l) (ms.take k) ∧
      ∃ F, IsTrail w p F ts ms ∧ Touch F w w' := by
  obtain ⟨F, h1, h2, h3⟩ := h
  refine (cut_yes h1 m k l hm hk hl hn).mono ?_
  rintro e w' ⟨v, rfl, o, i, t⟩
  exact ⟨v, rfl, o, ⟨F, i, t.fresh h2 h3, h3⟩, F, h1, t⟩
theorem Mine.len {w0 w : World} {p : Nat} {ts : List ByteArray} {ms : List Nat} (h : Mine w0 p w ts ms) : Calls Try.prog 20 #[.pointer (some ⟨p, 0, none⟩)] w fun e w' => e = .returned (.int .i64 ts.length) ∧ w' = w := by
  obtain ⟨F, h1, -⟩ := h
  exact len_ok h1
theorem Mine.marks {w0 w : World} {p : Nat} {ts : List ByteArray} {ms : List Nat} (h : Mine w0 p w ts ms) : Calls Try.prog 21 #[.pointer (some ⟨p, 0, none⟩)] w fun e w' => e = .returned (.int .i64 ms.length) ∧ w' = w := by
  obtain ⟨F, h1, -⟩ := h
  exact marks_ok h1
theorem Mine.out {w0 w : World} {p : Nat} {ts : List ByteArray} {ms : List Nat} (h : Mine w0 p w ts ms) : Below w0.heap.size w0 w := by
  obtain ⟨F, _, h, _⟩ := h
  exact h

set_option maxRecDepth 100000 in
set_option maxHeartbeats 1000000 in
theorem awake_any (w : World) : Calls Try.prog 7 #[] w fun e w' => e = .returned (.bool true) ∧ Below w.heap.size w w' := by
  go_enter Try.func7, Try.ntmps7
  go_wp2_with fail
  refine (new_ok _).mono ?_
  rintro e w1 ⟨rfl, hw1⟩
  have A1 : Hid (Mine w w.heap.size w1 [] []) := by rw [hw1]; exact Mine.new w
  clear hw1
  go_wp2_with fail
  refine (A1.out.add _ (by simp)).mono ?_
  rintro e w2 ⟨rfl, a2⟩
  have A2 := Lib.hid a2
  clear a2
  go_wp2_with fail
  refine (A2.out.mark (by simp) (by simp)).mono ?_
  rintro e w3 ⟨rfl, a3⟩
  have A3 := Lib.hid a3
  clear a3
  go_wp2_with fail
  refine (A3.out.add _ (by simp)).mono ?_
  rintro e w4 ⟨rfl, a4⟩
  have A4 := Lib.hid a4
  clear a4
  go_wp2_with fail
  refine (A4.out.add _ (by simp)).mono ?_
  rintro e w5 ⟨rfl, a5⟩
  have A5 := Lib.hid a5
  clear a5
  go_wp2_with fail
  refine (A5.out.cut _ 0 1 rfl rfl (by simp) (by simp)).mono ?_
  rintro e w6 ⟨v, rfl, o, a6, -⟩
  have A6 := Lib.hid a6
  obtain ⟨g, c, rfl, hc⟩ := row_pos o (by simp)
  have k0 := row_cells o 0 (.string ⟨#[99]⟩) rfl
  have k1 := row_cells o 1 (.string ⟨#[98]⟩) rfl
  clear o a6
  go_wp2_with (go_at_call 20; refine A6.out.len.mono ?_; rintro e w' ⟨rfl, rfl⟩)
  go_ret
  exact ⟨rfl, A6.out.out⟩

set_option maxRecDepth 100000 in
set_option maxHeartbeats 1000000 in
theorem trailNil_any (n : Int) (x : ByteArray) (w : World) : Calls Try.prog 5 #[.int .i64 n, .string x] w fun e w' => e = .returned (.bool true) ∧ Below w.heap.size w w' := by
  go_enter Try.func5, Try.ntmps5
  go_wp2_with fail
  refine (awake_any _).mono ?_
  rintro e w1 ⟨rfl, hb1⟩
  have B1 := Lib.hid hb1
  clear hb1
  go_wp2_with (first | (go_at_call 13; refine (cut_nil n _).mono ?_; rintro e w' ⟨rfl, rfl⟩) | (go_at_call 18; refine (since_nil n _).mono ?_; rintro e w' ⟨rfl, rfl⟩) | (go_at_call 10; refine (add_nil x _).mono ?_; rintro e w' ⟨rfl, rfl⟩) | (go_at_call 11; refine (mark_nil _).mono ?_; rintro e w' ⟨rfl, rfl⟩) | (go_at_call 16; refine (forget_nil n _).mono ?_; rintro e w' ⟨rfl, rfl⟩) | (go_at_call 20; refine (len_nil _).mono ?_; rintro e w' ⟨rfl, rfl⟩) | (go_at_call 21; refine (marks_nil _).mono ?_; rintro e w' ⟨rfl, rfl⟩))
  go_ret
  exact ⟨rfl, B1.out⟩
end Go.Proofs.Ytekbfjdjgpgmpaa
