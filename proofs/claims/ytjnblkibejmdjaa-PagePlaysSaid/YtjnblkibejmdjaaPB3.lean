/- New, Add, Set. -/
import Derived.Test.YtjnblkibejmdjaaPB2
namespace Go.Proofs.Ytjnblkibejmdjaa
open Go.RowKit
set_option linter.unusedVariables false

theorem new_bad (n : Int) (h : n < 64 ∨ 1024 < n) (w : World) : Calls Try.prog 6 #[.int .i64 n] w fun e w' => e = .returned (.tuple #[.pointer none, .int .i64 1]) ∧ w = w' := by
  have F := fits_any n w
  rw [show (decide (64 ≤ n) && decide (n ≤ 1024)) = false by
    rcases h with h | h
    · rw [decide_eq_false (by omega), Bool.false_and]
    · rw [decide_eq_false (p := n ≤ 1024) (by omega), Bool.and_false]] at F
  go_enter Try.func6, Try.ntmps6
  go_wp2_with fail
  refine F.mono ?_
  rintro e w1 ⟨rfl, rfl⟩
  go_wp2_with fail
  go_ret2
  exact ⟨rfl, rfl⟩
def newP (p n : Nat) : Pg := ⟨p, n, none, 0, []⟩
theorem newP_at (w : World) (n : Nat) (h1 : 64 ≤ n) (h2 : n ≤ 1024) : PgAt (w.alloc (.cells #[.int .i64 (n : Nat), .slice none 0 0] 48)) (newP w.heap.size n) :=
  ⟨Whole.new w _ _, World.ownsRow_nil _ _ _ _, fun x hx => absurd hx (by simp [newP]), h1, h2, Nat.zero_le _, by show 1 + 4 * 0 + 0 ≤ n; omega⟩
theorem new_good (n : Nat) (h1 : 64 ≤ n) (h2 : n ≤ 1024) (w : World) : Calls Try.prog 6 #[.int .i64 (n : Nat)] w fun e w' => e = .returned (.tuple #[.pointer (some ⟨w.heap.size, 0, none⟩), .int .i64 0]) ∧ PgAt w' (newP w.heap.size n) ∧ Below w.heap.size w w' := by
  have F := fits_good n h1 h2 w
  have N := Lib.hid (newP_at w n h1 h2)
  go_enter Try.func6, Try.ntmps6
  go_wp2_with fail
  refine F.mono ?_
  rintro e w1 ⟨rfl, rfl⟩
  go_wp2_with fail
  go_ret2
  exact ⟨rfl, N.out, (Below.refl _ _).alloc (Nat.le_refl _) _⟩
theorem add_nil (A : Option Addr) (n c : Nat) (w : World) : Calls Try.prog 8 #[.pointer none, .slice A n c] w fun e w' => e = .returned (.tuple #[.int .i64 0, .int .i64 2]) ∧ w = w' := by
  have T := there_nil w
  go_enter Try.func8, Try.ntmps8
  go_wp2_with fail
  refine T.mono ?_
  rintro e w1 ⟨rfl, rfl⟩
  go_wp2_with fail
  go_ret2
  exact ⟨rfl, rfl⟩
theorem add_none {w : World} {P : Pg} (h : PgAt w P) (A : Option Addr) (c : Nat) : Calls Try.prog 8 #[P.ptr, .slice A 0 c] w fun e w' => e = .returned (.tuple #[.int .i64 0, .int .i64 1]) ∧ w = w' := by
  have T := Lib.hid h.there
  clear h
  go_enter Try.func8, Try.ntmps8
  go_wp2_with fail
  refine T.out.mono ?_
  rintro e w1 ⟨rfl, rfl⟩
  go_wp2_with fail
  go_ret2
  exact ⟨rfl, rfl⟩
set_option maxRecDepth 100000 in
theorem add_full {w : World} {P : Pg} (h : PgAt w P) (A : Option Addr) (n c : Nat) (hn : 0 < n) (hn2 : n ≤ 9223372036854775807) (hf : P.xs.length = 250 ∨ P.left < 4 + n) : Calls Try.prog 8 #[P.ptr, .slice A n c] w fun e w' => e = .returned (.tuple #[.int .i64 0, .int .i64 12]) ∧ ∃ k, w' = w.drewN k := by
  have T := Lib.hid h.there
  have LF := Lib.hid (left_at h)
  have c1 := h.c1
  have hfew := h.few
  have hl : P.left ≤ 1024 := by have := h.sz2; unfold Pg.left; omega
  have hn0 : ¬ ((n : Nat) : Int) = 0 := by omega
  clear h
  by_cases h250 : P.xs.length = 250
  · have h250i : (P.xs.length : Int) = 250 := by omega
    clear LF hf
    go_enter Try.func8, Try.ntmps8
    go_wp2_with fail
    refine T.out.mono ?_
    rintro e w1 ⟨rfl, rfl⟩
    go_wp2_with fail
    go_ret2
    exact ⟨rfl, 0, rfl⟩
  · have h250i : ¬ (P.xs.length : Int) = 250 := by omega
    have hgt : (n : Int) > (P.left : Int) - 4 := by omega
    have hl2 : (P.left : Int) ≤ 1024 := by omega
    generalize P.left = q at *
    clear hf h250
    go_enter Try.func8, Try.ntmps8
    go_wp2_with fail
    refine T.out.mono ?_
    rintro e w1 ⟨rfl, rfl⟩
    go_wp2_with fail
    refine LF.out.mono ?_
    rintro e w2 ⟨rfl, k, rfl⟩
    go_wp2_with fail
    go_ret2
    exact ⟨rfl, k, rfl⟩
set_option maxRecDepth 100000 in
set_option maxHeartbeats 1000000 in
theorem add_ok {w : World} {P : Pg} (h : PgAt w P) (A : Option Addr) (c : Nat) (b : List UInt8) (hA : Holds w A b) (hb : b ≠ []) (hn : P.xs.length < 250) (hf : 4 + b.length ≤ P.left) : Calls Try.prog 8 #[P.ptr, .slice A b.length c] w fun e w' => e = .returned (.tuple #[.int .i64 (P.xs.length : Nat), .int .i64 0]) ∧ ∃ P', Goes w w' P P' ∧ P'.L = P.L ++ [b] := by
  have T := Lib.hid h.there
  have LF := Lib.hid (left_at h)
  have c1 := h.c1
  have hl : P.left ≤ 1024 := by have := h.sz2; unfold Pg.left; omega
  have hpos : 0 < b.length := List.length_pos_iff.2 hb
  have hn0 : ¬ ((b.length : Nat) : Int) = 0 := by omega
  have h250i : ¬ (P.xs.length : Int) = 250 := by omega
  have h250b : ((P.xs.length : Int) == 250) = false := by simp; omega
  have hgt : decide ((P.left : Int) - 4 < (b.length : Int)) = false := decide_eq_false (by omega)
  have hl2 : (P.left : Int) ≤ 1024 := by omega
  have hfit : 1 + 4 * (P.xs.length + 1) + used P.L + b.length ≤ P.size := by unfold Pg.left at hf; have := h.fit; omega
  have CALL : Hid (∀ k, Calls Try.prog 20 #[.slice A b.length c] (w.drewN k).drew fun e w3 => ∃ a cc, e = .returned (.slice a b.length cc) ∧ P.p < w3.heap.size ∧ w3.cell? ⟨P.p, 1, none⟩ = some P.v ∧
      ∃ a' c' w4, Sem.run Try.prog (Builtin.append_ #[46, 46] 46 #[P.v, .slice (some ⟨w3.heap.size, 0, none⟩) 1 1]) (w3.alloc (.cells #[.slice a b.length cc] 29)) = .ok (.slice a' (P.xs.length + 1) c') w4 ∧
        w4.cell? ⟨P.p, 1, none⟩ = some P.v ∧ w4.frozen? ⟨P.p, 1, none⟩ = false ∧
        Hid (∃ P', Goes w (w4.setCell ⟨P.p, 1, none⟩ (.slice a' (P.xs.length + 1) c')) P P' ∧ P'.L = P.L ++ [b])) := Lib.hid fun k => by
    have hd : Below w.heap.size w (w.drewN k).drew := (below_drewN (Below.refl _ _) k).drew
    refine (clone_any A c b (w.drewN k).drew (hA.below hd) (by omega)).mono ?_
    rintro e w3 ⟨v, rfl, hr, hb3⟩
    have hb2 : Below w.heap.size w w3 := below_next hd hb3
    obtain ⟨a, cc, rfl, -, -, -⟩ := hr.shape
    have h3 := h.below hb2
    obtain ⟨a', c', w4, s1, s2, s3, s4, s5⟩ := h3.push ⟨a, cc, b⟩ (hr.le (Nat.zero_le _)) hn hfit
    exact ⟨a, cc, rfl, h3.lt, h3.c1, a', c', w4, s1, s2, s3, Lib.hid ⟨_, s5.after hb2, by simp [Pg.L, bbs]⟩⟩
  clear h hA hb hfit hf
  generalize P.left = q at *
  generalize b.length = m at *
  go_enter Try.func8, Try.ntmps8
  go_wp2_with fail
  refine T.out.mono ?_
  rintro e w1 ⟨rfl, rfl⟩
  go_wp2_with fail
  refine LF.out.mono ?_
  rintro e w2 ⟨rfl, k, rfl⟩
  have c1k : (w.drewN k).cell? ⟨P.p, 1, none⟩ = some P.v := c1
  have CALL1 := Lib.hid (CALL.out k)
  clear CALL LF T
  go_wp2_with fail
  go_region_law (first
    | (refine step_append_runI rfl _ _ 46 46 rfl _ _ ?h3 ?h4 s1 ?_; (case h3 => rfl); (case h4 => rfl))
    | (refine step_call_any rfl 20 #[.slice A m c] ?h1 CALL1.out ?_; (case h1 => kernel_rfl); rintro e w3 ⟨a, cc, rfl, q0, q1, a', c', w4, s1, s2, s3, FIN⟩; have q5 : (w3.alloc (.cells #[.slice a m cc] 29)).cell? ⟨P.p, 1, none⟩ = some P.v := (((Below.refl _ w3).alloc (Nat.le_refl _) _).cell (p := ⟨P.p, 1, none⟩) q0).trans q1; refine ⟨_, rfl, ?_⟩))
  all_goals
    clear q1 q5 s1 s2 s3
    go_wp2_with fail
    go_ret2
    exact ⟨rfl, FIN.out⟩
end Go.Proofs.Ytjnblkibejmdjaa
