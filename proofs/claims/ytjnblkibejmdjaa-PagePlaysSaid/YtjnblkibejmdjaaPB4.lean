/- Set, Get, trim, Drop. -/
import Derived.Test.YtjnblkibejmdjaaPB3
namespace Go.Proofs.Ytjnblkibejmdjaa
open Go.RowKit
set_option linter.unusedVariables false

theorem PgAt.heap {w w' : World} {P : Pg} (h : PgAt w P) (e : w'.heap = w.heap) : PgAt w' P := h.of_heap (fun k _ => by rw [e]) (fun k _ => by rw [e])
theorem set_nil (i : Int) (A : Option Addr) (n c : Nat) (w : World) : Calls Try.prog 9 #[.pointer none, .int .i64 i, .slice A n c] w fun e w' => e = .returned (.int .i64 2) ∧ w = w' := by
  have T := has_nil i w
  go_enter Try.func9, Try.ntmps9
  go_wp2_with fail
  refine T.mono ?_
  rintro e w1 ⟨rfl, rfl⟩
  go_wp2_with fail
  go_ret
  exact ⟨rfl, rfl⟩
theorem set_no {w : World} {P : Pg} (h : PgAt w P) (i : Int) (hi : noSlot P i) (A : Option Addr) (n c : Nat) : Calls Try.prog 9 #[P.ptr, .int .i64 i, .slice A n c] w fun e w' => e = .returned (.int .i64 1) ∧ w = w' := by
  have T := has_no h i hi
  clear h
  go_enter Try.func9, Try.ntmps9
  go_wp2_with fail
  refine T.mono ?_
  rintro e w1 ⟨rfl, rfl⟩
  go_wp2_with fail
  go_ret
  exact ⟨rfl, rfl⟩
theorem set_none {w : World} {P : Pg} (h : PgAt w P) (i : Nat) (hi : i < P.xs.length) (A : Option Addr) (c : Nat) : Calls Try.prog 9 #[P.ptr, .int .i64 (i : Nat), .slice A 0 c] w fun e w' => e = .returned (.int .i64 1) ∧ w = w' := by
  have T := has_yes h i hi
  clear h
  go_enter Try.func9, Try.ntmps9
  go_wp2_with fail
  refine T.mono ?_
  rintro e w1 ⟨rfl, rfl⟩
  go_wp2_with fail
  go_ret
  exact ⟨rfl, rfl⟩
set_option maxRecDepth 100000 in
set_option maxHeartbeats 1000000 in
theorem set_full {w : World} {P : Pg} (h : PgAt w P) (i : Nat) (hi : i < P.xs.length) (A : Option Addr) (n c : Nat) (hn : 0 < n) (hn2 : n ≤ 9223372036854775807) (hf : P.left + P.xs[i].b.length < n) : Calls Try.prog 9 #[P.ptr, .int .i64 (i : Nat), .slice A n c] w fun e w' => e = .returned (.int .i64 12) ∧ ∃ k, w' = w.drewN k := by
  have T := Lib.hid (has_yes h i hi)
  have LF := Lib.hid fun (W : World) (e : W.heap = w.heap) => left_at (h.heap e)
  have c1 := h.c1
  obtain ⟨g, hA, -, -, hc, -, -⟩ := h.slot i hi
  have hl : P.left ≤ 1024 := by have := h.sz2; unfold Pg.left; omega
  have hxl : P.xs[i].b.length ≤ 1024 := by
    have h1 := used_at P.L i (by rw [show P.L.length = P.xs.length from bbs_len _]; exact hi)
    rw [show P.L[i]'(by rw [show P.L.length = P.xs.length from bbs_len _]; exact hi) = P.xs[i].b from bbs_at _ _ _] at h1
    have := h.fit
    have := h.sz2
    omega
  have hn0 : ((n : Nat) : Int) ≠ 0 := by omega
  have hil : (i : Int) < (P.xs.length : Int) := by omega
  unfold Pg.v at c1
  rw [hA] at c1
  unfold Bx.v at hc
  clear h hA
  generalize P.xs[i] = x at *
  generalize P.xs.length = nn at *
  generalize P.left = q at *
  generalize x.b.length = m at *
  have hf1 : (n : Int) > (q : Int) + (m : Int) := by omega
  have hq1 : (q : Int) ≤ 1024 := by omega
  have hm1 : (m : Int) ≤ 1024 := by omega
  clear hi hf hl hxl
  go_enter Try.func9, Try.ntmps9
  go_wp2_with fail
  refine T.out.mono ?_
  rintro e w1 ⟨rfl, rfl⟩
  go_wp2_with fail
  go_quiet ((go_at_call 19; exact Calls.quiet_of (LF.out _ rfl)))
  go_wp2_with fail
  go_ret
  exact ⟨rfl, _, rfl⟩
set_option maxRecDepth 100000 in
set_option maxHeartbeats 1000000 in
theorem set_ok {w : World} {P : Pg} (h : PgAt w P) (i : Nat) (hi : i < P.xs.length) (A : Option Addr) (c : Nat) (b : List UInt8) (hA : Holds w A b) (hb : b ≠ []) (hf : b.length ≤ P.left + P.xs[i].b.length) : Calls Try.prog 9 #[P.ptr, .int .i64 (i : Nat), .slice A b.length c] w fun e w' => e = .returned (.int .i64 0) ∧ ∃ P', Goes w w' P P' ∧ P'.L = P.L.set i b := by
  have T := Lib.hid (has_yes h i hi)
  have LF := Lib.hid fun (W : World) (e : W.heap = w.heap) => left_at (h.heap e)
  have c1 := h.c1
  obtain ⟨g, hPA, hgb, hglt, hc, hfz, -⟩ := h.slot i hi
  have hl : P.left ≤ 1024 := by have := h.sz2; unfold Pg.left; omega
  have hLl : P.L.length = P.xs.length := bbs_len _
  have hLi : P.L[i]'(by rw [hLl]; exact hi) = P.xs[i].b := bbs_at _ _ _
  have hxu := used_at P.L i (by rw [hLl]; exact hi)
  have hset := used_set P.L i (by rw [hLl]; exact hi) b
  rw [hLi] at hxu hset
  have hxl : P.xs[i].b.length ≤ 1024 := by
    have := h.fit
    have := h.sz2
    omega
  have hfit : 1 + 4 * P.xs.length + used (P.L.set i b) ≤ P.size := by
    have := h.fit
    unfold Pg.left at hf
    omega
  have hpos : 0 < b.length := List.length_pos_iff.2 hb
  have hn0 : ((b.length : Nat) : Int) ≠ 0 := by omega
  have hil : (i : Int) < (P.xs.length : Int) := by omega
  have CALL : Hid (∀ k, Calls Try.prog 20 #[.slice A b.length c] (w.drewN k).drew fun e w3 => ∃ a cc, e = .returned (.slice a b.length cc) ∧ w3.cell? ⟨P.p, 1, none⟩ = some (.slice (some ⟨g, 0, none⟩) P.xs.length P.c) ∧
      w3.cell? ⟨g, i, none⟩ = some (P.xs[i]).v ∧ w3.frozen? ⟨g, i, none⟩ = false ∧ 
        Hid (∃ P', Goes w (w3.setCell ⟨g, i, none⟩ (.slice a b.length cc)) P P' ∧ P'.L = P.L.set i b)) := Lib.hid fun k => by
    have hd : Below w.heap.size w (w.drewN k).drew := (below_drewN (Below.refl _ _) k).drew
    refine (clone_any A c b (w.drewN k).drew (hA.below hd) (by omega)).mono ?_
    rintro e w3 ⟨v, rfl, hr, hb3⟩
    have hb2 : Below w.heap.size w w3 := below_next hd hb3
    obtain ⟨a, cc, rfl, -, -, -⟩ := hr.shape
    have h3 := h.below hb2
    have hs := h3.store i hi ⟨a, cc, b⟩ (hr.le (Nat.zero_le _)) hfit hgb
    obtain ⟨g', hPA', hgb', -, hc', hfz', -⟩ := h3.slot i hi
    rw [hgb] at hgb'
    cases hgb'
    have c1' := h3.c1
    unfold Pg.v at c1'
    rw [hPA] at c1'
    exact ⟨a, cc, rfl, c1', hc', hfz', Lib.hid ⟨_, hs.after hb2, bbs_set _ _ _⟩⟩
  unfold Pg.v at c1
  rw [hPA] at c1
  unfold Bx.v at hc CALL
  clear h hPA hgb hset hxu hfit hLi hLl hA hb
  generalize P.xs[i] = x at *
  generalize P.xs.length = nn at *
  generalize P.left = q at *
  generalize hbm : b.length = mb at *
  generalize x.b.length = m at *
  have hf1 : ¬ (mb : Int) > (q : Int) + (m : Int) := by omega
  have hq1 : (q : Int) ≤ 1024 := by omega
  have hm1 : (m : Int) ≤ 1024 := by omega
  clear hi hf hl hxl hbm
  go_enter Try.func9, Try.ntmps9
  go_wp2_with fail
  refine T.out.mono ?_
  rintro e w1 ⟨rfl, rfl⟩
  go_wp2_with fail
  go_quiet ((go_at_call 19; exact Calls.quiet_of (LF.out _ rfl)))
  have CALL1 := Lib.hid (CALL.out nq)
  have c1k : (w.drewN nq).cell? ⟨P.p, 1, none⟩ = _ := c1
  clear CALL LF T
  go_wp2_with fail
  go_region_law (first
    | (refine step_call_any rfl 20 #[.slice A mb c] ?h1 CALL1.out ?_; (case h1 => kernel_rfl); rintro e w3 ⟨a, cc, rfl, q1, q2, q3, FIN⟩; refine ⟨_, rfl, ?_⟩))
  all_goals
    clear q1 q2 q3
    go_wp2_with fail
    go_ret
    exact ⟨rfl, FIN.out⟩
end Go.Proofs.Ytjnblkibejmdjaa
