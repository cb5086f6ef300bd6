/- Get, trim, Drop. -/
import Derived.Test.YtjnblkibejmdjaaPB4
namespace Go.Proofs.Ytjnblkibejmdjaa
open Go.RowKit
set_option linter.unusedVariables false

theorem get_nil (i : Int) (w : World) : Calls Try.prog 14 #[.pointer none, .int .i64 i] w fun e w' => e = .returned (.tuple #[.slice none 0 0, .int .i64 2]) ∧ w = w' := by
  have T := filled_nil i w
  go_enter Try.func14, Try.ntmps14
  go_wp2_with fail
  refine T.mono ?_
  rintro e w1 ⟨rfl, rfl⟩
  go_wp2_with fail
  go_ret2
  exact ⟨rfl, rfl⟩
theorem get_no {w : World} {P : Pg} (h : PgAt w P) (i : Int) (hi : noSlot P i) : Calls Try.prog 14 #[P.ptr, .int .i64 i] w fun e w' => e = .returned (.tuple #[.slice none 0 0, .int .i64 1]) ∧ w = w' := by
  have T := filled_no h i hi
  clear h
  go_enter Try.func14, Try.ntmps14
  go_wp2_with fail
  refine T.mono ?_
  rintro e w1 ⟨rfl, rfl⟩
  go_wp2_with fail
  go_ret2
  exact ⟨rfl, rfl⟩
theorem get_empty {w : World} {P : Pg} (h : PgAt w P) (i : Nat) (hi : i < P.xs.length) (hb : P.xs[i].b = []) : Calls Try.prog 14 #[P.ptr, .int .i64 (i : Nat)] w fun e w' => e = .returned (.tuple #[.slice none 0 0, .int .i64 13]) ∧ w = w' := by
  have T := filled_yes h i hi
  rw [if_pos hb] at T
  clear h
  go_enter Try.func14, Try.ntmps14
  go_wp2_with fail
  refine T.mono ?_
  rintro e w1 ⟨rfl, rfl⟩
  go_wp2_with fail
  go_ret2
  exact ⟨rfl, rfl⟩
set_option maxRecDepth 100000 in
theorem get_ok {w : World} {P : Pg} (h : PgAt w P) (i : Nat) (hi : i < P.xs.length) (hb : P.xs[i].b ≠ []) : Calls Try.prog 14 #[P.ptr, .int .i64 (i : Nat)] w fun e w' => ∃ v, e = .returned (.tuple #[v, .int .i64 0]) ∧ Row w' w.heap.size v P.xs[i].b ∧ Below w.heap.size w w' := by
  have T := filled_yes h i hi
  rw [if_neg hb] at T
  have c1 := h.c1
  obtain ⟨g, hPA, -, -, hc, -, -⟩ := h.slot i hi
  have hil : (i : Int) < (P.xs.length : Int) := by omega
  have hxl : P.xs[i].b.length ≤ 1024 := by
    have h1 := used_at P.L i (by rw [show P.L.length = P.xs.length from bbs_len _]; exact hi)
    rw [show P.L[i]'(by rw [show P.L.length = P.xs.length from bbs_len _]; exact hi) = P.xs[i].b from bbs_at _ _ _] at h1
    have := h.fit
    have := h.sz2
    omega
  obtain ⟨B, d, hB, hh, -, -⟩ := (h.held _ (List.getElem_mem hi)).shape
  simp only [Bx.v, Value.slice.injEq] at hB
  obtain ⟨rfl, -, rfl⟩ := hB
  have CL := Lib.hid (clone_any P.xs[i].A P.xs[i].c P.xs[i].b w hh (by omega))
  unfold Pg.v at c1
  rw [hPA] at c1
  unfold Bx.v at hc
  clear h hPA hh
  generalize P.xs[i] = x at *
  generalize P.xs.length = nn at *
  clear hi hxl hb
  go_enter Try.func14, Try.ntmps14
  go_wp2_with fail
  refine T.mono ?_
  rintro e w1 ⟨rfl, rfl⟩
  go_wp2_with fail
  refine CL.out.mono ?_
  rintro e w2 ⟨v, rfl, hr, hbl⟩
  go_wp2_with fail
  go_ret2
  exact ⟨_, rfl, hr, hbl⟩
set_option maxRecDepth 100000 in
set_option maxHeartbeats 1000000 in
theorem trim_at {w : World} {P : Pg} (h : PgAt w P) : Calls Try.prog 23 #[P.ptr] w fun e w' => e = .returned (.tuple #[]) ∧ ∃ P', Goes w w' P P' ∧ P'.L = trimL P.L := by
  have c1 := h.c1
  have f1 := h.f 1
  have hLl : P.L.length = P.xs.length := bbs_len _
  have hfew : (P.xs.length : Int) ≤ 250 := by have := h.few; omega
  have HALL : Hid (∀ i (hi : i < P.xs.length), ∃ g, P.A = some ⟨g, 0, none⟩ ∧ w.cell? ⟨g, i, none⟩ = some (P.xs[i]).v) := Lib.hid fun i hi => by
    obtain ⟨g, h1, -, -, h2, -, -⟩ := h.slot i hi
    exact ⟨g, h1, h2⟩
  have hnc : P.xs.length ≤ P.c := by
    rcases h.row.2 with ⟨e, h0⟩ | ⟨g, cap, cur, e, hb, hh, hn, hm, hs, ht⟩
    · omega
    · simp only [Pg.v, Value.slice.injEq] at e
      omega
  have hnci : (P.xs.length : Int) ≤ (P.c : Int) := by omega
  have CUT : Hid (∀ k, k ≤ P.xs.length → trimN P.L k = trimN P.L P.L.length → trimN P.L k = k → ∃ P', Goes w (w.setCell ⟨P.p, 1, none⟩ (.slice P.A k P.c)) P P' ∧ P'.L = trimL P.L) := Lib.hid fun k hk he h2 => by
    refine ⟨_, h.cut k hk, ?_⟩
    unfold trimL
    rw [← he, h2]
    simp [Pg.L, bbs, List.map_take]
  unfold Pg.v at c1
  have HT : Hid (trimN P.L P.xs.length = trimN P.L P.L.length) := Lib.hid (by rw [hLl])
  clear h
  generalize hAA : P.A = AA at *
  go_enter Try.func23, Try.ntmps23
  go_wp2_with fail
  go_loopg [2] (P.xs.length + 1) (fun j s2 wr => ∃ k : Nat, k ≤ P.xs.length ∧ k < j ∧ s2 = .int .i64 (k : Nat) ∧ trimN P.L k = trimN P.L P.L.length ∧ wr = w)
  case atStart => exact ⟨P.xs.length, Nat.le_refl _, by omega, rfl, HT.out, rfl⟩
  case round =>
    obtain ⟨k, hk, hj, rfl, ht, rfl⟩ := hrel
    have HT2 := Lib.hid ht
    clear ht HT
    by_cases hk0 : k = 0
    · subst hk0
      have hg : ¬ ((0 : Nat) : Int) > 0 := by omega
      have FIN := Lib.hid (CUT.out 0 (by omega) HT2.out rfl)
      clear CUT HALL
      go_wp2_with fail
      go_end0
      exact ⟨rfl, FIN.out⟩
    · obtain ⟨m, rfl⟩ : ∃ m, k = m + 1 := ⟨k - 1, by omega⟩
      have hm : m < P.xs.length := by omega
      obtain ⟨g, hA, hc⟩ := HALL.out m hm
      subst hA
      have hLm : P.L.getD m [] = P.xs[m].b := by
        rw [List.getD_eq_getElem?_getD, List.getElem?_eq_getElem (by omega)]
        exact bbs_at _ _ _
      have hg : ((m + 1 : Nat) : Int) > 0 := by omega
      have hsub : ((m + 1 : Nat) : Int) - 1 = (m : Nat) := by omega
      have hmi : (m : Int) < (P.xs.length : Int) := by omega
      unfold Bx.v at hc
      by_cases hb : P.xs[m].b = []
      · have hb0 : P.xs[m].b.length = 0 := by rw [hb]; rfl
        have HS : Hid (trimN P.L m = trimN P.L P.L.length) := Lib.hid (by rw [← HT2.out, trimN_empty _ _ (by rw [hLm]; exact hb)])
        rw [hb0] at hc
        clear hb hb0 hLm HT2 CUT HALL
        go_wp2_with fail
        go_roundg (m + 1)
        case measure => omega
        case rel => exact ⟨m, by omega, by omega, by first | rfl | (congr 1; omega), HS.out, rfl⟩
      · have hpos : 0 < P.xs[m].b.length := List.length_pos_iff.2 hb
        have hlen : ¬ ((P.xs[m].b.length : Nat) : Int) = 0 := by omega
        have hlenb : (((P.xs[m].b.length : Nat) : Int) == 0) = false := by simp; exact hb
        have FIN := Lib.hid (CUT.out (m + 1) hk HT2.out (trimN_full _ _ (by rw [hLm]; exact hb)))
        generalize P.xs[m] = x at *
        generalize x.b.length = xl at *
        clear hb hLm HT2 CUT HALL
        go_wp2_with fail
        go_end0
        exact ⟨rfl, FIN.out⟩
theorem drop_nil (i : Int) (w : World) : Calls Try.prog 10 #[.pointer none, .int .i64 i] w fun e w' => e = .returned (.int .i64 2) ∧ w = w' := by
  have T := filled_nil i w
  go_enter Try.func10, Try.ntmps10
  go_wp2_with fail
  refine T.mono ?_
  rintro e w1 ⟨rfl, rfl⟩
  go_wp2_with fail
  go_ret
  exact ⟨rfl, rfl⟩
theorem drop_no {w : World} {P : Pg} (h : PgAt w P) (i : Int) (hi : noSlot P i) : Calls Try.prog 10 #[P.ptr, .int .i64 i] w fun e w' => e = .returned (.int .i64 1) ∧ w = w' := by
  have T := filled_no h i hi
  clear h
  go_enter Try.func10, Try.ntmps10
  go_wp2_with fail
  refine T.mono ?_
  rintro e w1 ⟨rfl, rfl⟩
  go_wp2_with fail
  go_ret
  exact ⟨rfl, rfl⟩
theorem drop_empty {w : World} {P : Pg} (h : PgAt w P) (i : Nat) (hi : i < P.xs.length) (hb : P.xs[i].b = []) : Calls Try.prog 10 #[P.ptr, .int .i64 (i : Nat)] w fun e w' => e = .returned (.int .i64 13) ∧ w = w' := by
  have T := filled_yes h i hi
  rw [if_pos hb] at T
  clear h
  go_enter Try.func10, Try.ntmps10
  go_wp2_with fail
  refine T.mono ?_
  rintro e w1 ⟨rfl, rfl⟩
  go_wp2_with fail
  go_ret
  exact ⟨rfl, rfl⟩
set_option maxRecDepth 100000 in
theorem drop_ok {w : World} {P : Pg} (h : PgAt w P) (i : Nat) (hi : i < P.xs.length) (hb : P.xs[i].b ≠ []) : Calls Try.prog 10 #[P.ptr, .int .i64 (i : Nat)] w fun e w' => e = .returned (.int .i64 0) ∧ ∃ P', Goes w w' P P' ∧ P'.L = trimL (P.L.set i []) := by
  have T := filled_yes h i hi
  rw [if_neg hb] at T
  have c1 := h.c1
  obtain ⟨g, hPA, hgb, hgl, hc, hfz, -⟩ := h.slot i hi
  have hil : (i : Int) < (P.xs.length : Int) := by omega
  have hLl : P.L.length = P.xs.length := bbs_len _
  have hset := used_set P.L i (by rw [hLl]; exact hi) []
  have hs := h.store i hi ⟨none, 0, []⟩ (Row.nil _ _) (by have := h.fit; simp only [List.length_nil] at hset ⊢; omega) hgb
  have HS := Lib.hid hs
  have TR : Hid (Calls Try.prog 23 #[P.ptr] (w.setCell ⟨g, i, none⟩ (.slice none 0 0)) fun e w' => e = .returned (.tuple #[]) ∧ ∃ P', Goes w w' P P' ∧ P'.L = trimL (P.L.set i [])) := Lib.hid ((trim_at hs.1).mono fun e w' hh => by
    obtain ⟨he, P', hg, hL⟩ := hh
    refine ⟨he, P', HS.out.trans hg, ?_⟩
    rw [hL, show Pg.L { P with xs := P.xs.set i ⟨none, 0, []⟩ } = P.L.set i [] from bbs_set _ _ _])
  unfold Pg.v at c1
  rw [hPA] at c1
  unfold Bx.v at hc
  clear h hPA hs hset HS
  generalize P.xs[i] = x at *
  generalize P.xs.length = nn at *
  clear hi hb
  go_enter Try.func10, Try.ntmps10
  go_wp2_with fail
  refine T.mono ?_
  rintro e w1 ⟨rfl, rfl⟩
  go_wp2_with fail
  refine TR.out.mono ?_
  rintro e w2 ⟨rfl, FIN⟩
  go_wp2_with fail
  go_ret
  exact ⟨rfl, FIN⟩
end Go.Proofs.Ytjnblkibejmdjaa
