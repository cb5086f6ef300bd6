/- Commit, Room, Used, and what is told of no journal. -/
import Derived.Test.YthoihlebplmcoaaJG
namespace Go.Proofs.Ythoihlebplmcoaa
open Go.RowKit
set_option linter.unusedVariables false
section
variable {w0 w w1 : World} {J : Jd} {m : Mod}
theorem JP.there (h : JP w0 w J m) : Calls Try.prog 33 #[J.ptr] w fun e w' => e = .returned (.bool true) ∧ w = w' :=
  (there_any J.p J.dp w h.is.c0).mono fun _ _ hh => And.intro hh.1 hh.2.symm
theorem there_none (w : World) : Calls Try.prog 33 #[.pointer none] w fun e w' => e = .returned (.bool false) ∧ w = w' :=
  (there_nil w).mono fun _ _ hh => And.intro hh.1 hh.2.symm
theorem commit_nil (w : World) : Calls Try.prog 13 #[.pointer none] w fun e w' => e = .returned (.int .i64 2) ∧ w = w' := by
  have T := there_none w
  go_enter Try.func13, Try.ntmps13
  go_wp2_with fail
  refine T.mono ?_
  rintro e w1 ⟨rfl, rfl⟩
  go_wp2_with fail
  go_ret
  exact ⟨rfl, rfl⟩
theorem reset_nil (n : Int) (w : World) : Calls Try.prog 24 #[.pointer none, .int .u32 n] w fun e w' => e = .returned (.int .i64 2) ∧ w = w' := by
  have T := there_none w
  go_enter Try.func24, Try.ntmps24
  go_wp2_with fail
  refine T.mono ?_
  rintro e w1 ⟨rfl, rfl⟩
  go_wp2_with fail
  go_ret
  exact ⟨rfl, rfl⟩
theorem drop_nil (w : World) : Calls Try.prog 25 #[.pointer none] w fun e w' => e = .returned (.int .i64 0) ∧ w = w' := by
  have T := there_none w
  go_enter Try.func25, Try.ntmps25
  go_wp2_with fail
  refine T.mono ?_
  rintro e w1 ⟨rfl, rfl⟩
  go_wp2_with fail
  go_ret
  exact ⟨rfl, rfl⟩
theorem room_nil (w : World) : Calls Try.prog 26 #[.pointer none] w fun e w' => e = .returned (.int .i64 0) ∧ w = w' := by
  have T := there_none w
  go_enter Try.func26, Try.ntmps26
  go_wp2_with fail
  refine T.mono ?_
  rintro e w1 ⟨rfl, rfl⟩
  go_wp2_with fail
  go_ret
  exact ⟨rfl, rfl⟩
theorem pending_nil (w : World) : Calls Try.prog 22 #[.pointer none] w fun e w' => e = .returned (.int .i64 0) ∧ w = w' := by
  have T := there_none w
  go_enter Try.func22, Try.ntmps22
  go_wp2_with fail
  refine T.mono ?_
  rintro e w1 ⟨rfl, rfl⟩
  go_wp2_with fail
  go_ret
  exact ⟨rfl, rfl⟩
theorem used_nil (w : World) : Calls Try.prog 21 #[.pointer none] w fun e w' => e = .returned (.int .i64 0) ∧ w = w' := by
  have T := there_none w
  go_enter Try.func21, Try.ntmps21
  go_wp2_with fail
  refine T.mono ?_
  rintro e w1 ⟨rfl, rfl⟩
  go_wp2_with fail
  go_ret
  exact ⟨rfl, rfl⟩
theorem used_any (h : JP w0 w J m) : Calls Try.prog 21 #[J.ptr] w fun e w' => e = .returned (.int .i64 (J.row.length : Nat)) ∧ w = w' := by
  have T := Lib.hid h.there
  have c5 := h.is.c5
  clear h
  go_enter Try.func21, Try.ntmps21
  go_wp2_with fail
  refine T.out.mono ?_
  rintro e w1 ⟨rfl, rfl⟩
  go_wp2_with fail
  go_ret
  exact ⟨rfl, rfl⟩
theorem pending_any (h : JP w0 w J m) : Calls Try.prog 22 #[J.ptr] w fun e w' => e = .returned (.int .i64 (J.pend : Nat)) ∧ w = w' := by
  have T := Lib.hid h.there
  have c7 := h.is.c7
  clear h
  go_enter Try.func22, Try.ntmps22
  go_wp2_with fail
  refine T.out.mono ?_
  rintro e w1 ⟨rfl, rfl⟩
  go_wp2_with fail
  go_ret
  exact ⟨rfl, rfl⟩
theorem room_any (h : JP w0 w J m) (q : Nat) (hq : ((J.tt : Int) - (J.fr : Int)) * (J.f : Int) = (q : Nat)) (hq1 : q ≤ 700000) : Calls Try.prog 26 #[J.ptr] w fun e w' => e = .returned (.int .i64 ((q - beg J.f J.row.length - 12 : Nat) : Nat)) ∧ ∃ k, w' = w.drewN k := by
  have T := Lib.hid h.there
  have hok := h.ok
  have hbb := beg_bounds J.f J.row.length (by have := hok.f1; omega)
  have hlen := hok.len
  have LF := Lib.hid (left_q J.p J.fr J.tt J.f J.row.length J.c q J.A w h.is.c1 h.is.c2 h.is.c3 h.is.c5 hok.f1 hok.f2 (by omega) (Nat.le_of_lt hok.lo) (Nat.le_trans hok.hi hok.n) hq (by omega))
  generalize beg J.f J.row.length = z at *
  have hz : (z : Int) ≤ 700011 := by omega
  have hqi : (q : Int) ≤ 700000 := by omega
  clear h hok hq
  by_cases hc : q < z + 12
  · have hci : (q : Int) - (z : Int) - 12 < 0 := by omega
    have e0 : q - z - 12 = 0 := by omega
    rw [e0]
    go_enter Try.func26, Try.ntmps26
    go_wp2_with fail
    refine T.out.mono ?_
    rintro e w1 ⟨rfl, rfl⟩
    go_wp2_with fail
    with_reducible refine LF.out.mono ?_
    rintro e w2 ⟨rfl, k, rfl⟩
    go_wp2_with fail
    go_ret
    exact ⟨rfl, _, rfl⟩
  · have hci : 0 ≤ (q : Int) - (z : Int) - 12 := by omega
    have e0 : ((q - z - 12 : Nat) : Int) = (q : Int) - (z : Int) - 12 := by omega
    rw [e0]
    go_enter Try.func26, Try.ntmps26
    go_wp2_with fail
    refine T.out.mono ?_
    rintro e w1 ⟨rfl, rfl⟩
    go_wp2_with fail
    with_reducible refine LF.out.mono ?_
    rintro e w2 ⟨rfl, k, rfl⟩
    go_wp2_with fail
    go_ret
    exact ⟨ret_i (by first | rfl | (split <;> omega)), _, rfl⟩
/-- what a commit makes of the journal and of the disk, and what it tells. -/
def cmJ (J : Jd) (m : Mod) : Jd := if J.pend = 0 then J else if (wrM J m).2 = 0 then { J with kept := J.row.length, pend := 0 } else J
def cmM (J : Jd) (m : Mod) : Mod × Int := if J.pend = 0 then (m.flush, m.flushR) else wrM J m
set_option maxRecDepth 100000 in
theorem commit_any (h : JP w0 w J m) (hl : LowS m (J.last + 3)) (hk : J.pend ≠ 0 → beg J.f J.kept < J.row.length) (hp : J.pend ≤ 1000000) :
    Calls Try.prog 13 #[J.ptr] w fun e w' => e = .returned (.int .i64 (cmM J m).2) ∧ JP w0 w' (cmJ J m) (cmM J m).1 ∧ ∀ a, Stay a w w' := by
  have T := Lib.hid h.there
  have c7 := h.is.c7
  by_cases h0 : J.pend = 0
  · unfold cmM cmJ
    rw [if_pos h0, if_pos h0]
    have FL := Lib.hid (h.flushP (hl.mono (by omega : 1 ≤ _)).low)
    have c0 := h.is.c0
    rw [h0] at c7
    clear h hl hk hp
    go_enter Try.func13, Try.ntmps13
    go_wp2_with fail
    refine T.out.mono ?_
    rintro e w1 ⟨rfl, rfl⟩
    go_wp2_with fail
    with_reducible refine FL.out.mono ?_
    rintro e w2 ⟨rfl, p2, s2⟩
    have P2 := Lib.hid (And.intro p2 s2)
    clear p2 s2
    go_wp2_with fail
    go_ret
    exact ⟨rfl, P2.out.1, fun a => P2.out.2.stay a⟩
  · have WR := Lib.hid (write_any h hl (hk h0))
    have hpb : ((J.pend : Int) == 0) = false := by simpa using h0
    have hpb2 : ¬ (J.pend : Int) = 0 := by omega
    unfold cmM cmJ
    rw [if_neg h0, if_neg h0]
    have hlen := h.ok.len
    generalize hM : wrM J m = M at *
    clear hM hl hk h0 h
    by_cases hr : M.2 = 0
    · rw [if_pos hr]
      rw [hr] at WR
      go_enter Try.func13, Try.ntmps13
      go_wp2_with fail
      refine T.out.mono ?_
      rintro e w1 ⟨rfl, rfl⟩
      go_wp2_with fail
      with_reducible refine WR.out.mono ?_
      rintro e w2 ⟨rfl, p2, s2⟩
      have c5 := p2.is.c5
      have d6 := p2.is.c6
      have d7 := p2.is.c7
      have f6 := p2.is.fz 6
      have f7 := p2.is.fz 7
      have FIN : Hid (JP w0 ((w2.setCell ⟨J.p, 6, none⟩ (.int .i64 (J.row.length : Nat))).setCell ⟨J.p, 7, none⟩ (.int .i64 0)) { J with kept := J.row.length, pend := 0 } M.1 ∧ ∀ a, Stay a w ((w2.setCell ⟨J.p, 6, none⟩ (.int .i64 (J.row.length : Nat))).setCell ⟨J.p, 7, none⟩ (.int .i64 0))) := by
        have ht : Touch [J.p] w2 ((w2.setCell ⟨J.p, 6, none⟩ (.int .i64 (J.row.length : Nat))).setCell ⟨J.p, 7, none⟩ (.int .i64 0)) := (Touch.one (by simp)).setCell (q := ⟨J.p, 7, none⟩) (.inl (by simp)) _
        obtain ⟨t1, t2⟩ := p2.turn (J' := { J with kept := J.row.length, pend := 0 }) ht (Whole.set_ (Whole.set_ p2.is 6 (.int .i64 (J.row.length : Nat))) 7 (.int .i64 0)) ⟨rfl, rfl, rfl, rfl, rfl⟩ (by have := p2.ok; exact ⟨this.lo, this.hi, this.n, this.size, this.f1, this.f2, this.e, this.len⟩)
        exact Lib.hid ⟨t1, fun a => (s2.stay a).trans (t2 a) (.inl rfl)⟩
      clear p2 s2 WR T c7
      unfold Jd.v at c5
      go_wp2_with fail
      go_ret
      exact ⟨ret_i hr.symm, FIN.out⟩
    · rw [if_neg hr]
      have hrb : (M.2 == 0) = false := by simpa using hr
      go_enter Try.func13, Try.ntmps13
      go_wp2_with fail
      refine T.out.mono ?_
      rintro e w1 ⟨rfl, rfl⟩
      go_wp2_with fail
      with_reducible refine WR.out.mono ?_
      rintro e w2 ⟨rfl, p2, s2⟩
      have P2 := Lib.hid (And.intro p2 s2)
      clear p2 s2
      go_wp2_with fail
      go_ret
      exact ⟨rfl, P2.out.1, fun a => P2.out.2.stay a⟩
end
end Go.Proofs.Ythoihlebplmcoaa
