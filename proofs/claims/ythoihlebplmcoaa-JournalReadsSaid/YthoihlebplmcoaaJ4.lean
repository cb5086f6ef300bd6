/- JournalNil, at every input. -/
import Derived.Test.YthoihlebplmcoaaJ3
namespace Go.Proofs.Ythoihlebplmcoaa
open Go.RowKit
set_option linter.unusedVariables false
theorem doomed_zero {m : Mod} (h : m.dark = false) : Doomed (m.fuseTo 0) := ⟨h, rfl, rfl⟩
/-- one byte that was built is added, or there is no room. -/
theorem JP.try1 {w0 w : World} {J : Jd} {m : Mod} (h : JP w0 w J m) (hq : (J.tt - J.fr) * J.f ≤ 700000) (hlen : J.row.length ≤ (J.tt - J.fr) * J.f) (hk : J.kept = J.row.length) (hp : J.pend = 0) (x : UInt8) (mk : Nat × Nat) :
    Calls Try.prog 12 #[J.ptr, .slice (some ⟨w.heap.size, 0, none⟩) 1 1] (w.alloc (.cells #[.int .u8 (x.toNat : Nat)] 5 mk)) fun e w' => (∃ v, e = .returned v) ∧ ∃ J', JP w0 w' J' m ∧ J'.ptr = J.ptr ∧ J'.dp = J.dp ∧ J'.row.length ≤ (J'.tt - J'.fr) * J'.f ∧ (J'.pend ≠ 0 → beg J'.f J'.kept < J'.row.length) ∧ J'.pend ≤ 1 ∧ J'.last ≤ 12000 := by
  have hok := h.ok
  have hlo := hok.lo
  have hb : Below w.heap.size w (w.alloc (.cells #[.int .u8 (x.toNat : Nat)] 5 mk)) := (Below.refl _ _).alloc (Nat.le_refl _) _
  have hqi : ((J.tt : Int) - (J.fr : Int)) * (J.f : Int) = (((J.tt - J.fr) * J.f : Nat) : Nat) := by rw [Int.natCast_mul, Int.natCast_sub (by omega)]
  have hlast : ∀ r : List UInt8, r.length ≤ (J.tt - J.fr) * J.f → (r.length + J.f - 1) / J.f ≤ 12000 := fun r hr => by
    have h1 : ((r.length + J.f - 1) / J.f) * 60 ≤ ((r.length + J.f - 1) / J.f) * J.f := Nat.mul_le_mul_left _ hok.f1
    have h2 : ((r.length + J.f - 1) / J.f) * J.f ≤ r.length + J.f - 1 := Nat.div_mul_le_self _ _
    have := hok.f2
    omega
  by_cases hroom : beg J.f J.row.length + (1 + 12) ≤ (J.tt - J.fr) * J.f
  · refine (add_ok (h.below hb) _ hqi hq (some ⟨w.heap.size, 0, none⟩) 1 [x] (one_held w x mk) ?_ hroom (by simp) (by omega)).mono ?_
    · intro y hy
      cases hy
      refine ⟨fun e => ?_, fun e => ?_⟩
      · have e' : ob J.A = some w.heap.size := e
        have := (h.ob_lt e').1.lt
        omega
      · have e' : J.p = w.heap.size := e
        have := h.is.lt
        omega
    · rintro e w' ⟨rfl, A', c', p1, -, -⟩
      have hl := addRow_length J [x] hok.f1
      refine ⟨⟨_, rfl⟩, _, p1, rfl, rfl, ?_, fun _ => ?_, by show J.pend + 1 ≤ 1; omega, ?_⟩
      · show (addRow J [x]).length ≤ (J.tt - J.fr) * J.f
        rw [hl]; exact hroom
      · show beg J.f J.kept < (addRow J [x]).length
        rw [hl, hk]; omega
      · show ((addRow J [x]).length + J.f - 1) / J.f ≤ 12000
        exact hlast _ (by rw [hl]; exact hroom)
  · refine (add_full (h.below hb) _ hqi (by omega) (some ⟨w.heap.size, 0, none⟩) 1 1 (by omega) (by omega)).mono ?_
    rintro e w' ⟨rfl, k, rfl⟩
    exact ⟨⟨_, rfl⟩, J, ((h.below hb).rd rfl).1, rfl, rfl, hlen, fun hh => absurd hp hh, by omega, hlast _ hlen⟩
theorem cmJ_dp (J : Jd) (m : Mod) : (cmJ J m).dp = J.dp := by
  unfold cmJ
  split
  · rfl
  · split
    · rfl
    · rfl
theorem opJ_facts {w0 w : World} {dp : Nat} {m : Mod} (h : OwnD w0 w dp m) (p fr tt e : Nat) (A : Option Addr) : (opJ m p dp fr tt e A).row.length ≤ (tt - fr) * (m.size - 4) ∧ (opJ m p dp fr tt e A).kept = (opJ m p dp fr tt e A).row.length := by
  have h1 := rowO_len (m.size - 4) (opF m fr tt e) fun b hb => Nat.le_of_eq (fldsC_each m e fr (tt - fr) (fun k => secB_len h k) b hb)
  have h2 : (opF m fr tt e).length = tt - fr := by simp [opF, fldsC]
  have h3 : opE m fr tt e ≤ (opR m fr tt e).length := lastEnd_le _ _ _
  rw [h2] at h1
  have h4 : (opR m fr tt e).length ≤ (tt - fr) * (m.size - 4) := h1
  constructor
  · show ((opR m fr tt e).take (opE m fr tt e)).length ≤ _
    rw [List.length_take]
    omega
  · show opE m fr tt e = ((opR m fr tt e).take (opE m fr tt e)).length
    rw [List.length_take]
    omega
set_option maxRecDepth 100000 in
set_option maxHeartbeats 2000000 in
theorem journalNil_all (A : Option Addr) (n c : Nat) (e : Nat) (he : e < 4294967296) (w : World) : Calls Try.prog 5 #[.slice A n c, .int .u32 (e : Nat)] w fun r w' => r = .returned (.bool true) ∧ Below w.heap.size w w' := by
  have AW := Lib.hid (awake9 w)
  have q1 := fun (W : World) => add_nil A n c W
  have q2 := fun (W : World) => commit_nil W
  have q3 := fun (W : World) => reset_nil (e : Int) W
  have q4 := fun (W : World) => drop_nil W
  have q5 := fun (W : World) => room_nil W
  have q6 := fun (W : World) => pending_nil W
  have q7 := fun (W : World) => used_nil W
  have q8 := fun (W : World) => callsIn_wide.1 (records_nil W)
  replace q1 := Lib.hid q1
  replace q2 := Lib.hid q2
  replace q3 := Lib.hid q3
  replace q4 := Lib.hid q4
  replace q5 := Lib.hid q5
  replace q6 := Lib.hid q6
  replace q7 := Lib.hid q7
  replace q8 := Lib.hid q8
  go_enter Try.func5, Try.ntmps5
  go_wp2_with fail
  with_reducible refine AW.out.mono ?_
  rintro r w1 ⟨rfl, b1⟩
  have B1 := Lib.hid b1
  clear b1 AW
  go_wp2_with fail
  with_reducible refine (q1.out _).mono ?_
  rintro r w2 ⟨rfl, rfl⟩
  go_wp2_with fail
  with_reducible refine (q2.out _).mono ?_
  rintro r w2 ⟨rfl, rfl⟩
  go_wp2_with fail
  with_reducible refine (q3.out _).mono ?_
  rintro r w2 ⟨rfl, rfl⟩
  go_wp2_with fail
  with_reducible refine (q4.out _).mono ?_
  rintro r w2 ⟨rfl, rfl⟩
  go_wp2_with fail
  with_reducible refine (q5.out _).mono ?_
  rintro r w2 ⟨rfl, rfl⟩
  go_wp2_with fail
  with_reducible refine (q6.out _).mono ?_
  rintro r w2 ⟨rfl, rfl⟩
  go_wp2_with fail
  with_reducible refine (q7.out _).mono ?_
  rintro r w2 ⟨rfl, rfl⟩
  go_wp2_with fail
  with_reducible refine (q8.out _).mono ?_
  rintro r w2 ⟨rfl, rfl⟩
  clear q1 q2 q3 q4 q5 q6 q7 q8
  have N := Lib.hid (OwnA.newA (a := fun _ => False) w 3 64 w2 B1.out (by omega) (by omega) (by omega) (by omega))
  go_wp2_with fail
  refine N.out.mono ?_
  rintro r w3 ⟨p, rfl, o3, -⟩
  have hn : (opM (Mod.new 3 64) 0 3 e).2 = 0 ∧ (opM (Mod.new 3 64) 0 3 e).1.dark = false ∧ (opM (Mod.new 3 64) 0 3 e).1.n = 3 ∧ (opM (Mod.new 3 64) 0 3 e).1.size = 64 := by
    have hl : ((((opR (Mod.new 3 64) 0 3 e).take (opE (Mod.new 3 64) 0 3 e)).length + ((Mod.new 3 64).size - 4) - 1) / ((Mod.new 3 64).size - 4)) ≤ 3 := by
      have h1 : ((opR (Mod.new 3 64) 0 3 e).take (opE (Mod.new 3 64) 0 3 e)).length ≤ (3 - 0) * (64 - 4) := (opJ_facts o3.own 0 0 3 e none).1
      have h2 : (Mod.new 3 64).size - 4 = 60 := rfl
      rw [h2]
      omega
    obtain ⟨c1, c2, -, c4, c5, -⟩ := clrF_lit 0 (hasC (opF (Mod.new 3 64) 0 3 e)) (3 - 0 - ((((opR (Mod.new 3 64) 0 3 e).take (opE (Mod.new 3 64) 0 3 e)).length + ((Mod.new 3 64).size - 4) - 1) / ((Mod.new 3 64).size - 4))) ((((opR (Mod.new 3 64) 0 3 e).take (opE (Mod.new 3 64) 0 3 e)).length + ((Mod.new 3 64).size - 4) - 1) / ((Mod.new 3 64).size - 4)) (Mod.new 3 64) false rfl rfl (by show _ ≤ 3; omega)
    exact ⟨c1, c2, c4, c5⟩
  have OF := fun pj => opJ_facts o3.own pj 0 3 e
  have OP := jopen_good o3 0 3 e (by omega) (by show 3 ≤ 3; omega) (by show 3 ≤ 98; omega) (by show 64 ≤ 64; omega) (by show 64 ≤ 1024; omega) he ⟨by show 0 + 700 ≤ _; omega, by show 0 + 700 ≤ _; omega, by show 0 ≤ _; omega⟩ rfl
  obtain ⟨M, hM⟩ : ∃ M, M = opM (Mod.new 3 64) 0 3 e := ⟨_, rfl⟩
  rw [← hM] at hn OP
  obtain ⟨hn1, hn2, hn3, hn4⟩ := hn
  replace OP := Lib.hid OP
  have ML : LowS M.1 300000 := by
    rw [hM]
    unfold opM
    generalize (((opR (Mod.new 3 64) 0 3 e).take (opE (Mod.new 3 64) 0 3 e)).length + ((Mod.new 3 64).size - 4) - 1) / ((Mod.new 3 64).size - 4) = z
    exact LowS.clr _ _ _ _ _ _ _ ⟨by show 0 + _ ≤ _; omega, by show 0 + _ ≤ _; omega, by show 0 ≤ _; omega⟩
  replace ML := Lib.hid ML
  clear N o3 hM
  go_wp2_with fail
  refine OP.out.mono ?_
  rintro r w4 ⟨-, s4⟩
  unfold Opened at s4
  rw [if_pos hn1] at s4
  obtain ⟨pj, A4, rfl, -, j4, -⟩ := s4
  have FU := j4.fuse 0
  have OF4 : (opJ (Mod.new 3 64) pj p 0 3 e A4).row.length ≤ 180 ∧ (opJ (Mod.new 3 64) pj p 0 3 e A4).kept = (opJ (Mod.new 3 64) pj p 0 3 e A4).row.length := OF pj A4
  have hJ : (opJ (Mod.new 3 64) pj p 0 3 e A4).ptr = .pointer (some ⟨pj, 0, none⟩) := rfl
  have hD : (opJ (Mod.new 3 64) pj p 0 3 e A4).dp = p := rfl
  have hP : (opJ (Mod.new 3 64) pj p 0 3 e A4).pend = 0 := rfl
  have hF : ((opJ (Mod.new 3 64) pj p 0 3 e A4).tt - (opJ (Mod.new 3 64) pj p 0 3 e A4).fr) * (opJ (Mod.new 3 64) pj p 0 3 e A4).f = 180 := rfl
  generalize opJ (Mod.new 3 64) pj p 0 3 e A4 = J4 at *
  rw [hD] at FU
  replace FU := Lib.hid FU
  replace OF4 := Lib.hid OF4
  replace hJ := Lib.hid hJ
  replace hD := Lib.hid hD
  replace hF := Lib.hid hF
  replace hP := Lib.hid hP
  replace hn2 := Lib.hid hn2
  replace hn3 := Lib.hid hn3
  replace hn4 := Lib.hid hn4
  clear OP j4 OF hn1
  go_wp2_with fail
  refine FU.out.mono ?_
  rintro r w5 ⟨⟨v, rfl⟩, j5, -⟩
  have DO := Lib.hid (doomed_zero hn2.out)
  have T1 := j5.try1 (by rw [hF.out]; omega) (by rw [hF.out]; exact OF4.out.1) OF4.out.2 hP.out 1 (0, 0)
  rw [hJ.out, hD.out] at T1
  replace T1 := Lib.hid T1
  clear FU j5 OF4 hP hF
  go_wp2_with fail
  refine T1.out.mono ?_
  rintro r w6 ⟨⟨v', rfl⟩, J6, j6, p6, d6, q6, k6, e6, l6⟩
  have CM := commit_any j6 (show LowS (M.1.fuseTo 0) (J6.last + 3) from ⟨by have := ML.out.waits; show M.1.waits + _ ≤ _; omega, by have := ML.out.deeds; show M.1.deeds + _ ≤ _; omega, by show 0 ≤ _; omega⟩) k6 (by omega)
  rw [DO.out.commit j6.ok q6 k6, p6] at CM
  have D7 := Lib.hid ((cmJ_dp J6 (M.1.fuseTo 0)).trans d6)
  replace CM := Lib.hid CM
  clear T1 j6 p6 d6 q6 k6 e6 l6 DO ML
  go_wp2_with fail
  refine CM.out.mono ?_
  rintro r w7 ⟨rfl, j7, -⟩
  have o7 := (j7.own.avoid (a' := fun _ => False) fun _ hk => hk.elim)
  rw [D7.out] at o7
  have JD := jopen_dark o7 0 3 e (by omega) (by show 3 ≤ M.1.n; rw [hn3.out]; omega) (by show M.1.n ≤ 98; rw [hn3.out]; omega) (by show 64 ≤ M.1.size; rw [hn4.out]; omega) (by show M.1.size ≤ 1024; rw [hn4.out]; omega) he rfl
  have b7 := Lib.hid o7.bel
  replace JD := Lib.hid JD
  clear CM j7 o7 hn2 hn3 hn4 D7 hJ hD
  go_wp2_with fail
  refine JD.out.mono ?_
  rintro r w8 ⟨rfl, b8⟩
  have B8 := Lib.hid (below_next b7.out b8)
  clear b8 JD b7
  go_wp2_with fail
  go_ret
  exact ⟨rfl, B8.out⟩
end Go.Proofs.Ythoihlebplmcoaa
