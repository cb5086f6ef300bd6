/- write: the sectors that have bytes of pending records. -/
import Derived.Test.YthoihlebplmcoaaJC
namespace Go.Proofs.Ythoihlebplmcoaa
open Go.RowKit
set_option linter.unusedVariables false
/-- so many deeds more may be done. -/
structure LowS (m : Mod) (n : Nat) : Prop where
  waits : m.waits + n ≤ 1000000
  deeds : m.deeds + n ≤ 4611686018427387904
  fuse : m.fuse ≤ 9223372036854775807
theorem LowS.low {m : Mod} {n : Nat} (h : LowS m (n + 1)) : m.Low := ⟨by have := h.waits; omega, by have := h.deeds; omega, h.fuse⟩
theorem LowS.mono {m : Mod} {n k : Nat} (h : LowS m n) (hk : k ≤ n) : LowS m k := ⟨by have := h.waits; omega, by have := h.deeds; omega, h.fuse⟩
theorem deed_fuse (m : Mod) : m.deed.fuse ≤ m.fuse ∧ m.deed.deeds ≤ m.deeds + 1 ∧ m.deed.waits = m.waits := by
  unfold Mod.deed
  split
  · exact ⟨Nat.le_refl _, Nat.le_succ _, rfl⟩
  · refine ⟨?_, Nat.le_refl _, rfl⟩
    show (if m.fused = true then m.fuse - 1 else m.fuse) ≤ m.fuse
    split <;> omega
theorem LowS.write {m : Mod} {n : Nat} (h : LowS m (n + 1)) (i : Int) (b : List UInt8) : LowS (m.write i b) n := by
  obtain ⟨h1, h2, h3⟩ := h
  obtain ⟨k1, k2, k3⟩ := deed_fuse m
  unfold Mod.write
  split
  · split
    · exact ⟨by omega, by omega, by omega⟩
    · exact ⟨by show m.waits + 1 + n ≤ _; omega, by show m.deed.deeds + n ≤ _; omega, by show m.deed.fuse ≤ _; omega⟩
  · exact ⟨by omega, by omega, by omega⟩
theorem LowS.flush {m : Mod} {n : Nat} (h : LowS m (n + 1)) : LowS m.flush n := by
  obtain ⟨h1, h2, h3⟩ := h
  obtain ⟨k1, k2, k3⟩ := deed_fuse m
  unfold Mod.flush
  split
  · exact ⟨by omega, by omega, by omega⟩
  · split
    · exact ⟨by omega, by omega, by omega⟩
    · exact ⟨by show 0 + n ≤ _; omega, by show m.deed.deeds + n ≤ _; omega, by show m.deed.fuse ≤ _; omega⟩
def putM (J : Jd) (m : Mod) (i : Nat) : Mod := m.write ((J.fr + i : Nat) : Int) (J.sec i)
def putR (J : Jd) (m : Mod) (i : Nat) : Int := m.writeR ((J.fr + i : Nat) : Int) (J.sec i).length
/-- some sectors are written, one behind the other, until one may not be. -/
def putsM (J : Jd) : Mod → Nat → Nat → Mod × Int
  | m, _, 0 => (m, 0)
  | m, i, n + 1 => if putR J m i = 0 then putsM J (putM J m i) (i + 1) n else (putM J m i, putR J m i)
def Jd.last (J : Jd) : Nat := (J.row.length + J.f - 1) / J.f
def Jd.first (J : Jd) : Nat := beg J.f J.kept / J.f
/-- what stands behind a first error, if there is one. -/
def andM (x : Mod × Int) (f : Mod → Mod × Int) : Mod × Int := if x.2 = 0 then f x.1 else x
/-- the first one is written, and the disk flushed. -/
def tl2 (J : Jd) (m2 : Mod) : Mod × Int := andM (putM J m2 J.first, putR J m2 J.first) fun m3 => (m3.flush, m3.flushR)
def tlM (J : Jd) (m1 : Mod) : Mod × Int := andM (if J.first + 1 < J.last then (m1.flush, m1.flushR) else (m1, 0)) (tl2 J)
def wrM (J : Jd) (m : Mod) : Mod × Int := andM (putsM J m (J.first + 1) (J.last - (J.first + 1))) (tlM J)
theorem andM_zero {m : Mod} {r : Int} (f : Mod → Mod × Int) (h : r = 0) : andM (m, r) f = f m := by unfold andM; rw [if_pos h]
theorem andM_err {m : Mod} {r : Int} (f : Mod → Mod × Int) (h : ¬ r = 0) : andM (m, r) f = (m, r) := by unfold andM; rw [if_neg h]
theorem JP.flushP {w0 w : World} {J : Jd} {m : Mod} (h : JP w0 w J m) (hl : m.Low) : Calls Try.prog 38 #[.pointer (some ⟨J.dp, 0, none⟩)] w fun e w' => e = .returned (.int .i64 m.flushR) ∧ JP w0 w' J m.flush ∧ Still w w' := by
  refine (h.own.flushA h.a hl).mono ?_
  rintro e w' ⟨rfl, ho, hs⟩
  exact ⟨rfl, h.next ho hs (mod_flush_n _).1 (mod_flush_n _).2, hs⟩
theorem last_bounds {J : Jd} (hf : 60 ≤ J.f) (i : Nat) : i < J.last ↔ i * J.f < J.row.length := by
  unfold Jd.last
  rw [Nat.lt_iff_add_one_le, Nat.le_div_iff_mul_le (by omega)]
  constructor
  · intro h
    have : (i + 1) * J.f = i * J.f + J.f := by rw [Nat.add_mul, Nat.one_mul]
    omega
  · intro h
    have : (i + 1) * J.f = i * J.f + J.f := by rw [Nat.add_mul, Nat.one_mul]
    omega
theorem JP.rd {w0 w w' : World} {J : Jd} {m : Mod} (h : JP w0 w J m) {k : Nat} (e : w' = w.drewN k) : JP w0 w' J m ∧ Still w w' := by
  subst e
  have hb : Below w.heap.size w (w.drewN k) := below_drewN (Below.refl _ _) k
  exact ⟨h.below hb, Still.of_below hb⟩
set_option maxRecDepth 100000 in
set_option maxHeartbeats 1000000 in
theorem write_any {w0 w : World} {J : Jd} {m : Mod} (h : JP w0 w J m) (hl : LowS m (J.last + 3)) (hk : beg J.f J.kept < J.row.length) :
    Calls Try.prog 39 #[J.ptr] w fun e w' => e = .returned (.int .i64 (wrM J m).2) ∧ JP w0 w' J (wrM J m).1 ∧ Still w w' := by
  have hok := h.ok
  have hf1 := hok.f1
  have hf2 := hok.f2
  have hlen := hok.len
  have hbb := beg_bounds J.f J.kept (by omega)
  have BG := Lib.hid fun (W : World) (o : Hid (JP w0 W J m)) => begin_q J.p J.f J.kept W o.out.is.c3 hf1 hf2 (by omega)
  have BE := Lib.hid fun (W : World) (M : Mod) (o : Hid (JP w0 W J M)) => behind_q J.p J.f J.row.length J.c J.A W o.out.is.c3 o.out.is.c5 hf1 hf2 (by omega)
  have c3 := h.is.c3
  have c6 := h.is.c6
  have hfirst : J.first < J.last := (last_bounds hf1 _).2 (by
    have : J.first * J.f ≤ beg J.f J.kept := Nat.div_mul_le_self _ _
    omega)
  have hlast : J.last ≤ 700000 := by
    have : J.last ≤ J.row.length + J.f - 1 := Nat.div_le_self _ _
    have h1 : J.last * 60 ≤ J.last * J.f := Nat.mul_le_mul_left _ hf1
    have h2 : J.last * J.f ≤ J.row.length + J.f - 1 := Nat.div_mul_le_self _ _
    omega
  have PU := Lib.hid fun (W : World) (M : Mod) (o : Hid (JP w0 W J M)) (l : M.Low) (i : Nat) (hi : i < J.last) => put_any o.out l i ((last_bounds hf1 i).1 hi)
  have HF : Hid (((J.first : Nat) : Int) = ((beg J.f J.kept : Nat) : Int) / (J.f : Int)) := Lib.hid (by unfold Jd.first; rw [Int.natCast_ediv])
  have hq0 : 0 ≤ ((beg J.f J.kept : Nat) : Int) / (J.f : Int) := Int.ediv_nonneg (by omega) (by omega)
  have hq1 : ((beg J.f J.kept : Nat) : Int) / (J.f : Int) ≤ ((beg J.f J.kept : Nat) : Int) := Int.ediv_le_self _ (by omega)
  have H := Lib.hid h
  have HL := Lib.hid hl
  rw [show (J.row.length + J.f - 1) / J.f = J.last from rfl] at BE
  clear h hl
  go_enter Try.func39, Try.ntmps39
  go_wp2_with fail
  go_quiet ((go_at_call 36; exact Calls.quiet_of (BG.out _ (Lib.hid (H.out.below (below_drewN (Below.refl _ _) _))))))
  obtain ⟨h1, s1⟩ := H.out.rd (w' := w.drewN nq) rfl
  generalize w.drewN nq = W at *
  have H1 := Lib.hid h1
  have S1 := Lib.hid s1
  rw [← HF.out]
  have FL := Lib.hid fun (W : World) (M : Mod) (o : Hid (JP w0 W J M)) (l : M.Low) => o.out.flushP l
  clear HF hq0 hq1 h1 s1 H BG c3 c6 hok hbb hk hlen
  have hfi : (J.first : Int) < (J.last : Int) := by omega
  have hla : (J.last : Int) ≤ 700000 := by omega
  go_wp2_with fail
  go_loopg [4] (J.last + 1) (fun j s4 wr => ∃ (i : Nat) (M : Mod), J.first + 1 ≤ i ∧ i ≤ J.last ∧ J.last < i + j ∧ s4 = .int .i64 (i : Nat) ∧ JP w0 wr J M ∧ Still w wr ∧ LowS M (J.last - i + 3) ∧ putsM J m (J.first + 1) (J.last - (J.first + 1)) = putsM J M i (J.last - i))
  case atStart => exact ⟨J.first + 1, m, Nat.le_refl _, hfirst, by omega, by go_num, H1.out, S1.out, HL.out.mono (by omega), rfl⟩
  case round =>
    obtain ⟨i, M, hi1, hi2, hj, rfl, hp, hs, hlw, he⟩ := hrel
    have HE := Lib.hid he
    have HS := Lib.hid hs
    have BE1 := Lib.hid (BE.out wr M (Lib.hid hp))
    have HP := Lib.hid hp
    have HLW := Lib.hid hlw
    clear he hs hp hlw H1 S1 HL
    by_cases hlt : i < J.last
    · have hlti : (i : Int) < (J.last : Int) := by omega
      go_wp2_with fail
      with_reducible refine BE1.out.mono ?_
      rintro e w1 ⟨rfl, k1, hk1⟩
      obtain ⟨p1, s1⟩ := HP.out.rd hk1
      have P1 := Lib.hid p1
      have S1 := Lib.hid (HS.out.trans s1)
      have PU1 := Lib.hid (PU.out w1 M P1 (HLW.out.low) i hlt)
      have st : putsM J M i (J.last - i) = if putR J M i = 0 then putsM J (putM J M i) (i + 1) (J.last - (i + 1)) else (putM J M i, putR J M i) := by
        rw [show J.last - i = J.last - (i + 1) + 1 by omega]
        rfl
      have ST := Lib.hid st
      have HLN : Hid (LowS (putM J M i) (J.last - (i + 1) + 3)) := Lib.hid ((HLW.out.mono (by omega)).write _ _)
      rw [show M.writeR ((J.fr + i : Nat) : Int) (J.sec i).length = putR J M i from rfl, show M.write ((J.fr + i : Nat) : Int) (J.sec i) = putM J M i from rfl] at PU1
      clear p1 s1 hk1 P1 HP HS BE1 BE PU FL st HLW
      go_wp2_with fail
      with_reducible refine PU1.out.mono ?_
      rintro e w2 ⟨rfl, p2, s2⟩
      have P2 := Lib.hid p2
      have S2 := Lib.hid (S1.out.trans s2)
      clear p2 s2 PU1 S1
      generalize putM J M i = M2 at *
      generalize putR J M i = r2 at *
      by_cases hr : r2 = 0
      · rw [if_pos hr] at ST
        have NE := Lib.hid (HE.out.trans ST.out)
        subst hr
        clear HE ST
        go_wp2_with fail
        go_roundg (J.last - i)
        case measure => omega
        case rel => exact ⟨i + 1, M2, by omega, by omega, by omega, by go_num, P2.out, S2.out, HLN.out, NE.out⟩
      · rw [if_neg hr] at ST
        have hrb : (r2 == 0) = false := by simpa using hr
        have FIN : Hid (wrM J m = (M2, r2)) := Lib.hid (by unfold wrM; rw [HE.out, ST.out, andM_err _ hr])
        clear HE ST hr
        go_wp2_with fail
        go_ret
        rw [FIN.out]
        exact ⟨rfl, P2.out, S2.out⟩
    · have hil : i = J.last := by omega
      subst hil
      have hlti : ¬ (J.last : Int) < (J.last : Int) := by omega
      have FIN : Hid (wrM J m = tlM J M) := Lib.hid (by unfold wrM; rw [HE.out, Nat.sub_self]; exact andM_zero _ rfl)
      clear HE hi1 hi2 hj
      go_wp2_with fail
      with_reducible refine BE1.out.mono ?_
      rintro e w1 ⟨rfl, k1, hk1⟩
      obtain ⟨p1, s1⟩ := HP.out.rd hk1
      have P1 := Lib.hid p1
      have S1 := Lib.hid (HS.out.trans s1)
      have BE2 := Lib.hid (BE.out w1 M P1)
      clear p1 s1 hk1 HP HS BE1 BE
      go_wp2_with fail
      with_reducible refine BE2.out.mono ?_
      rintro e w2 ⟨rfl, k2, hk2⟩
      obtain ⟨p2, s2⟩ := P1.out.rd hk2
      have P2 := Lib.hid p2
      have S2 := Lib.hid (S1.out.trans s2)
      clear p2 s2 hk2 P1 S1 BE2
      by_cases h2 : J.first + 1 < J.last
      · have h2i : (J.first : Int) + 1 < (J.last : Int) := by omega
        have FL2 := Lib.hid (FL.out w2 M P2 (HLW.out.mono (by omega : 1 ≤ _)).low)
        have HLW3 : Hid (LowS M.flush 2) := Lib.hid ((HLW.out.mono (by omega)).flush)
        have TL0 : Hid (tlM J M = andM (M.flush, M.flushR) (tl2 J)) := Lib.hid (by unfold tlM; rw [if_pos h2])
        have c0 := P2.out.is.c0
        clear HLW
        go_wp2_with fail
        with_reducible refine FL2.out.mono ?_
        rintro e w3 ⟨rfl, p3, s3⟩
        have P3 := Lib.hid p3
        have S3 := Lib.hid (S2.out.trans s3)
        clear p3 s3 FL2 S2 P2 c0
        generalize M.flush = M3 at *
        generalize M.flushR = r3 at *
        rename Hid (LowS M3 2) => HLW
        by_cases hr : r3 = 0
        · have FIN1 := Lib.hid (FIN.out.trans (TL0.out.trans (andM_zero _ hr)))
          clear FIN TL0
          rename Hid (wrM J m = tl2 J M3) => FIN
          subst hr
          have PU1 := Lib.hid (PU.out _ M3 P3 (HLW.out.low) J.first hfirst)
          rw [show (M3).writeR ((J.fr + J.first : Nat) : Int) (J.sec J.first).length = putR J (M3) J.first from rfl, show (M3).write ((J.fr + J.first : Nat) : Int) (J.sec J.first) = putM J (M3) J.first from rfl] at PU1
          have HLN : Hid (LowS (putM J (M3) J.first) 1) := Lib.hid (HLW.out.write _ _)
          have TL : Hid (tl2 J (M3) = andM (putM J (M3) J.first, putR J (M3) J.first) fun m3 => (m3.flush, m3.flushR)) := Lib.hid rfl
          clear PU HLW
          go_wp2_with fail
          with_reducible refine PU1.out.mono ?_
          rintro e w5 ⟨rfl, p5, s5⟩
          have P5 := Lib.hid p5
          have S5 := Lib.hid (S3.out.trans s5)
          clear p5 s5 PU1 S3 P3
          generalize putM J (M3) J.first = M5 at *
          generalize putR J (M3) J.first = r5 at *
          by_cases hr5 : r5 = 0
          · have FIN2 := Lib.hid (FIN.out.trans (TL.out.trans (andM_zero _ hr5)))
            subst hr5
            have FL5 := Lib.hid (FL.out w5 M5 P5 HLN.out.low)
            have c0 := P5.out.is.c0
            clear FIN TL HLN P5 FL
            go_wp2_with fail
            with_reducible refine FL5.out.mono ?_
            rintro e w6 ⟨rfl, p6, s6⟩
            have P6 := Lib.hid (And.intro p6 (S5.out.trans s6))
            clear p6 s6 FL5 S5
            go_wp2_with fail
            go_ret
            rw [FIN2.out]
            exact ⟨rfl, P6.out⟩
          · have FIN2 := Lib.hid (FIN.out.trans (TL.out.trans (andM_err _ hr5)))
            have hrb : (r5 == 0) = false := by simpa using hr5
            clear FIN TL HLN FL hr5
            go_wp2_with fail
            go_ret
            rw [FIN2.out]
            exact ⟨rfl, P5.out, S5.out⟩
        · have FIN1 := Lib.hid (FIN.out.trans (TL0.out.trans (andM_err _ hr)))
          have hrb : (r3 == 0) = false := by simpa using hr
          clear FIN TL0 hr HLW FL PU
          go_wp2_with fail
          go_ret
          rw [FIN1.out]
          exact ⟨rfl, P3.out, S3.out⟩
      · have h2i : ¬ (J.first : Int) + 1 < (J.last : Int) := by omega
        have FIN1 : Hid (wrM J m = tl2 J M) := Lib.hid (FIN.out.trans (by unfold tlM; rw [if_neg h2]; exact andM_zero _ rfl))
        have HLW2 : Hid (LowS M 2) := Lib.hid (HLW.out.mono (by omega))
        clear FIN HLW
        rename Hid (LowS M 2) => HLW
        rename Hid (wrM J m = tl2 J M) => FIN
        have PU1 := Lib.hid (PU.out _ M P2 (HLW.out.low) J.first hfirst)
        rw [show (M).writeR ((J.fr + J.first : Nat) : Int) (J.sec J.first).length = putR J (M) J.first from rfl, show (M).write ((J.fr + J.first : Nat) : Int) (J.sec J.first) = putM J (M) J.first from rfl] at PU1
        have HLN : Hid (LowS (putM J (M) J.first) 1) := Lib.hid (HLW.out.write _ _)
        have TL : Hid (tl2 J (M) = andM (putM J (M) J.first, putR J (M) J.first) fun m3 => (m3.flush, m3.flushR)) := Lib.hid rfl
        clear PU HLW
        go_wp2_with fail
        with_reducible refine PU1.out.mono ?_
        rintro e w5 ⟨rfl, p5, s5⟩
        have P5 := Lib.hid p5
        have S5 := Lib.hid (S2.out.trans s5)
        clear p5 s5 PU1 S2 P2
        generalize putM J (M) J.first = M5 at *
        generalize putR J (M) J.first = r5 at *
        by_cases hr5 : r5 = 0
        · have FIN2 := Lib.hid (FIN.out.trans (TL.out.trans (andM_zero _ hr5)))
          subst hr5
          have FL5 := Lib.hid (FL.out w5 M5 P5 HLN.out.low)
          have c0 := P5.out.is.c0
          clear FIN TL HLN P5 FL
          go_wp2_with fail
          with_reducible refine FL5.out.mono ?_
          rintro e w6 ⟨rfl, p6, s6⟩
          have P6 := Lib.hid (And.intro p6 (S5.out.trans s6))
          clear p6 s6 FL5 S5
          go_wp2_with fail
          go_ret
          rw [FIN2.out]
          exact ⟨rfl, P6.out⟩
        · have FIN2 := Lib.hid (FIN.out.trans (TL.out.trans (andM_err _ hr5)))
          have hrb : (r5 == 0) = false := by simpa using hr5
          clear FIN TL HLN FL hr5
          go_wp2_with fail
          go_ret
          rw [FIN2.out]
          exact ⟨rfl, P5.out, S5.out⟩
end Go.Proofs.Ythoihlebplmcoaa
