/- JournalFills, at every input. -/
import Derived.Test.YthoihlebplmcoaaJ3
import Derived.BigQuiet
namespace Go.Proofs.Ythoihlebplmcoaa
open Go.RowKit
theorem clrF_none (fr : Nat) (has : Nat → Bool) (hh : ∀ j, has j = false) (m : Mod) : ∀ n i, clrF fr has m false i n = (m, 0)
  | 0, _ => rfl
  | n + 1, i => by
    have e : clrF fr has m false i (n + 1) = if has i then (if m.writeR ((fr + i : Nat) : Int) (0 : Nat) = 0 then clrF fr has (m.write ((fr + i : Nat) : Int) []) true (i + 1) n else (m.write ((fr + i : Nat) : Int) [], m.writeR ((fr + i : Nat) : Int) (0 : Nat))) else clrF fr has m false (i + 1) n := rfl
    rw [e, hh i, if_neg (by simp)]
    exact clrF_none fr has hh m n (i + 1)
theorem opM_new (n size fr tt e : Nat) (hs : 4 ≤ size) (he : e < 4294967296) (h0 : e ≠ 0) : opM (Mod.new n size) fr tt e = (Mod.new n size, 0) ∧ opR (Mod.new n size) fr tt e = [] ∧ opE (Mod.new n size) fr tt e = 0 := by
  have hF : opF (Mod.new n size) fr tt e = (List.range (tt - fr)).map fun _ => none := by
    rw [opF_eq (new_quiet n size)]
    unfold fieldsOf
    refine List.map_congr_left fun i _ => ?_
    rw [show (seen (Mod.new n size).size fr (fun _ => []) i) = pad size [] from rfl, word4_zero he h0 size hs]
    simp
  have hR : opR (Mod.new n size) fr tt e = [] := by
    unfold opR
    rw [hF]
    cases List.range (tt - fr) with
    | nil => rfl
    | cons a r => rfl
  have hE : opE (Mod.new n size) fr tt e = 0 := by
    unfold opE
    rw [hR]
    rfl
  refine ⟨?_, hR, hE⟩
  unfold opM
  refine clrF_none _ _ (fun j => ?_) _ _ _
  unfold hasC
  rw [hF, List.getElem?_map]
  cases (List.range (tt - fr))[j]? <;> rfl
/-- a journal is opened on a new disk. -/
theorem open_new {w0 w : World} {dp n size : Nat} (h : OwnA (fun _ => False) w0 w dp (Mod.new n size)) (fr tt e : Nat) (h1 : fr < tt) (h2 : tt ≤ n) (h3 : n ≤ 98) (hs1 : 64 ≤ size) (hs2 : size ≤ 1024) (he : e < 4294967296) (h0 : e ≠ 0) (hroom : (tt - fr) * (size - 4) ≤ 10000) :
    Calls Try.prog 9 #[.pointer (some ⟨dp, 0, none⟩), .int .i64 (fr : Nat), .int .i64 (tt : Nat), .int .u32 (e : Nat)] w fun r w' => ∃ J, r = .returned (.tuple #[J.ptr, .int .i64 0]) ∧ Live w0 w' J (Mod.new n size) (fun _ => []) [] [] ∧ At J dp fr tt (size - 4) e ∧ Still w w' := by
  obtain ⟨o1, o2, o3⟩ := opM_new n size fr tt e (by omega) he h0
  refine (jopen_good h fr tt e h1 h2 h3 hs1 hs2 he ⟨by show 0 + 700 ≤ _; omega, by show 0 + 700 ≤ _; omega, by show 0 ≤ _; omega⟩ rfl).mono ?_
  rintro r w' ⟨s1, s2⟩
  unfold Opened at s2
  rw [o1, if_pos rfl] at s2
  obtain ⟨p, A, rfl, t1, t2, t3⟩ := s2
  have hrow : (opJ (Mod.new n size) p dp fr tt e A).row = [] := by
    show (opR (Mod.new n size) fr tt e).take (opE (Mod.new n size) fr tt e) = []
    rw [o2, List.take_nil]
  refine ⟨opJ (Mod.new n size) p dp fr tt e A, rfl, ⟨t2, new_quiet n size, hrow, ?_, rfl, new_clean size fr e (size - 4) (tt - fr) (by omega) he h0, ?_, h0, hroom, by simp⟩, ⟨rfl, rfl, rfl, rfl, rfl⟩, s1⟩
  · show opE (Mod.new n size) fr tt e = 0
    exact o3
  · rw [hrow]
    exact Nat.zero_le _
theorem CameL.all {w : World} {A : Option Addr} {l : List (List UInt8)} (h : CameL w A l) {i : Nat} (hi : i < l.length) : ∃ g o B c, A = some ⟨g, o, none⟩ ∧ (∀ W, Below w.heap.size w W → W.cell? ⟨g, o + i, none⟩ = some (.slice B l[i].length c) ∧ Holds W B l[i]) ∧ (l[i] = [] ∨ ∀ x : Addr, B = some x → x.block < w.heap.size) := by
  obtain ⟨g, o, B, c, e, hlt, hc, hh⟩ := h.lists i hi
  refine ⟨g, o, B, c, e, fun W hb => ⟨(hb.cell (p := ⟨g, o + i, none⟩) hlt).trans hc, hh.below hb⟩, ?_⟩
  cases hl : l[i] with
  | nil => exact .inl rfl
  | cons x r =>
    refine .inr fun p e => ?_
    obtain ⟨b, o, e', hlt, _⟩ := hh 0 (by rw [hl]; simp)
    rw [e] at e'
    cases e'
    exact hlt
theorem Live.off {w0 w : World} {J : Jd} {m : Mod} {c : Nat → List UInt8} {R S : List (List UInt8)} (h : Live w0 w J m c R S) {x : Addr} (hx : x.block < w0.heap.size) : ob J.A ≠ some x.block ∧ J.p ≠ x.block := by
  refine ⟨fun e => ?_, fun e => ?_⟩
  · have := (h.jp.ob_lt e).2
    omega
  · have := h.jp.new
    omega
/-- one more is added, or there is no room. -/
theorem Live.fills {w0 w : World} {J : Jd} {m : Mod} {c : Nat → List UInt8} {R S : List (List UInt8)} {dp fr tt f e : Nat} (h : Live w0 w J m c R S) (ha : At J dp fr tt f e) (B : Option Addr) (d : Nat) (b : List UInt8) (hB : Holds w B b) (hBo : b = [] ∨ ∀ x : Addr, B = some x → x.block < w0.heap.size) (hn : b.length ≤ 9223372036854775807) (q : Nat) (hq : (tt - fr) * f = q) :
    Calls Try.prog 12 #[J.ptr, .slice B b.length d] w fun r w' => Below w0.heap.size w0 w' ∧ ((r = .returned (.int .i64 0) ∧ beg f J.row.length + (b.length + 12) ≤ q ∧ ∃ J', Live w0 w' J' m c R (S ++ [b]) ∧ At J' dp fr tt f e ∧ J'.ptr = J.ptr ∧ J'.row.length = beg f J.row.length + (b.length + 12)) ∨ (r = .returned (.int .i64 12) ∧ q < beg f J.row.length + (b.length + 12) ∧ Live w0 w' J m c R S)) := by
  have hf := ha.f
  have hq' : (J.tt - J.fr) * J.f = q := by rw [ha.tt, ha.fr, hf, hq]
  by_cases hroom : beg f J.row.length + (b.length + 12) ≤ q
  · refine (h.add_ok2 B d b hB (hBo.imp id fun g x hx => h.off (g x hx)) (by rw [hq', hf]; exact hroom)).mono ?_
    rintro r w' ⟨rfl, J', h1, h2, h3, -⟩
    exact ⟨h1.jp.own.bel, .inl ⟨rfl, hroom, J', h1, ha.same h2, h2.ptr, by rw [h3, hf]⟩⟩
  · refine (h.full B d b.length hn (by rw [hq', hf]; omega)).mono ?_
    rintro r w' ⟨rfl, k, rfl⟩
    have := h.below (below_drewN (Below.refl _ _) k)
    exact ⟨this.jp.own.bel, .inr ⟨rfl, by omega, this⟩⟩
set_option maxRecDepth 100000 in
set_option maxHeartbeats 2000000 in
theorem journalFills_all (s0 : Int) (hs0 : -9223372036854775808 ≤ s0 ∧ s0 ≤ 9223372036854775807) (A : Option Addr) (c : Nat) (l : List (List UInt8)) (w : World) (hl : CameL w A l) : Calls Try.prog 6 #[.int .i64 s0, .slice A l.length c] w fun r w' => r = .returned (.bool true) ∧ Below w.heap.size w w' := by
  have AW := Lib.hid (awake9 w)
  by_cases hb : badNew 4 s0
  · have NB := Lib.hid fun W => new_bad 4 s0 W hb
    clear hb
    go_enter Try.func6, Try.ntmps6
    go_wp2_with fail
    with_reducible refine AW.out.mono ?_
    rintro r w1 ⟨rfl, b1⟩
    have B1 := Lib.hid b1
    clear b1 AW
    go_wp2_with fail
    with_reducible refine (NB.out _).mono ?_
    rintro r w2 ⟨rfl, rfl⟩
    clear NB
    go_wp2_with fail
    go_ret
    exact ⟨rfl, B1.out⟩
  have hz : 64 ≤ s0 ∧ s0 ≤ 1024 := by unfold badNew at hb; omega
  obtain ⟨z, rfl⟩ : ∃ z : Nat, s0 = (z : Nat) := ⟨s0.toNat, by omega⟩
  have hz1 : 64 ≤ z := by omega
  have hz2 : z ≤ 1024 := by omega
  clear hb hz
  have HL := Lib.hid hl
  have hfew := hl.few
  clear hl
  go_enter Try.func6, Try.ntmps6
  go_wp2_with fail
  with_reducible refine AW.out.mono ?_
  rintro r w1 ⟨rfl, b1⟩
  have N := Lib.hid (OwnA.newA (a := fun _ => False) w 4 z w1 b1 (by omega) (by omega) hz1 hz2)
  clear b1 AW
  go_wp2_with fail
  refine N.out.mono ?_
  rintro r w2 ⟨p, rfl, o2, -⟩
  have ON := Lib.hid (open_new o2 1 4 5 (by omega) (by omega) (by omega) hz1 hz2 (by omega) (by omega) (by omega))
  clear N o2
  go_wp2_with fail
  refine ON.out.mono ?_
  rintro r w3 ⟨J0, rfl, v3, a3, -⟩
  have V3 := Lib.hid v3
  have A3 := Lib.hid a3
  have HR := Lib.hid v3.row
  clear ON v3 a3
  go_wp2_with fail
  go_loopg [9, 10, 11, 12] 101 (fun j s9 s10 s11 s12 wr => ∃ (i : Nat) (S : List (List UInt8)) (J : Jd), i ≤ 100 ∧ 100 < i + j ∧ (i ≤ l.length ∨ i = 0) ∧ s9 = .int .i64 (i : Nat) ∧ Live w wr J (Mod.new 4 z) (fun _ => []) [] S ∧ At J p 1 4 (z - 4) 5 ∧ J.ptr = J0.ptr)
  case atStart => exact ⟨0, [], J0, by omega, by omega, .inr rfl, rfl, V3.out, A3.out, rfl⟩
  case round =>
    obtain ⟨i, S, J, hi, hj, hil, rfl, v, a, hp⟩ := hrel
    have V := Lib.hid v
    have AT := Lib.hid a
    have HP := Lib.hid hp
    clear v a hp V3 A3 HR
    by_cases hlt : i < l.length
    case neg =>
      have hge : ¬ (i : Int) < (l.length : Int) := by omega
      have D : Hid (Calls Try.prog 27 #[.pointer (some ⟨p, 0, none⟩)] wr fun e w' => e = .returned (.int .i64 0) ∧ wr = w') := Lib.hid (by
        have h := V.out.disk
        rw [AT.out.dp] at h
        obtain ⟨F, hF, _⟩ := h.own
        exact hF.deeds.mono fun _ _ hh => ⟨hh.1, hh.2.symm⟩)
      have U := used_any V.out.jp
      rw [HP.out] at U
      have hlen := V.out.len
      rw [AT.out.tt, AT.out.fr, AT.out.f] at hlen
      have hle : ((J.row.length : Nat) : Int) ≤ 3 * ((z : Nat) - 4) := by omega
      have BE := Lib.hid V.out.jp.own.bel
      replace U := Lib.hid U
      generalize J.row.length = u at *
      clear V AT HP hlen
      go_wp2_with fail
      with_reducible refine D.out.mono ?_
      rintro r w4 ⟨rfl, rfl⟩
      go_wp2_with fail
      with_reducible refine U.out.mono ?_
      rintro r w4 ⟨rfl, rfl⟩
      go_wp2_with fail
      go_ret
      exact ⟨rfl, BE.out⟩
    by_cases hlt2 : i < 100
    case neg =>
      have hlti : (i : Int) < (l.length : Int) := by omega
      have hge : ¬ (i : Int) < 100 := by omega
      have D : Hid (Calls Try.prog 27 #[.pointer (some ⟨p, 0, none⟩)] wr fun e w' => e = .returned (.int .i64 0) ∧ wr = w') := Lib.hid (by
        have h := V.out.disk
        rw [AT.out.dp] at h
        obtain ⟨F, hF, _⟩ := h.own
        exact hF.deeds.mono fun _ _ hh => ⟨hh.1, hh.2.symm⟩)
      have U := used_any V.out.jp
      rw [HP.out] at U
      have hlen := V.out.len
      rw [AT.out.tt, AT.out.fr, AT.out.f] at hlen
      have hle : ((J.row.length : Nat) : Int) ≤ 3 * ((z : Nat) - 4) := by omega
      have BE := Lib.hid V.out.jp.own.bel
      replace U := Lib.hid U
      generalize J.row.length = u at *
      clear V AT HP hlen
      go_wp2_with fail
      with_reducible refine D.out.mono ?_
      rintro r w4 ⟨rfl, rfl⟩
      go_wp2_with fail
      with_reducible refine U.out.mono ?_
      rintro r w4 ⟨rfl, rfl⟩
      go_wp2_with fail
      go_ret
      exact ⟨rfl, BE.out⟩
    have hlti : (i : Int) < (l.length : Int) := by omega
    have hlti2 : (i : Int) < 100 := by omega
    obtain ⟨g, o, B, cb, rfl, km, n1⟩ := HL.out.all hlt
    have hbn := HL.out.small l[i] (List.getElem_mem _)
    have hlen := V.out.len
    have hbb := beg_bounds (z - 4) J.row.length (by omega)
    rw [AT.out.tt, AT.out.fr, AT.out.f] at hlen
    have RM := V.out.room_
    rw [AT.out.tt, AT.out.fr, AT.out.f, HP.out] at RM
    obtain ⟨q, hq⟩ : ∃ q, (4 - 1) * (z - 4) = q := ⟨_, rfl⟩
    rw [hq] at RM hlen
    have hq4 : q ≤ 3060 := by omega
    obtain ⟨b, hbe⟩ : ∃ b, l[i] = b := ⟨_, rfl⟩
    rw [hbe] at hbn n1
    simp only [hbe] at km
    obtain ⟨rm, hrm⟩ : ∃ rm, q - beg (z - 4) J.row.length - 12 = rm := ⟨_, rfl⟩
    rw [hrm] at RM
    replace hrm := Lib.hid hrm
    replace hq := Lib.hid hq
    replace km := Lib.hid km
    have k1 := (km.out _ V.out.jp.own.bel).1
    replace RM := Lib.hid RM
    replace n1 := Lib.hid n1
    go_wp2_with fail
    with_reducible refine RM.out.mono ?_
    rintro r w4 ⟨rfl, nd, hw4⟩
    have hb4 : Below wr.heap.size wr w4 := by rw [hw4]; exact below_drewN (Below.refl _ _) nd
    have v4 := V.out.below hb4
    have kc := (km.out _ v4.jp.own.bel).1
    have FL := v4.fills AT.out B cb b (km.out _ v4.jp.own.bel).2 n1.out hbn q hq.out
    have U := used_any v4.jp
    rw [HP.out] at U FL
    obtain ⟨u, hu⟩ : ∃ u, J.row.length = u := ⟨_, rfl⟩
    rw [hu] at U FL hlen hbb hrm
    have HU := Lib.hid hu
    replace U := Lib.hid U
    replace FL := Lib.hid FL
    clear hu v4 V k1 n1 RM hw4 hb4 hbe
    go_wp2_with fail
    with_reducible refine U.out.mono ?_
    rintro r w5 ⟨rfl, rfl⟩
    go_wp2_with fail
    with_reducible refine FL.out.mono ?_
    rintro r w5 ⟨b5, ⟨rfl, f1, J5, v5, a5, p5, r5⟩ | ⟨rfl, f1, v5⟩⟩
    · have kc5 := (km.out _ v5.jp.own.bel).1
      have RM := Lib.hid fun W (o : Hid (Live w W J5 (Mod.new 4 z) (fun _ => []) [] (S ++ [b]))) => o.out.room_
      have US := Lib.hid fun W (o : Hid (Live w W J5 (Mod.new 4 z) (fun _ => []) [] (S ++ [b]))) => (used_any o.out.jp).mono fun e w' hh => And.intro hh.1 (⟨0, hh.2.symm⟩ : ∃ k, w' = W.drewN k)
      rw [p5, a5.tt, a5.fr, a5.f, r5, hq.out] at RM
      rw [p5, r5] at US
      have hbb5 := beg_bounds (z - 4) (beg (z - 4) u + (b.length + 12)) (by omega)
      obtain ⟨rm5, hrm5⟩ : ∃ rm5, q - beg (z - 4) (beg (z - 4) u + (b.length + 12)) - 12 = rm5 := ⟨_, rfl⟩
      rw [hrm5] at RM
      have h1 : ((b.length : Nat) : Int) ≤ (rm : Nat) := by have := hrm.out; omega
      have h2 : ¬ ((rm : Nat) : Int) < (rm5 : Nat) := by have := hrm.out; omega
      have h3 : ¬ ((beg (z - 4) u + (b.length + 12) : Nat) : Int) < (u : Nat) + 12 + (b.length : Nat) := by omega
      have hbl : b.length ≤ 3060 := by omega
      have hu3 : u ≤ 3060 := by omega
      have V5 := Lib.hid v5
      have A5 := Lib.hid a5
      have P5 := Lib.hid (p5)
      generalize beg (z - 4) u + (b.length + 12) = u5 at *
      have h1n : b.length ≤ rm := by omega
      have h2n : ¬ rm < rm5 := by omega
      have h3n : ¬ u5 < u + 12 + b.length := by omega
      clear U FL v5 a5 p5 r5 hrm5 hbb5 hbb hrm f1 hlen
      generalize b.length = n at *
      by_cases hnz : 0 < n
      · have hnz' : 0 < (n : Int) := by omega
        go_wp2_with fail
        go_quiet ((first
          | (go_at_call 26; exact Calls.quiet_of (RM.out _ (Lib.hid (V5.out.below (below_drewN (Below.refl _ _) _)))))
          | (go_at_call 21; exact Calls.quiet_of (US.out _ (Lib.hid (V5.out.below (below_drewN (Below.refl _ _) _)))))))
        have v6 := Lib.hid (V5.out.below (below_drewN (Below.refl _ _) nq))
        clear V5 RM US
        go_wp2_with fail
        go_roundg (100 - i)
        case measure => omega
        case rel => exact ⟨i + 1, _, _, by omega, by omega, .inl (by omega), by go_num, v6.out, A5.out, P5.out⟩
      · have hnz' : ¬ 0 < (n : Int) := by omega
        go_wp2_with fail
        go_quiet ((first
          | (go_at_call 26; exact Calls.quiet_of (RM.out _ (Lib.hid (V5.out.below (below_drewN (Below.refl _ _) _)))))
          | (go_at_call 21; exact Calls.quiet_of (US.out _ (Lib.hid (V5.out.below (below_drewN (Below.refl _ _) _)))))))
        have v6 := Lib.hid (V5.out.below (below_drewN (Below.refl _ _) nq))
        clear V5 RM US
        go_wp2_with fail
        go_roundg (100 - i)
        case measure => omega
        case rel => exact ⟨i + 1, _, _, by omega, by omega, .inl (by omega), by go_num, v6.out, A5.out, P5.out⟩
    · have kc5 := (km.out _ v5.jp.own.bel).1
      have RM := Lib.hid fun W (o : Hid (Live w W J (Mod.new 4 z) (fun _ => []) [] S)) => o.out.room_
      have US := Lib.hid fun W (o : Hid (Live w W J (Mod.new 4 z) (fun _ => []) [] S)) => (used_any o.out.jp).mono fun e w' hh => And.intro hh.1 (⟨0, hh.2.symm⟩ : ∃ k, w' = W.drewN k)
      rw [HP.out, AT.out.tt, AT.out.fr, AT.out.f, hq.out, HU.out, hrm.out] at RM
      rw [HP.out, HU.out] at US
      have h1 : 0 < b.length → ¬ b.length ≤ rm := fun hh => by have := hrm.out; omega
      have V5 := Lib.hid v5
      have A5 := Lib.hid AT.out
      have P5 := Lib.hid HP.out
      have hu3 : u ≤ 3060 := by omega
      clear U FL v5 hbb hrm f1 hlen AT HP
      generalize b.length = n at *
      by_cases hnz : 0 < n
      · have hnz' : 0 < (n : Int) := by omega
        have h1n := h1 hnz
        have h1i : ¬ ((n : Nat) : Int) ≤ (rm : Nat) := by omega
        clear h1
        go_wp2_with fail
        go_quiet ((first
          | (go_at_call 26; exact Calls.quiet_of (RM.out _ (Lib.hid (V5.out.below (below_drewN (Below.refl _ _) _)))))
          | (go_at_call 21; exact Calls.quiet_of (US.out _ (Lib.hid (V5.out.below (below_drewN (Below.refl _ _) _)))))))
        have v6 := Lib.hid (V5.out.below (below_drewN (Below.refl _ _) nq))
        clear V5 RM US
        go_wp2_with fail
        go_roundg (100 - i)
        case measure => omega
        case rel => exact ⟨i + 1, _, _, by omega, by omega, .inl (by omega), by go_num, v6.out, A5.out, P5.out⟩
      · have hnz' : ¬ 0 < (n : Int) := by omega
        clear h1
        go_wp2_with fail
        go_quiet ((first
          | (go_at_call 26; exact Calls.quiet_of (RM.out _ (Lib.hid (V5.out.below (below_drewN (Below.refl _ _) _)))))
          | (go_at_call 21; exact Calls.quiet_of (US.out _ (Lib.hid (V5.out.below (below_drewN (Below.refl _ _) _)))))))
        have v6 := Lib.hid (V5.out.below (below_drewN (Below.refl _ _) nq))
        clear V5 RM US
        go_wp2_with fail
        go_roundg (100 - i)
        case measure => omega
        case rel => exact ⟨i + 1, _, _, by omega, by omega, .inl (by omega), by go_num, v6.out, A5.out, P5.out⟩
end Go.Proofs.Ythoihlebplmcoaa
