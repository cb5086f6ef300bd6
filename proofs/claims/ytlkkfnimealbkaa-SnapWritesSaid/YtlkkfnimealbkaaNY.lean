/- SnapReads, at every input. -/
import Derived.Test.YtlkkfnimealbkaaNY0
namespace Go.Proofs.Ytlkkfnimealbkaa
open Go.RowKit
open Pag (IsPage strL strL_len)
set_option linter.unusedVariables false
/-- a disk that was only written to, so many times. -/
structure LitD (w0 w : World) (p : Nat) (m : Mod) (n size i : Nat) : Prop where
  own : OwnD w0 w p m
  n : m.n = n
  size : m.size = size
  dark : m.dark = false
  fused : m.fused = false
  low : LowS m (700 - i)
  waits : m.waits ≤ i
set_option maxRecDepth 100000 in
set_option maxHeartbeats 4000000 in
theorem reads_all (fr k : Int) (hfr : -9223372036854775808 ≤ fr ∧ fr ≤ 9223372036854775807) (hk : -9223372036854775808 ≤ k ∧ k ≤ 9223372036854775807) (A : Option Addr) (c : Nat) (l : List (List UInt8)) (w : World) (h : CameR w A l) :
    Calls Try.prog 4 #[.int .i64 fr, .int .i64 k, .slice A l.length c] w fun e w' => e = .returned (.bool true) ∧ Below w.heap.size w w' := by
  have hfew := h.few
  have AW := Lib.hid (awake_any w)
  have DN := Lib.hid fun W hW => OwnD.new w 6 64 W hW (by omega) (by omega) (by omega) (by omega)
  have HC := Lib.hid h
  clear h
  go_enter Try.func4, Try.ntmps4
  go_wp2_with fail
  refine AW.out.mono ?_
  rintro e w1 ⟨rfl, hb1⟩
  have DN' := DN.out w1 hb1
  have HB := Lib.hid hb1
  have DNH := Lib.hid DN'
  clear hb1 AW DN DN'
  go_wp2_with fail
  refine DNH.out.mono ?_
  rintro e w2 ⟨p, rfl, hO⟩
  have H0 : Hid (LitD w w2 p (Mod.new 6 64) 6 64 0) := Lib.hid ⟨hO, rfl, rfl, rfl, rfl, LowS.new 6 64, by show 0 ≤ 0; omega⟩
  clear hO DNH HB
  go_wp2_with fail
  go_loopg [9] (l.length + 1) (fun j s9 wr => ∃ (i : Nat) (m : Mod), i ≤ l.length ∧ i ≤ 6 ∧ l.length < i + j ∧ s9 = .int .i64 (i : Nat) ∧ LitD w wr p m 6 64 i)
  case atStart => exact ⟨0, _, by omega, by omega, by omega, rfl, H0.out⟩
  case round =>
    obtain ⟨i, m, hi, hi6, hj, rfl, hD⟩ := hrel
    have HD := Lib.hid hD
    clear hD H0
    by_cases hlt : i < l.length ∧ i < 6
    · have hlti : (i : Int) < (l.length : Int) := by omega
      have hlt6 : (i : Int) < 6 := by omega
      obtain ⟨g, o, B, d, e1, -, k1, m1, -⟩ := (HC.out.recs.below HD.out.own.bel) i hlt.1
      subst e1
      have hfar : l[i] = [] ∨ Far w wr B := by
        cases hl : l[i] with
        | nil => exact .inl rfl
        | cons x r =>
          refine .inr fun q e => .inl ?_
          obtain ⟨g2, o2, B2, d2, e2, -, k2, m2, -⟩ := HC.out.recs i hlt.1
          cases e2
          have k2' := (HD.out.own.bel.cell (p := ⟨g, o + i, none⟩) (World.block_lt_of_cell? _ _ k2)).trans k2
          rw [k1] at k2'
          cases k2'
          obtain ⟨b, o, e', hlt2, _⟩ := m2 0 (by rw [hl]; simp)
          rw [e] at e'
          cases e'
          exact hlt2
      have WR := Lib.hid (HD.out.own.write (HD.out.low.mono (show 1 ≤ 700 - i by omega)).low (i : Nat) B d l[i] m1 hfar)
      have WL := Lib.hid (write_lit_any HD.out.dark HD.out.fused (i : Nat) l[i])
      have LW : Hid (LowS (m.write (i : Nat) l[i]) (700 - (i + 1))) := Lib.hid (by
        have := HD.out.low
        rw [show 700 - i = 700 - (i + 1) + 1 by omega] at this
        exact this.write _ _)
      clear m1 hfar
      go_wp2_with fail
      refine WR.out.mono ?_
      rintro e w3 ⟨rfl, hO3⟩
      have H3 : Hid (LitD w w3 p (m.write (i : Nat) l[i]) 6 64 (i + 1)) := Lib.hid ⟨hO3, WL.out.2.2.1.trans HD.out.n, WL.out.2.2.2.1.trans HD.out.size, WL.out.1, WL.out.2.1, LW.out, by have := WL.out.2.2.2.2; have := HD.out.waits; omega⟩
      clear hO3 WL LW WR
      go_wp2_with fail
      go_roundg (l.length - i)
      case measure => omega
      case rel => exact ⟨i + 1, _, by omega, by omega, by omega, by go_num, H3.out⟩
    · have HI := Lib.hid (And.intro HD.out.own.bel (And.intro HD.out.n (And.intro HD.out.size (And.intro HD.out.dark (And.intro HD.out.waits hi6)))))
      have hx : (¬ (i : Int) < (l.length : Int)) ∨ ((i : Int) < (l.length : Int) ∧ ¬ (i : Int) < 6) := by omega
      clear hlt
      by_cases hbad : fr < 0 ∨ k < 0 ∨ 6 - fr < k
      · have SR : Hid (Calls Try.prog 15 #[.pointer (some ⟨p, 0, none⟩), .int .i64 fr, .int .i64 k] wr fun e w' => e = .returned (.tuple #[.slice none 0 0, .int .i64 1]) ∧ Below w.heap.size w w') := Lib.hid (by
          obtain ⟨F, hD, hF, hB⟩ := HD.out.own
          refine (sread_arg hD (by rw [HD.out.n]; omega) fr k hfr.2 (by rw [HD.out.n]; exact hbad)).mono ?_
          rintro e w' ⟨rfl, hb⟩
          exact ⟨rfl, below_next hB hb⟩)
        have hb4 : fr < 0 ∨ (¬ fr < 0 ∧ k < 0) ∨ (¬ fr < 0 ∧ ¬ k < 0 ∧ 6 < fr) ∨ (¬ fr < 0 ∧ ¬ k < 0 ∧ ¬ 6 < fr ∧ 6 - fr < k) := by omega
        clear hbad HD
        rcases hx with hx | ⟨hx, hx6⟩
        all_goals
          go_wp2_with fail
          refine SR.out.mono ?_
          rintro e w5 ⟨rfl, hb5⟩
          have HB5 := Lib.hid hb5
          clear hb5 SR
          rcases hb4 with hb | ⟨ha, hb⟩ | ⟨ha, hb, hc⟩ | ⟨ha, hb, hc, hd⟩
          all_goals
            go_wp2_with fail
            go_ret
            exact ⟨rfl, HB5.out⟩
      · obtain ⟨fn, rfl⟩ : ∃ f : Nat, fr = (f : Nat) := ⟨fr.toNat, by omega⟩
        obtain ⟨kn, rfl⟩ : ∃ f : Nat, k = (f : Nat) := ⟨k.toNat, by omega⟩
        have hfk : fn + kn ≤ 6 := by omega
        obtain ⟨Os, hOl, hOs⟩ := secsAre_ex m fn kn
        have hpg := pgs_of HD.out.dark hOs (by rw [hOl, HD.out.n]; exact hfk) (by rw [HD.out.size]; omega)
        rw [hOl] at hpg
        have SR : Hid (Calls Try.prog 15 #[.pointer (some ⟨p, 0, none⟩), .int .i64 (fn : Nat), .int .i64 (kn : Nat)] wr fun e w' => Below wr.heap.size wr w' ∧
            (((resS Os).1 = 0 ∧ ∃ v, e = .returned (.tuple #[v, .int .i64 0]) ∧ MRow w' wr.heap.size v (resS Os).2) ∨ ((resS Os).1 ≠ 0 ∧ e = .returned (.tuple #[.slice none 0 0, .int .i64 (resS Os).1])))) := Lib.hid (by
          obtain ⟨F, hD, hF, hB⟩ := HD.out.own
          exact sread_any hD (by have := HD.out.waits; omega) (by rw [HD.out.size]; omega) (by rw [HD.out.size]; omega) (by rw [HD.out.n]; omega) fn kn (by rw [HD.out.n]; exact hfk) Os hOs hOl)
        have HPG := Lib.hid hpg
        have h1 : ¬ (fn : Int) < 0 := by omega
        have h2 : ¬ (kn : Int) < 0 := by omega
        have h3 : ¬ 6 < (fn : Int) := by omega
        have h4 : ¬ 6 - (fn : Int) < (kn : Int) := by omega
        clear hbad hOs hpg hfr hk
        rcases hx with hx | ⟨hx, hx6⟩
        all_goals
          go_wp2_with fail
          refine SR.out.mono ?_
          rintro e w5 ⟨hb5, hres⟩
          obtain ⟨mv, ev, rfl, hev, hM0, hM1⟩ : ∃ (mv : Value) (ev : Int), e = .returned (.tuple #[mv, .int .i64 ev]) ∧ (resS Os).1 = ev ∧ (ev = 0 → MRow w5 wr.heap.size mv (resS Os).2) ∧ (ev ≠ 0 → mv = .slice none 0 0) := by
            rcases hres with ⟨h0, v, rfl, hM⟩ | ⟨hne, rfl⟩
            · exact ⟨v, 0, rfl, h0, fun _ => hM, fun h => absurd rfl h⟩
            · exact ⟨_, _, rfl, rfl, fun h => absurd h hne, fun _ => rfl⟩
          have HM := Lib.hid (And.intro hev (And.intro hM0 hM1))
          have HO5 := Lib.hid (HD.out.own.below hb5)
          have SN := Lib.hid (SRow.new w5)
          have B0 := Lib.hid ((Below.refl w5.heap.size w5).alloc (Nat.le_refl _) (.cells #[] 9))
          clear hev hM0 hM1 hres hb5 SR
          go_wp2_with fail
          generalize w5.alloc (.cells #[] 9) = w6 at *
          go_loopg [12, 13, 14, 15] (kn + 1) (fun j s12 s13 s14 s15 wq => ∃ x t : Nat, x = fn + t ∧ t ≤ kn ∧ kn < t + j ∧ s13 = .int .i64 (x : Nat) ∧ SRow wq w5.heap.size s12 (strL (secsB m fn t)) ∧ Below w5.heap.size w5 wq)
          case atStart => exact ⟨fn, 0, by omega, by omega, by omega, rfl, SN.out, B0.out⟩
          case round =>
            obtain ⟨x, t, hxt, ht, hj2, rfl, hr, hb⟩ := hrel
            have HR := Lib.hid hr
            have HBB := Lib.hid hb
            clear hr hb SN B0
            by_cases hlt : t < kn
            · have hlti : (x : Int) < (fn : Int) + (kn : Int) := by omega
              have RD := Lib.hid ((HO5.out.below HBB.out).read (by have := HD.out.waits; omega) HD.out.dark x (by rw [HD.out.n]; omega))
              have hxe : secB m x = pad m.size (m.cont ones x) := rfl
              rw [← hxe] at RD
              have HXT := Lib.hid hxt
              clear hxe hxt
              go_wp2_with fail
              refine RD.out.mono ?_
              rintro e w7 ⟨g, rfl, g1, g2, g3, g4, -⟩
              have CV := conv_bytes g2.holds0 m.size
              rw [g3] at CV
              have hb7 := below_next HBB.out g4
              have hr7 := HR.out.below g4
              obtain ⟨v', w8, hap, hr8, hg8⟩ := append_str hr7 ⟨(secB m x).toArray⟩ (by rw [strL_len, secsB_len]; omega) hb7.size
              have B8 := Lib.hid (below_grown (hb7.alloc hb7.size _) hg8 (fun b hb => (hr7.block b hb).1))
              have R8 : Hid (SRow w8 w5.heap.size v' (strL (secsB m fn (t + 1)))) := Lib.hid (by
                rw [secsB_snoc, ← HXT.out, show strL (secsB m fn t ++ [secB m x]) = strL (secsB m fn t) ++ [⟨(secB m x).toArray⟩] by simp [strL]]
                exact hr8)
              have HAP := Lib.hid hap
              clear hap hr8 hg8 hb7 hr7 g1 g2 g3 g4 RD
              generalize secB m x = sx at *
              go_wp2_with (at_builtin; refine Lib.wpList_append_run _ rfl (.tmp 86) (.tmp 89) 39 39 rfl _ _ rfl rfl _ _ HAP.out ?_)
              go_roundg (kn - t)
              case measure => omega
              case rel => exact ⟨x + 1, t + 1, by have := HXT.out; omega, by omega, by omega, by go_num, R8.out, B8.out⟩
            · have hge : ¬ (x : Int) < (fn : Int) + (kn : Int) := by omega
              have htk : t = kn := by omega
              subst htk
              have hO9 := HO5.out.below HBB.out
              obtain ⟨A', c', rfl, hSt, -⟩ := HR.out.asStrs
              rw [strL_len, secsB_len]
              have RR := refRead_any A' c' (secsB m fn t) Os wr hSt (fun b hb => by
                obtain ⟨t', ht', rfl⟩ := List.mem_map.1 hb
                have : (secB m (fn + t')).length = m.size := by
                  obtain ⟨F, hD, hF, hB⟩ := hO9
                  exact secB_len hD (by have := HD.out.waits; omega) HD.out.dark _ (by have := List.mem_range.1 ht'; rw [HD.out.n]; omega)
                rw [this, HD.out.size]
                omega) (by rw [secsB_len]; omega) HPG.out
              rw [secsB_len] at RR
              have RRH := Lib.hid RR
              have HB9 := Lib.hid hO9.bel
              have HB5 := Lib.hid HO5.out.bel
              clear hO9 hSt RR hxt
              go_wp2_with fail
              refine RRH.out.mono ?_
              rintro e w10 ⟨hb10, hrr⟩
              have HB10 := Lib.hid (below_next HB9.out hb10)
              rcases hrr with ⟨h0, v, rfl, hL⟩ | ⟨h7, v, rfl⟩
              · obtain ⟨hev, hM0, hM1⟩ := HM.out
                have hev0 : ev = 0 := hev.symm.trans h0
                have hM := (hM0 hev0)
                obtain ⟨A1, c1, rfl, hL1, hlm⟩ := hM.lists
                obtain ⟨A2, c2, rfl, hL2⟩ := hL.lists2
                have SM := refSame_any A1 A2 c1 c2 (resS Os).2 (resS Os).2 w10 ((hL1.below HBB.out).below hb10) hL2 hlm
                rw [decide_eq_true rfl] at SM
                have SMH := Lib.hid SM
                subst hev0
                clear SM hM hL hL1 hL2 hev hM0 hM1 HM h0 hb10
                go_wp2_with fail
                refine SMH.out.mono ?_
                rintro e w11 ⟨rfl, hb11⟩
                have HB11 := Lib.hid (below_next HB10.out hb11)
                clear hb11
                go_wp2_with fail
                go_ret
                exact ⟨rfl, HB11.out⟩
              · obtain ⟨hev, hM0, hM1⟩ := HM.out
                have hev7 : ev = 7 := hev.symm.trans h7
                have hmv := hM1 (by omega)
                subst hev7 hmv
                clear hev hM0 hM1 HM h7 hb10
                go_wp2_with fail
                go_ret
                exact ⟨rfl, HB10.out⟩
end Go.Proofs.Ytlkkfnimealbkaa
