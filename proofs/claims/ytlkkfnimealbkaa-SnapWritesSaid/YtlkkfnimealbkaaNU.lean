/- SnapWrites, at every input. -/
import Derived.Test.YtlkkfnimealbkaaNZ
import Derived.Test.YtlkkfnimealbkaaNY
import Derived.Deep.RegionWith
namespace Go.Proofs.Ytlkkfnimealbkaa
open Go.RowKit
open Pag (strL strL_len used refBytes_any pageB)
set_option linter.unusedVariables false
set_option maxRecDepth 100000 in
set_option maxHeartbeats 2000000 in
theorem writes_bad (size fr tt : Int) (hb : size < 64 ∨ 1024 < size) (A : Option Addr) (c : Nat) (l : List (List UInt8)) (w : World) (h : CameR w A l) :
    Calls Try.prog 3 #[.int .i64 size, .int .i64 fr, .int .i64 tt, .slice A l.length c] w fun e w' => e = .returned (.bool true) ∧ Below w.heap.size w w' := by
  have AW := Lib.hid (awake_any w)
  have DN := Lib.hid fun W => new_bad 30 size W (.inr (.inr hb))
  have HR := Lib.hid h
  have HBS := Lib.hid hb
  clear h hb
  go_enter Try.func3, Try.ntmps3
  go_wp2_with fail
  refine AW.out.mono ?_
  rintro e w1 ⟨rfl, hb1⟩
  have LG := long_any (HR.out.below hb1) c
  have HB := Lib.hid hb1
  clear hb1 AW
  go_wp2_with fail
  refine (DN.out _).mono ?_
  rintro e w2 ⟨rfl, rfl⟩
  generalize decide (400 < l.length ∨ 6000 < lenL l) = bb at *
  have LGH := Lib.hid LG
  clear LG
  go_wp2_with fail
  refine LGH.out.mono ?_
  rintro e w3 ⟨rfl, hb3⟩
  have HB3 := Lib.hid (below_next HB.out hb3)
  clear hb3 HB LGH
  cases bb with
  | true =>
    go_wp2_with fail
    go_ret
    exact ⟨rfl, HB3.out⟩
  | false =>
    have SB := Lib.hid (sectors_bad (w := w3) size HBS.out A l.length c)
    go_wp2_with fail
    refine SB.out.mono ?_
    rintro e w4 ⟨rfl, hb4⟩
    have HB4 := Lib.hid (below_next HB3.out hb4)
    clear hb4
    go_wp2_with fail
    go_ret
    exact ⟨rfl, HB4.out⟩
theorem pad_full (n : Nat) (b : List UInt8) (h : b.length = n) : pad n b = b := by
  unfold pad
  simp [h, zeros]
set_option maxRecDepth 100000 in
set_option maxHeartbeats 4000000 in
theorem writes_good (size : Nat) (fr tt : Int) (h1 : 64 ≤ size) (h2 : size ≤ 1024) (hfr : -9223372036854775808 ≤ fr ∧ fr ≤ 9223372036854775807) (htt : -9223372036854775808 ≤ tt ∧ tt ≤ 9223372036854775807) (A : Option Addr) (c : Nat) (l : List (List UInt8)) (w : World) (h : CameR w A l) :
    Calls Try.prog 3 #[.int .i64 (size : Nat), .int .i64 fr, .int .i64 tt, .slice A l.length c] w fun e w' => e = .returned (.bool true) ∧ Below w.heap.size w w' := by
  have hfew := h.few
  have AW := Lib.hid (awake_any w)
  have DN := Lib.hid fun W hW => OwnD.new w 30 size W hW (by omega) (by omega) h1 h2
  have HR := Lib.hid h
  clear h
  go_enter Try.func3, Try.ntmps3
  go_wp2_with fail
  refine AW.out.mono ?_
  rintro e w1 ⟨rfl, hb1⟩
  have DN' := DN.out w1 hb1
  have DNH := Lib.hid DN'
  clear hb1 AW DN DN'
  go_wp2_with fail
  refine DNH.out.mono ?_
  rintro e w2 ⟨p, rfl, hO⟩
  have LG := long_any (HR.out.below hO.bel) c
  have HO := Lib.hid hO
  clear hO DNH
  by_cases hlong : 400 < l.length ∨ 6000 < lenL l
  · rw [decide_eq_true hlong] at LG
    have LGH := Lib.hid LG
    clear LG hlong
    go_wp2_with fail
    refine LGH.out.mono ?_
    rintro e w3 ⟨rfl, hb3⟩
    have HB3 := Lib.hid (HO.out.below hb3).bel
    clear hb3
    go_wp2_with fail
    go_ret
    exact ⟨rfl, HB3.out⟩
  rw [decide_eq_false hlong] at LG
  have LGH := Lib.hid LG
  have hl4 : l.length ≤ 400 := by omega
  have hl6 : lenL l ≤ 6000 := by omega
  have HRL : Hid (∀ r ∈ l, r.length ≤ 1000000) := Lib.hid fun r hr => by have := lenL_mem hr; omega
  have hpc := partsL_count h1 l
  have hT : (partsL size l).length ≤ 6400 := by omega
  clear LG hlong hpc
  go_wp2_with fail
  refine LGH.out.mono ?_
  rintro e w3 ⟨rfl, hb3⟩
  have hO3 := HO.out.below hb3
  have HO3 := Lib.hid hO3
  -- the reference's pages, and how many sectors, wherever it is
  have RP := Lib.hid fun W (hW : Below w.heap.size w W) => refPages_any A c l size W (HR.out.recs.lists.below hW) h1 h2 (by omega) HRL.out (by omega)
  have SE := Lib.hid fun W (hW : Below w.heap.size w W) => sectors_any (w := W) size h1 h2 A c l (HR.out.recs.below hW) (by omega) HRL.out (by omega)
  have hnpl : (pagesOf (partsL size l)).length = nPages size l := rfl
  have hnpb : nPages size l ≤ 6400 := by
    have := pagesOf_len (partsL size l)
    omega
  have HNP := Lib.hid hnpl
  clear hb3 HO LGH hO3 hnpl
  by_cases hbad : fr < 0 ∨ tt ≤ fr ∨ 30 < tt
  · have WR := Lib.hid (swrite_arg HO3.out (by show 30 ≤ 600; omega) fr tt hbad A l.length c)
    have hb4 : fr < 0 ∨ (¬ fr < 0 ∧ tt ≤ fr) ∨ (¬ fr < 0 ∧ ¬ tt ≤ fr ∧ 30 < tt) := by omega
    clear hbad
    go_wp2_with fail
    refine WR.out.mono ?_
    rintro e w4 ⟨rfl, rfl⟩
    have RPH := Lib.hid (RP.out w3 HO3.out.bel)
    clear WR RP
    go_wp2_with fail
    refine RPH.out.mono ?_
    rintro e w5 ⟨v, rfl, hSS, hb5⟩
    have HO5 := Lib.hid (HO3.out.below hb5)
    obtain ⟨A2, c2, rfl, -⟩ := hSS.at_
    rw [HNP.out]
    have SEH := Lib.hid (SE.out w5 HO5.out.bel)
    clear hSS hb5 RPH SE HO3
    go_wp2_with fail
    refine SEH.out.mono ?_
    rintro e w6 ⟨rfl, hb6⟩
    have HO6 := Lib.hid (HO5.out.below hb6)
    have WA := HO6.out.waitsA
    rw [show (Mod.new 30 size).waits = 0 from rfl] at WA
    have WAH := Lib.hid WA
    have HB6 := Lib.hid HO6.out.bel
    clear hb6 SEH HO5 WA
    rcases hb4 with hb | ⟨ha, hb⟩ | ⟨ha, hb, hc⟩
    all_goals
      go_wp2_with fail
      refine WAH.out.mono ?_
      rintro e w7 ⟨rfl, rfl⟩
      go_wp2_with fail
      go_ret
      exact ⟨rfl, HB6.out⟩
  · obtain ⟨fn, rfl⟩ : ∃ f : Nat, fr = (f : Nat) := ⟨fr.toNat, by omega⟩
    obtain ⟨tn, rfl⟩ : ∃ f : Nat, tt = (f : Nat) := ⟨tt.toNat, by omega⟩
    have WR := Lib.hid (swrite_lit HO3.out (LowS.new 30 size) rfl rfl h1 h2 (by show 30 ≤ 600; omega) fn tn (by omega) (by show tn ≤ 30; omega) A c l (HR.out.recs.below HO3.out.bel) (by omega) HRL.out (by show (partsL size l).length ≤ _; omega))
    have hf0 : ¬ (fn : Int) < 0 := by omega
    have hft : ¬ (tn : Int) ≤ (fn : Int) := by omega
    have hftN : ¬ tn ≤ fn := by omega
    have ht3 : ¬ 30 < (tn : Int) := by omega
    clear hbad hfr htt
    go_wp2_with fail
    refine WR.out.mono ?_
    rintro e w4 ⟨hS4, ⟨hle, rfl, m', hW, hO4⟩ | ⟨hgt, rfl, hO4⟩⟩
    · replace hle : nPages size l ≤ tn - fn := hle
      have hsz : m'.size = size := hW.size
      have hn' : m'.n = 30 := hW.n
      have hwt : m'.waits = nPages size l := by
        have := hW.waits
        rw [this]
        show 0 + nPages size l = _
        omega
      have HW' := Lib.hid hW
      have HOX := Lib.hid hO4
      have RPH := Lib.hid (RP.out w4 hO4.bel)
      rw [show nPages (Mod.new 30 size).size l = nPages size l from rfl]
      clear WR RP hW hO4 hS4
      go_wp2_with fail
      refine RPH.out.mono ?_
      rintro e w5 ⟨v, rfl, hSS, hb5⟩
      have HO5 := Lib.hid (HOX.out.below hb5)
      obtain ⟨A2, c2, rfl, -⟩ := hSS.at_
      have HSS := Lib.hid hSS
      rw [HNP.out]
      have SEH := Lib.hid (SE.out w5 HO5.out.bel)
      clear hSS hb5 RPH SE HO3 HOX
      go_wp2_with fail
      refine SEH.out.mono ?_
      rintro e w6 ⟨rfl, hb6⟩
      have HO6 := Lib.hid (HO5.out.below hb6)
      have HS6 := Lib.hid (HSS.out.below hb6)
      have B6 := Lib.hid (Below.refl w6.heap.size w6)
      have hcmp : ¬ (tn : Int) - (fn : Int) < (nPages size l : Nat) := by omega
      obtain ⟨N, hN⟩ : ∃ N, nPages size l = N := ⟨_, rfl⟩
      have HN := Lib.hid hN
      rw [hN] at hcmp hle hnpb hwt ⊢
      clear hb6 SEH HO5 HSS hN
      go_wp2_with fail
      have htn : fn + N ≤ 30 := by omega
      clear hf0 hft hftN ht3 hcmp hle
      go_loopg [14, 15, 16] (N + 1) (fun j s14 s15 s16 wr => ∃ i : Nat, i ≤ N ∧ N < i + j ∧ s14 = .int .i64 (i : Nat) ∧ Below w6.heap.size w6 wr)
      case atStart => exact ⟨0, by omega, by omega, rfl, B6.out⟩
      case round =>
        obtain ⟨i, hi, hj, rfl, hb⟩ := hrel
        have HB := Lib.hid hb
        clear hb B6
        by_cases hlt : i < N
        · have hlti : (i : Int) < (N : Int) := by omega
          have hlp : i < (pagesOf (partsL size l)).length := by rw [HNP.out, HN.out]; exact hlt
          obtain ⟨L, hL⟩ : ∃ L, (pagesOf (partsL size l))[i] = L := ⟨_, rfl⟩
          obtain ⟨q1, q2, q3, q4⟩ := page_is h1 h2 l L (by rw [← hL]; exact List.getElem_mem _)
          have hpd : pad m'.size (m'.cont ones (fn + i)) = pageB size L := by
            have hcc := HW'.out.cont (fn + i)
            rw [if_pos ⟨by omega, by show fn + i < fn + nPages size l; rw [HN.out]; omega⟩] at hcc
            rw [hcc, hsz]
            have : (pagesOf (partsL (Mod.new 30 size).size l)).getD (fn + i - fn) [] = L := by
              rw [show fn + i - fn = i by omega, List.getD_eq_getElem?_getD]
              show ((pagesOf (partsL size l))[i]?).getD [] = L
              rw [List.getElem?_eq_getElem hlp, hL]
              rfl
            rw [this]
            exact pad_full _ _ q1
          have RD := (HO6.out.below HB.out).read (by omega) HW'.out.dark (fn + i) (by omega)
          rw [hpd, hsz, Int.natCast_add] at RD
          have RDH := Lib.hid RD
          have HPE := Lib.hid hL
          clear RD hpd
          go_wp2_with fail
          refine RDH.out.mono ?_
          rintro e w8 ⟨g, rfl, g1, g2, g3, g4, -⟩
          have hb8 := below_next HB.out g4
          obtain ⟨A3, c3, e3, hat⟩ := (HS6.out.below hb8).at_
          simp only [Value.slice.injEq] at e3
          obtain ⟨rfl, -, rfl⟩ := e3
          obtain ⟨g5, A', c', rfl, hg5, hc5, hsr⟩ := hat i hlp
          rw [HPE.out] at hc5 hsr
          have hst := hsr.strs
          have hbd : Below w8.heap.size w8 w8.drew := (Below.refl _ _).drew
          obtain ⟨pb, hpb⟩ : ∃ pb, pageB size L = pb := ⟨_, rfl⟩
          rw [hpb] at g2 q1
          have cvd := conv_at g2 q1 w8.drew hbd
          have BYC : Hid (Calls Try.prog 14 #[.slice A' L.length c', .int .i64 (size : Nat)] w8.drew fun e w' => ∃ g8, e = .returned (.slice (some ⟨g8, 0, none⟩) size size) ∧
              Sem.run Try.prog (convert 35 9 (.slice (some ⟨g8, 0, none⟩) size size)) w' = .ok (.string ⟨pb.toArray⟩) w' ∧ Sem.run Try.prog (convert 35 9 (.slice (some ⟨g, 0, none⟩) size size)) w' = .ok (.string ⟨pb.toArray⟩) w' ∧ Hid (Below w6.heap.size w6 w')) := Lib.hid (by
            refine (refBytes_any A' c' L size w8.drew (hst.below hbd) h1 h2 q4 q3).mono ?_
            rintro e w' ⟨g8, rfl, -, hB, hb'⟩
            rw [hpb] at hB
            exact ⟨g8, rfl, conv_at hB q1 w' (Below.refl _ _), conv_at g2 q1 w' (below_next hbd hb'), Lib.hid (below_next (below_next hb8 hbd) hb')⟩)
          have hcd : w8.drew.cell? ⟨g5, i, none⟩ = some (.slice A' L.length c') := hc5
          clear g1 g2 g3 g4 hb8 hat hc5 hsr hst hbd hpb q1 q2 q3 q4 RDH
          clear HPE hL
          go_wp2_with fail
          go_region_with (go_at_call 14; refine BYC.out.mono ?_; rintro e w9 ⟨g8, rfl, cv8, cvg, HB9⟩)
          all_goals
            clear cvd cv8 cvg hcd
            go_wp2_with fail
            go_roundg (N - i)
            case measure => omega
            case rel => exact ⟨i + 1, by omega, by omega, by go_num, HB9.out⟩
        · have hge : ¬ (i : Int) < (N : Int) := by omega
          have hO9 := HO6.out.below HB.out
          have SR : Hid (Calls Try.prog 15 #[.pointer (some ⟨p, 0, none⟩), .int .i64 (fn : Nat), .int .i64 (N : Nat)] wr fun e w' => Below wr.heap.size wr w' ∧ ∃ v, e = .returned (.tuple #[v, .int .i64 0]) ∧ MRow w' wr.heap.size v l) := Lib.hid (by
            obtain ⟨F, hD, hF, hBB⟩ := hO9
            have RD := sread_any hD (by omega) (by omega) (by omega) (by omega) fn N (by omega) _ HW'.out.secs (by rw [List.length_map]; exact HNP.out.trans HN.out)
            have hrt : resS ((pagesOf (partsL (Mod.new 30 size).size l)).map fun L => (0, L)) = (0, l) := round_trip h1 l
            rw [hrt] at RD
            refine RD.mono ?_
            rintro e w' ⟨hb, ⟨-, v, rfl, hM⟩ | ⟨hne, -⟩⟩
            · exact ⟨hb, v, rfl, hM⟩
            · exact absurd rfl hne)
          have HO9 := Lib.hid hO9
          clear hO9
          go_wp2_with fail
          refine SR.out.mono ?_
          rintro e w10 ⟨hb10, v, rfl, hM⟩
          obtain ⟨A1, c1, rfl, hL1, hlm⟩ := hM.lists
          have hO10 := HO9.out.below hb10
          have SM := Lib.hid (by
            have := refSame_any A1 A c1 c l l w10 hL1 (HR.out.recs.below hO10.bel).lists hlm
            rw [decide_eq_true rfl] at this
            exact this)
          have WA := hO10.waitsA
          rw [hwt] at WA
          have WAH := Lib.hid WA
          have HB10 := Lib.hid hO10.bel
          clear hb10 hM hL1 hlm hO10 WA SR
          go_wp2_with fail
          refine WAH.out.mono ?_
          rintro e w11 ⟨rfl, rfl⟩
          go_wp2_with fail
          refine SM.out.mono ?_
          rintro e w12 ⟨rfl, hb12⟩
          have HB12 := Lib.hid (below_next HB10.out hb12)
          clear hb12
          go_wp2_with fail
          go_ret
          exact ⟨rfl, HB12.out⟩
    · replace hgt : tn - fn < nPages size l := hgt
      have hgti : (tn : Int) - (fn : Int) < (nPages size l : Nat) := by omega
      have HO4 := Lib.hid hO4
      have RPH := Lib.hid (RP.out w4 hO4.bel)
      clear WR RP hS4 hgt hO4
      go_wp2_with fail
      refine RPH.out.mono ?_
      rintro e w5 ⟨v, rfl, hSS, hb5⟩
      have HO5 := Lib.hid (HO4.out.below hb5)
      obtain ⟨A2, c2, rfl, -⟩ := hSS.at_
      rw [HNP.out]
      have SEH := Lib.hid (SE.out w5 HO5.out.bel)
      clear hSS hb5 RPH SE HO3
      go_wp2_with fail
      refine SEH.out.mono ?_
      rintro e w6 ⟨rfl, hb6⟩
      have HO6 := Lib.hid (HO5.out.below hb6)
      have WA := HO6.out.waitsA
      rw [show (Mod.new 30 size).waits = 0 from rfl] at WA
      have WAH := Lib.hid WA
      have HB6 := Lib.hid HO6.out.bel
      clear hb6 SEH HO5 WA
      go_wp2_with fail
      refine WAH.out.mono ?_
      rintro e w7 ⟨rfl, rfl⟩
      go_wp2_with fail
      go_ret
      exact ⟨rfl, HB6.out⟩
theorem writes_all (size fr tt : Int) (hs : -9223372036854775808 ≤ size ∧ size ≤ 9223372036854775807) (hfr : -9223372036854775808 ≤ fr ∧ fr ≤ 9223372036854775807) (htt : -9223372036854775808 ≤ tt ∧ tt ≤ 9223372036854775807) (A : Option Addr) (c : Nat) (l : List (List UInt8)) (w : World) (h : CameR w A l) :
    Calls Try.prog 3 #[.int .i64 size, .int .i64 fr, .int .i64 tt, .slice A l.length c] w fun e w' => e = .returned (.bool true) ∧ Below w.heap.size w w' := by
  by_cases hb : size < 64 ∨ 1024 < size
  · exact writes_bad size fr tt hb A c l w h
  · obtain ⟨s, rfl⟩ : ∃ s : Nat, size = (s : Nat) := ⟨size.toNat, by omega⟩
    exact writes_good s fr tt (by omega) (by omega) hfr htt A c l w h
end Go.Proofs.Ytlkkfnimealbkaa
