/- SnapBounds, at every input. -/
import Derived.Test.YtlkkfnimealbkaaNT0
namespace Go.Proofs.Ytlkkfnimealbkaa
open Go.RowKit
set_option linter.unusedVariables false
set_option maxRecDepth 100000 in
set_option maxHeartbeats 2000000 in
theorem bounds_bad (size : Int) (hb : size < 64 ∨ 1024 < size) (A : Option Addr) (c : Nat) (l : List (List UInt8)) (w : World) :
    Calls Try.prog 5 #[.int .i64 size, .slice A l.length c] w fun e w' => e = .returned (.bool true) ∧ Below w.heap.size w w' := by
  have AW := Lib.hid (awake_any w)
  have DN := Lib.hid fun W => new_bad 3 size W (.inr (.inr hb))
  go_enter Try.func5, Try.ntmps5
  go_wp2_with fail
  refine AW.out.mono ?_
  rintro e w1 ⟨rfl, hb1⟩
  have HB := Lib.hid hb1
  clear hb1 AW
  go_wp2_with fail
  refine (DN.out _).mono ?_
  rintro e w2 ⟨rfl, rfl⟩
  go_wp2_with fail
  go_ret
  exact ⟨rfl, HB.out⟩
set_option maxRecDepth 100000 in
set_option maxHeartbeats 2000000 in
theorem bounds_good (size : Nat) (h1 : 64 ≤ size) (h2 : size ≤ 1024) (A : Option Addr) (c : Nat) (l : List (List UInt8)) (w : World) (h : CameR w A l) :
    Calls Try.prog 5 #[.int .i64 (size : Nat), .slice A l.length c] w fun e w' => e = .returned (.bool true) ∧ Below w.heap.size w w' := by
  have hfew := h.few
  have AW := Lib.hid (awake_any w)
  have DN := Lib.hid fun W hW => OwnD.new w 3 size W hW (by omega) (by omega) h1 h2
  have HR := Lib.hid h
  clear h
  go_enter Try.func5, Try.ntmps5
  go_wp2_with fail
  refine AW.out.mono ?_
  rintro e w1 ⟨rfl, hb1⟩
  have DN' := DN.out w1 hb1
  have HB := Lib.hid hb1
  have DNH := Lib.hid DN'
  clear hb1 AW DN DN'
  go_wp2_with fail
  refine DNH.out.mono ?_
  rintro e w2 ⟨p, rfl, hO⟩
  have LG := long_any (HR.out.below hO.bel) c
  have HO := Lib.hid hO
  clear hO DNH HB
  by_cases hlong : 400 < l.length ∨ 6000 < lenL l
  · rw [decide_eq_true hlong] at LG
    have LGH := Lib.hid LG
    clear LG hlong
    go_wp2_with fail
    refine LGH.out.mono ?_
    rintro e w3 ⟨rfl, hb3⟩
    have HB3 := Lib.hid (HO.out.below hb3).bel
    clear hb3
    go_wp2_with fail
    go_ret
    exact ⟨rfl, HB3.out⟩
  rw [decide_eq_false hlong] at LG
  have LGH := Lib.hid LG
  have hl4 : l.length ≤ 400 := by omega
  have hl6 : lenL l ≤ 6000 := by omega
  clear LG hlong
  go_wp2_with fail
  refine LGH.out.mono ?_
  rintro e w3 ⟨rfl, hb3⟩
  have HO3 := Lib.hid (HO.out.below hb3)
  clear hb3 HO LGH
  have BW := Lib.hid (Below.refl w3.heap.size w3)
  go_wp2_with fail
  go_loopg [7, 8] (l.length + 1) (fun j s7 s8 wr => ∃ i : Nat, i ≤ l.length ∧ l.length < i + j ∧ s8 = .int .i64 (i : Nat) ∧ s7 = .int .i64 (lenL (l.take i) + 6 * i : Nat) ∧ Below w3.heap.size w3 wr)
  case atStart => exact ⟨0, Nat.zero_le _, by omega, rfl, rfl, BW.out⟩
  case round =>
    obtain ⟨i, hi, hj, rfl, rfl, hbw⟩ := hrel
    have HW := Lib.hid hbw
    have hs2 : lenL (l.take i) ≤ 6000 := by
      have := lenL_append (l.take i) (l.drop i)
      rw [List.take_append_drop] at this
      omega
    clear hbw BW
    by_cases hlt : i < l.length
    · have hlti : (i : Int) < (l.length : Int) := by omega
      obtain ⟨g, o, X, cx, e1, -, k1, m1, -⟩ := (HR.out.recs.below ((HO3.out.below HW.out).bel)) i hlt
      subst e1
      have hx := lenL_mem (List.getElem_mem hlt)
      have HT := Lib.hid (lenL_take l i hlt)
      generalize lenL (l.take i) = z at *
      generalize l[i].length = y at *
      clear m1
      go_wp2_with fail
      go_roundg (l.length - i)
      case measure => omega
      case rel =>
        refine ⟨i + 1, by omega, by omega, by go_num, ?_, HW.out⟩
        rw [HT.out]
        go_num
    · have hge : ¬ (i : Int) < (l.length : Int) := by omega
      have hil : l.take i = l := List.take_of_length_le (by omega)
      have hii : i = l.length := by omega
      subst hii
      rw [hil]
      clear hil hs2
      have hO4 := HO3.out.below HW.out
      have hm := nPages_most h1 l
      have hpc := partsL_count h1 l
      have hnz := nPages_zero h1 l
      have SE := Lib.hid (sectors_any (w := wr) size h1 h2 A c l (HR.out.recs.below hO4.bel) (by omega) (fun r hr => by have := lenL_mem hr; omega) (by omega))
      have HO4 := Lib.hid hO4
      have HM := Lib.hid hm
      have HNZ := Lib.hid hnz
      have hnp := nPages_parts h1 l
      clear hO4 HO3 HW hm hpc hnz
      go_wp2_with fail
      refine SE.out.mono ?_
      rintro e w5 ⟨rfl, hb5⟩
      have HO5 := Lib.hid (HO4.out.below hb5)
      clear hb5 HO4 SE
      have hw : wrap64 (wrap64 ((((lenL l : Nat) : Int) + 6 * ((l.length : Nat) : Int)) / (((size : Nat) : Int) - 12) + ((l.length : Nat) : Int) / 250) + 1) = (((lenL l + 6 * l.length) / (size - 12) + l.length / 250 + 1 : Nat) : Int) := by
        have e1 : ((size : Nat) : Int) - 12 = ((size - 12 : Nat) : Int) := by omega
        have e2 : ((lenL l : Nat) : Int) + 6 * ((l.length : Nat) : Int) = ((lenL l + 6 * l.length : Nat) : Int) := by omega
        have e3 : ((lenL l + 6 * l.length : Nat) : Int) / ((size - 12 : Nat) : Int) = ((((lenL l + 6 * l.length) / (size - 12)) : Nat) : Int) := rfl
        have e4 : (lenL l + 6 * l.length) / (size - 12) ≤ lenL l + 6 * l.length := Nat.div_le_self _ _
        rw [e1, e2, e3]
        generalize (lenL l + 6 * l.length) / (size - 12) = q at *
        rw [IntWalk.wrap64_in ((q : Int) + _) (by omega), IntWalk.wrap64_in _ (by omega)]
        omega
      have HWR := Lib.hid hw
      clear hw
      go_upto_region 13 with fail
      rw [HWR.out]
      obtain ⟨mo, hmo⟩ : ∃ mo, (lenL l + 6 * l.length) / (size - 12) + l.length / 250 + 1 = mo := ⟨_, rfl⟩
      have hle : nPages size l ≤ mo := by rw [← hmo]; exact HM.out
      have hmb : mo ≤ 10000 := by
        have e4 : (lenL l + 6 * l.length) / (size - 12) ≤ lenL l + 6 * l.length := Nat.div_le_self _ _
        omega
      have hz : nPages size l = 0 ↔ l.length = 0 := HNZ.out.trans List.length_eq_zero_iff.symm
      rw [hmo]
      clear hmo HWR HM HNZ
      have hf := fused_dark 3 size
      have FU := Lib.hid (HO5.out.fuse 0)
      obtain ⟨hf1, hf2, hf3, hf4, hf5, hf6⟩ := hf
      have HF := Lib.hid (And.intro hf1 (And.intro hf2 (And.intro hf3 (And.intro hf4 hf5))))
      have HLow := Lib.hid hf6
      clear hf1 hf2 hf3 hf4 hf5 hf6 HO5
      generalize nPages size l = np at *
      by_cases hl0 : l.length = 0
      · have hn0 : np = 0 := hz.2 hl0
        subst hn0
        have hl0i : ((l.length : Nat) : Int) = 0 := by omega
        clear hz hl0
        go_wp2_with fail
        refine FU.out.mono ?_
        rintro e w6 ⟨⟨v, rfl⟩, hO6⟩
        have FL := hO6.flush HLow.out
        rw [show ((Mod.new 3 size).fuseTo 0).flushR = 17 from rfl] at FL
        have FLH := Lib.hid FL
        clear hO6 FL FU HLow
        go_wp2_with fail
        refine FLH.out.mono ?_
        rintro e w7 ⟨rfl, hO7⟩
        obtain ⟨hf1, hf2, hf3, hf4, hf5⟩ := HF.out
        have HB7 := Lib.hid hO7.bel
        obtain ⟨F, hD7, hF7, -⟩ := hO7
        have RD := sread_any hD7 (by omega) (by omega) (by omega) (by omega) 0 1 (by omega) [(17, [])] (dark_secs hf1 0) rfl
        rw [dark_res] at RD
        have RDH := Lib.hid RD
        have HD7 := Lib.hid (And.intro hD7 hF7)
        clear RD hD7 hF7 FLH
        generalize ((Mod.new 3 size).fuseTo 0).flush = m at *
        clear hf1 hf2 hf3 hf4 hf5
        go_wp2_with fail
        refine RDH.out.mono ?_
        rintro e w8 ⟨hb8, ⟨h0, -⟩ | ⟨-, rfl⟩⟩
        case inl => exact absurd h0 (by simp)
        have HB8 := Lib.hid hb8
        clear hb8 RDH
        go_wp2_with fail
        refine (sread_nil 0 0 w8).mono ?_
        rintro e w9 ⟨rfl, hb9⟩
        have HB9 := Lib.hid (HB8.out.trans (hb9.mono HB8.out.size))
        clear hb9 HB8
        go_wp2_with fail
        refine (swrite_nil 0 1 A l.length c w9).mono ?_
        rintro e w10 ⟨rfl, rfl⟩
        go_wp2_with fail
        have b11 : Below w9.heap.size w9 ((w9.alloc (.cells #[.int .u8 1] 5)).alloc (.cells #[.slice (some ⟨w9.heap.size, 0, none⟩) 1 1] 35)) := ((Below.refl _ _).alloc (Nat.le_refl _) _).alloc (by simp) _
        have nb : BB ((w9.alloc (.cells #[.int .u8 1] 5)).alloc (.cells #[.slice (some ⟨w9.heap.size, 0, none⟩) 1 1] 35)) w9.heap.size [1] := (Whole.new w9 5 #[.int .u8 1]).alloc _
        have nl := Whole.new (w9.alloc (.cells #[.int .u8 1] 5)) 35 #[.slice (some ⟨w9.heap.size, 0, none⟩) 1 1]
        rw [World.size_alloc] at nl
        have hrec : Recs ((w9.alloc (.cells #[.int .u8 1] 5)).alloc (.cells #[.slice (some ⟨w9.heap.size, 0, none⟩) 1 1] 35)) (some ⟨w9.heap.size + 1, 0, none⟩) [[1]] := recs_one (c := 1) (A := some ⟨w9.heap.size, 0, none⟩) (b := [1]) nl nb.holds0 (by simp)
        obtain ⟨hf1, hf2, hf3, hf4, hf5⟩ := HF.out
        have hO11 : OwnD w ((w9.alloc (.cells #[.int .u8 1] 5)).alloc (.cells #[.slice (some ⟨w9.heap.size, 0, none⟩) 1 1] 35)) p m := (OwnD.below ⟨F, HD7.out.1, HD7.out.2, HB7.out⟩ HB9.out).below b11
        have hop := one_page h1
        rw [← hf3] at hop
        have hpc1 := partsL_count (size := m.size) (by omega) [[1]]
        have hls : lenL [[1]] = 1 := rfl
        have WR := swrite_any hO11 hf5 (by omega) (by omega) (by omega) 0 3 (by omega) (by omega) (some ⟨w9.heap.size + 1, 0, none⟩) 1 [[1]] hrec (by simp) (fun r hr => by rw [List.mem_singleton.1 hr]; simp) (by rw [hls] at hpc1; simp at hpc1; omega)
        have hne : pagesOf (partsL m.size [[1]]) ≠ [] := fun e => by
          have : nPages m.size [[1]] = 0 := by unfold nPages; rw [e]; rfl
          omega
        have hdk := wrP_dark hf1 0 m.size hne
        have WRH := Lib.hid WR
        have HDK := Lib.hid hdk
        have HOP := Lib.hid hop
        clear b11 nb nl hrec hf1 hf2 hf3 hf4 hf5 hO11 hop hpc1 hls WR hne hdk
        generalize ((w9.alloc (.cells #[.int .u8 1] 5)).alloc (.cells #[.slice (some ⟨w9.heap.size, 0, none⟩) 1 1] 35)) = W11 at *
        refine WRH.out.mono ?_
        rintro e w12 ⟨hS, ⟨hnp1, m', r, hwp, rfl, hO12⟩ | ⟨hnp1, -, -⟩⟩
        case inr => rw [HOP.out] at hnp1; omega
        have hr : r = 17 := by rw [← HDK.out, hwp]
        subst hr
        have HB12 := Lib.hid hO12.bel
        clear hO12 hS hwp hnp1 WRH HDK HOP
        simp only [if_neg (show ¬ (17 : Int) = 0 by omega)]
        go_wp2_with fail
        go_ret
        exact ⟨rfl, HB12.out⟩
      · have hn0 : ¬ np = 0 := fun e => hl0 (hz.1 e)
        have hl0i : ¬ ((l.length : Nat) : Int) = 0 := by omega
        have hn0i : ¬ ((np : Nat) : Int) = 0 := by omega
        have hlei : ¬ ((mo : Nat) : Int) < ((np : Nat) : Int) := by omega
        clear hz
        have hcmp : (!(((np : Nat) : Int) == 0) == (((l.length : Nat) : Int) == 0)) = false := by rw [beq_eq_false_iff_ne.2 hn0i, beq_eq_false_iff_ne.2 hl0i]; rfl
        go_wp2_with fail
        refine FU.out.mono ?_
        rintro e w6 ⟨⟨v, rfl⟩, hO6⟩
        have FL := hO6.flush HLow.out
        rw [show ((Mod.new 3 size).fuseTo 0).flushR = 17 from rfl] at FL
        have FLH := Lib.hid FL
        clear hO6 FL FU HLow
        go_wp2_with fail
        refine FLH.out.mono ?_
        rintro e w7 ⟨rfl, hO7⟩
        obtain ⟨hf1, hf2, hf3, hf4, hf5⟩ := HF.out
        have HB7 := Lib.hid hO7.bel
        obtain ⟨F, hD7, hF7, -⟩ := hO7
        have RD := sread_any hD7 (by omega) (by omega) (by omega) (by omega) 0 1 (by omega) [(17, [])] (dark_secs hf1 0) rfl
        rw [dark_res] at RD
        have RDH := Lib.hid RD
        have HD7 := Lib.hid (And.intro hD7 hF7)
        clear RD hD7 hF7 FLH
        generalize ((Mod.new 3 size).fuseTo 0).flush = m at *
        clear hf1 hf2 hf3 hf4 hf5
        go_wp2_with fail
        refine RDH.out.mono ?_
        rintro e w8 ⟨hb8, ⟨h0, -⟩ | ⟨-, rfl⟩⟩
        case inl => exact absurd h0 (by simp)
        have HB8 := Lib.hid hb8
        clear hb8 RDH
        go_wp2_with fail
        refine (sread_nil 0 0 w8).mono ?_
        rintro e w9 ⟨rfl, hb9⟩
        have HB9 := Lib.hid (HB8.out.trans (hb9.mono HB8.out.size))
        clear hb9 HB8
        go_wp2_with fail
        refine (swrite_nil 0 1 A l.length c w9).mono ?_
        rintro e w10 ⟨rfl, rfl⟩
        go_wp2_with fail
        have b11 : Below w9.heap.size w9 ((w9.alloc (.cells #[.int .u8 1] 5)).alloc (.cells #[.slice (some ⟨w9.heap.size, 0, none⟩) 1 1] 35)) := ((Below.refl _ _).alloc (Nat.le_refl _) _).alloc (by simp) _
        have nb : BB ((w9.alloc (.cells #[.int .u8 1] 5)).alloc (.cells #[.slice (some ⟨w9.heap.size, 0, none⟩) 1 1] 35)) w9.heap.size [1] := (Whole.new w9 5 #[.int .u8 1]).alloc _
        have nl := Whole.new (w9.alloc (.cells #[.int .u8 1] 5)) 35 #[.slice (some ⟨w9.heap.size, 0, none⟩) 1 1]
        rw [World.size_alloc] at nl
        have hrec : Recs ((w9.alloc (.cells #[.int .u8 1] 5)).alloc (.cells #[.slice (some ⟨w9.heap.size, 0, none⟩) 1 1] 35)) (some ⟨w9.heap.size + 1, 0, none⟩) [[1]] := recs_one (c := 1) (A := some ⟨w9.heap.size, 0, none⟩) (b := [1]) nl nb.holds0 (by simp)
        obtain ⟨hf1, hf2, hf3, hf4, hf5⟩ := HF.out
        have hO11 : OwnD w ((w9.alloc (.cells #[.int .u8 1] 5)).alloc (.cells #[.slice (some ⟨w9.heap.size, 0, none⟩) 1 1] 35)) p m := (OwnD.below ⟨F, HD7.out.1, HD7.out.2, HB7.out⟩ HB9.out).below b11
        have hop := one_page h1
        rw [← hf3] at hop
        have hpc1 := partsL_count (size := m.size) (by omega) [[1]]
        have hls : lenL [[1]] = 1 := rfl
        have WR := swrite_any hO11 hf5 (by omega) (by omega) (by omega) 0 3 (by omega) (by omega) (some ⟨w9.heap.size + 1, 0, none⟩) 1 [[1]] hrec (by simp) (fun r hr => by rw [List.mem_singleton.1 hr]; simp) (by rw [hls] at hpc1; simp at hpc1; omega)
        have hne : pagesOf (partsL m.size [[1]]) ≠ [] := fun e => by
          have : nPages m.size [[1]] = 0 := by unfold nPages; rw [e]; rfl
          omega
        have hdk := wrP_dark hf1 0 m.size hne
        have WRH := Lib.hid WR
        have HDK := Lib.hid hdk
        have HOP := Lib.hid hop
        clear b11 nb nl hrec hf1 hf2 hf3 hf4 hf5 hO11 hop hpc1 hls WR hne hdk
        generalize ((w9.alloc (.cells #[.int .u8 1] 5)).alloc (.cells #[.slice (some ⟨w9.heap.size, 0, none⟩) 1 1] 35)) = W11 at *
        refine WRH.out.mono ?_
        rintro e w12 ⟨hS, ⟨hnp1, m', r, hwp, rfl, hO12⟩ | ⟨hnp1, -, -⟩⟩
        case inr => rw [HOP.out] at hnp1; omega
        have hr : r = 17 := by rw [← HDK.out, hwp]
        subst hr
        have HB12 := Lib.hid hO12.bel
        clear hO12 hS hwp hnp1 WRH HDK HOP
        simp only [if_neg (show ¬ (17 : Int) = 0 by omega)]
        go_wp2_with fail
        go_ret
        exact ⟨rfl, HB12.out⟩
/-- whatever size and whatever records. -/
theorem bounds_all (size : Int) (hs : -9223372036854775808 ≤ size ∧ size ≤ 9223372036854775807) (A : Option Addr) (c : Nat) (l : List (List UInt8)) (w : World) (h : CameR w A l) :
    Calls Try.prog 5 #[.int .i64 size, .slice A l.length c] w fun e w' => e = .returned (.bool true) ∧ Below w.heap.size w w' := by
  by_cases hb : size < 64 ∨ 1024 < size
  · exact bounds_bad size hb A c l w
  · obtain ⟨s, rfl⟩ : ∃ s : Nat, size = (s : Nat) := ⟨size.toNat, by omega⟩
    exact bounds_good s (by omega) (by omega) A c l w h
end Go.Proofs.Ytlkkfnimealbkaa
