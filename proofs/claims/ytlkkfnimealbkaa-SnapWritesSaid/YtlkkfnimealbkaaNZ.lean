/- The reference's way of filling pages, walked. -/
import Derived.Test.YtlkkfnimealbkaaNZ2
import Derived.Test.YtlkkfnimealbkaaNY0
import Derived.Deep.DeepCutAuto
namespace Go.Proofs.Ytlkkfnimealbkaa
open Go.RowKit
open Pag (strL strL_len used refRoom_any bsize)
set_option linter.unusedVariables false
theorem add0 (b : List UInt8) : (⟨#[0]⟩ : ByteArray) ++ (⟨b.toArray⟩ : ByteArray) = ⟨(0 :: b).toArray⟩ := by
  have : ((⟨#[0]⟩ : ByteArray) ++ (⟨b.toArray⟩ : ByteArray)).data.toList = 0 :: b := by
    rw [ByteArray.data_append, Array.toList_append]; rfl
  cases hh : (⟨#[0]⟩ : ByteArray) ++ (⟨b.toArray⟩ : ByteArray) with
  | mk d => rw [hh] at this; simp only at this; rw [← this]
theorem extract_front_n (b : List UInt8) (n : Nat) : ((⟨b.toArray⟩ : ByteArray).extract 0 n) = ⟨(b.take n).toArray⟩ := by
  have : ((⟨b.toArray⟩ : ByteArray).extract 0 n).data.toList = b.take n := by simp
  cases hh : (⟨b.toArray⟩ : ByteArray).extract 0 n with
  | mk d => rw [hh] at this; simp only at this; rw [← this]
theorem extract_back_n (b : List UInt8) (n : Nat) : ((⟨b.toArray⟩ : ByteArray).extract n b.length) = ⟨(b.drop n).toArray⟩ := by
  have : ((⟨b.toArray⟩ : ByteArray).extract n b.length).data.toList = b.drop n := by simp; rw [List.take_of_length_le (by simp)]
  cases hh : (⟨b.toArray⟩ : ByteArray).extract n b.length with
  | mk d => rw [hh] at this; simp only at this; rw [← this]
theorem add1 (b : List UInt8) : (⟨#[1]⟩ : ByteArray) ++ (⟨b.toArray⟩ : ByteArray) = ⟨(1 :: b).toArray⟩ := by
  have : ((⟨#[1]⟩ : ByteArray) ++ (⟨b.toArray⟩ : ByteArray)).data.toList = 1 :: b := by
    rw [ByteArray.data_append, Array.toList_append]; rfl
  cases hh : (⟨#[1]⟩ : ByteArray) ++ (⟨b.toArray⟩ : ByteArray) with
  | mk d => rw [hh] at this; simp only at this; rw [← this]
theorem pagesOf_len : ∀ pre : List Pb, (pagesOf pre).length ≤ pre.length := fun pre => snoc_ind (P := fun pre => (pagesOf pre).length ≤ pre.length) (by simp [pagesOf]) (fun l x ih => by
  rw [pagesOf_snoc, List.length_append]
  unfold putP
  split
  · simp; omega
  · rw [List.length_set]; simp; omega) pre
theorem RfP.few {size : Nat} {rs : List (List UInt8)} {i f : Nat} {b : List UInt8} {pre : List Pb} {P : List (List (List UInt8))} {fr : Nat} (h : RfP size rs i f b pre P fr) : P.length ≤ (partsL size rs).length + 1 := by
  have h1 := congrArg List.length h.left
  rw [List.length_append] at h1
  have h2 := pagesOf_len pre
  rcases h.pages with ⟨e, -⟩ | ⟨e, -⟩
  · rw [e]; omega
  · rw [e, List.length_append, List.length_singleton]; omega
set_option maxRecDepth 100000 in
set_option maxHeartbeats 4000000 in
theorem refPages_any (A : Option Addr) (c : Nat) (rs : List (List UInt8)) (size : Nat) (w : World) (h : Lists w A rs) (hs1 : 64 ≤ size) (hs2 : size ≤ 1024) (hrs : rs.length ≤ 1000000) (hrl : ∀ r ∈ rs, r.length ≤ 1000000) (hT : (partsL size rs).length ≤ 100000) :
    Calls Try.prog 11 #[.int .i64 (size : Nat), .slice A rs.length c] w fun e w' => ∃ v, e = .returned v ∧ SS w' w.heap.size v (pagesOf (partsL size rs)) ∧ Below w.heap.size w w' := by
  have HL := Lib.hid h
  have HRL := Lib.hid hrl
  have SN := Lib.hid (SS.new w)
  have B0 := Lib.hid ((Below.refl w.heap.size w).alloc (Nat.le_refl _) (.cells #[] 39))
  clear h hrl
  go_enter Try.func11, Try.ntmps11
  go_wp2_with fail
  generalize w.alloc (.cells #[] 39) = w1 at *
  go_loopg [5, 6, 7, 8, 9] (rs.length + 1) (fun j s5 s6 s7 s8 s9 wr => ∃ (i : Nat) (pre : List Pb) (P : List (List (List UInt8))), i ≤ rs.length ∧ rs.length < i + j ∧ s6 = .int .i64 (i : Nat) ∧ RfO size rs i pre P ∧ SS wr w.heap.size s5 P ∧ Below w.heap.size w wr)
  case atStart => exact ⟨0, [], [], by omega, by omega, rfl, RfO.start _ _, SN.out, B0.out⟩
  case round =>
    obtain ⟨i, pre, P, hi, hj, rfl, hO, hSS, hb⟩ := hrel
    have HO := Lib.hid hO
    have HSS := Lib.hid hSS
    have HW := Lib.hid hb
    clear hO hSS hb SN B0
    by_cases hlt : i < rs.length
    · have hlti : (i : Int) < (rs.length : Int) := by omega
      obtain ⟨g, o, B, d, e1, -, k1, m1⟩ := (HL.out.below HW.out) i hlt
      subst e1
      have CV := conv_bytes m1 d
      have HP := Lib.hid (HO.out.next hlt)
      have hbl := HRL.out rs[i] (List.getElem_mem _)
      clear m1
      go_wp2_with fail
      go_loopg [5, 7, 8, 9] (2 * rs[i].length + 2) (fun j s5 s7 s8 s9 wr => ∃ (f : Nat) (b : List UInt8) (pre : List Pb) (P : List (List (List UInt8))) (fr : Nat), 2 * b.length + fr < j ∧ b.length ≤ 1000000 ∧ RfP size rs i f b pre P fr ∧ s7 = .string ⟨b.toArray⟩ ∧ SS wr w.heap.size s5 P ∧ Below w.heap.size w wr)
      case atStart => exact ⟨_, _, _, _, 1, by omega, hbl, HP.out, rfl, HSS.out, HW.out⟩
      case round =>
        clear HP HO HSS HW CV k1
        obtain ⟨f, b, pre, P, fr, hmu, hbl2, hP, rfl, hSS, hb⟩ := hrel
        have HP := Lib.hid hP
        have HSS := Lib.hid hSS
        have HW := Lib.hid hb
        have hfew := hP.few
        clear hP hSS hb
        obtain ⟨A', c', rfl, -⟩ := HSS.out.at_
        go_upto_if 24 with fail
        go_cut [5] (fun s5 wc => ∃ (P' : List (List (List UInt8))) (fr' : Nat), P' ≠ [] ∧ fr' ≤ fr ∧ RfP size rs i f b pre P' fr' ∧ SS wc w.heap.size s5 P' ∧ Below w.heap.size w wc)
        case first =>
          by_cases h0 : P = []
          · obtain ⟨hf1, hP1⟩ := HP.out.first h0
            obtain ⟨v', w7, hap, hs7, hg7⟩ := HSS.out.pushE HW.out.size (by omega)
            have hb2 := ((HW.out.alloc HW.out.size (.cells #[] 9)).alloc (by have := HW.out.size; simp; omega) (.cells #[.slice (some ⟨wr.heap.size, 0, none⟩) 0 0] 39))
            have hb7 := below_grown hb2 hg7 (fun k hk => (HSS.out.block k hk).1)
            have hP2 : RfP size rs i f b pre (P ++ [[]]) 0 := by rw [h0]; exact hP1
            have HN := Lib.hid (And.intro hP2 (And.intro hs7 hb7))
            have HAP := Lib.hid hap
            have hpl : P.length = 0 := by rw [h0]; rfl
            rw [hpl] at HAP ⊢
            clear hP1 hP2 hs7 hb7 hb2 hap hg7 hpl h0
            go_wp2_with (at_builtin; refine Lib.wpList_append_run _ rfl (.tmp 25) (.tmp 27) 32 32 rfl _ _ rfl rfl _ _ HAP.out ?_)
            go_meet
            case rel => exact ⟨_, 0, by simp, by omega, HN.out.1, HN.out.2.1, HN.out.2.2⟩
          · have hpl : ¬ ((P.length : Nat) : Int) = 0 := fun e => h0 (List.eq_nil_of_length_eq_zero (by omega))
            have hplb : (((P.length : Nat) : Int) == 0) = false := by simpa using h0
            have H0 := Lib.hid h0
            clear h0
            go_wp2_with fail
            go_meet
            case rel => exact ⟨P, fr, H0.out, by omega, HP.out, HSS.out, HW.out⟩
        case rest =>
          clear HP HSS HW hfew
          obtain ⟨P, fr', h0, hfr, hP, hSS, hb⟩ := hcut
          have hfew := hP.few
          obtain ⟨hu, h5l, hcase⟩ := hP.last hs1 h0
          obtain ⟨g1, c1, A1, d1, rfl, hcell, hg1, hg1w, hsr, hadd⟩ := hSS.addsW hb.size h0 (by omega)
          have hst := hsr.strs
          obtain ⟨L, hLe⟩ : ∃ L, lastP P = L := ⟨_, rfl⟩
          have HLe := Lib.hid hLe
          rw [hLe] at hu h5l hcase hcell hst hadd
          obtain ⟨q, hq⟩ : ∃ q, size - 1 - usedP L = q := ⟨_, rfl⟩
          have hur : usedP L = 4 * L.length + used L := rfl
          have RM := refRoom_any A1 d1 L size wc hst hs2 (by omega) (by omega)
          rw [show (size : Int) - 1 - 4 * (L.length : Int) - (used L : Nat) = (q : Nat) by omega] at RM
          have RMH := Lib.hid RM
          have HP := Lib.hid hP
          have HSS := Lib.hid hSS
          have HW := Lib.hid hb
          have H0 := Lib.hid h0
          have HQ := Lib.hid hq
          have hqs : q ≤ 1023 := by omega
          have h250 : ¬ (L.length : Int) = 250 := by omega
          have h250b : ((L.length : Int) == 250) = false := by simp; omega
          obtain ⟨pl, hpl⟩ : ∃ pl, P.length - 1 = pl := ⟨_, rfl⟩
          have hpos : 0 < P.length := List.length_pos_iff.2 h0
          have hplt : (pl : Int) < (P.length : Int) := by omega
          have hwr : (P.length : Int) - 1 = (pl : Nat) := by omega
          rw [hpl] at hcell hadd
          have HADD := Lib.hid hadd
          have HPL := Lib.hid hpl
          have HC : Hid ((5 + min b.length 1 ≤ q ∧ spot (size - 1) b.length (stP size pre) = (pl, q)) ∨ (q < 5 + min b.length 1 ∧ fr' = 1 ∧ RfP size rs i f b pre (P ++ [[]]) 0)) := Lib.hid (by
            rcases hcase with ⟨x1, x2⟩ | ⟨x1, x2⟩
            · refine .inl ⟨by omega, ?_⟩
              rw [hq, hpl] at x2
              exact x2
            · exact .inr ⟨by omega, x2⟩)
          clear hSS hP hb hsr hst RM hcase hLe hur hq h0 hpl hu h5l hadd
          go_wp2_with fail
          refine RMH.out.mono ?_
          rintro e w5 ⟨rfl, rfl⟩
          rcases HC.out with ⟨hroom, hsp⟩ | ⟨hno, hf1, hPE⟩
          · have HSP : Hid (spot (size - 1) b.length (stP size pre) = (P.length - 1, size - 1 - usedP (lastP P))) := Lib.hid (by rw [HLe.out, HQ.out, HPL.out]; exact hsp)
            obtain ⟨rm, hrm0⟩ : ∃ rm, q - 5 = rm := ⟨_, rfl⟩
            have hrm : (q : Int) - 5 = (rm : Nat) := by omega
            have hx : ¬ (rm : Int) < 0 := by omega
            have HRM := Lib.hid hrm0
            have hroom2 : rm = 0 → b.length = 0 := by omega
            clear hsp hrm0 HC
            by_cases hz : rm = 0
            · have hzb : ((rm : Int) == 0) = true := by simp; omega
              have hl0 : ¬ (0 : Int) < (b.length : Int) := by have := hroom2 hz; omega
              have hle : (b.length : Int) ≤ (rm : Int) := by omega
              have hleN : b.length ≤ q - 5 := by have := HRM.out; omega
              clear hz hroom2
              obtain ⟨g2, c2, w6, hap, hc6, hf6, hs6, hb6⟩ := HADD.out wc (Below.refl _ _) (0 :: b)
              have HAP := Lib.hid hap
              have HO2 := HP.out.whole hs1 H0.out HSP.out (by rw [HLe.out, HQ.out]; omega)
              rw [HLe.out, HPL.out] at HO2
              have HN := Lib.hid (And.intro HO2 (And.intro hs6 (hb6 w rfl HW.out)))
              have hs0 := add0 b
              clear hap hs6 hb6 HO2
              go_wp2_with (at_builtin; refine Lib.wpList_append_run _ rfl (.tmp 71) (.tmp 74) 39 39 rfl _ _ rfl rfl _ _ HAP.out ?_)
              go_roundg (rs.length - i)
              case measure => omega
              case rel => exact ⟨i + 1, _, _, by omega, by omega, by go_num, HN.out.1, HN.out.2.1, HN.out.2.2⟩
            · have hzb : ((rm : Int) == 0) = false := by simp; omega
              by_cases hleN' : b.length ≤ rm
              · have hle : (b.length : Int) ≤ (rm : Int) := by omega
                have hleN : b.length ≤ q - 5 := by have := HRM.out; omega
                clear hz hroom2
                obtain ⟨g2, c2, w6, hap, hc6, hf6, hs6, hb6⟩ := HADD.out wc (Below.refl _ _) (0 :: b)
                have HAP := Lib.hid hap
                have HO2 := HP.out.whole hs1 H0.out HSP.out (by rw [HLe.out, HQ.out]; omega)
                rw [HLe.out, HPL.out] at HO2
                have HN := Lib.hid (And.intro HO2 (And.intro hs6 (hb6 w rfl HW.out)))
                have hs0 := add0 b
                clear hap hs6 hb6 HO2
                go_wp2_with (at_builtin; refine Lib.wpList_append_run _ rfl (.tmp 71) (.tmp 74) 39 39 rfl _ _ rfl rfl _ _ HAP.out ?_)
                go_roundg (rs.length - i)
                case measure => omega
                case rel => exact ⟨i + 1, _, _, by omega, by omega, by go_num, HN.out.1, HN.out.2.1, HN.out.2.2⟩
              · have hle : ¬ (b.length : Int) ≤ (rm : Int) := by omega
                have hleB : ¬ b.length ≤ size - 1 - usedP (lastP P) - 5 := by rw [HLe.out, HQ.out, HRM.out]; exact hleN'
                obtain ⟨hP2, h51⟩ := HP.out.more hs1 H0.out HSP.out hleB
                rw [HLe.out, HQ.out, HPL.out, HRM.out] at hP2
                have hrm1 : 1 ≤ rm := by have := HRM.out; omega
                have hrmb : (rm : Int) ≤ (b.length : Int) := by omega
                obtain ⟨t, ht⟩ : ∃ t, b.take rm = t := ⟨_, rfl⟩
                obtain ⟨dd, hdd⟩ : ∃ dd, b.drop rm = dd := ⟨_, rfl⟩
                rw [ht, hdd] at hP2
                have hdl : dd.length = b.length - rm := by rw [← hdd, List.length_drop]
                have hx1 : (⟨b.toArray⟩ : ByteArray).extract 0 rm = ⟨t.toArray⟩ := by rw [extract_front_n, ht]
                have hx3 : (⟨b.toArray⟩ : ByteArray).extract rm b.length = ⟨dd.toArray⟩ := by rw [extract_back_n, hdd]
                have hx2 := add1 t
                have htl : t.length ≤ 1000000 := by rw [← ht, List.length_take]; omega
                have htl2 : ¬ 9223372036854775807 < 1 + t.length := by omega
                have hbd : Below wc.heap.size wc wc.drew := (Below.refl _ _).drew
                obtain ⟨g2, c2, w6, hap, hc6, hf6, hs6, hb6⟩ := HADD.out wc.drew hbd (1 :: t)
                have HN := Lib.hid (And.intro hP2 (And.intro hs6 (hb6 w rfl (below_next HW.out hbd))))
                have HDL : Hid (2 * dd.length + 1 < 2 * b.length + fr ∧ dd.length ≤ 1000000) := Lib.hid (by omega)
                have hcd : wc.drew.cell? ⟨g1, pl, none⟩ = some (.slice A1 L.length d1) := hcell
                have hca : (wc.drew.alloc (.cells #[.string ⟨(1 :: t).toArray⟩] 9)).cell? ⟨g1, pl, none⟩ = some (.slice A1 L.length d1) := (((Below.refl wc.drew.heap.size wc.drew).alloc (Nat.le_refl _) _).cell (p := ⟨g1, pl, none⟩) hg1w).trans hcd
                clear hs6 hb6 hP2 hdl hdd ht hleB hleN' hroom2 h51 hbd
                go_wp2_with fail
                go_region_law (first
                  | (refine step_append_runI rfl _ _ 39 39 rfl _ _ ?h3 ?h4 hap ?_; (case h3 => rfl); (case h4 => rfl)))
                all_goals
                  clear hap hca hcd hc6 hf6
                  go_wp2_with fail
                  go_roundg (2 * b.length + fr)
                  case measure => omega
                  case rel => exact ⟨_, dd, _, _, 1, HDL.out.1, HDL.out.2, HN.out.1, rfl, HN.out.2.1, HN.out.2.2⟩
          · obtain ⟨v', w7, hap, hs7, hg7⟩ := HSS.out.pushE HW.out.size (by omega)
            have hb2 := ((HW.out.alloc HW.out.size (.cells #[] 9)).alloc (by have := HW.out.size; simp; omega) (.cells #[.slice (some ⟨wc.heap.size, 0, none⟩) 0 0] 39))
            have hb7 := below_grown hb2 hg7 (fun k hk => (HSS.out.block k hk).1)
            have HN := Lib.hid (And.intro hPE (And.intro hs7 hb7))
            have HAP := Lib.hid hap
            clear hs7 hb7 hb2 hap hg7 hPE
            have hx : (q : Int) - 5 < 0 ∨ (¬ (q : Int) - 5 < 0 ∧ (q : Int) - 5 = 0 ∧ (0 : Int) < (b.length : Int)) := by omega
            clear hno
            rcases hx with hx | ⟨hx, hx2, hx3⟩
            · go_wp2_with (at_builtin; refine Lib.wpList_append_run _ rfl (.tmp 58) (.tmp 60) 32 32 rfl _ _ rfl rfl _ _ HAP.out ?_)
              go_roundg (2 * b.length + fr)
              case measure => omega
              case rel => exact ⟨f, b, pre, _, 0, by omega, hbl2, HN.out.1, rfl, HN.out.2.1, HN.out.2.2⟩
            · have hx2b : ((q : Int) - 5 == 0) = true := by simp; omega
              go_wp2_with (at_builtin; refine Lib.wpList_append_run _ rfl (.tmp 58) (.tmp 60) 32 32 rfl _ _ rfl rfl _ _ HAP.out ?_)
              go_roundg (2 * b.length + fr)
              case measure => omega
              case rel => exact ⟨f, b, pre, _, 0, by omega, hbl2, HN.out.1, rfl, HN.out.2.1, HN.out.2.2⟩
    · have hge : ¬ (i : Int) < (rs.length : Int) := by omega
      have HF := Lib.hid (HO.out.done (by omega))
      go_wp2_with fail
      go_ret
      rw [← HF.out]
      exact ⟨_, rfl, HSS.out, HW.out⟩
end Go.Proofs.Ytlkkfnimealbkaa
