/- DiskFuses walked. -/
import Derived.Test.YtmcgjlidfgbdfaaDKf
import Derived.StillTailTactics
namespace Go.Proofs.Ytmcgjlidfgbdfaa
open Go.RowKit

set_option maxRecDepth 100000 in
set_option maxHeartbeats 4000000 in
theorem diskFuses_all (n : Int) (a : Option Addr) (c : Nat) (ds : List ActG) (w : World) (hn : Rng n) (hA : CameA w a ds) : Calls Try.prog 5 #[.int .i64 n, .slice a ds.length c] w fun e w' => e = .returned (.bool true) ∧ Below w.heap.size w w' := by
  have HA := Lib.hid hA
  have hn2 := hn.2
  clear hA
  go_enter Try.func5, Try.ntmps5
  go_wp2_with fail
  refine (awake_any _).mono ?_
  rintro e w1 ⟨rfl, b1⟩
  have N := Lib.hid (OwnD.new w 8 64 w1 b1 (by omega) (by omega) (by omega) (by omega))
  clear b1
  go_wp2_with fail
  refine N.out.mono ?_
  rintro e w2 ⟨p, rfl, o2⟩
  have FU := Lib.hid (o2.fuse n)
  clear o2 N
  go_wp2_with fail
  refine FU.out.mono ?_
  rintro e w3 ⟨⟨v, rfl⟩, o3⟩
  have O3 := Lib.hid o3
  have J0 := Lib.hid (Fused.new n hn2)
  clear o3 FU
  go_wp2_with fail
  go_loopg [7, 8, 9, 10] 101 (fun j s7 s8 s9 s10 wr => ∃ (i : Nat) (m : Mod), i ≤ ds.length ∧ i ≤ 100 ∧ 100 < i + j ∧ s7 = .int .i64 (i : Nat) ∧ Fused n i m ∧ OwnD w wr p m)
  case atStart => exact ⟨0, _, by omega, by omega, by omega, rfl, J0.out, O3.out⟩
  case round =>
    obtain ⟨i, m, hi, hi2, hj, rfl, hJ, ho⟩ := hrel
    clear O3 J0
    have HJ := Lib.hid hJ
    have HO := Lib.hid ho
    clear hJ ho
    by_cases hend : i < ds.length ∧ i < 100
    · obtain ⟨h1, h2⟩ := hend
      have h1' : (i : Int) < (ds.length : Int) := by omega
      have h2' : (i : Int) < 100 := by omega
      have L := HJ.out.low (by omega)
      obtain ⟨ab, off, rfl, hab, c0, c1, c2, -⟩ := (HA.out.below HO.out.bel).cell i h1
      have DE := Lib.hid HO.out.choose_spec.1.deeds
      have DA := Lib.hid HO.out.choose_spec.1.dark
      have FL := Lib.hid (HO.out.flush L)
      have WR := Lib.hid ((HO.out.below (Below.refl _ wr).drew).write L ds[i].i ds[i].A ds[i].c ds[i].b ((HA.out.bytes i h1).1.below (HO.out.below (Below.refl _ wr).drew).bel) (HA.out.far h1))
      have HL := Lib.hid L
      clear L
      go_wp2_with fail
      refine DE.out.mono ?_
      rintro e w4 ⟨rfl, rfl⟩
      go_wp2_with fail
      refine DA.out.mono ?_
      rintro e w4 ⟨rfl, rfl⟩
      go_upto_if 39 with fail
      go_cut [10] (fun s10 wq => ∃ (m' : Mod) (r : Int), s10 = .int .i64 r ∧ Deed m m' r ∧ OwnD w wq p m')
      case first =>
        by_cases hk : ds[i].k = 2
        · rw [hk] at c0
          go_wp2_with fail
          refine FL.out.mono ?_
          rintro e w4 ⟨rfl, o4⟩
          have O4 := Lib.hid o4
          clear o4
          go_wp2_with fail
          go_meet
          case rel => exact ⟨_, _, rfl, deed_flush m, O4.out⟩
        · go_wp2_with fail
          go_still_tail 11, (by kernel_rfl)
          change wpList _ _ _ _ _ (World.drew _)
          go_wp2_with fail
          refine WR.out.mono ?_
          rintro e w4 ⟨rfl, o4⟩
          have O4 := Lib.hid o4
          clear o4
          go_wp2_with fail
          go_meet
          case rel => exact ⟨_, _, rfl, deed_write m _ _, O4.out⟩
      case rest =>
        obtain ⟨m', r, rfl, hd, ho⟩ := hcut
        have hst := HJ.out.step hd
        have J2 := Lib.hid hst
        have O2 := Lib.hid ho
        have de2 := ho.choose_spec.1.deeds
        have da2 := ho.choose_spec.1.dark
        have hdb : (m.deeds : Int) ≤ 100 := by have := HJ.out.2.2.2.1; omega
        obtain ⟨-, -, -, -, -, s6, s7⟩ := hst
        obtain ⟨-, -, hd⟩ := hd
        clear ho FL WR DE DA c0 c1 c2
        rcases hd with ⟨rfl, d1, -, d2, -, -, d3, -⟩ | ⟨hr0, d2, -, -, -, d3, -⟩
        · rw [d2] at de2 s6
          rw [d3] at da2
          rw [d1]
          have e2 : ((m.deeds + 1 : Nat) : Int) = (m.deeds : Int) + 1 := by omega
          rw [e2] at de2
          have DE2 := Lib.hid de2
          have DA2 := Lib.hid da2
          by_cases hn0 : 0 ≤ n
          · have hng : ¬ n < (m.deeds : Int) + 1 := by have := (s6 hn0).2.1; omega
            clear s6 s7 de2 da2 d1 d2 d3 e2
            go_wp2_with fail
            repeat (first
              | (refine DE2.out.mono ?_; rintro e w4 ⟨rfl, rfl⟩; go_wp2_with fail)
              | (refine DA2.out.mono ?_; rintro e w4 ⟨rfl, rfl⟩; go_wp2_with fail))
            go_roundg (100 - i)
            case measure => omega
            case rel => exact ⟨i + 1, m', by omega, by omega, by omega, rfl, J2.out, O2.out⟩
          · clear s6 s7 de2 da2 d1 d2 d3 e2
            go_wp2_with fail
            repeat (first
              | (refine DE2.out.mono ?_; rintro e w4 ⟨rfl, rfl⟩; go_wp2_with fail)
              | (refine DA2.out.mono ?_; rintro e w4 ⟨rfl, rfl⟩; go_wp2_with fail))
            go_roundg (100 - i)
            case measure => omega
            case rel => exact ⟨i + 1, m', by omega, by omega, by omega, rfl, J2.out, O2.out⟩
        · rw [d2] at de2 s6
          have DE2 := Lib.hid de2
          cases hmd : m.dark with
          | true =>
            obtain ⟨rfl, d4⟩ := d3 hmd
            rw [d4] at da2
            have DA2 := Lib.hid da2
            have hn0 : 0 ≤ n := by
              rcases Int.lt_or_le n 0 with h | h
              · have := (s7 h).2; rw [d4] at this; cases this
              · exact h
            have hdn : (m.deeds : Int) = n := by have h5 := s6 hn0; have := h5.2.2 d4; have := h5.2.1; omega
            rw [hdn] at DE2
            have hng : ¬ n < n := by omega
            rw [hdn]
            clear s6 s7 de2 da2 d2 d3 d4 hmd hdn
            go_wp2_with fail
            repeat (first
              | (refine DE2.out.mono ?_; rintro e w4 ⟨rfl, rfl⟩; go_wp2_with fail)
              | (refine DA2.out.mono ?_; rintro e w4 ⟨rfl, rfl⟩; go_wp2_with fail))
            go_roundg (100 - i)
            case measure => omega
            case rel => exact ⟨i + 1, m', by omega, by omega, by omega, rfl, J2.out, O2.out⟩
          | false =>
            cases hm2 : m'.dark with
            | true =>
              rw [hm2] at da2
              have DA2 := Lib.hid da2
              have hn0 : 0 ≤ n := by
                rcases Int.lt_or_le n 0 with h | h
                · have := (s7 h).2; rw [hm2] at this; cases this
                · exact h
              have hdn : (m.deeds : Int) = n := by have h5 := s6 hn0; have := h5.2.2 hm2; have := h5.2.1; omega
              rw [hdn] at DE2
              have hng : ¬ n < n := by omega
              rw [hdn]
              clear s6 s7 de2 da2 d2 d3 hmd hm2 hdn
              go_wp2_with fail
              repeat (first
                | (refine DE2.out.mono ?_; rintro e w4 ⟨rfl, rfl⟩; go_wp2_with fail)
                | (refine DA2.out.mono ?_; rintro e w4 ⟨rfl, rfl⟩; go_wp2_with fail))
              go_roundg (100 - i)
              case measure => omega
              case rel => exact ⟨i + 1, m', by omega, by omega, by omega, rfl, J2.out, O2.out⟩
            | false =>
              rw [hm2] at da2
              have DA2 := Lib.hid da2
              by_cases hn0 : 0 ≤ n
              · have hng : ¬ n < (m.deeds : Int) := by have := (s6 hn0).2.1; omega
                clear s6 s7 de2 da2 d2 d3 hmd hm2
                go_wp2_with fail
                repeat (first
                  | (refine DE2.out.mono ?_; rintro e w4 ⟨rfl, rfl⟩; go_wp2_with fail)
                  | (refine DA2.out.mono ?_; rintro e w4 ⟨rfl, rfl⟩; go_wp2_with fail))
                go_roundg (100 - i)
                case measure => omega
                case rel => exact ⟨i + 1, m', by omega, by omega, by omega, rfl, J2.out, O2.out⟩
              · clear s6 s7 de2 da2 d2 d3 hmd hm2
                go_wp2_with fail
                repeat (first
                  | (refine DE2.out.mono ?_; rintro e w4 ⟨rfl, rfl⟩; go_wp2_with fail)
                  | (refine DA2.out.mono ?_; rintro e w4 ⟨rfl, rfl⟩; go_wp2_with fail))
                go_roundg (100 - i)
                case measure => omega
                case rel => exact ⟨i + 1, m', by omega, by omega, by omega, rfl, J2.out, O2.out⟩
    · have CR := Lib.hid (HO.out.crash (by have := HJ.out.2.2.1; omega) 0 (by omega))
      have hdd : m.deeds ≤ 100 := by have := HJ.out.2.2.2.1; omega
      have hcase : ¬ i < ds.length ∨ (i < ds.length ∧ ¬ i < 100) := by
        rcases Nat.lt_or_ge i ds.length with h | h
        · exact .inr ⟨h, fun h2 => hend ⟨h, h2⟩⟩
        · exact .inl (by omega)
      rcases hcase with h1 | ⟨h1, h2⟩
      · have h1' : ¬ (i : Int) < (ds.length : Int) := by omega
        go_wp2_with fail
        refine CR.out.mono ?_
        rintro e w4 ⟨⟨v4, rfl⟩, o4⟩
        have DA := Lib.hid o4.choose_spec.1.dark
        have FL := Lib.hid (o4.flush ⟨by show 0 + 1 ≤ 1000000; omega, by show m.deeds ≤ _; omega, by show 0 ≤ 9223372036854775807; omega⟩)
        rw [show (m.crash 0).dark = false from rfl] at DA
        rw [show (m.crash 0).flushR = 0 from rfl] at FL
        clear o4 CR
        go_wp2_with fail
        refine DA.out.mono ?_
        rintro e w5 ⟨rfl, rfl⟩
        go_wp2_with fail
        refine FL.out.mono ?_
        rintro e w5 ⟨rfl, o5⟩
        have O5 := Lib.hid o5.bel
        clear o5
        go_wp2_with fail
        go_ret
        exact ⟨rfl, O5.out⟩
      · have h1' : (i : Int) < (ds.length : Int) := by omega
        have h2' : ¬ (i : Int) < 100 := by omega
        go_wp2_with fail
        refine CR.out.mono ?_
        rintro e w4 ⟨⟨v4, rfl⟩, o4⟩
        have DA := Lib.hid o4.choose_spec.1.dark
        have FL := Lib.hid (o4.flush ⟨by show 0 + 1 ≤ 1000000; omega, by show m.deeds ≤ _; omega, by show 0 ≤ 9223372036854775807; omega⟩)
        rw [show (m.crash 0).dark = false from rfl] at DA
        rw [show (m.crash 0).flushR = 0 from rfl] at FL
        clear o4 CR
        go_wp2_with fail
        refine DA.out.mono ?_
        rintro e w5 ⟨rfl, rfl⟩
        go_wp2_with fail
        refine FL.out.mono ?_
        rintro e w5 ⟨rfl, o5⟩
        have O5 := Lib.hid o5.bel
        clear o5
        go_wp2_with fail
        go_ret
        exact ⟨rfl, O5.out⟩
end Go.Proofs.Ytmcgjlidfgbdfaa
