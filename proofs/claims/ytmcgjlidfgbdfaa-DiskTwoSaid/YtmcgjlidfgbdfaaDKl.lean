/- DiskTwo walked. -/
import Derived.Test.YtmcgjlidfgbdfaaDKk
import Derived.Deep.RegionHeld3
namespace Go.Proofs.Ytmcgjlidfgbdfaa
open Go.RowKit

set_option maxRecDepth 100000 in
set_option maxHeartbeats 8000000 in
theorem diskTwo_all (a : Option Addr) (c : Nat) (xs : List ActG) (ev : Nat) (w : World) (hA : CameA w a xs) (hev : ev < 256) :
    Calls Try.prog 7 #[.slice a xs.length c, .int .u8 (ev : Nat)] w fun e w' => e = .returned (.bool true) ∧ Below w.heap.size w w' := by
  have HA := Lib.hid hA
  clear hA
  go_enter Try.func7, Try.ntmps7
  go_wp2_with fail
  refine (awake_any _).mono ?_
  rintro e w1 ⟨rfl, b1⟩
  have N := Lib.hid (OwnD.new w 8 64 w1 b1 (by omega) (by omega) (by omega) (by omega))
  clear b1
  go_wp2_with fail
  refine N.out.mono ?_
  rintro e w2 ⟨p, rfl, o2⟩
  have N2 := Lib.hid (o2.second 8 64 (by omega) (by omega) (by omega) (by omega))
  clear o2 N
  go_wp2_with fail
  refine N2.out.mono ?_
  rintro e w3 ⟨q, rfl, o3⟩
  have O3 := Lib.hid o3
  clear o3 N2
  go_upto_block 0 with fail
  go_cut [9] from 25 to 71 (fun _ wq => ∃ m1 m2, Alike 100 m1 m2 ∧ Own2 w wq p q m1 m2)
  case first =>
    go_wp2_with fail
    go_loopg [9] 101 (fun j s9 wr => ∃ (i : Nat) (m1 m2 : Mod), i ≤ xs.length ∧ i ≤ 100 ∧ 100 < i + j ∧ s9 = .int .i64 (i : Nat) ∧ Alike i m1 m2 ∧ Own2 w wr p q m1 m2)
    case atStart => exact ⟨0, _, _, by omega, by omega, by omega, rfl, Alike.new, O3.out⟩
    case round =>
      obtain ⟨i, m1, m2, hi, hi2, hj, rfl, hJ, ho⟩ := hrel
      clear O3
      have HJ := Lib.hid hJ
      have HO := Lib.hid ho
      have up : ∀ {m : Mod}, Lit i m → Lit 100 m := fun h => ⟨h.n, h.size, h.dark, h.fused, h.fuse, by have := h.waits; omega, by have := h.deeds; omega⟩
      have hfin : Hid (∃ m1 m2, Alike 100 m1 m2 ∧ Own2 w wr p q m1 m2) := Lib.hid ⟨m1, m2, ⟨up hJ.l1, up hJ.l2, hJ.same, hJ.deeds⟩, ho⟩
      clear hJ ho up
      by_cases h1 : i < xs.length
      · have h1' : (i : Int) < (xs.length : Int) := by omega
        by_cases h2 : i < 100
        · have h2' : (i : Int) < 100 := by omega
          obtain ⟨ab, off, rfl, hab, c0, c1, c2, -⟩ := (HA.out.below HO.out.bel).cell i h1
          obtain ⟨ya, yb, yc, yd, ye⟩ := HJ.out.write xs[i].i xs[i].b
          have hR := HJ.out.writeR xs[i].i xs[i].b.length
          have HM2 : Hid (m2.deeds ≤ 2 * i + 5) := Lib.hid HJ.out.l2.deeds
          have bd := (Below.refl wr.heap.size wr).drew
          have habw : ab < wr.heap.size := Nat.lt_of_lt_of_le (World.block_lt_of_cell? wr _ c1) (Nat.le_refl _)
          have CELLS : ∀ W : World, Below w.heap.size w W → W.cell? ⟨ab, off + i * 4 + 1, none⟩ = some (.int .i64 xs[i].i) ∧ W.cell? ⟨ab, off + i * 4 + 2, none⟩ = some (.slice xs[i].A xs[i].b.length xs[i].c) := fun W hW => by
            obtain ⟨ab', off', e', _, _, d1, d2, _⟩ := (HA.out.below hW).cell i h1
            cases e'
            exact ⟨d1, d2⟩
          have call1 : Calls Try.prog 19 #[.pointer (some ⟨p, 0, none⟩), .int .i64 xs[i].i, .slice xs[i].A xs[i].b.length xs[i].c] wr.drew fun e w4 => e = .returned (.int .i64 (m2.writeR xs[i].i xs[i].b.length)) ∧
              Hid (w4.cell? ⟨ab, off + i * 4 + 1, none⟩ = some (.int .i64 xs[i].i) ∧ w4.cell? ⟨ab, off + i * 4 + 2, none⟩ = some (.slice xs[i].A xs[i].b.length xs[i].c)) ∧
              Hid (Calls Try.prog 19 #[.pointer (some ⟨q, 0, none⟩), .int .i64 xs[i].i, .slice xs[i].A xs[i].b.length xs[i].c] w4 fun e w5 => e = .returned (.int .i64 (m2.writeR xs[i].i xs[i].b.length)) ∧
                Hid (w5.cell? ⟨ab, off + i * 4 + 1, none⟩ = some (.int .i64 xs[i].i) ∧ w5.cell? ⟨ab, off + i * 4 + 2, none⟩ = some (.slice xs[i].A xs[i].b.length xs[i].c)) ∧
                Hid (Own2 w w5 p q (m1.write xs[i].i xs[i].b) (m2.write xs[i].i xs[i].b))) := by
            have od := HO.out.below bd
            refine (od.write (HJ.out.l1.low (by omega)) xs[i].i xs[i].A xs[i].c xs[i].b ((HA.out.bytes i h1).1.below od.bel) (HA.out.far h1)).mono ?_
            rintro e w4 ⟨rfl, o4, -⟩
            refine ⟨by rw [hR], Lib.hid (CELLS w4 o4.bel), Lib.hid ?_⟩
            refine (o4.swap.write (HJ.out.l2.low (by omega)) xs[i].i xs[i].A xs[i].c xs[i].b ((HA.out.bytes i h1).1.below o4.bel) (HA.out.far h1)).mono ?_
            rintro e w5 ⟨rfl, o5, -⟩
            exact ⟨rfl, Lib.hid (CELLS w5 o5.bel), Lib.hid o5.swap⟩
          have C1 := Lib.hid call1
          have S0 : Hid (wr.drew.cell? ⟨ab, off + i * 4 + 1, none⟩ = some (.int .i64 xs[i].i) ∧ wr.drew.cell? ⟨ab, off + i * 4 + 2, none⟩ = some (.slice xs[i].A xs[i].b.length xs[i].c)) := Lib.hid ⟨c1, c2⟩
          have YA := Lib.hid ya
          have YB := Lib.hid yb
          have YC := Lib.hid yc
          have YD := Lib.hid yd
          have YE := Lib.hid ye
          generalize m1.write xs[i].i xs[i].b = n1 at *
          generalize m2.write xs[i].i xs[i].b = n2 at *
          generalize m2.writeR xs[i].i xs[i].b.length = rr at *
          clear call1 ya yb yc yd ye hR bd habw CELLS c0 c1 c2 hab
          go_wp2_with fail
          go_region_held3 (fun W' => W'.cell? ⟨ab, off + i * 4 + 1, none⟩ = some (.int .i64 xs[i].i) ∧ W'.cell? ⟨ab, off + i * 4 + 2, none⟩ = some (.slice xs[i].A xs[i].b.length xs[i].c)) (first | exact S0.out | exact S1.out | exact S2.out)
            (first
              | (go_at_call 19; (with_reducible refine C1.out.mono ?_); rintro e w4 ⟨rfl, S1, C2⟩)
              | (go_at_call 19; (with_reducible refine C2.out.mono ?_); rintro e w5 ⟨rfl, S2, FIN⟩))
          have hfl := FIN.out.swap.flush (YB.out.low (by omega))
          rw [YB.out.flushR] at hfl
          have FL := Lib.hid hfl
          clear hfl C1 C2 S0 S1 S2
          have hev7 : ¬ (1 + (ev : Int) % 7 = 0) := by omega
          go_wp2_with fail
          · refine FL.out.mono ?_
            rintro e w6 ⟨rfl, o6, -⟩
            have O6 := Lib.hid o6.swap
            clear o6 FL FIN
            go_wp2_with fail
            go_roundg (100 - i)
            case measure => omega
            case rel => exact ⟨i + 1, _, _, by omega, by omega, by omega, rfl, Alike.flush YA.out YB.out YC.out YD.out (by have := YE.out; have := HM2.out; omega), O6.out⟩
          · go_roundg (100 - i)
            case measure => omega
            case rel => exact ⟨i + 1, _, _, by omega, by omega, by omega, rfl, ⟨YA.out, YB.out, YC.out, YD.out⟩, FIN.out⟩
        · have h2' : ¬ (i : Int) < 100 := by omega
          go_wp2_with fail
          go_meet
          case rel => exact hfin.out
      · have h1' : ¬ (i : Int) < (xs.length : Int) := by omega
        go_wp2_with fail
        go_meet
        case rel => exact hfin.out
  case rest =>
    obtain ⟨m1, m2, hJ, ho⟩ := hcut
    have HJ := Lib.hid hJ
    have hn1 : m1.n ≤ 600 := by rw [hJ.l1.n]; omega
    have hn2 : m2.n ≤ 600 := by rw [hJ.l2.n]; omega
    have hw1 : m1.waits ≤ 1000000 := by have := hJ.l1.waits; omega
    have hw2 : m2.waits ≤ 1000000 := by have := hJ.l2.waits; omega
    have hd1 := Lib.hid hJ.l1.dark
    have hd2 := Lib.hid hJ.l2.dark
    have hlk : looks m2 = looks m1 := hJ.looks.symm
    have hlen : (looks m1).length = 8 := by rw [looks_length, hJ.l1.n]
    have DD := Lib.hid hJ.deeds
    have AL := Lib.hid (ho.all hw1 hd1.out hn1)
    clear O3 ho hJ
    go_wp2_with fail
    refine AL.out.mono ?_
    rintro e w4 ⟨v4, rfl, hr4, hb4, o4⟩
    obtain ⟨A4, c4, rfl, hc4, -⟩ := hr4.shape
    have al := o4.swap.all hw2 hd2.out hn2
    rw [hlk] at al
    have AL2 := Lib.hid al
    rw [hlen] at hr4 hc4 ⊢
    have R4 := Lib.hid hr4
    clear hr4 hb4 o4 AL al
    go_wp2_with fail
    refine AL2.out.mono ?_
    rintro e w5 ⟨v5, rfl, hr5, hb5, o5⟩
    obtain ⟨A5, c5, rfl, hc5, -⟩ := hr5.shape
    have CR := Lib.hid (o5.swap.crash hw1 ones (by decide))
    rw [hlen] at hr5 hc5 ⊢
    have R5 := Lib.hid hr5
    have P5 := Lib.hid (R4.out.below hb5)
    clear hr5 hb5 o5 AL2 R4
    rw [show ((ones : Nat) : Int) = 18446744073709551615 from rfl] at CR
    go_wp2_with fail
    refine CR.out.mono ?_
    rintro e w6 ⟨⟨v6, rfl⟩, o6, s6⟩
    have cr := o6.swap.crash hw2 ones (by decide)
    rw [show ((ones : Nat) : Int) = 18446744073709551615 from rfl] at cr
    have CR2 := Lib.hid cr
    have R6 := Lib.hid (R5.out.still s6)
    have P6 := Lib.hid (P5.out.still s6)
    clear o6 s6 cr CR R5 P5
    go_wp2_with fail
    refine CR2.out.mono ?_
    rintro e w7 ⟨⟨v7, rfl⟩, o7, s7⟩
    have al := o7.swap.all (by show 0 ≤ 1000000; omega) rfl hn1
    rw [looks_crash] at al
    have AL := Lib.hid al
    have R7 := Lib.hid (R6.out.still s7)
    have P7 := Lib.hid (P6.out.still s7)
    clear o7 s7 al CR2 R6 P6
    go_wp2_with fail
    refine AL.out.mono ?_
    rintro e w8 ⟨v8, rfl, hr8, hb8, o8⟩
    obtain ⟨A8, c8, rfl, hc8, -⟩ := hr8.shape
    have al := o8.swap.all (by show 0 ≤ 1000000; omega) rfl hn2
    rw [looks_crash, hlk] at al
    have AL2 := Lib.hid al
    rw [hlen] at hr8 hc8 ⊢
    have R8 := Lib.hid (R7.out.below hb8)
    have P8 := Lib.hid (P7.out.below hb8)
    have Q8 := Lib.hid hr8
    clear hr8 hb8 o8 al AL R7 P7
    go_wp2_with fail
    refine AL2.out.mono ?_
    rintro e w9 ⟨v9, rfl, hr9, hb9, o9⟩
    obtain ⟨A9, c9, rfl, hc9, -⟩ := hr9.shape
    rw [hlen] at hr9 hc9 ⊢
    have get : ∀ {base : Nat} {A : Option Addr} {c : Nat} (k : Nat), k < 8 → SRow w9 base (.slice A 8 c) (looks m1) → ∃ g, A = some ⟨g, 0, none⟩ ∧ w9.cell? ⟨g, k, none⟩ = some (.string (look m1 k)) := by
      intro base A c k hk h
      obtain ⟨A', c', e, _, hc⟩ := h.shape
      injection e with e1 e2 e3
      subst e1
      obtain ⟨g, hg, _, _, hz⟩ := hc k (by rw [hlen]; exact hk)
      rw [looks_at] at hz
      exact ⟨g, hg, hz⟩
    have G4 := Lib.hid (fun (k : Nat) (hk : k < 8) => get k hk (P8.out.below hb9))
    have G5 := Lib.hid (fun (k : Nat) (hk : k < 8) => get k hk (R8.out.below hb9))
    have G8 := Lib.hid (fun (k : Nat) (hk : k < 8) => get k hk (Q8.out.below hb9))
    have G9 := Lib.hid (fun (k : Nat) (hk : k < 8) => get k hk hr9)
    have O9 := Lib.hid o9.swap
    clear get hr9 hb9 o9 AL2 R8 P8 Q8 hlk hlen hd1 hd2 HJ
    generalize hk1 : m1.crash ones = k1 at *
    generalize hk2 : m2.crash ones = k2 at *
    have e1 : k1.deeds = m1.deeds := by rw [← hk1]; rfl
    have e2 : k2.deeds = m2.deeds := by rw [← hk2]; rfl
    have e3 : k1.waits = 0 := by rw [← hk1]; rfl
    have E1 := Lib.hid e1
    have E2 := Lib.hid e2
    have E3 := Lib.hid e3
    clear hk1 hk2 e1 e2 e3 hn1 hn2 hw1 hw2
    go_wp2_with fail
    go_loopg [14] 9 (fun j s14 wr => ∃ k n : Nat, k ≤ 8 ∧ 8 < k + j ∧ s14 = .int .i64 (k : Nat) ∧ wr = w9.drewN n)
    case atStart => exact ⟨0, 0, by omega, by omega, rfl, rfl⟩
    case round =>
      obtain ⟨k, n, hk, hj, rfl, rfl⟩ := hrel
      by_cases hend : k = 8
      · subst hend
        have o10 := O9.out.below (below_drewN (Below.refl _ _) n)
        have D2 := o10.swap.one.choose_spec.1.deeds
        have D1 := o10.one.choose_spec.1.deeds
        have WT := o10.one.choose_spec.1.waits
        rw [E2.out] at D2
        rw [E1.out] at D1
        rw [E3.out] at WT
        have HD2 := Lib.hid D2
        have HD1 := Lib.hid D1
        have HWT := Lib.hid WT
        have FIN := Lib.hid (below_drewN O9.out.bel n)
        have hge : (m1.deeds : Int) ≤ (m2.deeds : Int) := by have := DD.out; omega
        clear D1 D2 WT o10 G4 G5 G8 G9
        go_wp2_with fail
        refine HD2.out.mono ?_
        rintro e wa ⟨rfl, rfl⟩
        go_wp2_with fail
        refine HD1.out.mono ?_
        rintro e wa ⟨rfl, rfl⟩
        go_wp2_with fail
        refine HWT.out.mono ?_
        rintro e wa ⟨rfl, rfl⟩
        go_wp2_with fail
        go_ret
        exact ⟨rfl, FIN.out⟩
      · have hlt : (k : Int) < 8 := by omega
        have hk8 : k < 8 := by omega
        obtain ⟨g4, rfl, z4⟩ := G4.out k hk8
        obtain ⟨g5, rfl, z5⟩ := G5.out k hk8
        obtain ⟨g8, rfl, z8⟩ := G8.out k hk8
        obtain ⟨g9, rfl, z9⟩ := G9.out k hk8
        generalize look m1 k = y at *
        have hc4' : (8 : Int) ≤ (c4 : Int) := by omega
        have hc5' : (8 : Int) ≤ (c5 : Int) := by omega
        have hc8' : (8 : Int) ≤ (c8 : Int) := by omega
        have hc9' : (8 : Int) ≤ (c9 : Int) := by omega
        go_wp2_with fail
        go_quiet (fail)
        go_wp2_with fail
        go_roundg (8 - k)
        case measure => omega
        case rel => exact ⟨k + 1, n + nq, by omega, by omega, rfl, rfl⟩
end Go.Proofs.Ytmcgjlidfgbdfaa
