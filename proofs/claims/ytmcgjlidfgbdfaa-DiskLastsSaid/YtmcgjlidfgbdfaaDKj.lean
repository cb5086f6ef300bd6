/- DiskLasts walked. -/
import Derived.Test.YtmcgjlidfgbdfaaDKi
import Derived.StillTailTactics
import Derived.Deep.CutBlock
namespace Go.Proofs.Ytmcgjlidfgbdfaa
open Go.RowKit

/-- what holds behind some writes behind the flush: F ahead of them, T the sectors that were touched. -/
structure Since (F m : Mod) (T : List Bool) (j : Nat) : Prop where
  lit : Lit (101 + j) m
  len : T.length = 8
  zero : ∀ k, m.cont 0 k = F.cont ones k
  same : ∀ k, T[k]? = some false → ∀ p, m.cont p k = F.cont ones k
theorem Since.start {m : Mod} {j : Nat} (h : Lit j m) (hj : j ≤ 100) : Since m.flush m.flush (List.replicate 8 false) 0 := by
  have e := h.flush
  refine ⟨⟨?_, ?_, ?_, ?_, ?_, ?_, ?_⟩, by simp, fun k => ?_, fun k _ p => ?_⟩ <;> rw [e]
  · exact h.n
  · exact h.size
  · exact h.dark
  · exact h.fused
  · exact h.fuse
  · exact Nat.zero_le _
  · have := h.deeds; show m.deeds + 1 ≤ _; omega
theorem Since.no {F m m' : Mod} {T : List Bool} {j : Nat} (h : Since F m T j) (e : m' = m) : Since F m' T (j + 1) := by
  subst e
  exact ⟨⟨h.lit.n, h.lit.size, h.lit.dark, h.lit.fused, h.lit.fuse, by have := h.lit.waits; omega, by have := h.lit.deeds; omega⟩, h.len, h.zero, h.same⟩
theorem Since.yes {F m m' : Mod} {T : List Bool} {j k n : Nat} {b : List UInt8} (h : Since F m T j) (hl : Lit (101 + (j + 1)) m') (hc : ∀ p x, m'.cont p x = if x = k ∧ bit p n = true then b else m.cont p x) : Since F m' (T.set k true) (j + 1) := by
  refine ⟨hl, by rw [List.length_set]; exact h.len, fun x => ?_, fun x hx p => ?_⟩
  · rw [hc, bit_zero, if_neg (by simp)]
    exact h.zero x
  · by_cases e : k = x
    · subst e
      rw [List.getElem?_set] at hx
      split at hx
      · split at hx <;> simp at hx
      · rename_i hne; exact absurd rfl hne
    · rw [List.getElem?_set_ne e] at hx
      rw [hc, if_neg (fun h => e h.1.symm)]
      exact h.same x hx p
def boolC (T : List Bool) : Array Value := (T.map fun b => Value.bool b).toArray
set_option maxRecDepth 100000 in
set_option maxHeartbeats 16000000 in
theorem diskLasts_all (a : Option Addr) (c : Nat) (xs : List ActG) (b : Option Addr) (d : Nat) (ys : List ActG) (pt : Nat) (w : World) (hA : CameA w a xs) (hB : CameA w b ys) (hpt : pt < 18446744073709551616) :
    Calls Try.prog 4 #[.slice a xs.length c, .slice b ys.length d, .int .u64 (pt : Nat)] w fun e w' => e = .returned (.bool true) ∧ Below w.heap.size w w' := by
  have HA := Lib.hid hA
  have HB := Lib.hid hB
  clear hA hB
  go_enter Try.func4, Try.ntmps4
  go_wp2_with fail
  refine (awake_any _).mono ?_
  rintro e w1 ⟨rfl, b1⟩
  have N := Lib.hid (OwnD.new w 8 64 w1 b1 (by omega) (by omega) (by omega) (by omega))
  clear b1
  go_wp2_with fail
  refine N.out.mono ?_
  rintro e w2 ⟨p, rfl, o2⟩
  have O2 := Lib.hid o2
  clear o2 N
  go_upto_block 0 with fail
  go_cut [9] from 22 to 43 (fun _ wq => ∃ m, Lit 100 m ∧ OwnD w wq p m)
  case first =>
    go_wp2_with fail
    go_loopg [9] 101 (fun j s9 wr => ∃ (i : Nat) (m : Mod), i ≤ xs.length ∧ i ≤ 100 ∧ 100 < i + j ∧ s9 = .int .i64 (i : Nat) ∧ Lit i m ∧ OwnD w wr p m)
    case atStart => exact ⟨0, _, by omega, by omega, by omega, rfl, Lit.new, O2.out⟩
    case round =>
      obtain ⟨i, m, hi, hi2, hj, rfl, hJ, ho⟩ := hrel
      clear O2
      have HJ := Lib.hid hJ
      have HO := Lib.hid ho
      have hfin : Hid (∃ m, Lit 100 m ∧ OwnD w wr p m) := Lib.hid ⟨m, ⟨hJ.n, hJ.size, hJ.dark, hJ.fused, hJ.fuse, by have := hJ.waits; omega, by have := hJ.deeds; omega⟩, ho⟩
      clear hJ ho
      by_cases h1 : i < xs.length
      · have h1' : (i : Int) < (xs.length : Int) := by omega
        by_cases h2 : i < 100
        · have h2' : (i : Int) < 100 := by omega
          obtain ⟨ab, off, rfl, hab, c0, c1, c2, -⟩ := (HA.out.below HO.out.bel).cell i h1
          have WR := Lib.hid ((HO.out.below (Below.refl _ wr).drew).write (HJ.out.low (by omega)) xs[i].i xs[i].A xs[i].c xs[i].b ((HA.out.bytes i h1).1.below (HO.out.below (Below.refl _ wr).drew).bel) (HA.out.far h1))
          have LW := Lib.hid (HJ.out.write xs[i].i xs[i].b)
          go_wp2_with fail
          go_still_tail 11, (by kernel_rfl)
          change wpList _ _ _ _ _ (World.drew _)
          go_wp2_with fail
          refine WR.out.mono ?_
          rintro e w4 ⟨rfl, o4⟩
          have O4 := Lib.hid o4
          clear o4 WR
          go_wp2_with fail
          go_roundg (100 - i)
          case measure => omega
          case rel => exact ⟨i + 1, _, by omega, by omega, by omega, rfl, LW.out.1, O4.out⟩
        · have h2' : ¬ (i : Int) < 100 := by omega
          go_wp2_with fail
          go_meet
          case rel => exact hfin.out
      · have h1' : ¬ (i : Int) < (xs.length : Int) := by omega
        go_wp2_with fail
        go_meet
        case rel => exact hfin.out
  case rest =>
    obtain ⟨m, hl, ho⟩ := hcut
    have FL := Lib.hid (ho.flush (hl.low (by omega)))
    rw [hl.flushR] at FL
    have SS := Lib.hid (Since.start hl (by omega))
    generalize m.flush = F at *
    have HFn := SS.out.lit
    clear ho O2 hl
    go_wp2_with fail
    refine FL.out.mono ?_
    rintro e w3 ⟨rfl, o3⟩
    have AL := Lib.hid (o3.all (by have := HFn.waits; omega) HFn.dark (by rw [HFn.n]; omega))
    clear o3 FL
    go_wp2_with fail
    refine AL.out.mono ?_
    rintro e w4 ⟨v4, rfl, hr4, -, o4⟩
    obtain ⟨A4, c4, rfl, hc4, -⟩ := hr4.shape
    rw [looks_length, HFn.n] at hr4 hc4 ⊢
    go_upto_block 2 with fail
    have bal : Below w4.heap.size w4 (w4.alloc (.cells #[.bool false, .bool false, .bool false, .bool false, .bool false, .bool false, .bool false, .bool false] 47)) := (Below.refl _ _).alloc (Nat.le_refl _) _
    have hT : Whole (w4.alloc (.cells #[.bool false, .bool false, .bool false, .bool false, .bool false, .bool false, .bool false, .bool false] 47)) w4.heap.size 47 (boolC (List.replicate 8 false)) := Whole.new _ _ _
    have htb := o4.bel.size
    generalize hw5 : w4.alloc (.cells #[.bool false, .bool false, .bool false, .bool false, .bool false, .bool false, .bool false, .bool false] 47) = w5 at *
    have R5 := Lib.hid (hr4.below bal)
    have O5 := Lib.hid (o4.below bal)
    have T5 := Lib.hid hT
    clear hr4 o4 AL bal hT
    generalize w3.heap.size = base at *
    generalize w4.heap.size = tb at *
    have HTB := Lib.hid htb
    clear htb
    go_cut [12] from 50 to 78 (fun _ wq => ∃ m T, Since F m T 100 ∧ OwnD w wq p m ∧ Whole wq tb 47 (boolC T) ∧ SRow wq base (.slice A4 8 c4) (looks F))
    case first =>
      go_wp2_with fail
      go_loopg [12] 101 (fun j s12 wr => ∃ (i : Nat) (m : Mod) (T : List Bool), i ≤ ys.length ∧ i ≤ 100 ∧ 100 < i + j ∧ s12 = .int .i64 (i : Nat) ∧ Since F m T i ∧ OwnD w wr p m ∧ Whole wr tb 47 (boolC T) ∧ SRow wr base (.slice A4 8 c4) (looks F))
      case atStart => exact ⟨0, _, _, by omega, by omega, by omega, rfl, SS.out, O5.out, T5.out, R5.out⟩
      case round =>
        obtain ⟨i, m, T, hi, hi2, hj, rfl, hJ, ho, hT, hR⟩ := hrel
        clear O5 T5 R5 SS
        have HJ := Lib.hid hJ
        have HO := Lib.hid ho
        have HT := Lib.hid hT
        have HR := Lib.hid hR
        have hfin : Hid (∃ m T, Since F m T 100 ∧ OwnD w wr p m ∧ Whole wr tb 47 (boolC T) ∧ SRow wr base (.slice A4 8 c4) (looks F)) := Lib.hid ⟨m, T, ⟨⟨hJ.lit.n, hJ.lit.size, hJ.lit.dark, hJ.lit.fused, hJ.lit.fuse, by have := hJ.lit.waits; omega, by have := hJ.lit.deeds; omega⟩, hJ.len, hJ.zero, hJ.same⟩, ho, hT, hR⟩
        clear hJ ho hT hR
        by_cases h1 : i < ys.length
        · have h1' : (i : Int) < (ys.length : Int) := by omega
          by_cases h2 : i < 100
          · have h2' : (i : Int) < 100 := by omega
            obtain ⟨ab, off, rfl, hab, c0, c1, c2, -⟩ := (HB.out.below HO.out.bel).cell i h1
            have wr0 := (HO.out.below (Below.refl _ wr).drew).writeS (HJ.out.lit.low (by omega)) ys[i].i ys[i].A ys[i].c ys[i].b ((HB.out.bytes i h1).1.below (HO.out.below (Below.refl _ wr).drew).bel) (HB.out.far h1)
            have lw := HJ.out.lit.write ys[i].i ys[i].b
            have LW := Lib.hid lw.1
            rcases lw.2 with ⟨h0, k, hk8, hki, -, hcon⟩ | ⟨h0, hsame⟩
            · rw [h0] at wr0
              have WR := Lib.hid wr0
              have HC := Lib.hid hcon
              have NX := Lib.hid (HJ.out.yes LW.out hcon)
              have hTk : k < T.length := by rw [HJ.out.len]; exact hk8
              have hk8' : (k : Int) < 8 := by omega
              have HKI := Lib.hid hki
              clear wr0 lw hcon h0 hki
              go_wp2_with fail
              go_still_tail 11, (by kernel_rfl)
              change wpList _ _ _ _ _ (World.drew _)
              go_wp2_with fail
              refine WR.out.mono ?_
              rintro e w6 ⟨rfl, o6, s6⟩
              obtain ⟨ab', off', e', hab', -, c1', -, -⟩ := (HB.out.below o6.bel).cell i h1
              cases e'
              rw [HKI.out] at c1'
              have st6 := (Still.of_below ((Below.refl wr.heap.size wr).drew)).trans s6
              have t6 := HT.out.still st6 (by decide) (by decide) (by decide)
              have ck := t6.cell k
              rw [show (boolC T)[k]? = some (.bool T[k]) by simp [boolC, hTk]] at ck
              have fk := t6.frozen k
              have O7 := Lib.hid (o6.poke t6 (by decide) (by decide) (by decide) (by decide) HTB.out k (.bool true))
              have t7 := t6.set_ k (.bool true)
              rw [show (boolC T).setIfInBounds k (.bool true) = boolC (T.set k true) by simp [boolC]] at t7
              have T7 := Lib.hid t7
              have R7 : Hid (SRow (w6.setCell ⟨tb, k, none⟩ (.bool true)) base (.slice A4 8 c4) (looks F)) := Lib.hid ((HR.out.still st6).of_heap fun g e => heap_set_other _ _ _ _ _ (fun e' => by
                obtain ⟨cur, hc⟩ := row_kind (HR.out.still st6) e
                rw [e'] at hc
                unfold Whole at t6
                rw [t6] at hc
                simp at hc))
              clear o6 s6 st6 t6 t7 WR
              go_wp2_with fail
              go_roundg (100 - i)
              case measure => omega
              case rel => exact ⟨i + 1, _, _, by omega, by omega, by omega, rfl, NX.out, O7.out, T7.out, R7.out⟩
            · generalize hrr : m.writeR ys[i].i ys[i].b.length = rr at *
              rw [hsame] at wr0
              have WR := Lib.hid wr0
              have NX := Lib.hid (HJ.out.no (m' := m) rfl)
              clear wr0 lw hsame hrr
              go_wp2_with fail
              go_still_tail 11, (by kernel_rfl)
              change wpList _ _ _ _ _ (World.drew _)
              go_wp2_with fail
              refine WR.out.mono ?_
              rintro e w6 ⟨rfl, o6, s6⟩
              have st6 := (Still.of_below ((Below.refl wr.heap.size wr).drew)).trans s6
              have O6 := Lib.hid o6
              have T6 := Lib.hid (HT.out.still st6 (by decide) (by decide) (by decide))
              have R6 := Lib.hid (HR.out.still st6)
              clear o6 s6 st6 WR
              go_wp2_with fail
              go_roundg (100 - i)
              case measure => omega
              case rel => exact ⟨i + 1, _, _, by omega, by omega, by omega, rfl, NX.out, O6.out, T6.out, R6.out⟩
          · have h2' : ¬ (i : Int) < 100 := by omega
            go_wp2_with fail
            go_meet
            case rel => exact hfin.out
        · have h1' : ¬ (i : Int) < (ys.length : Int) := by omega
          go_wp2_with fail
          go_meet
          case rel => exact hfin.out
    case rest =>
      obtain ⟨m, T, hJ, ho, hT, hR⟩ := hcut
      have AL := Lib.hid (ho.all (by have := hJ.lit.waits; omega) hJ.lit.dark (by rw [hJ.lit.n]; omega))
      have HJ := Lib.hid hJ
      have HT := Lib.hid hT
      have HR := Lib.hid hR
      clear O5 T5 R5 SS ho hT hR hJ
      go_wp2_with fail
      refine AL.out.mono ?_
      rintro e w6 ⟨v6, rfl, hr6, hb6, o6⟩
      obtain ⟨A6, c6, rfl, hc6, -⟩ := hr6.shape
      have CR := Lib.hid (o6.crashS (by have := HJ.out.lit.waits; omega) pt hpt)
      rw [looks_length, HJ.out.lit.n] at hr6 hc6 ⊢
      have R6 := Lib.hid hr6
      have T6 := Lib.hid (HT.out.below hb6 HT.out.lt)
      have P6 := Lib.hid (HR.out.below hb6)
      clear hr6 hb6 o6 AL HT HR
      generalize wc.heap.size = base6 at *
      go_wp2_with fail
      refine CR.out.mono ?_
      rintro e w7 ⟨⟨v7, rfl⟩, o7, s7⟩
      have AL := Lib.hid (o7.all (by show 0 ≤ 1000000; omega) rfl (by show m.n ≤ 600; rw [HJ.out.lit.n]; omega))
      have R7 := Lib.hid (R6.out.still s7)
      have T7 := Lib.hid (T6.out.still s7 (by decide) (by decide) (by decide))
      have P7 := Lib.hid (P6.out.still s7)
      clear o7 s7 CR R6 T6 P6
      go_wp2_with fail
      refine AL.out.mono ?_
      rintro e w8 ⟨v8, rfl, hr8, hb8, o8⟩
      obtain ⟨A8, c8, rfl, hc8, -⟩ := hr8.shape
      rw [looks_length, show (m.crash pt).n = 8 from HJ.out.lit.n] at hr8 hc8 ⊢
      have O8 := Lib.hid o8
      have K8 := Lib.hid hr8
      have R8 := Lib.hid (R7.out.below hb8)
      have T8 := Lib.hid (T7.out.below hb8 T7.out.lt)
      have P8 := Lib.hid (P7.out.below hb8)
      clear hr8 hb8 o8 AL R7 T7 P7
      go_wp2_with fail
      go_loopg [15] 9 (fun j s15 wr => ∃ k n : Nat, k ≤ 8 ∧ 8 < k + j ∧ s15 = .int .i64 (k : Nat) ∧ wr = w8.drewN n)
      case atStart => exact ⟨0, 0, by omega, by omega, rfl, rfl⟩
      case round =>
        obtain ⟨k, n, hk, hj, rfl, rfl⟩ := hrel
        by_cases hend : k = 8
        · subst hend
          have WT := Lib.hid (((O8.out.below (below_drewN (Below.refl _ _) n)).choose_spec.1).waits)
          rw [show (m.crash pt).waits = 0 from rfl] at WT
          have FIN := Lib.hid (below_drewN O8.out.bel n)
          go_wp2_with fail
          refine WT.out.mono ?_
          rintro e w9 ⟨rfl, rfl⟩
          go_wp2_with fail
          go_ret
          exact ⟨rfl, FIN.out⟩
        · have hlt : (k : Int) < 8 := by omega
          have hk8 : k < 8 := by omega
          have hTk : k < T.length := by rw [HJ.out.len]; exact hk8
          have zt : w8.cell? ⟨tb, k, none⟩ = some (.bool T[k]) := (T8.out.cell k).trans (by simp [boolC, hTk])
          have get : ∀ {base : Nat} {A : Option Addr} {c : Nat} {x : Mod}, x.n = 8 → SRow w8 base (.slice A 8 c) (looks x) → ∃ g, A = some ⟨g, 0, none⟩ ∧ w8.cell? ⟨g, k, none⟩ = some (.string (look x k)) := by
            intro base A c x hx h
            obtain ⟨A', c', e, _, hc⟩ := h.shape
            injection e with e1 e2 e3
            subst e1
            obtain ⟨g, hg, _, _, hz⟩ := hc k (by rw [looks_length, hx]; exact hk8)
            rw [looks_at] at hz
            exact ⟨g, hg, hz⟩
          obtain ⟨g8, rfl, z8⟩ := get (show (m.crash pt).n = 8 from HJ.out.lit.n) K8.out
          obtain ⟨g6, rfl, z6⟩ := get HJ.out.lit.n R8.out
          obtain ⟨g4, rfl, z4⟩ := get HFn.n P8.out
          have E1 : T[k] = false → look (m.crash pt) k = look F k := fun e => by
            have := HJ.out.same k (by rw [List.getElem?_eq_getElem hTk, e]) pt
            unfold look
            rw [show (m.crash pt).cont ones k = m.cont pt k from rfl, show (m.crash pt).size = m.size from rfl, this, HJ.out.lit.size, HFn.size]
          have E2 : pt = ones → look (m.crash pt) k = look m k := fun e => by
            unfold look
            rw [show (m.crash pt).cont ones k = m.cont pt k from rfl, show (m.crash pt).size = m.size from rfl, e]
          have E3 : pt = 0 → look (m.crash pt) k = look F k := fun e => by
            unfold look
            rw [show (m.crash pt).cont ones k = m.cont pt k from rfl, show (m.crash pt).size = m.size from rfl, e, HJ.out.zero k, HJ.out.lit.size, HFn.size]
          clear get
          generalize look (m.crash pt) k = y8 at *
          generalize look m k = y6 at *
          generalize look F k = y4 at *
          have hc4' : (8 : Int) ≤ (c4 : Int) := by omega
          have hc6' : (8 : Int) ≤ (c6 : Int) := by omega
          have hc8' : (8 : Int) ≤ (c8 : Int) := by omega
          cases hTv : T[k] with
          | true =>
            rw [hTv] at zt
            clear hTv E1 hTk
            by_cases p1 : pt = ones
            · have p1' : (pt : Int) = 18446744073709551615 := by rw [p1]; rfl
              have q1 : ((pt : Int) == 18446744073709551615) = true := by simp; omega
              have q0 : ((pt : Int) == 0) = false := by simp; omega
              have e2 := E2 p1
              subst e2
              clear p1' p1 E2 E3 hpt
              go_wp2_with fail
              go_quiet (fail)
              go_wp2_with fail
              go_roundg (8 - k)
              case measure => omega
              case rel => exact ⟨k + 1, n + nq, by omega, by omega, rfl, rfl⟩
            · have p1' : ¬ (pt : Int) = 18446744073709551615 := fun e => p1 (by unfold ones; omega)
              by_cases p0 : pt = 0
              · have p0' : (pt : Int) = 0 := by omega
                have q1 : ((pt : Int) == 18446744073709551615) = false := by simp; omega
                have q0 : ((pt : Int) == 0) = true := by simp; omega
                have e3 := E3 p0
                subst e3
                clear p1' p1 p0' p0 E2 E3 hpt
                go_wp2_with fail
                go_quiet (fail)
                go_wp2_with fail
                go_roundg (8 - k)
                case measure => omega
                case rel => exact ⟨k + 1, n + nq, by omega, by omega, rfl, rfl⟩
              · have p0' : ¬ (pt : Int) = 0 := by omega
                have q1 : ((pt : Int) == 18446744073709551615) = false := by simp; omega
                have q0 : ((pt : Int) == 0) = false := by simp; omega
                clear p1' p1 p0' p0 E2 E3 hpt
                go_wp2_with fail
                go_quiet (fail)
                go_wp2_with fail
                go_roundg (8 - k)
                case measure => omega
                case rel => exact ⟨k + 1, n + nq, by omega, by omega, rfl, rfl⟩
          | false =>
            rw [hTv] at zt
            have e1 := E1 hTv
            subst e1
            clear hTv E1 hTk
            by_cases p1 : pt = ones
            · have p1' : (pt : Int) = 18446744073709551615 := by rw [p1]; rfl
              have q1 : ((pt : Int) == 18446744073709551615) = true := by simp; omega
              have q0 : ((pt : Int) == 0) = false := by simp; omega
              have e2 := E2 p1
              subst e2
              clear p1' p1 E2 E3 hpt
              go_wp2_with fail
              go_quiet (fail)
              go_wp2_with fail
              go_roundg (8 - k)
              case measure => omega
              case rel => exact ⟨k + 1, n + nq, by omega, by omega, rfl, rfl⟩
            · have p1' : ¬ (pt : Int) = 18446744073709551615 := fun e => p1 (by unfold ones; omega)
              by_cases p0 : pt = 0
              · have p0' : (pt : Int) = 0 := by omega
                have q1 : ((pt : Int) == 18446744073709551615) = false := by simp; omega
                have q0 : ((pt : Int) == 0) = true := by simp; omega
                have e3 := E3 p0
                clear p1' p1 p0' p0 E2 E3 hpt
                go_wp2_with fail
                go_quiet (fail)
                go_wp2_with fail
                go_roundg (8 - k)
                case measure => omega
                case rel => exact ⟨k + 1, n + nq, by omega, by omega, rfl, rfl⟩
              · have p0' : ¬ (pt : Int) = 0 := by omega
                have q1 : ((pt : Int) == 18446744073709551615) = false := by simp; omega
                have q0 : ((pt : Int) == 0) = false := by simp; omega
                clear p1' p1 p0' p0 E2 E3 hpt
                go_wp2_with fail
                go_quiet (fail)
                go_wp2_with fail
                go_roundg (8 - k)
                case measure => omega
                case rel => exact ⟨k + 1, n + nq, by omega, by omega, rfl, rfl⟩
end Go.Proofs.Ytmcgjlidfgbdfaa
