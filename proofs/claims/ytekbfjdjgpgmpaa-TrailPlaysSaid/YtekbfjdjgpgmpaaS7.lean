/- TrailTurns walked. -/
import Derived.Test.YtekbfjdjgpgmpaaS6
import Derived.Deep.LoopGhost
import Derived.Laws.Bits64
import Derived.Deep.QuietTactic
import Derived.BigQuiet
namespace Go.Proofs.Ytekbfjdjgpgmpaa
open Go.RowKit

/-- strings that came in: a slice, and what its cells hold. -/
structure Came (w : World) (a : Option Addr) (ts : List ByteArray) : Prop where
  cell : ∀ i (h : i < ts.length), ∃ b off, a = some ⟨b, off, none⟩ ∧ b < w.heap.size ∧ w.cell? ⟨b, off + i, none⟩ = some (.string ts[i])

theorem Came.below {w w' : World} {a : Option Addr} {ts : List ByteArray} (h : Came w a ts) (hb : Below w.heap.size w w') : Came w' a ts :=
  ⟨fun i hi => by
    obtain ⟨b, off, h1, h2, h3⟩ := h.cell i hi
    exact ⟨b, off, h1, Nat.lt_of_lt_of_le h2 hb.size, (hb.cell h2).trans h3⟩⟩

theorem rem_fact (z : Int) (n : Nat) (hn : n ≤ 200) : ∃ k : Nat, k ≤ n ∧ wrap64 ((IntKind.u64.wrap z).tmod ((n : Int) + 1)) = k := by
  rw [IntKind.wrap_u64]
  have h0 : 0 ≤ z % 18446744073709551616 := Int.emod_nonneg _ (by omega)
  rw [Int.tmod_eq_emod_of_nonneg h0]
  have h1 : 0 ≤ z % 18446744073709551616 % ((n : Int) + 1) := Int.emod_nonneg _ (by omega)
  have h2 : z % 18446744073709551616 % ((n : Int) + 1) < (n : Int) + 1 := Int.emod_lt_of_pos _ (by omega)
  generalize z % 18446744073709551616 % ((n : Int) + 1) = q at *
  refine ⟨q.toNat, by omega, ?_⟩
  unfold wrap64
  omega

/-- marks that lie ahead of a place. -/
def sel (k i : Nat) : List Nat := if k < i then [k] else []
def selm (k i : Nat) : Int := if k < i then 0 else -1
theorem take_succ' (ts : List ByteArray) (i : Nat) (h : i < ts.length) : ts.take i ++ [ts[i]] = ts.take (i + 1) := by rw [List.take_add_one, List.getElem?_eq_getElem h]; rfl

set_option maxRecDepth 100000 in
set_option maxHeartbeats 1000000 in
theorem trailTurns_any (a : Option Addr) (c : Nat) (ts : List ByteArray) (at_ : Int) (w : World) (h : Came w a ts) (hat : (Lit.int .i64 at_).wf = true) : Calls Try.prog 4 #[.slice a ts.length c, .int .i64 at_] w fun e w' => e = .returned (.bool true) ∧ Below w.heap.size w w' := by
  have H := Lib.hid h
  clear h
  go_enter Try.func4, Try.ntmps4
  go_wp2_with fail
  refine (awake_any _).mono ?_
  rintro e w1 ⟨rfl, hb1⟩
  have B1 := Lib.hid hb1
  have H1 := Lib.hid (H.out.below hb1)
  clear hb1
  by_cases hn : (ts.length : Int) > 200
  · go_wp2_with fail
    go_ret
    exact ⟨rfl, B1.out⟩
  · go_wp2_with fail
    refine (new_ok _).mono ?_
    rintro e w2 ⟨rfl, hw2⟩
    have A2 : Hid (Mine w1 w1.heap.size w2 [] []) := by rw [hw2]; exact Mine.new w1
    clear hw2
    go_wp2_with fail
    have hn' : ts.length ≤ 200 := by omega
    obtain ⟨k, hkn, hk⟩ := rem_fact at_ ts.length hn'
    simp only [hk]
    clear hat
    go_loopg [7, 8] (ts.length + 1) (fun j s7 s8 wr => ∃ i : Nat, i + j = ts.length + 1 ∧ s8 = .int .i64 (i : Nat) ∧ s7 = .int .i64 (selm k i) ∧ Mine w1 w1.heap.size wr (ts.take i) (sel k i))
    case atStart => exact ⟨0, by omega, rfl, rfl, by simpa [sel] using A2.out⟩
    case round =>
      obtain ⟨i, hij, rfl, rfl, hm⟩ := hrel
      have M := Lib.hid hm
      have HIJ := Lib.hid hij
      have HK := Lib.hid hk
      have HKN := Lib.hid hkn
      clear hm hij hk hkn A2
      by_cases h1 : (i : Int) ≤ (ts.length : Int)
      · by_cases h2 : (i : Int) = (k : Int)
        · have hik : i = k := by omega
          subst hik
          clear h2
          by_cases h3 : (i : Int) < (ts.length : Int)
          · have hi : i < ts.length := by omega
            have M' : Hid (Mine w1 w1.heap.size wr (ts.take i) []) := Lib.hid (by simpa [sel] using M.out)
            go_wp2_with fail
            refine (M'.out.mark (by simp) (by simp; omega)).mono ?_
            rintro e wr1 ⟨rfl, m1⟩
            have M1 := Lib.hid m1
            obtain ⟨b, off, rfl, hb, hc⟩ := (H1.out.below m1.out).cell i hi
            clear m1
            go_wp2_with fail
            refine (M1.out.add ts[i] (by simp; omega)).mono ?_
            rintro e wr2 ⟨rfl, m2⟩
            have M2 : Hid (Mine w1 w1.heap.size wr2 (ts.take (i + 1)) (sel i (i + 1))) := by
              rw [take_succ' ts i hi] at m2
              have e1 : sel i (i + 1) = [] ++ [(ts.take i).length] := by simp [sel]; omega
              rw [e1]; exact m2
            clear m2
            go_wp2_with fail
            go_roundg (ts.length - i)
            case measure => have := HIJ.out; omega
            case rel => exact ⟨i + 1, by have := HIJ.out; omega, by simp, by simp [selm], M2.out⟩
          · have M' : Hid (Mine w1 w1.heap.size wr (ts.take i) []) := Lib.hid (by simpa [sel] using M.out)
            go_wp2_with fail
            refine (M'.out.mark (by simp) (by simp; omega)).mono ?_
            rintro e wr1 ⟨rfl, m1⟩
            have M2 : Hid (Mine w1 w1.heap.size wr1 (ts.take (i + 1)) (sel i (i + 1))) := by
              have e1 : sel i (i + 1) = [] ++ [(ts.take i).length] := by simp [sel]; omega
              rw [e1, List.take_of_length_le (by omega)]
              rw [List.take_of_length_le (by omega)] at m1 ⊢
              exact m1
            clear m1
            go_wp2_with fail
            go_roundg (ts.length - i)
            case measure => have := HIJ.out; omega
            case rel => exact ⟨i + 1, by have := HIJ.out; omega, by simp, by simp [selm], M2.out⟩
        · have hik : i ≠ k := by omega
          have es : sel k (i + 1) = sel k i := by unfold sel; split <;> split <;> first | rfl | omega
          have em : selm k (i + 1) = selm k i := by unfold selm; split <;> split <;> first | rfl | omega
          by_cases h3 : (i : Int) < (ts.length : Int)
          · have hi : i < ts.length := by omega
            obtain ⟨b, off, rfl, hb, hc⟩ := (H1.out.below M.out.out).cell i hi
            go_wp2_with fail
            refine (M.out.add ts[i] (by simp; omega)).mono ?_
            rintro e wr2 ⟨rfl, m2⟩
            have M2 : Hid (Mine w1 w1.heap.size wr2 (ts.take (i + 1)) (sel k (i + 1))) := by
              rw [take_succ' ts i hi] at m2
              rw [es]; exact m2
            clear m2
            go_wp2_with fail
            go_roundg (ts.length - i)
            case measure => have := HIJ.out; omega
            case rel => exact ⟨i + 1, by have := HIJ.out; omega, by simp, by rw [em], M2.out⟩
          · have M2 : Hid (Mine w1 w1.heap.size wr (ts.take (i + 1)) (sel k (i + 1))) := by
              rw [es, List.take_of_length_le (by omega)]
              have := M.out
              rw [List.take_of_length_le (by omega)] at this
              exact this
            go_wp2_with fail
            go_roundg (ts.length - i)
            case measure => have := HIJ.out; omega
            case rel => exact ⟨i + 1, by have := HIJ.out; omega, by simp, by rw [em], M2.out⟩
      · have M' : Hid (Mine w1 w1.heap.size wr ts [k]) := by
          have := M.out
          rw [List.take_of_length_le (by omega)] at this
          exact Lib.hid (by simpa [sel, show k < i by have := HKN.out; omega] using this)
        have hs0 : selm k i = 0 := by simp [selm]; have := HKN.out; omega
        rw [hs0]
        clear M
        go_wp2_with fail
        obtain ⟨F, i2, b2, f2⟩ := M'.out
        have l2 := i2.lt
        refine (since_yes i2 0 0 k rfl rfl HKN.out (by omega)).mono ?_
        rintro e w3 ⟨v, rfl, o3, b3⟩
        have i3 := i2.below b3
        obtain ⟨a3, c3, rfl⟩ := slice_shape o3
        have I3 := Lib.hid i3
        have O3 := Lib.hid o3
        have B3 := Lib.hid (b2.trans (b3.mono b2.size))
        have F2 := Lib.hid f2
        have L2 := Lib.hid l2
        clear i2 b2 f2 l2 i3 o3 b3 M'
        go_wp2_with fail
        refine (cut_yes I3.out 0 0 k rfl rfl HKN.out (by omega)).mono ?_
        rintro e w4 ⟨v, rfl, o4, i4, t4⟩
        obtain ⟨a4, c4, rfl⟩ := slice_shape o4
        have O3' : Hid (w4.ownsRow wr.heap.size 9 1 (.slice a3 (ts.length - k) c3) (ts.length - k) (texts (ts.drop k))) := Lib.hid (ownsRow_of_heap O3.out fun b hb => t4.block b (O3.out.lt b hb).2 fun hm => by
          have q1 := L2.out b hm
          have q2 := (O3.out.lt b hb).1
          omega)
        have O4 := Lib.hid o4
        have B4 := Lib.hid (t4.fresh B3.out F2.out)
        have H4 := Lib.hid (H1.out.below B4.out)
        have N4 : Hid (IsTrail w4 w1.heap.size F (ts.take k) []) := Lib.hid i4
        have hlk : (ts.take k).length = k := by rw [List.length_take]; have := HKN.out; omega
        clear o4 i4 t4 O3 I3 L2 F2
        have hsub : (ts.length : Int) - (k : Int) = ((ts.length - k : Nat) : Int) := by have := HKN.out; omega
        go_wp2_with (first | (go_at_call 20; refine (len_ok N4.out).mono ?_; rintro e w' ⟨rfl, rfl⟩; rw [hlk]) | (go_at_call 21; refine (marks_ok N4.out).mono ?_; rintro e w' ⟨rfl, rfl⟩))
        clear hsub
        go_loopg [13] (ts.length - k) (fun j s13 wq => ∃ q : Nat, q + j = ts.length - k ∧ s13 = .int .i64 (q : Nat) ∧ Below w'.heap.size w' wq)
        case atStart => exact ⟨0, by omega, rfl, Below.refl _ _⟩
        case round =>
          obtain ⟨q, hq, rfl, hbq⟩ := hrel
          have BQ := Lib.hid hbq
          have HQ := Lib.hid hq
          have O3q := Lib.hid (ownsRow_of_heap O3'.out fun b hb => hbq.block b (O3'.out.lt b hb).2)
          have O4q := Lib.hid (ownsRow_of_heap O4.out fun b hb => hbq.block b (O4.out.lt b hb).2)
          have Hq := Lib.hid (H4.out.below hbq)
          clear hq hbq
          by_cases hlt : (q : Int) < ((ts.length - k : Nat) : Int)
          · have hpos : 0 < ts.length - k := by omega
            obtain ⟨g3, c3', e3, hc3⟩ := row_pos O3q.out hpos
            cases e3
            obtain ⟨g4, c4', e4, hc4⟩ := row_pos O4q.out hpos
            cases e4
            have hi2 : k + q < ts.length := by omega
            obtain ⟨b, off, rfl, hb, hc⟩ := Hq.out.cell (k + q) hi2
            have x3 : wr.cell? ⟨g3, q, none⟩ = some (.string ts[k + q]) := row_cells O3q.out q _ (by simp [texts, hi2])
            have x4 : wr.cell? ⟨g4, ts.length - k - 1 - q, none⟩ = some (.string ts[k + q]) := row_cells O4q.out _ _ (by
              simp only [texts]
              rw [List.getElem?_map, List.getElem?_reverse (by rw [List.length_drop]; omega), List.getElem?_drop, List.length_drop, List.getElem?_eq_getElem (by omega)]
              simp only [Option.map_some]
              congr 3
              omega)
            have y3 : (k : Int) + (q : Int) < (ts.length : Int) := by omega
            have y4 : ((ts.length - k : Nat) : Int) - 1 - (q : Int) < ((ts.length - k : Nat) : Int) := by omega
            have y5 : 0 ≤ ((ts.length - k : Nat) : Int) - 1 - (q : Int) := by omega
            go_wp2_with fail
            go_quiet (fail)
            go_wp2_with fail
            go_roundg (ts.length - k - q - 1)
            case measure => have := HQ.out; omega
            case rel => exact ⟨q + 1, by have := HQ.out; omega, by simp, ⟨BQ.out.os, BQ.out.tape, BQ.out.output, BQ.out.size, BQ.out.block⟩⟩
          · go_wp2_with fail
            go_ret
            have hz := B4.out.trans (BQ.out.mono B4.out.size)
            exact ⟨rfl, B1.out.trans (hz.mono B1.out.size)⟩
end Go.Proofs.Ytekbfjdjgpgmpaa
