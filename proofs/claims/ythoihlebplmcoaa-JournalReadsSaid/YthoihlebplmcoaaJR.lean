/- The reference's Open, and where the bytes that it tells stand. -/
import Derived.Test.YthoihlebplmcoaaJA1
namespace Go.Proofs.Ythoihlebplmcoaa
open Go.RowKit
set_option linter.unusedVariables false
def RTold2 (A0 : Option Addr) (w : World) (e : Nat) (l : List UInt8) (r : Ending) (w' : World) : Prop := ∃ A c, r = .returned (.tuple #[.slice A (openB e l).length c, .int .i64 (openN e l : Nat), .int .i64 (openE e l : Nat)]) ∧ (∀ W, Holds W A0 l → Holds W A (openB e l)) ∧ Below w.heap.size w w'
theorem rtold_bad2 {A0 : Option Addr} {w w' : World} {e : Nat} {l : List UInt8} (k : Nat) (hk : openE e l = k) (h0 : k ≠ 0) (hb : Below w.heap.size w w') : RTold2 A0 w e l (.returned (.tuple #[.slice none 0 0, .int .i64 0, .int .i64 (k : Nat)])) w' := by
  have hn : ¬ openE e l = 0 := by omega
  refine ⟨none, 0, ?_, ?_, hb⟩
  · rw [show openN e l = 0 from if_neg hn, show openB e l = [] from if_neg hn, hk]; rfl
  · intro W _
    rw [show openB e l = [] from if_neg hn]
    exact Holds.nil _ _

set_option maxRecDepth 100000 in
set_option maxHeartbeats 1000000 in
theorem ropen2_few (e : Nat) (A : Option Addr) (c : Nat) (l : List UInt8) (w : World) (hl : l.length < 12) :
    Calls Try.prog 47 #[.int .u32 e, .slice A l.length c] w (RTold2 A w e l) := by
  have HE := Lib.hid (openE_short e l (.inl hl))
  have hl' : (l.length : Int) < 12 := by omega
  go_enter Try.func47, Try.ntmps47
  go_wp2_with fail
  go_ret3
  exact rtold_bad2 7 HE.out (by decide) (Below.refl _ _)

set_option maxRecDepth 100000 in
set_option maxHeartbeats 1000000 in
theorem ropen2_short (e : Nat) (A : Option Addr) (c : Nat) (l : List UInt8) (w : World) (h : Holds w A l) (hl : 12 ≤ l.length) (hn : l.length ≤ 100000) (hs : l.length < num4 l + 12) :
    Calls Try.prog 47 #[.int .u32 e, .slice A l.length c] w (RTold2 A w e l) := by
  have HE := Lib.hid (openE_short e l (.inr hs))
  have hw := sumNumber_any A c l w h (by omega) (by omega)
  have HW := Lib.hid hw
  have hm := num4_lt l
  clear h hw
  have hl' : ¬ (l.length : Int) < 12 := by omega
  generalize num4 l = n at *
  have hs' : (l.length : Int) - 12 < (n : Int) := by omega
  go_enter Try.func47, Try.ntmps47
  go_wp2_with fail
  refine HW.out.mono ?_
  rintro r w1 ⟨rfl, hb1⟩
  go_wp2_with fail
  go_ret3
  exact rtold_bad2 7 HE.out (by decide) (by assumption)

set_option maxRecDepth 100000 in
set_option maxHeartbeats 1000000 in
theorem ropen2_fits_at (e : Nat) (he : e < 4294967296) (A : Option Addr) (c : Nat) (l : List UInt8) (w : World) (h : Holds w A l) (hc : l.length ≤ c) (hl : 12 ≤ l.length) (hn : l.length ≤ 100000) (hs : num4 l + 12 ≤ l.length) (hcc : c = 12) :
    Calls Try.prog 47 #[.int .u32 e, .slice A l.length c] w (RTold2 A w e l) := by
  have HOE := Lib.hid (openE_sealed e he l hl hs)
  have h12 := h.drop 12 c hc
  obtain ⟨b, o, rfl, hb, -⟩ := h 0 (by omega)
  have HW := Lib.hid fun (W : World) (hW : Below w.heap.size w W) => sumNumber_any _ c l W (h.below hW) (by omega) (by omega)
  rw [if_pos hcc] at h12
  have c12 : (c = 12) = True := eq_true hcc
  have hXW : ∀ W, Holds W (some ⟨b, o, none⟩) l → Holds W (some ⟨b, o, none⟩) ((l.drop 12).take (num4 l)) := fun W hW => by
    have h := hW.drop 12 c hc
    rw [if_pos hcc] at h
    exact h.take _
  clear hcc
  have hX : ∀ (W : World) (hW : Below w.heap.size w W), Holds W (some ⟨b, o, none⟩) ((l.drop 12).take (num4 l)) := fun W hW => (h12.below hW).take (num4 l)
  have hxl : ((l.drop 12).take (num4 l)).length = num4 l := by rw [List.length_take, List.length_drop]; omega
  have HXL := Lib.hid hxl
  have HTK : Hid (∀ i, i < num4 l + 12 → (l.take (num4 l + 12))[i]? = l[i]?) := Lib.hid fun i hi => by rw [List.getElem?_take, if_pos hi]
  have HTL : Hid ((l.take (num4 l + 12)).length = num4 l + 12) := Lib.hid (by rw [List.length_take]; omega)
  have HB := fun (hz : openE e l = 0) => (show openB e l = (l.drop 12).take (num4 l) from if_pos hz)
  have HN := fun (hz : openE e l = 0) => (show openN e l = num4 l + 12 from if_pos hz)
  have HBB := Lib.hid HB
  have HNN := Lib.hid HN
  clear HB HN hxl
  have hm := num4_lt l
  generalize num4 l = n at *
  generalize (l.drop 12).take n = x at *
  have SL : ∀ (W : World) (hW : Below w.heap.size w W), _ := fun (W : World) (hW : Below w.heap.size w W) => refSeal_any e he (some ⟨b, o, none⟩) (c - 12) x W (hX W hW) (by rw [HXL.out]; omega)
  rw [HXL.out] at SL
  have HSL := Lib.hid SL
  have HX := Lib.hid hX
  have HXW := Lib.hid hXW
  clear hXW
  have H0 := Lib.hid h
  have HSN : Hid ((sealed e x).length = n + 12) := Lib.hid (by rw [sealed_length, HXL.out])
  clear SL hX h h12
  have hl' : ¬ (l.length : Int) < 12 := by omega
  have hs' : ¬ (l.length : Int) - 12 < (n : Int) := by omega
  have n12 : (12 : Int) ≤ 12 + (n : Int) := by omega
  have nc : 12 + (n : Int) ≤ (c : Int) := by omega
  go_enter Try.func47, Try.ntmps47
  go_wp2_with fail
  refine (HW.out _ (Below.refl _ _)).mono ?_
  rintro r w1 ⟨rfl, hb1⟩
  go_wp2_with fail
  refine (HW.out _ hb1).mono ?_
  rintro r w2 ⟨rfl, hb2⟩
  have B2 := Lib.hid (below_next hb1 hb2)
  clear hb1 hb2
  go_wp2_with fail
  refine (HSL.out _ B2.out).mono ?_
  rintro r w3 ⟨v, rfl, r3, b3⟩
  have B3 := Lib.hid (below_next B2.out b3)
  obtain ⟨A9, c9, e9, h9, l9, m9⟩ := r3.shape
  rw [HSN.out] at e9
  subst e9
  have H9 := Lib.hid h9
  have HL := Lib.hid (H0.out.below B3.out)
  have HX3 := Lib.hid (HX.out w3 B3.out)
  clear r3 b3 h9 HW HSL HX H0
  generalize hS : sealed e x = S at *
  have HSS := Lib.hid hS
  clear hS
  have hp9 := H9.out 0 (by rw [HSN.out]; omega)
  obtain ⟨g9, o9, e9, _, _⟩ := hp9
  subst e9
  go_wp2_with fail
  go_loopg [10] (n + 13) (fun j s10 wr => ∃ P : Nat, P ≤ n + 12 ∧ n + 12 < P + j ∧ s10 = .int .i64 (P : Nat) ∧ (∀ i, i < P → S[i]? = l[i]?) ∧ ∃ k, wr = w3.drewN k)
  case atStart => exact ⟨0, by omega, by omega, rfl, fun i hi => absurd hi (by omega), 0, rfl⟩
  case round =>
    obtain ⟨P, hP, hj, rfl, heq, k, rfl⟩ := hrel
    have HEQ := Lib.hid heq
    clear heq
    by_cases hlt : P < n + 12
    · have hS1 : P < S.length := by rw [HSN.out]; exact hlt
      have hl1 : P < l.length := by omega
      obtain ⟨_, _, e9, _, k9⟩ := H9.out P hS1
      cases e9
      obtain ⟨_, _, e9, _, kl⟩ := HL.out P hl1
      cases e9
      have i1 : (P : Int) < (n : Int) + 12 := by omega
      have i2 : (P : Int) < (l.length : Int) := by omega
      have HG1 : Hid (S[P]? = some S[P] ∧ l[P]? = some l[P]) := Lib.hid ⟨List.getElem?_eq_getElem hS1, List.getElem?_eq_getElem hl1⟩
      generalize S[P] = y at *
      generalize l[P] = z at *
      by_cases hyz : y = z
      · subst hyz
        have t1 : ((y.toNat : Int) != (y.toNat : Int)) = false := by simp
        go_wp2_with fail
        go_quiet (fail)
        go_wp2_with fail
        go_roundg (n + 12 - P)
        case measure => omega
        case rel =>
          refine ⟨P + 1, by omega, by omega, by simp, fun i hi => ?_, k + nq, rfl⟩
          by_cases hip : i = P
          · rw [hip, HG1.out.1, HG1.out.2]
          · exact HEQ.out i (by omega)
      · have hne : y.toNat ≠ z.toNat := fun q => hyz (UInt8.toNat_inj.1 q)
        have t1 : ((y.toNat : Int) != (z.toNat : Int)) = true := by simp; omega
        have t2 : ((y.toNat : Int) == (z.toNat : Int)) = false := by simp; omega
        have HE : Hid (openE e l = 11) := Lib.hid (by
          rw [HOE.out, if_neg]
          intro q
          have h1 := HG1.out.1
          rw [q, HTK.out P hlt, HG1.out.2] at h1
          exact hyz (Option.some.inj h1).symm)
        clear hyz hne
        go_wp2_with fail
        go_quiet (fail)
        go_wp2_with fail
        go_ret3
        exact rtold_bad2 11 HE.out (by decide) (below_drewN (below_drewN B3.out _) _)
    · obtain rfl : P = n + 12 := by omega
      have HE : Hid (openE e l = 0) := Lib.hid (by
        rw [HOE.out, if_pos]
        apply List.ext_getElem?
        intro i
        by_cases hi : i < n + 12
        · rw [HEQ.out i hi, HTK.out i hi]
        · rw [List.getElem?_eq_none (by rw [HSN.out]; omega), List.getElem?_eq_none (by rw [HTL.out]; omega)])
      have i1 : ¬ ((n + 12 : Nat) : Int) < (n : Int) + 12 := by omega
      have HT : RTold2 (some ⟨b, o, none⟩) w e l (.returned (.tuple #[.slice (some ⟨b, o, none⟩) n (c - 12), .int .i64 (12 + (n : Int)), .int .i64 0])) (w3.drewN k) := by
        refine ⟨(some ⟨b, o, none⟩), c - 12, ?_, ?_, below_drewN B3.out _⟩
        · rw [HNN.out HE.out, HBB.out HE.out, HXL.out, HE.out]
          simp [Int.add_comm]
        · intro W hW; rw [HBB.out HE.out]; exact HXW.out W hW
      have HTT := Lib.hid HT
      clear HT
      go_wp2_with fail
      go_ret3
      exact HTT.out

set_option maxRecDepth 100000 in
set_option maxHeartbeats 1000000 in
theorem ropen2_fits_past (e : Nat) (he : e < 4294967296) (A : Option Addr) (c : Nat) (l : List UInt8) (w : World) (h : Holds w A l) (hc : l.length ≤ c) (hl : 12 ≤ l.length) (hn : l.length ≤ 100000) (hs : num4 l + 12 ≤ l.length) (hcc : ¬ c = 12) :
    Calls Try.prog 47 #[.int .u32 e, .slice A l.length c] w (RTold2 A w e l) := by
  have HOE := Lib.hid (openE_sealed e he l hl hs)
  have h12 := h.drop 12 c hc
  obtain ⟨b, o, rfl, hb, -⟩ := h 0 (by omega)
  have HW := Lib.hid fun (W : World) (hW : Below w.heap.size w W) => sumNumber_any _ c l W (h.below hW) (by omega) (by omega)
  rw [if_neg hcc] at h12
  simp only [Option.map_some, Addr.add_lit] at h12
  have c12 : (c = 12) = False := eq_false hcc
  have hXW : ∀ W, Holds W (some ⟨b, o, none⟩) l → Holds W (some ⟨b, o + 12, none⟩) ((l.drop 12).take (num4 l)) := fun W hW => by
    have h := hW.drop 12 c hc
    rw [if_neg hcc] at h
    simp only [Option.map_some, Addr.add_lit] at h
    exact h.take _
  clear hcc
  have hX : ∀ (W : World) (hW : Below w.heap.size w W), Holds W (some ⟨b, o + 12, none⟩) ((l.drop 12).take (num4 l)) := fun W hW => (h12.below hW).take (num4 l)
  have hxl : ((l.drop 12).take (num4 l)).length = num4 l := by rw [List.length_take, List.length_drop]; omega
  have HXL := Lib.hid hxl
  have HTK : Hid (∀ i, i < num4 l + 12 → (l.take (num4 l + 12))[i]? = l[i]?) := Lib.hid fun i hi => by rw [List.getElem?_take, if_pos hi]
  have HTL : Hid ((l.take (num4 l + 12)).length = num4 l + 12) := Lib.hid (by rw [List.length_take]; omega)
  have HB := fun (hz : openE e l = 0) => (show openB e l = (l.drop 12).take (num4 l) from if_pos hz)
  have HN := fun (hz : openE e l = 0) => (show openN e l = num4 l + 12 from if_pos hz)
  have HBB := Lib.hid HB
  have HNN := Lib.hid HN
  clear HB HN hxl
  have hm := num4_lt l
  generalize num4 l = n at *
  generalize (l.drop 12).take n = x at *
  have SL : ∀ (W : World) (hW : Below w.heap.size w W), _ := fun (W : World) (hW : Below w.heap.size w W) => refSeal_any e he (some ⟨b, o + 12, none⟩) (c - 12) x W (hX W hW) (by rw [HXL.out]; omega)
  rw [HXL.out] at SL
  have HSL := Lib.hid SL
  have HX := Lib.hid hX
  have HXW := Lib.hid hXW
  clear hXW
  have H0 := Lib.hid h
  have HSN : Hid ((sealed e x).length = n + 12) := Lib.hid (by rw [sealed_length, HXL.out])
  clear SL hX h h12
  have hl' : ¬ (l.length : Int) < 12 := by omega
  have hs' : ¬ (l.length : Int) - 12 < (n : Int) := by omega
  have n12 : (12 : Int) ≤ 12 + (n : Int) := by omega
  have nc : 12 + (n : Int) ≤ (c : Int) := by omega
  go_enter Try.func47, Try.ntmps47
  go_wp2_with fail
  refine (HW.out _ (Below.refl _ _)).mono ?_
  rintro r w1 ⟨rfl, hb1⟩
  go_wp2_with fail
  refine (HW.out _ hb1).mono ?_
  rintro r w2 ⟨rfl, hb2⟩
  have B2 := Lib.hid (below_next hb1 hb2)
  clear hb1 hb2
  go_wp2_with fail
  refine (HSL.out _ B2.out).mono ?_
  rintro r w3 ⟨v, rfl, r3, b3⟩
  have B3 := Lib.hid (below_next B2.out b3)
  obtain ⟨A9, c9, e9, h9, l9, m9⟩ := r3.shape
  rw [HSN.out] at e9
  subst e9
  have H9 := Lib.hid h9
  have HL := Lib.hid (H0.out.below B3.out)
  have HX3 := Lib.hid (HX.out w3 B3.out)
  clear r3 b3 h9 HW HSL HX H0
  generalize hS : sealed e x = S at *
  have HSS := Lib.hid hS
  clear hS
  have hp9 := H9.out 0 (by rw [HSN.out]; omega)
  obtain ⟨g9, o9, e9, _, _⟩ := hp9
  subst e9
  go_wp2_with fail
  go_loopg [10] (n + 13) (fun j s10 wr => ∃ P : Nat, P ≤ n + 12 ∧ n + 12 < P + j ∧ s10 = .int .i64 (P : Nat) ∧ (∀ i, i < P → S[i]? = l[i]?) ∧ ∃ k, wr = w3.drewN k)
  case atStart => exact ⟨0, by omega, by omega, rfl, fun i hi => absurd hi (by omega), 0, rfl⟩
  case round =>
    obtain ⟨P, hP, hj, rfl, heq, k, rfl⟩ := hrel
    have HEQ := Lib.hid heq
    clear heq
    by_cases hlt : P < n + 12
    · have hS1 : P < S.length := by rw [HSN.out]; exact hlt
      have hl1 : P < l.length := by omega
      obtain ⟨_, _, e9, _, k9⟩ := H9.out P hS1
      cases e9
      obtain ⟨_, _, e9, _, kl⟩ := HL.out P hl1
      cases e9
      have i1 : (P : Int) < (n : Int) + 12 := by omega
      have i2 : (P : Int) < (l.length : Int) := by omega
      have HG1 : Hid (S[P]? = some S[P] ∧ l[P]? = some l[P]) := Lib.hid ⟨List.getElem?_eq_getElem hS1, List.getElem?_eq_getElem hl1⟩
      generalize S[P] = y at *
      generalize l[P] = z at *
      by_cases hyz : y = z
      · subst hyz
        have t1 : ((y.toNat : Int) != (y.toNat : Int)) = false := by simp
        go_wp2_with fail
        go_quiet (fail)
        go_wp2_with fail
        go_roundg (n + 12 - P)
        case measure => omega
        case rel =>
          refine ⟨P + 1, by omega, by omega, by simp, fun i hi => ?_, k + nq, rfl⟩
          by_cases hip : i = P
          · rw [hip, HG1.out.1, HG1.out.2]
          · exact HEQ.out i (by omega)
      · have hne : y.toNat ≠ z.toNat := fun q => hyz (UInt8.toNat_inj.1 q)
        have t1 : ((y.toNat : Int) != (z.toNat : Int)) = true := by simp; omega
        have t2 : ((y.toNat : Int) == (z.toNat : Int)) = false := by simp; omega
        have HE : Hid (openE e l = 11) := Lib.hid (by
          rw [HOE.out, if_neg]
          intro q
          have h1 := HG1.out.1
          rw [q, HTK.out P hlt, HG1.out.2] at h1
          exact hyz (Option.some.inj h1).symm)
        clear hyz hne
        go_wp2_with fail
        go_quiet (fail)
        go_wp2_with fail
        go_ret3
        exact rtold_bad2 11 HE.out (by decide) (below_drewN (below_drewN B3.out _) _)
    · obtain rfl : P = n + 12 := by omega
      have HE : Hid (openE e l = 0) := Lib.hid (by
        rw [HOE.out, if_pos]
        apply List.ext_getElem?
        intro i
        by_cases hi : i < n + 12
        · rw [HEQ.out i hi, HTK.out i hi]
        · rw [List.getElem?_eq_none (by rw [HSN.out]; omega), List.getElem?_eq_none (by rw [HTL.out]; omega)])
      have i1 : ¬ ((n + 12 : Nat) : Int) < (n : Int) + 12 := by omega
      have HT : RTold2 (some ⟨b, o, none⟩) w e l (.returned (.tuple #[.slice (some ⟨b, o + 12, none⟩) n (c - 12), .int .i64 (12 + (n : Int)), .int .i64 0])) (w3.drewN k) := by
        refine ⟨(some ⟨b, o + 12, none⟩), c - 12, ?_, ?_, below_drewN B3.out _⟩
        · rw [HNN.out HE.out, HBB.out HE.out, HXL.out, HE.out]
          simp [Int.add_comm]
        · intro W hW; rw [HBB.out HE.out]; exact HXW.out W hW
      have HTT := Lib.hid HT
      clear HT
      go_wp2_with fail
      go_ret3
      exact HTT.out

theorem ropen2_any (e : Nat) (he : e < 4294967296) (A : Option Addr) (c : Nat) (l : List UInt8) (w : World) (h : Holds w A l) (hc : l.length ≤ c) (hn : l.length ≤ 100000) :
    Calls Try.prog 47 #[.int .u32 e, .slice A l.length c] w (RTold2 A w e l) := by
  by_cases hl : l.length < 12
  · exact ropen2_few e A c l w hl
  · by_cases hs : l.length < num4 l + 12
    · exact ropen2_short e A c l w h (by omega) hn hs
    · by_cases hcc : c = 12
      · exact ropen2_fits_at e he A c l w h hc (by omega) hn (by omega) hcc
      · exact ropen2_fits_past e he A c l w h hc (by omega) hn (by omega) hcc
end Go.Proofs.Ythoihlebplmcoaa
