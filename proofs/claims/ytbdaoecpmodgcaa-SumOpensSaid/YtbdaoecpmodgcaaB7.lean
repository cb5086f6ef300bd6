/- The reference's Open. -/
import Derived.Test.YtbdaoecpmodgcaaB6
namespace Go.Proofs.Ytbdaoecpmodgcaa
open Go.RowKit

theorem word4_num (x0 x1 x2 x3 : UInt8) (r : List UInt8) : word4 (num4 (x0 :: x1 :: x2 :: x3 :: r)) = [x0, x1, x2, x3] := by
  have h0 := x0.toNat_lt
  have h1 := x1.toNat_lt
  have h2 := x2.toNat_lt
  have h3 := x3.toNat_lt
  have f : ∀ (x : UInt8) (m : Nat), m = x.toNat → UInt8.ofNat m = x := fun x m h => by rw [h]; exact UInt8.ofNat_toNat
  simp only [word4, num4_eq]
  rw [f x0 _ (by omega), f x1 _ (by omega), f x2 _ (by omega), f x3 _ (by omega)]
theorem front12 (l : List UInt8) (h : 12 ≤ l.length) : ∃ a0 a1 a2 a3 s0 s1 s2 s3 e0 e1 e2 e3 r, l = a0 :: a1 :: a2 :: a3 :: s0 :: s1 :: s2 :: s3 :: e0 :: e1 :: e2 :: e3 :: r := by
  match l, h with
  | a0 :: a1 :: a2 :: a3 :: s0 :: s1 :: s2 :: s3 :: e0 :: e1 :: e2 :: e3 :: r, _ => exact ⟨_, _, _, _, _, _, _, _, _, _, _, _, _, rfl⟩
/-- a record stands at the front just where it is sealed so. -/
theorem openE_sealed (e : Nat) (he : e < 4294967296) (l : List UInt8) (hl : 12 ≤ l.length) (hs : num4 l + 12 ≤ l.length) :
    openE e l = if sealed e ((l.drop 12).take (num4 l)) = l.take (num4 l + 12) then 0 else 11 := by
  obtain ⟨a0, a1, a2, a3, s0, s1, s2, s3, e0, e1, e2, e3, r, rfl⟩ := front12 l hl
  have hw := word4_num a0 a1 a2 a3 (s0 :: s1 :: s2 :: s3 :: e0 :: e1 :: e2 :: e3 :: r)
  have hx : (r.take (num4 (a0 :: a1 :: a2 :: a3 :: s0 :: s1 :: s2 :: s3 :: e0 :: e1 :: e2 :: e3 :: r))).length = num4 (a0 :: a1 :: a2 :: a3 :: s0 :: s1 :: s2 :: s3 :: e0 :: e1 :: e2 :: e3 :: r) := by
    rw [List.length_take]; simp only [List.length_cons] at hs; omega
  unfold openE
  rw [if_neg (by omega)]
  generalize num4 (a0 :: a1 :: a2 :: a3 :: s0 :: s1 :: s2 :: s3 :: e0 :: e1 :: e2 :: e3 :: r) = n at *
  simp only [List.drop_succ_cons, List.drop_zero, List.take_succ_cons]
  generalize r.take n = x at *
  unfold sealed
  rw [hx, hw]
  have hq := num4_eq s0 s1 s2 s3 (e0 :: e1 :: e2 :: e3 :: r)
  have hE := num4_eq e0 e1 e2 e3 r
  have hwe := word4_num e0 e1 e2 e3 r
  have hws := word4_num s0 s1 s2 s3 (e0 :: e1 :: e2 :: e3 :: r)
  generalize num4 (s0 :: s1 :: s2 :: s3 :: e0 :: e1 :: e2 :: e3 :: r) = q at *
  generalize num4 (e0 :: e1 :: e2 :: e3 :: r) = m at *
  by_cases h1 : m = e
  · subst h1
    have hs2 := sumOn_lt 0 (e0 :: e1 :: e2 :: e3 :: x)
    have hse : word4 m ++ x = e0 :: e1 :: e2 :: e3 :: x := by rw [hwe]; rfl
    by_cases h2 : q = sumOn 0 (e0 :: e1 :: e2 :: e3 :: x)
    · rw [if_neg (by rw [h2]; simp), if_pos]
      rw [hse, ← h2, hws, List.append_assoc _ (word4 m) x, hse]
      rfl
    · rw [if_pos (.inr h2), if_neg]
      intro hc
      apply h2
      rw [hse] at hc
      have h4 : num4 (([a0, a1, a2, a3] ++ word4 (sumOn 0 (e0 :: e1 :: e2 :: e3 :: x)) ++ word4 m ++ x).drop 4) = sumOn 0 (e0 :: e1 :: e2 :: e3 :: x) := num4_word _ hs2 (word4 m ++ x)
      rw [hc] at h4
      rw [← h4, hq]
      rfl
  · rw [if_pos (.inl h1), if_neg]
    intro hc
    apply h1
    have h8 : num4 (([a0, a1, a2, a3] ++ word4 (sumOn 0 (word4 e ++ x)) ++ word4 e ++ x).drop 8) = e := num4_word e he x
    rw [hc] at h8
    rw [← h8, hE]
    rfl
theorem openE_short (e : Nat) (l : List UInt8) (h : l.length < 12 ∨ l.length < num4 l + 12) : openE e l = 7 := if_pos h

/-- what the reference's Open tells. -/
def RTold (w : World) (e : Nat) (l : List UInt8) (r : Ending) (w' : World) : Prop := ∃ A c, r = .returned (.tuple #[.slice A (openB e l).length c, .int .i64 (openN e l : Nat), .int .i64 (openE e l : Nat)]) ∧ Holds w' A (openB e l) ∧ Below w.heap.size w w'
theorem rtold_bad {w w' : World} {e : Nat} {l : List UInt8} (k : Nat) (hk : openE e l = k) (h0 : k ≠ 0) (hb : Below w.heap.size w w') : RTold w e l (.returned (.tuple #[.slice none 0 0, .int .i64 0, .int .i64 (k : Nat)])) w' := by
  have hn : ¬ openE e l = 0 := by omega
  refine ⟨none, 0, ?_, ?_, hb⟩
  · rw [show openN e l = 0 from if_neg hn, show openB e l = [] from if_neg hn, hk]; rfl
  · rw [show openB e l = [] from if_neg hn]; exact Holds.nil _ _

set_option maxRecDepth 100000 in
set_option maxHeartbeats 1000000 in
theorem ropen_few (e : Nat) (A : Option Addr) (c : Nat) (l : List UInt8) (w : World) (hl : l.length < 12) :
    Calls Try.prog 15 #[.int .u32 e, .slice A l.length c] w (RTold w e l) := by
  have HE := Lib.hid (openE_short e l (.inl hl))
  have hl' : (l.length : Int) < 12 := by omega
  go_enter Try.func15, Try.ntmps15
  go_wp2_with fail
  go_ret3
  exact rtold_bad 7 HE.out (by decide) (Below.refl _ _)

set_option maxRecDepth 100000 in
set_option maxHeartbeats 1000000 in
theorem ropen_short (e : Nat) (A : Option Addr) (c : Nat) (l : List UInt8) (w : World) (h : Holds w A l) (hl : 12 ≤ l.length) (hn : l.length ≤ 100000) (hs : l.length < num4 l + 12) :
    Calls Try.prog 15 #[.int .u32 e, .slice A l.length c] w (RTold w e l) := by
  have HE := Lib.hid (openE_short e l (.inr hs))
  have hw := number_any A c l w h (by omega) (by omega)
  have HW := Lib.hid hw
  have hm := num4_lt l
  clear h hw
  have hl' : ¬ (l.length : Int) < 12 := by omega
  generalize num4 l = n at *
  have hs' : (l.length : Int) - 12 < (n : Int) := by omega
  go_enter Try.func15, Try.ntmps15
  go_wp2_with fail
  refine HW.out.mono ?_
  rintro r w1 ⟨rfl, hb1⟩
  go_wp2_with fail
  go_ret3
  exact rtold_bad 7 HE.out (by decide) (by assumption)

set_option maxRecDepth 100000 in
set_option maxHeartbeats 1000000 in
theorem ropen_fits_at (e : Nat) (he : e < 4294967296) (A : Option Addr) (c : Nat) (l : List UInt8) (w : World) (h : Holds w A l) (hc : l.length ≤ c) (hl : 12 ≤ l.length) (hn : l.length ≤ 100000) (hs : num4 l + 12 ≤ l.length) (hcc : c = 12) :
    Calls Try.prog 15 #[.int .u32 e, .slice A l.length c] w (RTold w e l) := by
  have HOE := Lib.hid (openE_sealed e he l hl hs)
  have h12 := h.drop 12 c hc
  obtain ⟨b, o, rfl, hb, -⟩ := h 0 (by omega)
  have HW := Lib.hid fun (W : World) (hW : Below w.heap.size w W) => number_any _ c l W (h.below hW) (by omega) (by omega)
  rw [if_pos hcc] at h12
  have c12 : (c = 12) = True := eq_true hcc
  clear hcc
  have hX : ∀ (W : World) (hW : Below w.heap.size w W), Holds W (some ⟨b, o, none⟩) ((l.drop 12).take (num4 l)) := fun W hW => (h12.below hW).take (num4 l)
  have hxl : ((l.drop 12).take (num4 l)).length = num4 l := by rw [List.length_take, List.length_drop]; omega
  have HXL := Lib.hid hxl
  have HTK : Hid (∀ i, i < num4 l + 12 → (l.take (num4 l + 12))[i]? = l[i]?) := Lib.hid fun i hi => by rw [List.getElem?_take, if_pos hi]
  have HTL : Hid ((l.take (num4 l + 12)).length = num4 l + 12) := Lib.hid (by rw [List.length_take]; omega)
  have HB := fun (hz : openE e l = 0) => (show openB e l = (l.drop 12).take (num4 l) from if_pos hz)
  have HN := fun (hz : openE e l = 0) => (show openN e l = num4 l + 12 from if_pos hz)
  have HBB := Lib.hid HB
  have HNN := Lib.hid HN
  clear HB HN hxl
  have hm := num4_lt l
  generalize num4 l = n at *
  generalize (l.drop 12).take n = x at *
  have SL : ∀ (W : World) (hW : Below w.heap.size w W), _ := fun (W : World) (hW : Below w.heap.size w W) => refSeal_any e he (some ⟨b, o, none⟩) (c - 12) x W (hX W hW) (by rw [HXL.out]; omega)
  rw [HXL.out] at SL
  have HSL := Lib.hid SL
  have HX := Lib.hid hX
  have H0 := Lib.hid h
  have HSN : Hid ((sealed e x).length = n + 12) := Lib.hid (by rw [sealed_length, HXL.out])
  clear SL hX h h12
  have hl' : ¬ (l.length : Int) < 12 := by omega
  have hs' : ¬ (l.length : Int) - 12 < (n : Int) := by omega
  have n12 : (12 : Int) ≤ 12 + (n : Int) := by omega
  have nc : 12 + (n : Int) ≤ (c : Int) := by omega
  go_enter Try.func15, Try.ntmps15
  go_wp2_with fail
  refine (HW.out _ (Below.refl _ _)).mono ?_
  rintro r w1 ⟨rfl, hb1⟩
  go_wp2_with fail
  refine (HW.out _ hb1).mono ?_
  rintro r w2 ⟨rfl, hb2⟩
  have B2 := Lib.hid (below_next hb1 hb2)
  clear hb1 hb2
  go_wp2_with fail
  refine (HSL.out _ B2.out).mono ?_
  rintro r w3 ⟨v, rfl, r3, b3⟩
  have B3 := Lib.hid (below_next B2.out b3)
  obtain ⟨A9, c9, e9, h9, l9, m9⟩ := r3.shape
  rw [HSN.out] at e9
  subst e9
  have H9 := Lib.hid h9
  have HL := Lib.hid (H0.out.below B3.out)
  have HX3 := Lib.hid (HX.out w3 B3.out)
  clear r3 b3 h9 HW HSL HX H0
  generalize hS : sealed e x = S at *
  have HSS := Lib.hid hS
  clear hS
  have hp9 := H9.out 0 (by rw [HSN.out]; omega)
  obtain ⟨g9, o9, e9, _, _⟩ := hp9
  subst e9
  go_wp2_with fail
  go_loopg [10] (n + 13) (fun j s10 wr => ∃ P : Nat, P ≤ n + 12 ∧ n + 12 < P + j ∧ s10 = .int .i64 (P : Nat) ∧ (∀ i, i < P → S[i]? = l[i]?) ∧ ∃ k, wr = w3.drewN k)
  case atStart => exact ⟨0, by omega, by omega, rfl, fun i hi => absurd hi (by omega), 0, rfl⟩
  case round =>
    obtain ⟨P, hP, hj, rfl, heq, k, rfl⟩ := hrel
    have HEQ := Lib.hid heq
    clear heq
    by_cases hlt : P < n + 12
    · have hS1 : P < S.length := by rw [HSN.out]; exact hlt
      have hl1 : P < l.length := by omega
      obtain ⟨_, _, e9, _, k9⟩ := H9.out P hS1
      cases e9
      obtain ⟨_, _, e9, _, kl⟩ := HL.out P hl1
      cases e9
      have i1 : (P : Int) < (n : Int) + 12 := by omega
      have i2 : (P : Int) < (l.length : Int) := by omega
      have HG1 : Hid (S[P]? = some S[P] ∧ l[P]? = some l[P]) := Lib.hid ⟨List.getElem?_eq_getElem hS1, List.getElem?_eq_getElem hl1⟩
      generalize S[P] = y at *
      generalize l[P] = z at *
      by_cases hyz : y = z
      · subst hyz
        have t1 : ((y.toNat : Int) != (y.toNat : Int)) = false := by simp
        go_wp2_with fail
        go_quiet (fail)
        go_wp2_with fail
        go_roundg (n + 12 - P)
        case measure => omega
        case rel =>
          refine ⟨P + 1, by omega, by omega, by simp, fun i hi => ?_, k + nq, rfl⟩
          by_cases hip : i = P
          · rw [hip, HG1.out.1, HG1.out.2]
          · exact HEQ.out i (by omega)
      · have hne : y.toNat ≠ z.toNat := fun q => hyz (UInt8.toNat_inj.1 q)
        have t1 : ((y.toNat : Int) != (z.toNat : Int)) = true := by simp; omega
        have t2 : ((y.toNat : Int) == (z.toNat : Int)) = false := by simp; omega
        have HE : Hid (openE e l = 11) := Lib.hid (by
          rw [HOE.out, if_neg]
          intro q
          have h1 := HG1.out.1
          rw [q, HTK.out P hlt, HG1.out.2] at h1
          exact hyz (Option.some.inj h1).symm)
        clear hyz hne
        go_wp2_with fail
        go_quiet (fail)
        go_wp2_with fail
        go_ret3
        exact rtold_bad 11 HE.out (by decide) (below_drewN (below_drewN B3.out _) _)
    · obtain rfl : P = n + 12 := by omega
      have HE : Hid (openE e l = 0) := Lib.hid (by
        rw [HOE.out, if_pos]
        apply List.ext_getElem?
        intro i
        by_cases hi : i < n + 12
        · rw [HEQ.out i hi, HTK.out i hi]
        · rw [List.getElem?_eq_none (by rw [HSN.out]; omega), List.getElem?_eq_none (by rw [HTL.out]; omega)])
      have i1 : ¬ ((n + 12 : Nat) : Int) < (n : Int) + 12 := by omega
      have HT : RTold w e l (.returned (.tuple #[.slice (some ⟨b, o, none⟩) n (c - 12), .int .i64 (12 + (n : Int)), .int .i64 0])) (w3.drewN k) := by
        refine ⟨(some ⟨b, o, none⟩), c - 12, ?_, ?_, below_drewN B3.out _⟩
        · rw [HNN.out HE.out, HBB.out HE.out, HXL.out, HE.out]
          simp [Int.add_comm]
        · rw [HBB.out HE.out]; exact HX3.out
      have HTT := Lib.hid HT
      clear HT
      go_wp2_with fail
      go_ret3
      exact HTT.out

set_option maxRecDepth 100000 in
set_option maxHeartbeats 1000000 in
theorem ropen_fits_past (e : Nat) (he : e < 4294967296) (A : Option Addr) (c : Nat) (l : List UInt8) (w : World) (h : Holds w A l) (hc : l.length ≤ c) (hl : 12 ≤ l.length) (hn : l.length ≤ 100000) (hs : num4 l + 12 ≤ l.length) (hcc : ¬ c = 12) :
    Calls Try.prog 15 #[.int .u32 e, .slice A l.length c] w (RTold w e l) := by
  have HOE := Lib.hid (openE_sealed e he l hl hs)
  have h12 := h.drop 12 c hc
  obtain ⟨b, o, rfl, hb, -⟩ := h 0 (by omega)
  have HW := Lib.hid fun (W : World) (hW : Below w.heap.size w W) => number_any _ c l W (h.below hW) (by omega) (by omega)
  rw [if_neg hcc] at h12
  simp only [Option.map_some, Addr.add_lit] at h12
  have c12 : (c = 12) = False := eq_false hcc
  clear hcc
  have hX : ∀ (W : World) (hW : Below w.heap.size w W), Holds W (some ⟨b, o + 12, none⟩) ((l.drop 12).take (num4 l)) := fun W hW => (h12.below hW).take (num4 l)
  have hxl : ((l.drop 12).take (num4 l)).length = num4 l := by rw [List.length_take, List.length_drop]; omega
  have HXL := Lib.hid hxl
  have HTK : Hid (∀ i, i < num4 l + 12 → (l.take (num4 l + 12))[i]? = l[i]?) := Lib.hid fun i hi => by rw [List.getElem?_take, if_pos hi]
  have HTL : Hid ((l.take (num4 l + 12)).length = num4 l + 12) := Lib.hid (by rw [List.length_take]; omega)
  have HB := fun (hz : openE e l = 0) => (show openB e l = (l.drop 12).take (num4 l) from if_pos hz)
  have HN := fun (hz : openE e l = 0) => (show openN e l = num4 l + 12 from if_pos hz)
  have HBB := Lib.hid HB
  have HNN := Lib.hid HN
  clear HB HN hxl
  have hm := num4_lt l
  generalize num4 l = n at *
  generalize (l.drop 12).take n = x at *
  have SL : ∀ (W : World) (hW : Below w.heap.size w W), _ := fun (W : World) (hW : Below w.heap.size w W) => refSeal_any e he (some ⟨b, o + 12, none⟩) (c - 12) x W (hX W hW) (by rw [HXL.out]; omega)
  rw [HXL.out] at SL
  have HSL := Lib.hid SL
  have HX := Lib.hid hX
  have H0 := Lib.hid h
  have HSN : Hid ((sealed e x).length = n + 12) := Lib.hid (by rw [sealed_length, HXL.out])
  clear SL hX h h12
  have hl' : ¬ (l.length : Int) < 12 := by omega
  have hs' : ¬ (l.length : Int) - 12 < (n : Int) := by omega
  have n12 : (12 : Int) ≤ 12 + (n : Int) := by omega
  have nc : 12 + (n : Int) ≤ (c : Int) := by omega
  go_enter Try.func15, Try.ntmps15
  go_wp2_with fail
  refine (HW.out _ (Below.refl _ _)).mono ?_
  rintro r w1 ⟨rfl, hb1⟩
  go_wp2_with fail
  refine (HW.out _ hb1).mono ?_
  rintro r w2 ⟨rfl, hb2⟩
  have B2 := Lib.hid (below_next hb1 hb2)
  clear hb1 hb2
  go_wp2_with fail
  refine (HSL.out _ B2.out).mono ?_
  rintro r w3 ⟨v, rfl, r3, b3⟩
  have B3 := Lib.hid (below_next B2.out b3)
  obtain ⟨A9, c9, e9, h9, l9, m9⟩ := r3.shape
  rw [HSN.out] at e9
  subst e9
  have H9 := Lib.hid h9
  have HL := Lib.hid (H0.out.below B3.out)
  have HX3 := Lib.hid (HX.out w3 B3.out)
  clear r3 b3 h9 HW HSL HX H0
  generalize hS : sealed e x = S at *
  have HSS := Lib.hid hS
  clear hS
  have hp9 := H9.out 0 (by rw [HSN.out]; omega)
  obtain ⟨g9, o9, e9, _, _⟩ := hp9
  subst e9
  go_wp2_with fail
  go_loopg [10] (n + 13) (fun j s10 wr => ∃ P : Nat, P ≤ n + 12 ∧ n + 12 < P + j ∧ s10 = .int .i64 (P : Nat) ∧ (∀ i, i < P → S[i]? = l[i]?) ∧ ∃ k, wr = w3.drewN k)
  case atStart => exact ⟨0, by omega, by omega, rfl, fun i hi => absurd hi (by omega), 0, rfl⟩
  case round =>
    obtain ⟨P, hP, hj, rfl, heq, k, rfl⟩ := hrel
    have HEQ := Lib.hid heq
    clear heq
    by_cases hlt : P < n + 12
    · have hS1 : P < S.length := by rw [HSN.out]; exact hlt
      have hl1 : P < l.length := by omega
      obtain ⟨_, _, e9, _, k9⟩ := H9.out P hS1
      cases e9
      obtain ⟨_, _, e9, _, kl⟩ := HL.out P hl1
      cases e9
      have i1 : (P : Int) < (n : Int) + 12 := by omega
      have i2 : (P : Int) < (l.length : Int) := by omega
      have HG1 : Hid (S[P]? = some S[P] ∧ l[P]? = some l[P]) := Lib.hid ⟨List.getElem?_eq_getElem hS1, List.getElem?_eq_getElem hl1⟩
      generalize S[P] = y at *
      generalize l[P] = z at *
      by_cases hyz : y = z
      · subst hyz
        have t1 : ((y.toNat : Int) != (y.toNat : Int)) = false := by simp
        go_wp2_with fail
        go_quiet (fail)
        go_wp2_with fail
        go_roundg (n + 12 - P)
        case measure => omega
        case rel =>
          refine ⟨P + 1, by omega, by omega, by simp, fun i hi => ?_, k + nq, rfl⟩
          by_cases hip : i = P
          · rw [hip, HG1.out.1, HG1.out.2]
          · exact HEQ.out i (by omega)
      · have hne : y.toNat ≠ z.toNat := fun q => hyz (UInt8.toNat_inj.1 q)
        have t1 : ((y.toNat : Int) != (z.toNat : Int)) = true := by simp; omega
        have t2 : ((y.toNat : Int) == (z.toNat : Int)) = false := by simp; omega
        have HE : Hid (openE e l = 11) := Lib.hid (by
          rw [HOE.out, if_neg]
          intro q
          have h1 := HG1.out.1
          rw [q, HTK.out P hlt, HG1.out.2] at h1
          exact hyz (Option.some.inj h1).symm)
        clear hyz hne
        go_wp2_with fail
        go_quiet (fail)
        go_wp2_with fail
        go_ret3
        exact rtold_bad 11 HE.out (by decide) (below_drewN (below_drewN B3.out _) _)
    · obtain rfl : P = n + 12 := by omega
      have HE : Hid (openE e l = 0) := Lib.hid (by
        rw [HOE.out, if_pos]
        apply List.ext_getElem?
        intro i
        by_cases hi : i < n + 12
        · rw [HEQ.out i hi, HTK.out i hi]
        · rw [List.getElem?_eq_none (by rw [HSN.out]; omega), List.getElem?_eq_none (by rw [HTL.out]; omega)])
      have i1 : ¬ ((n + 12 : Nat) : Int) < (n : Int) + 12 := by omega
      have HT : RTold w e l (.returned (.tuple #[.slice (some ⟨b, o + 12, none⟩) n (c - 12), .int .i64 (12 + (n : Int)), .int .i64 0])) (w3.drewN k) := by
        refine ⟨(some ⟨b, o + 12, none⟩), c - 12, ?_, ?_, below_drewN B3.out _⟩
        · rw [HNN.out HE.out, HBB.out HE.out, HXL.out, HE.out]
          simp [Int.add_comm]
        · rw [HBB.out HE.out]; exact HX3.out
      have HTT := Lib.hid HT
      clear HT
      go_wp2_with fail
      go_ret3
      exact HTT.out

theorem ropen_any (e : Nat) (he : e < 4294967296) (A : Option Addr) (c : Nat) (l : List UInt8) (w : World) (h : Holds w A l) (hc : l.length ≤ c) (hn : l.length ≤ 100000) :
    Calls Try.prog 15 #[.int .u32 e, .slice A l.length c] w (RTold w e l) := by
  by_cases hl : l.length < 12
  · exact ropen_few e A c l w hl
  · by_cases hs : l.length < num4 l + 12
    · exact ropen_short e A c l w h (by omega) hn hs
    · by_cases hcc : c = 12
      · exact ropen_fits_at e he A c l w h hc (by omega) hn (by omega) hcc
      · exact ropen_fits_past e he A c l w h hc (by omega) hn (by omega) hcc
end Go.Proofs.Ytbdaoecpmodgcaa
