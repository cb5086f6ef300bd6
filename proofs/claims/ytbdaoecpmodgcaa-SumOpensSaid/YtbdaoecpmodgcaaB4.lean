/- Open. -/
import Derived.Test.YtbdaoecpmodgcaaB3
namespace Go.Proofs.Ytbdaoecpmodgcaa
open Go.RowKit

/-- what Open tells of bytes: the error, the record's bytes, and how many bytes it takes. -/
def openE (e : Nat) (l : List UInt8) : Nat := if l.length < 12 ∨ l.length < num4 l + 12 then 7 else if num4 (l.drop 8) ≠ e ∨ num4 (l.drop 4) ≠ sumOn 0 ((l.drop 8).take (num4 l + 4)) then 11 else 0
def openB (e : Nat) (l : List UInt8) : List UInt8 := if openE e l = 0 then (l.drop 12).take (num4 l) else []
def openN (e : Nat) (l : List UInt8) : Nat := if openE e l = 0 then num4 l + 12 else 0

def Told (w : World) (e : Nat) (l : List UInt8) (r : Ending) (w' : World) : Prop := ∃ v, r = .returned (.tuple #[v, .int .i64 (openN e l : Nat), .int .i64 (openE e l : Nat)]) ∧ Row w' w.heap.size v (openB e l) ∧ Below w.heap.size w w'
theorem Row.le {w : World} {base base' : Nat} {v : Value} {l : List UInt8} (h : Row w base v l) (hb : base' ≤ base) : Row w base' v l :=
  ⟨h.1, h.2.imp id fun ⟨g, cap, cur, hv, hg, r⟩ => ⟨g, cap, cur, hv, Nat.le_trans hb hg, r⟩⟩
theorem Row.nil (w : World) (base : Nat) : Row w base (.slice none 0 0) [] := ⟨rfl, .inl ⟨rfl, rfl⟩⟩
theorem told_bad {w w' : World} {e : Nat} {l : List UInt8} (k : Nat) (hk : openE e l = k) (h0 : k ≠ 0) (hb : Below w.heap.size w w') : Told w e l (.returned (.tuple #[.slice none 0 0, .int .i64 0, .int .i64 (k : Nat)])) w' := by
  have hn : ¬ openE e l = 0 := by omega
  refine ⟨.slice none 0 0, ?_, ?_, hb⟩
  · rw [show openN e l = 0 from if_neg hn, hk]; rfl
  · rw [show openB e l = [] from if_neg hn]; exact Row.nil _ _

set_option maxRecDepth 100000 in
set_option maxHeartbeats 1000000 in
theorem open_few (e : Nat) (A : Option Addr) (c : Nat) (l : List UInt8) (w : World) (hl : l.length < 12) :
    Calls Try.prog 11 #[.int .u32 e, .slice A l.length c] w (Told w e l) := by
  have HE := Lib.hid (show openE e l = 7 from if_pos (.inl hl))
  have hl' : (l.length : Int) < 12 := by omega
  go_enter Try.func11, Try.ntmps11
  go_wp2_with fail
  go_ret3
  exact told_bad 7 HE.out (by decide) (Below.refl _ _)

set_option maxRecDepth 100000 in
set_option maxHeartbeats 1000000 in
theorem open_short (e : Nat) (A : Option Addr) (c : Nat) (l : List UInt8) (w : World) (h : Holds w A l) (hl : 12 ≤ l.length) (hn : l.length ≤ 100000) (hs : l.length < num4 l + 12) :
    Calls Try.prog 11 #[.int .u32 e, .slice A l.length c] w (Told w e l) := by
  have HE := Lib.hid (show openE e l = 7 from if_pos (.inr hs))
  have hw := word_any A c l w h (by omega) (by omega)
  have HW := Lib.hid hw
  have hm := num4_lt l
  clear h hw
  have hl' : ¬ (l.length : Int) < 12 := by omega
  generalize num4 l = n at *
  have hs' : (l.length : Int) - 12 < (n : Int) := by omega
  go_enter Try.func11, Try.ntmps11
  go_wp2_with (go_at_call 19; (with_reducible refine HW.out.mono ?_); rintro r w1 ⟨rfl, hb1⟩)
  go_ret3
  exact told_bad 7 HE.out (by decide) (by assumption)

set_option maxRecDepth 100000 in
set_option maxHeartbeats 1000000 in
theorem open_epoch (e : Nat) (A : Option Addr) (c : Nat) (l : List UInt8) (w : World) (h : Holds w A l) (hc : l.length ≤ c) (hl : 12 ≤ l.length) (hn : l.length ≤ 100000) (hs : num4 l + 12 ≤ l.length) (hne : num4 (l.drop 8) ≠ e) :
    Calls Try.prog 11 #[.int .u32 e, .slice A l.length c] w (Told w e l) := by
  have HE := Lib.hid (show openE e l = 11 from by unfold openE; rw [if_neg (by omega), if_pos (.inl hne)])
  obtain ⟨b, o, rfl, hb, -⟩ := h 0 (by omega)
  have HW := Lib.hid fun (W : World) (hW : Below w.heap.size w W) => word_any _ c l W (h.below hW) (by omega) (by omega)
  have h8 : Holds w (some ⟨b, o + 8, none⟩) (l.drop 8) := by have := h.drop 8 c hc; rw [if_neg (by omega)] at this; simpa [Addr.add_lit] using this
  have hw8 := fun (W : World) (hW : Below w.heap.size w W) => word_q _ (c - 8) (l.drop 8) W (h8.below hW) (by rw [List.length_drop]; omega) (by rw [List.length_drop]; omega)
  rw [List.length_drop] at hw8
  have HW8 := Lib.hid hw8
  have hm := num4_lt l
  have hm8 := num4_lt (l.drop 8)
  clear h hw8 h8
  have hl' : ¬ (l.length : Int) < 12 := by omega
  have c8 : (c = 8) = False := eq_false (by omega)
  have l8 : (8 : Int) ≤ (l.length : Int) := by omega
  generalize num4 (l.drop 8) = m at *
  have hd : ((m : Int) != (e : Int)) = true := by simp; omega
  have hd2 : ((m : Int) == (e : Int)) = false := by simp; omega
  generalize num4 l = n at *
  have hs' : ¬ (l.length : Int) - 12 < (n : Int) := by omega
  clear hne
  go_enter Try.func11, Try.ntmps11
  go_wp2_with fail
  refine (HW.out _ (Below.refl _ _)).mono ?_
  rintro r w1 ⟨rfl, hb1⟩
  go_wp2_with fail
  refine (HW.out _ hb1).mono ?_
  rintro r w2 ⟨rfl, hb2⟩
  have B2 := Lib.hid (below_next hb1 hb2)
  go_wp2_with fail
  refine (length_any _ _ (by omega) (by omega)).mono ?_
  rintro r w' ⟨rfl, rfl⟩
  rw [if_neg (by omega)]
  go_wp2_with fail
  go_quiet ((go_at_call 19; exact Calls.quiet_of (HW8.out _ (below_drewN B2.out _))))
  go_wp2_with fail
  go_ret3
  exact told_bad 11 HE.out (by decide) (below_drewN B2.out _)

set_option maxRecDepth 100000 in
set_option maxHeartbeats 1000000 in
theorem open_sum (e : Nat) (A : Option Addr) (c : Nat) (l : List UInt8) (w : World) (h : Holds w A l) (hc : l.length ≤ c) (hl : 12 ≤ l.length) (hn : l.length ≤ 100000) (hs : num4 l + 12 ≤ l.length) (heq : num4 (l.drop 8) = e) (hsum : num4 (l.drop 4) ≠ sumOn 0 ((l.drop 8).take (num4 l + 4))) :
    Calls Try.prog 11 #[.int .u32 e, .slice A l.length c] w (Told w e l) := by
  have HE := Lib.hid (show openE e l = 11 from by unfold openE; rw [if_neg (by omega), if_pos (.inr hsum)])
  obtain ⟨b, o, rfl, hb, -⟩ := h 0 (by omega)
  have HW := Lib.hid fun (W : World) (hW : Below w.heap.size w W) => word_any _ c l W (h.below hW) (by omega) (by omega)
  have h8 : Holds w (some ⟨b, o + 8, none⟩) (l.drop 8) := by have := h.drop 8 c hc; rw [if_neg (by omega)] at this; simpa [Addr.add_lit] using this
  have h4 : Holds w (some ⟨b, o + 4, none⟩) (l.drop 4) := by have := h.drop 4 c hc; rw [if_neg (by omega)] at this; simpa [Addr.add_lit] using this
  have hw8 := fun (W : World) (hW : Below w.heap.size w W) => word_any _ (c - 8) (l.drop 8) W (h8.below hW) (by rw [List.length_drop]; omega) (by rw [List.length_drop]; omega)
  rw [List.length_drop, heq] at hw8
  have hw4 := fun (W : World) (hW : Below w.heap.size w W) => word_any _ (c - 4) (l.drop 4) W (h4.below hW) (by rw [List.length_drop]; omega) (by rw [List.length_drop]; omega)
  rw [List.length_drop] at hw4
  have hof := fun (W : World) (hW : Below w.heap.size w W) => of_any _ (c - 8) ((l.drop 8).take (num4 l + 4)) W ((h8.below hW).take _) (by rw [List.length_take, List.length_drop]; omega)
  rw [show ((l.drop 8).take (num4 l + 4)).length = (((num4 l : Nat) : Int) + 12).toNat - 8 by rw [List.length_take, List.length_drop]; omega] at hof
  have HW8 := Lib.hid hw8
  have HW4 := Lib.hid hw4
  have HOF := Lib.hid hof
  have hm := num4_lt l
  have hm8 := num4_lt (l.drop 4)
  have he : e < 4294967296 := by rw [← heq]; exact num4_lt _
  clear h hw8 hw4 hof h8 h4 heq
  have hl' : ¬ (l.length : Int) < 12 := by omega
  have c8 : (c = 8) = False := eq_false (by omega)
  have c4 : (c = 4) = False := eq_false (by omega)
  have l8 : (8 : Int) ≤ (l.length : Int) := by omega
  have l4 : (4 : Int) ≤ (l.length : Int) := by omega
  generalize num4 (l.drop 4) = q at *
  generalize sumOn 0 ((l.drop 8).take (num4 l + 4)) = s at *
  have hq1 : ((q : Int) != (s : Int)) = true := by simp; omega
  have hq2 : ((q : Int) == (s : Int)) = false := by simp; omega
  clear hsum
  generalize num4 l = n at *
  have hs' : ¬ (l.length : Int) - 12 < (n : Int) := by omega
  have n8 : (8 : Int) ≤ (n : Int) + 12 := by omega
  have n12 : (12 : Int) ≤ (n : Int) + 12 := by omega
  have nc : (n : Int) + 12 ≤ (c : Int) := by omega
  have he1 : ((e : Int) != (e : Int)) = false := by simp
  have he2 : ((e : Int) == (e : Int)) = true := by simp
  go_enter Try.func11, Try.ntmps11
  go_wp2_with fail
  refine (HW.out _ (Below.refl _ _)).mono ?_
  rintro r w1 ⟨rfl, hb1⟩
  go_wp2_with fail
  refine (HW.out _ hb1).mono ?_
  rintro r w2 ⟨rfl, hb2⟩
  have B2 := Lib.hid (below_next hb1 hb2)
  clear hb1 hb2
  go_wp2_with fail
  refine (length_any _ _ (by omega) (by omega)).mono ?_
  rintro r w' ⟨rfl, rfl⟩
  rw [if_neg (by omega)]
  go_wp2_with fail
  go_region_held3 (fun W' => Below w.heap.size w W')
    (first
      | exact B2.out.drew
      | exact below_next (by assumption) hbK)
    (first
      | (go_at_call 19; (with_reducible refine (HW8.out _ (by assumption)).mono ?_); rintro r w' ⟨rfl, hbK⟩)
      | (go_at_call 19; (with_reducible refine (HW4.out _ (by assumption)).mono ?_); rintro r w' ⟨rfl, hbK⟩)
      | (go_at_call 7; (with_reducible refine (HOF.out _ (by assumption)).mono ?_); rintro r w' ⟨rfl, hbK⟩))
  go_split_ands
  go_wp2_with fail
  go_ret3
  exact told_bad 11 HE.out (by decide) (by assumption)

set_option maxRecDepth 100000 in
set_option maxHeartbeats 1000000 in
theorem open_good (e : Nat) (A : Option Addr) (c : Nat) (l : List UInt8) (w : World) (h : Holds w A l) (hc : l.length ≤ c) (hl : 12 ≤ l.length) (hn : l.length ≤ 100000) (hs : num4 l + 12 ≤ l.length) (heq : num4 (l.drop 8) = e) (hsum : num4 (l.drop 4) = sumOn 0 ((l.drop 8).take (num4 l + 4))) :
    Calls Try.prog 11 #[.int .u32 e, .slice A l.length c] w (Told w e l) := by
  have HE := Lib.hid (show openE e l = 0 from by unfold openE; rw [if_neg (by omega), if_neg (by rw [heq, hsum]; simp)])
  have HB := Lib.hid (show openB e l = (l.drop 12).take (num4 l) from if_pos HE.out)
  have HN := Lib.hid (show openN e l = num4 l + 12 from if_pos HE.out)
  obtain ⟨b, o, rfl, hb, -⟩ := h 0 (by omega)
  have HW := Lib.hid fun (W : World) (hW : Below w.heap.size w W) => word_any _ c l W (h.below hW) (by omega) (by omega)
  have h8 : Holds w (some ⟨b, o + 8, none⟩) (l.drop 8) := by have := h.drop 8 c hc; rw [if_neg (by omega)] at this; simpa [Addr.add_lit] using this
  have h4 : Holds w (some ⟨b, o + 4, none⟩) (l.drop 4) := by have := h.drop 4 c hc; rw [if_neg (by omega)] at this; simpa [Addr.add_lit] using this
  have hw8 := fun (W : World) (hW : Below w.heap.size w W) => word_any _ (c - 8) (l.drop 8) W (h8.below hW) (by rw [List.length_drop]; omega) (by rw [List.length_drop]; omega)
  rw [List.length_drop, heq] at hw8
  have hw4 := fun (W : World) (hW : Below w.heap.size w W) => word_any _ (c - 4) (l.drop 4) W (h4.below hW) (by rw [List.length_drop]; omega) (by rw [List.length_drop]; omega)
  rw [List.length_drop] at hw4
  have hof := fun (W : World) (hW : Below w.heap.size w W) => of_any _ (c - 8) ((l.drop 8).take (num4 l + 4)) W ((h8.below hW).take _) (by rw [List.length_take, List.length_drop]; omega)
  rw [show ((l.drop 8).take (num4 l + 4)).length = (((num4 l : Nat) : Int) + 12).toNat - 8 by rw [List.length_take, List.length_drop]; omega, ← hsum] at hof
  have HW8 := Lib.hid hw8
  have HW4 := Lib.hid hw4
  have HOF := Lib.hid hof
  have hm := num4_lt l
  have hm8 := num4_lt (l.drop 4)
  have he : e < 4294967296 := by rw [← heq]; exact num4_lt _
  have h12 := h.drop 12 c hc
  have hcl := fun (W : World) (hW : Below w.heap.size w W) => clone_any _ (c - 12) ((l.drop 12).take (num4 l)) W ((h12.below hW).take _) (by rw [List.length_take, List.length_drop]; omega)
  rw [show ((l.drop 12).take (num4 l)).length = (((num4 l : Nat) : Int) + 12).toNat - 12 by rw [List.length_take, List.length_drop]; omega, ← HB.out] at hcl
  have HCL := Lib.hid hcl
  clear h12 hcl
  clear h hw8 hw4 hof h8 h4 heq
  have hl' : ¬ (l.length : Int) < 12 := by omega
  have c8 : (c = 8) = False := eq_false (by omega)
  have c4 : (c = 4) = False := eq_false (by omega)
  have l8 : (8 : Int) ≤ (l.length : Int) := by omega
  have l4 : (4 : Int) ≤ (l.length : Int) := by omega
  generalize num4 (l.drop 4) = q at *
  clear hsum
  generalize num4 l = n at *
  have hs' : ¬ (l.length : Int) - 12 < (n : Int) := by omega
  have n8 : (8 : Int) ≤ (n : Int) + 12 := by omega
  have n12 : (12 : Int) ≤ (n : Int) + 12 := by omega
  have nc : (n : Int) + 12 ≤ (c : Int) := by omega
  have he1 : ((e : Int) != (e : Int)) = false := by simp
  have he2 : ((e : Int) == (e : Int)) = true := by simp
  go_enter Try.func11, Try.ntmps11
  go_wp2_with fail
  refine (HW.out _ (Below.refl _ _)).mono ?_
  rintro r w1 ⟨rfl, hb1⟩
  go_wp2_with fail
  refine (HW.out _ hb1).mono ?_
  rintro r w2 ⟨rfl, hb2⟩
  have B2 := Lib.hid (below_next hb1 hb2)
  clear hb1 hb2
  go_wp2_with fail
  refine (length_any _ _ (by omega) (by omega)).mono ?_
  rintro r w' ⟨rfl, rfl⟩
  rw [if_neg (by omega)]
  go_wp2_with fail
  go_region_held3 (fun W' => Below w.heap.size w W')
    (first
      | exact B2.out.drew
      | exact below_next (by assumption) hbK)
    (first
      | (go_at_call 19; (with_reducible refine (HW8.out _ (by assumption)).mono ?_); rintro r w' ⟨rfl, hbK⟩)
      | (go_at_call 19; (with_reducible refine (HW4.out _ (by assumption)).mono ?_); rintro r w' ⟨rfl, hbK⟩)
      | (go_at_call 7; (with_reducible refine (HOF.out _ (by assumption)).mono ?_); rintro r w' ⟨rfl, hbK⟩))
  go_split_ands
  have B3 : Hid (Below w.heap.size w w') := Lib.hid (by assumption)
  have HT : ∀ (v : Value) (w3 : World), Row w3 w'.heap.size v (openB e l) → Below w'.heap.size w' w3 → Told w e l (.returned (.tuple #[v, .int .i64 ((n : Int) + 12), .int .i64 0])) w3 := by
    intro v w3 hr hb3
    refine ⟨v, ?_, hr.le B3.out.size, below_next B3.out hb3⟩
    rw [HN.out, HE.out]
    simp
  have HTT := Lib.hid HT
  clear HT
  by_cases hc12 : c = 12
  · have c12 : (c = 12) = True := eq_true hc12
    have hcl := HCL.out w' B3.out
    rw [if_pos hc12] at hcl
    have HC2 := Lib.hid hcl
    clear hcl hc12
    go_wp2_with fail
    refine HC2.out.mono ?_
    rintro r w3 ⟨v, rfl, hr, hb3⟩
    have R3 := Lib.hid (HTT.out v w3 hr hb3)
    clear hr hb3
    go_wp2_with fail
    go_ret3
    exact R3.out
  · have c12 : (c = 12) = False := eq_false hc12
    have hcl := HCL.out w' B3.out
    rw [if_neg hc12] at hcl
    simp only [Option.map_some, Addr.add_lit] at hcl
    have HC2 := Lib.hid hcl
    clear hcl hc12
    go_wp2_with fail
    refine HC2.out.mono ?_
    rintro r w3 ⟨v, rfl, hr, hb3⟩
    have R3 := Lib.hid (HTT.out v w3 hr hb3)
    clear hr hb3
    go_wp2_with fail
    go_ret3
    exact R3.out

theorem open_any (e : Nat) (A : Option Addr) (c : Nat) (l : List UInt8) (w : World) (h : Holds w A l) (hc : l.length ≤ c) (hn : l.length ≤ 100000) :
    Calls Try.prog 11 #[.int .u32 e, .slice A l.length c] w (Told w e l) := by
  by_cases hl : l.length < 12
  · exact open_few e A c l w hl
  · by_cases hs : l.length < num4 l + 12
    · exact open_short e A c l w h (by omega) hn hs
    · by_cases heq : num4 (l.drop 8) = e
      · by_cases hq : num4 (l.drop 4) = sumOn 0 ((l.drop 8).take (num4 l + 4))
        · exact open_good e A c l w h hc (by omega) hn (by omega) heq hq
        · exact open_sum e A c l w h hc (by omega) hn (by omega) heq hq
      · exact open_epoch e A c l w h hc (by omega) hn (by omega) heq
end Go.Proofs.Ytbdaoecpmodgcaa
