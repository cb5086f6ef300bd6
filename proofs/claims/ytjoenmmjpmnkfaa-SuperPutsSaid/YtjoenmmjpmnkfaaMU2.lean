import Derived.Test.YtjoenmmjpmnkfaaMU1

/- read: the superblock at the front of bytes, by cases. -/
namespace Go.Proofs.Ytjoenmmjpmnkfaa
open Go.RowKit
set_option maxRecDepth 100000 in
set_option maxHeartbeats 1000000 in
theorem sread_err (A : Option Addr) (c : Nat) (l : List UInt8) (w : World) (h : Holds w A l) (hc : l.length ≤ c) (hl : 12 ≤ l.length) (hn : l.length ≤ 100000) (he : openE (num4 (l.drop 8)) l ≠ 0) :
    Calls Try.prog 31 #[.slice A l.length c] w fun e w' => e = .returned (.tuple #[sup 0 0 0, .bool false]) ∧ Below w.heap.size w w' := by
  have al : Below w.heap.size w (w.alloc (.cells #[.int .u32 0, .int .i64 0, .int .i64 0] 30)) := (Below.refl _ _).alloc (Nat.le_refl _) _
  have N0 := Whole.new w 30 #[.int .u32 0, .int .i64 0, .int .i64 0]
  have hA := h.below al
  have EP := Lib.hid (epochOf_any A c l _ hA hl hn)
  have OP := Lib.hid (open_any (num4 (l.drop 8)) A c l _ hA hc hn)
  have he32 := num4_lt (l.drop 8)
  generalize num4 (l.drop 8) = ep at *
  generalize hwA : w.alloc (.cells #[.int .u32 0, .int .i64 0, .int .i64 0] 30) = wA at *
  have HWA := Lib.hid hwA
  have NA := Lib.hid N0
  have AL := Lib.hid al
  clear hwA N0 al hA h
  generalize l.length = ll at *
  go_enter Try.func31, Try.ntmps31
  go_wp2_with fail
  rw [HWA.out]
  refine EP.out.mono ?_
  rintro r w1 ⟨rfl, hw1⟩
  rw [← hw1] at OP NA AL
  clear hw1 EP
  go_wp2_with fail
  refine OP.out.mono ?_
  rintro r w2 ⟨v2, rfl, hr2, hb2⟩
  obtain ⟨A2, c2, e2, hh2, hc2, hm2⟩ := hr2.shape
  subst e2
  have q1 : w.heap.size < w1.heap.size := NA.out.lt
  have N2 := Lib.hid (NA.out.below hb2 q1)
  have B2 := Lib.hid (below_next AL.out hb2)
  have t0 := N2.out.cell 0
  have t1 := N2.out.cell 1
  have t2 := N2.out.cell 2
  have f0 := N2.out.frozen 0
  have f1 := N2.out.frozen 1
  have f2 := N2.out.frozen 2
  simp only [List.getElem?_toArray, List.getElem?_cons_zero, List.getElem?_cons_succ] at t0 t1 t2
  have hq : (((openE ep l : Nat) : Int) == 0) = false := by simpa using he
  generalize openE ep l = E at *
  generalize openN ep l = n at *
  clear hr2 hh2 hb2 OP
  go_wp2_with fail
  exact bodyPost_ret (results_s2 rfl _ _ w.heap.size #[.int .u32 0, .int .i64 0, .int .i64 0] rfl (N2.out.three _ _ _) rfl) rfl ⟨rfl, below_three B2.out (by omega) _ _ _⟩
set_option maxRecDepth 100000 in
set_option maxHeartbeats 1000000 in
theorem sread_nil (A : Option Addr) (c : Nat) (l : List UInt8) (w : World) (h : Holds w A l) (hc : l.length ≤ c) (hl : 12 ≤ l.length) (hn : l.length ≤ 100000) (he : openE (num4 (l.drop 8)) l = 0) (hx : openB (num4 (l.drop 8)) l = []) :
    Calls Try.prog 31 #[.slice A l.length c] w fun e w' => e = .returned (.tuple #[sup 0 0 0, .bool false]) ∧ Below w.heap.size w w' := by
  have al : Below w.heap.size w (w.alloc (.cells #[.int .u32 0, .int .i64 0, .int .i64 0] 30)) := (Below.refl _ _).alloc (Nat.le_refl _) _
  have N0 := Whole.new w 30 #[.int .u32 0, .int .i64 0, .int .i64 0]
  have hA := h.below al
  have EP := Lib.hid (epochOf_any A c l _ hA hl hn)
  have OP := Lib.hid (open_any (num4 (l.drop 8)) A c l _ hA hc hn)
  have he32 := num4_lt (l.drop 8)
  generalize num4 (l.drop 8) = ep at *
  generalize hwA : w.alloc (.cells #[.int .u32 0, .int .i64 0, .int .i64 0] 30) = wA at *
  have HWA := Lib.hid hwA
  have NA := Lib.hid N0
  have AL := Lib.hid al
  clear hwA N0 al hA h
  generalize l.length = ll at *
  go_enter Try.func31, Try.ntmps31
  go_wp2_with fail
  rw [HWA.out]
  refine EP.out.mono ?_
  rintro r w1 ⟨rfl, hw1⟩
  rw [← hw1] at OP NA AL
  clear hw1 EP
  go_wp2_with fail
  refine OP.out.mono ?_
  rintro r w2 ⟨v2, rfl, hr2, hb2⟩
  obtain ⟨A2, c2, e2, hh2, hc2, hm2⟩ := hr2.shape
  subst e2
  have q1 : w.heap.size < w1.heap.size := NA.out.lt
  have N2 := Lib.hid (NA.out.below hb2 q1)
  have B2 := Lib.hid (below_next AL.out hb2)
  have t0 := N2.out.cell 0
  have t1 := N2.out.cell 1
  have t2 := N2.out.cell 2
  have f0 := N2.out.frozen 0
  have f1 := N2.out.frozen 1
  have f2 := N2.out.frozen 2
  simp only [List.getElem?_toArray, List.getElem?_cons_zero, List.getElem?_cons_succ] at t0 t1 t2
  rw [he]
  rw [hx] at hr2 hh2 ⊢
  generalize openN ep l = n at *
  clear hr2 hh2 hb2 OP
  go_wp2_with fail
  exact bodyPost_ret (results_s2 rfl _ _ w.heap.size #[.int .u32 0, .int .i64 0, .int .i64 0] rfl (N2.out.three _ _ _) rfl) rfl ⟨rfl, below_three B2.out (by omega) _ _ _⟩
set_option maxRecDepth 100000 in
set_option maxHeartbeats 1000000 in
theorem sread_none (A : Option Addr) (c : Nat) (l : List UInt8) (w : World) (h : Holds w A l) (hc : l.length ≤ c) (hl : 12 ≤ l.length) (hn : l.length ≤ 100000) (x : UInt8) (r : List UInt8) (he : openE (num4 (l.drop 8)) l = 0) (hx : openB (num4 (l.drop 8)) l = x :: r) (hnum : numOf r = none) :
    Calls Try.prog 31 #[.slice A l.length c] w fun e w' => e = .returned (.tuple #[sup 0 0 0, .bool false]) ∧ Below w.heap.size w w' := by
  have al : Below w.heap.size w (w.alloc (.cells #[.int .u32 0, .int .i64 0, .int .i64 0] 30)) := (Below.refl _ _).alloc (Nat.le_refl _) _
  have N0 := Whole.new w 30 #[.int .u32 0, .int .i64 0, .int .i64 0]
  have hA := h.below al
  have EP := Lib.hid (epochOf_any A c l _ hA hl hn)
  have OP := Lib.hid (open_any (num4 (l.drop 8)) A c l _ hA hc hn)
  have he32 := num4_lt (l.drop 8)
  generalize num4 (l.drop 8) = ep at *
  generalize hwA : w.alloc (.cells #[.int .u32 0, .int .i64 0, .int .i64 0] 30) = wA at *
  have HWA := Lib.hid hwA
  have NA := Lib.hid N0
  have AL := Lib.hid al
  clear hwA N0 al hA h
  have HBL : Hid ((openB ep l).length ≤ l.length) := Lib.hid (openB_len ep l)
  generalize l.length = ll at *
  go_enter Try.func31, Try.ntmps31
  go_wp2_with fail
  rw [HWA.out]
  refine EP.out.mono ?_
  rintro r w1 ⟨rfl, hw1⟩
  rw [← hw1] at OP NA AL
  clear hw1 EP
  go_wp2_with fail
  refine OP.out.mono ?_
  rintro r w2 ⟨v2, rfl, hr2, hb2⟩
  obtain ⟨A2, c2, e2, hh2, hc2, hm2⟩ := hr2.shape
  subst e2
  have q1 : w.heap.size < w1.heap.size := NA.out.lt
  have N2 := Lib.hid (NA.out.below hb2 q1)
  have B2 := Lib.hid (below_next AL.out hb2)
  have ho : openB ep l = x :: r := hx
  rw [he]
  rw [ho] at hr2 hh2 hc2 HBL ⊢
  generalize openN ep l = n0 at *
  have hrl : r.length ≤ 100000 := by
    have h5 := HBL.out
    simp only [List.length_cons] at h5
    omega
  simp only [List.length_cons] at hc2
  obtain ⟨bx, ox, ex, hltx, hcx⟩ := hh2 0 (by simp)
  rw [show (x :: r)[0] = x from rfl] at hcx
  subst ex
  have hd := hh2.drop 1 c2 (by simp only [List.length_cons]; omega)
  rw [show (x :: r).drop 1 = r from rfl] at hd
  have hrlen : (x :: r).length = r.length + 1 := rfl
  rw [hrlen]
  have hpos : (0 : Int) < ((r.length + 1 : Nat) : Int) := by omega
  by_cases hc1 : c2 = 1
  · have hr0 : r = [] := by
      have : r.length = 0 := by omega
      exact List.length_eq_zero_iff.1 this
    rw [hr0] at hnum
    have GU := get_uint (some ⟨bx, ox, none⟩) 0 r w2 (by rw [hr0]; exact Holds.nil _ _) (by rw [hr0]; simp) hrl
    rw [hr0] at GU
    rw [hnum] at GU
    have GU1 := Lib.hid GU
    have hc1' : (c2 = 1) = True := by simp [hc1]
    have xl := x.toNat_lt
    clear hd GU hh2 hr2 hb2 OP HBL
    subst hr0
    simp only [List.length_nil, Nat.zero_add] at hpos ⊢
    go_wp2_with fail
    refine GU1.out.mono ?_
    rintro e w3 ⟨hb3, rfl⟩
    have q2 : w.heap.size < w2.heap.size := N2.out.lt
    have N3 := Lib.hid (N2.out.below hb3 q2)
    have B3 := Lib.hid (below_next B2.out hb3)
    have t0 := N3.out.cell 0
    have t1 := N3.out.cell 1
    have t2 := N3.out.cell 2
    have f0 := N3.out.frozen 0
    have f1 := N3.out.frozen 1
    have f2 := N3.out.frozen 2
    simp only [List.getElem?_toArray, List.getElem?_cons_zero, List.getElem?_cons_succ] at t0 t1 t2
    clear hb3 GU1 hc1
    go_wp2_with fail
    exact bodyPost_ret (results_s2 rfl _ _ w.heap.size #[.int .u32 0, .int .i64 0, .int .i64 0] rfl (N3.out.three _ _ _) rfl) rfl ⟨rfl, below_three B3.out (by omega) _ _ _⟩
  · have hd1 : Holds w2 (some ⟨bx, ox + 1, none⟩) r := by
      rw [if_neg hc1] at hd
      exact hd
    have GU := get_uint (some ⟨bx, ox + 1, none⟩) (c2 - 1) r w2 hd1 (by omega) hrl
    rw [hnum] at GU
    have GU1 := Lib.hid GU
    have hc1' : (c2 = 1) = False := by simp [hc1]
    have xl := x.toNat_lt
    clear hd hd1 GU hh2 hr2 hb2 OP HBL
    generalize r.length = rl at *
    go_wp2_with fail
    refine GU1.out.mono ?_
    rintro e w3 ⟨hb3, rfl⟩
    have q2 : w.heap.size < w2.heap.size := N2.out.lt
    have N3 := Lib.hid (N2.out.below hb3 q2)
    have B3 := Lib.hid (below_next B2.out hb3)
    have t0 := N3.out.cell 0
    have t1 := N3.out.cell 1
    have t2 := N3.out.cell 2
    have f0 := N3.out.frozen 0
    have f1 := N3.out.frozen 1
    have f2 := N3.out.frozen 2
    simp only [List.getElem?_toArray, List.getElem?_cons_zero, List.getElem?_cons_succ] at t0 t1 t2
    clear hb3 GU1 hc1
    go_wp2_with fail
    exact bodyPost_ret (results_s2 rfl _ _ w.heap.size #[.int .u32 0, .int .i64 0, .int .i64 0] rfl (N3.out.three _ _ _) rfl) rfl ⟨rfl, below_three B3.out (by omega) _ _ _⟩
set_option maxRecDepth 100000 in
set_option maxHeartbeats 1000000 in
theorem sread_more (A : Option Addr) (c : Nat) (l : List UInt8) (w : World) (h : Holds w A l) (hc : l.length ≤ c) (hl : 12 ≤ l.length) (hn : l.length ≤ 100000) (x : UInt8) (r : List UInt8) (he : openE (num4 (l.drop 8)) l = 0) (hx : openB (num4 (l.drop 8)) l = x :: r) (n : Nat) (y : UInt8) (t : List UInt8) (hnum : numOf r = some (n, y :: t)) :
    Calls Try.prog 31 #[.slice A l.length c] w fun e w' => e = .returned (.tuple #[sup 0 0 0, .bool false]) ∧ Below w.heap.size w w' := by
  have al : Below w.heap.size w (w.alloc (.cells #[.int .u32 0, .int .i64 0, .int .i64 0] 30)) := (Below.refl _ _).alloc (Nat.le_refl _) _
  have N0 := Whole.new w 30 #[.int .u32 0, .int .i64 0, .int .i64 0]
  have hA := h.below al
  have EP := Lib.hid (epochOf_any A c l _ hA hl hn)
  have OP := Lib.hid (open_any (num4 (l.drop 8)) A c l _ hA hc hn)
  have he32 := num4_lt (l.drop 8)
  generalize num4 (l.drop 8) = ep at *
  generalize hwA : w.alloc (.cells #[.int .u32 0, .int .i64 0, .int .i64 0] 30) = wA at *
  have HWA := Lib.hid hwA
  have NA := Lib.hid N0
  have AL := Lib.hid al
  clear hwA N0 al hA h
  have HBL : Hid ((openB ep l).length ≤ l.length) := Lib.hid (openB_len ep l)
  generalize l.length = ll at *
  go_enter Try.func31, Try.ntmps31
  go_wp2_with fail
  rw [HWA.out]
  refine EP.out.mono ?_
  rintro r w1 ⟨rfl, hw1⟩
  rw [← hw1] at OP NA AL
  clear hw1 EP
  go_wp2_with fail
  refine OP.out.mono ?_
  rintro r w2 ⟨v2, rfl, hr2, hb2⟩
  obtain ⟨A2, c2, e2, hh2, hc2, hm2⟩ := hr2.shape
  subst e2
  have q1 : w.heap.size < w1.heap.size := NA.out.lt
  have N2 := Lib.hid (NA.out.below hb2 q1)
  have B2 := Lib.hid (below_next AL.out hb2)
  have ho : openB ep l = x :: r := hx
  rw [he]
  rw [ho] at hr2 hh2 hc2 HBL ⊢
  generalize openN ep l = n0 at *
  have hrl : r.length ≤ 100000 := by
    have h5 := HBL.out
    simp only [List.length_cons] at h5
    omega
  simp only [List.length_cons] at hc2
  obtain ⟨bx, ox, ex, hltx, hcx⟩ := hh2 0 (by simp)
  rw [show (x :: r)[0] = x from rfl] at hcx
  subst ex
  have hd := hh2.drop 1 c2 (by simp only [List.length_cons]; omega)
  rw [show (x :: r).drop 1 = r from rfl] at hd
  have hrlen : (x :: r).length = r.length + 1 := rfl
  rw [hrlen]
  have hpos : (0 : Int) < ((r.length + 1 : Nat) : Int) := by omega
  have hc1 : ¬ c2 = 1 := by
    intro hc1
    have : r.length = 0 := by omega
    rw [List.length_eq_zero_iff.1 this] at hnum
    have h0 : numOf [] = none := rfl
    rw [h0] at hnum
    cases hnum
  have hd1 : Holds w2 (some ⟨bx, ox + 1, none⟩) r := by
    rw [if_neg hc1] at hd
    exact hd
  have GU := get_uint (some ⟨bx, ox + 1, none⟩) (c2 - 1) r w2 hd1 (by omega) hrl
  rw [hnum] at GU
  have GU1 := Lib.hid GU
  have hc1' : (c2 = 1) = False := by simp [hc1]
  have xl := x.toNat_lt
  clear hd hd1 GU hh2 hr2 hb2 OP HBL
  generalize r.length = rl at *
  go_wp2_with fail
  refine GU1.out.mono ?_
  rintro e w3 ⟨hb3, hg⟩
  have q2 : w.heap.size < w2.heap.size := N2.out.lt
  have N3 := Lib.hid (N2.out.below hb3 q2)
  have B3 := Lib.hid (below_next B2.out hb3)
  obtain ⟨v3, rfl, hr3⟩ := hg
  obtain ⟨A3, c3, e3, hh3, hc3, hm3⟩ := hr3.shape
  subst e3
  have t0 := N3.out.cell 0
  have t1 := N3.out.cell 1
  have t2 := N3.out.cell 2
  have f0 := N3.out.frozen 0
  have f1 := N3.out.frozen 1
  have f2 := N3.out.frozen 2
  simp only [List.getElem?_toArray, List.getElem?_cons_zero, List.getElem?_cons_succ] at t0 t1 t2
  have hpos3 : (0 : Int) < (((y :: t).length : Nat) : Int) := by simp only [List.length_cons]; omega
  generalize (y :: t).length = tl at *
  clear hb3 GU1 hc1 hh3 hr3
  go_wp2_with fail
  exact bodyPost_ret (results_s2 rfl _ _ w.heap.size #[.int .u32 0, .int .i64 0, .int .i64 0] rfl (N3.out.three _ _ _) rfl) rfl ⟨rfl, below_three B3.out (by omega) _ _ _⟩
set_option maxRecDepth 100000 in
set_option maxHeartbeats 1000000 in
theorem sread_far (A : Option Addr) (c : Nat) (l : List UInt8) (w : World) (h : Holds w A l) (hc : l.length ≤ c) (hl : 12 ≤ l.length) (hn : l.length ≤ 100000) (x : UInt8) (r : List UInt8) (he : openE (num4 (l.drop 8)) l = 0) (hx : openB (num4 (l.drop 8)) l = x :: r) (n : Nat) (hnum : numOf r = some (n, [])) (hf : 600 < n) :
    Calls Try.prog 31 #[.slice A l.length c] w fun e w' => e = .returned (.tuple #[sup 0 0 0, .bool false]) ∧ Below w.heap.size w w' := by
  have al : Below w.heap.size w (w.alloc (.cells #[.int .u32 0, .int .i64 0, .int .i64 0] 30)) := (Below.refl _ _).alloc (Nat.le_refl _) _
  have N0 := Whole.new w 30 #[.int .u32 0, .int .i64 0, .int .i64 0]
  have hA := h.below al
  have EP := Lib.hid (epochOf_any A c l _ hA hl hn)
  have OP := Lib.hid (open_any (num4 (l.drop 8)) A c l _ hA hc hn)
  have he32 := num4_lt (l.drop 8)
  generalize num4 (l.drop 8) = ep at *
  generalize hwA : w.alloc (.cells #[.int .u32 0, .int .i64 0, .int .i64 0] 30) = wA at *
  have HWA := Lib.hid hwA
  have NA := Lib.hid N0
  have AL := Lib.hid al
  clear hwA N0 al hA h
  have HBL : Hid ((openB ep l).length ≤ l.length) := Lib.hid (openB_len ep l)
  generalize l.length = ll at *
  go_enter Try.func31, Try.ntmps31
  go_wp2_with fail
  rw [HWA.out]
  refine EP.out.mono ?_
  rintro r w1 ⟨rfl, hw1⟩
  rw [← hw1] at OP NA AL
  clear hw1 EP
  go_wp2_with fail
  refine OP.out.mono ?_
  rintro r w2 ⟨v2, rfl, hr2, hb2⟩
  obtain ⟨A2, c2, e2, hh2, hc2, hm2⟩ := hr2.shape
  subst e2
  have q1 : w.heap.size < w1.heap.size := NA.out.lt
  have N2 := Lib.hid (NA.out.below hb2 q1)
  have B2 := Lib.hid (below_next AL.out hb2)
  have ho : openB ep l = x :: r := hx
  rw [he]
  rw [ho] at hr2 hh2 hc2 HBL ⊢
  generalize openN ep l = n0 at *
  have hrl : r.length ≤ 100000 := by
    have h5 := HBL.out
    simp only [List.length_cons] at h5
    omega
  simp only [List.length_cons] at hc2
  obtain ⟨bx, ox, ex, hltx, hcx⟩ := hh2 0 (by simp)
  rw [show (x :: r)[0] = x from rfl] at hcx
  subst ex
  have hd := hh2.drop 1 c2 (by simp only [List.length_cons]; omega)
  rw [show (x :: r).drop 1 = r from rfl] at hd
  have hrlen : (x :: r).length = r.length + 1 := rfl
  rw [hrlen]
  have hpos : (0 : Int) < ((r.length + 1 : Nat) : Int) := by omega
  have hc1 : ¬ c2 = 1 := by
    intro hc1
    have : r.length = 0 := by omega
    rw [List.length_eq_zero_iff.1 this] at hnum
    have h0 : numOf [] = none := rfl
    rw [h0] at hnum
    cases hnum
  have hd1 : Holds w2 (some ⟨bx, ox + 1, none⟩) r := by
    rw [if_neg hc1] at hd
    exact hd
  have GU := get_uint (some ⟨bx, ox + 1, none⟩) (c2 - 1) r w2 hd1 (by omega) hrl
  rw [hnum] at GU
  have GU1 := Lib.hid GU
  have hc1' : (c2 = 1) = False := by simp [hc1]
  have xl := x.toNat_lt
  clear hd hd1 GU hh2 hr2 hb2 OP HBL
  generalize r.length = rl at *
  go_wp2_with fail
  refine GU1.out.mono ?_
  rintro e w3 ⟨hb3, hg⟩
  have q2 : w.heap.size < w2.heap.size := N2.out.lt
  have N3 := Lib.hid (N2.out.below hb3 q2)
  have B3 := Lib.hid (below_next B2.out hb3)
  obtain ⟨v3, rfl, hr3⟩ := hg
  obtain ⟨A3, c3, e3, hh3, hc3, hm3⟩ := hr3.shape
  subst e3
  have t0 := N3.out.cell 0
  have t1 := N3.out.cell 1
  have t2 := N3.out.cell 2
  have f0 := N3.out.frozen 0
  have f1 := N3.out.frozen 1
  have f2 := N3.out.frozen 2
  simp only [List.getElem?_toArray, List.getElem?_cons_zero, List.getElem?_cons_succ] at t0 t1 t2
  have hf' : (600 : Int) < (n : Int) := by omega
  simp only [List.length_nil] at hc3 ⊢
  clear hb3 GU1 hc1 hh3 hr3
  go_wp2_with fail
  exact bodyPost_ret (results_s2 rfl _ _ w.heap.size #[.int .u32 0, .int .i64 0, .int .i64 0] rfl (N3.out.three _ _ _) rfl) rfl ⟨rfl, below_three B3.out (by omega) _ _ _⟩
set_option maxRecDepth 100000 in
set_option maxHeartbeats 1000000 in
theorem sread_fit (A : Option Addr) (c : Nat) (l : List UInt8) (w : World) (h : Holds w A l) (hc : l.length ≤ c) (hl : 12 ≤ l.length) (hn : l.length ≤ 100000) (x : UInt8) (r : List UInt8) (he : openE (num4 (l.drop 8)) l = 0) (hx : openB (num4 (l.drop 8)) l = x :: r) (n : Nat) (hnum : numOf r = some (n, [])) (hf : n ≤ 600) :
    Calls Try.prog 31 #[.slice A l.length c] w fun e w' => e = .returned (.tuple #[sup (num4 (l.drop 8) : Nat) (x.toNat : Nat) (n : Nat), .bool (fitsB (num4 (l.drop 8) : Nat) (x.toNat : Nat) (n : Nat))]) ∧ Below w.heap.size w w' := by
  have al : Below w.heap.size w (w.alloc (.cells #[.int .u32 0, .int .i64 0, .int .i64 0] 30)) := (Below.refl _ _).alloc (Nat.le_refl _) _
  have N0 := Whole.new w 30 #[.int .u32 0, .int .i64 0, .int .i64 0]
  have hA := h.below al
  have EP := Lib.hid (epochOf_any A c l _ hA hl hn)
  have OP := Lib.hid (open_any (num4 (l.drop 8)) A c l _ hA hc hn)
  have he32 := num4_lt (l.drop 8)
  generalize num4 (l.drop 8) = ep at *
  generalize hwA : w.alloc (.cells #[.int .u32 0, .int .i64 0, .int .i64 0] 30) = wA at *
  have HWA := Lib.hid hwA
  have NA := Lib.hid N0
  have AL := Lib.hid al
  clear hwA N0 al hA h
  have HBL : Hid ((openB ep l).length ≤ l.length) := Lib.hid (openB_len ep l)
  generalize l.length = ll at *
  go_enter Try.func31, Try.ntmps31
  go_wp2_with fail
  rw [HWA.out]
  refine EP.out.mono ?_
  rintro r w1 ⟨rfl, hw1⟩
  rw [← hw1] at OP NA AL
  clear hw1 EP
  go_wp2_with fail
  refine OP.out.mono ?_
  rintro r w2 ⟨v2, rfl, hr2, hb2⟩
  obtain ⟨A2, c2, e2, hh2, hc2, hm2⟩ := hr2.shape
  subst e2
  have q1 : w.heap.size < w1.heap.size := NA.out.lt
  have N2 := Lib.hid (NA.out.below hb2 q1)
  have B2 := Lib.hid (below_next AL.out hb2)
  have ho : openB ep l = x :: r := hx
  rw [he]
  rw [ho] at hr2 hh2 hc2 HBL ⊢
  generalize openN ep l = n0 at *
  have hrl : r.length ≤ 100000 := by
    have h5 := HBL.out
    simp only [List.length_cons] at h5
    omega
  simp only [List.length_cons] at hc2
  obtain ⟨bx, ox, ex, hltx, hcx⟩ := hh2 0 (by simp)
  rw [show (x :: r)[0] = x from rfl] at hcx
  subst ex
  have hd := hh2.drop 1 c2 (by simp only [List.length_cons]; omega)
  rw [show (x :: r).drop 1 = r from rfl] at hd
  have hrlen : (x :: r).length = r.length + 1 := rfl
  rw [hrlen]
  have hpos : (0 : Int) < ((r.length + 1 : Nat) : Int) := by omega
  have hc1 : ¬ c2 = 1 := by
    intro hc1
    have : r.length = 0 := by omega
    rw [List.length_eq_zero_iff.1 this] at hnum
    have h0 : numOf [] = none := rfl
    rw [h0] at hnum
    cases hnum
  have hd1 : Holds w2 (some ⟨bx, ox + 1, none⟩) r := by
    rw [if_neg hc1] at hd
    exact hd
  have GU := get_uint (some ⟨bx, ox + 1, none⟩) (c2 - 1) r w2 hd1 (by omega) hrl
  rw [hnum] at GU
  have GU1 := Lib.hid GU
  have hc1' : (c2 = 1) = False := by simp [hc1]
  have xl := x.toNat_lt
  clear hd hd1 GU hh2 hr2 hb2 OP HBL
  generalize r.length = rl at *
  go_wp2_with fail
  refine GU1.out.mono ?_
  rintro e w3 ⟨hb3, hg⟩
  have q2 : w.heap.size < w2.heap.size := N2.out.lt
  have N3 := Lib.hid (N2.out.below hb3 q2)
  have B3 := Lib.hid (below_next B2.out hb3)
  obtain ⟨v3, rfl, hr3⟩ := hg
  obtain ⟨A3, c3, e3, hh3, hc3, hm3⟩ := hr3.shape
  subst e3
  have t0 := N3.out.cell 0
  have t1 := N3.out.cell 1
  have t2 := N3.out.cell 2
  have f0 := N3.out.frozen 0
  have f1 := N3.out.frozen 1
  have f2 := N3.out.frozen 2
  simp only [List.getElem?_toArray, List.getElem?_cons_zero, List.getElem?_cons_succ] at t0 t1 t2
  have hf' : (n : Int) ≤ (600 : Int) := by omega
  have ci := (hb3.cell (p := ⟨bx, ox + 0, none⟩) hltx).trans hcx
  rw [Nat.add_zero] at ci
  simp only [List.length_nil] at hc3 ⊢
  clear hb3 GU1 hc1 hh3 hr3
  go_wp2_with fail
  have NN := Whole.new w3 30 #[.int .u32 (ep : Nat), .int .i64 (x.toNat : Nat), .int .i64 (n : Nat)]
  have b3 : Below w3.heap.size w3 (w3.alloc (.cells #[.int .u32 (ep : Nat), .int .i64 (x.toNat : Nat), .int .i64 (n : Nat)] 30)) := (Below.refl _ _).alloc (Nat.le_refl _) _
  have N3a := N3.out.below b3 N3.out.lt
  have B3a := Lib.hid (below_next B3.out b3)
  have FT := Lib.hid (fits_any (ep : Nat) (x.toNat : Nat) (n : Nat))
  have q4 : w3.heap.size < (w3.alloc (.cells #[.int .u32 (ep : Nat), .int .i64 (x.toNat : Nat), .int .i64 (n : Nat)] 30)).heap.size := by simp
  have q5 : w.heap.size < (w3.alloc (.cells #[.int .u32 (ep : Nat), .int .i64 (x.toNat : Nat), .int .i64 (n : Nat)] 30)).heap.size := by have := N3.out.lt; simp; omega
  clear N3 B3 NA N2 t0 t1 t2 f0 f1 f2 AL HWA b3 ci hcx hnum hf
  generalize (w3.alloc (.cells #[.int .u32 (ep : Nat), .int .i64 (x.toNat : Nat), .int .i64 (n : Nat)] 30)) = wB at *
  generalize hfb : fitsB (ep : Nat) (x.toNat : Nat) (n : Nat) = fb at *
  have HFB := Lib.hid hfb
  clear hfb
  have n0 := NN.cell 0
  have n1 := NN.cell 1
  have n2 := NN.cell 2
  simp only [List.getElem?_toArray, List.getElem?_cons_zero, List.getElem?_cons_succ] at n0 n1 n2
  have NNd := Lib.hid NN.drew
  have N3d := Lib.hid N3a.drew
  clear NN N3a
  go_region_with (first
    | (go_at_call 11; refine (FT.out _).mono ?_; rintro e w4 ⟨rfl, hb4⟩; have N4 := Lib.hid (N3d.out.below hb4 q5); have B4 := Lib.hid (below_next (B3a.out.drew) hb4); have NB := NNd.out.below hb4 q4; have m0 := NB.cell 0; have m1 := NB.cell 1; have m2 := NB.cell 2; simp only [List.getElem?_toArray, List.getElem?_cons_zero, List.getElem?_cons_succ] at m0 m1 m2; have t0 := N4.out.cell 0; have t1 := N4.out.cell 1; have t2 := N4.out.cell 2; have f0 := N4.out.frozen 0; have f1 := N4.out.frozen 1; have f2 := N4.out.frozen 2; simp only [List.getElem?_toArray, List.getElem?_cons_zero, List.getElem?_cons_succ] at t0 t1 t2; clear NB hb4))
  all_goals
    clear m0 m1 m2 n0 n1 n2 t0 t1 t2 f0 f1 f2
    go_wp2_with fail
    exact bodyPost_ret (results_s2 rfl _ _ w.heap.size #[.int .u32 (ep : Nat), .int .i64 (x.toNat : Nat), .int .i64 (n : Nat)] (by first | rfl | simp [Act.put]) (N4.out.three _ _ _) rfl) rfl ⟨by simp [Act.put, HFB.out], below_three B4.out (by omega) _ _ _⟩
/-- what read tells. -/
def ReadSays (l : List UInt8) (r : Ending) : Prop := (∃ s, supOf l = some s ∧ r = .returned (.tuple #[s.v, .bool true])) ∨ (supOf l = none ∧ ∃ e a u, r = .returned (.tuple #[sup e a u, .bool false]))
theorem ReadSays.no {l : List UInt8} {r : Ending} (h : supOf l = none) (hr : r = .returned (.tuple #[sup 0 0 0, .bool false])) : ReadSays l r := .inr ⟨h, 0, 0, 0, hr⟩
theorem sread_any (A : Option Addr) (c : Nat) (l : List UInt8) (w : World) (h : Holds w A l) (hc : l.length ≤ c) (hl : 12 ≤ l.length) (hn : l.length ≤ 100000) :
    Calls Try.prog 31 #[.slice A l.length c] w fun e w' => ReadSays l e ∧ Below w.heap.size w w' := by
  by_cases he : openE (num4 (l.drop 8)) l = 0
  · cases hx : openB (num4 (l.drop 8)) l with
    | nil => exact (sread_nil A c l w h hc hl hn he hx).mono fun e w' hh => ⟨.no (by unfold supOf; rw [if_pos he, hx]) hh.1, hh.2⟩
    | cons x r =>
      cases hnum : numOf r with
      | none => exact (sread_none A c l w h hc hl hn x r he hx hnum).mono fun e w' hh => ⟨.no (by unfold supOf; rw [if_pos he, hx]; simp only; rw [hnum]) hh.1, hh.2⟩
      | some q =>
        obtain ⟨n, t⟩ := q
        cases t with
        | cons y t => exact (sread_more A c l w h hc hl hn x r he hx n y t hnum).mono fun e w' hh => ⟨.no (by unfold supOf; rw [if_pos he, hx]; simp only; rw [hnum]) hh.1, hh.2⟩
        | nil =>
          have hs : supOf l = if fitsB (num4 (l.drop 8) : Nat) (x.toNat : Nat) (n : Nat) = true then some ⟨num4 (l.drop 8), x.toNat, n⟩ else none := by
            unfold supOf
            rw [if_pos he, hx]
            simp only
            rw [hnum]
          by_cases hf : 600 < n
          · refine (sread_far A c l w h hc hl hn x r he hx n hnum hf).mono fun e w' hh => ⟨.no ?_ hh.1, hh.2⟩
            rw [hs, if_neg]
            simp only [fitsB, decide_eq_true_eq]
            omega
          · refine (sread_fit A c l w h hc hl hn x r he hx n hnum (by omega)).mono fun e w' hh => ⟨?_, hh.2⟩
            cases hb : fitsB (num4 (l.drop 8) : Nat) (x.toNat : Nat) (n : Nat) with
            | true => exact .inl ⟨_, by rw [hs, if_pos hb], by rw [hh.1, hb]⟩
            | false => exact .inr ⟨by rw [hs, if_neg (by rw [hb]; simp)], _, _, _, by rw [hh.1, hb]⟩
  · exact (sread_err A c l w h hc hl hn he).mono fun e w' hh => ⟨.no (by unfold supOf; rw [if_neg he]) hh.1, hh.2⟩
theorem supOf_ok {l : List UInt8} {s : Sup} (h : supOf l = some s) : s.Ok := by
  unfold supOf at h
  split at h
  · split at h
    · cases h
    · split at h
      · split at h
        · rename_i hf
          cases h
          simp only [fitsB, decide_eq_true_eq] at hf
          exact ⟨by simp only; omega, by simp only; omega, by simp only; omega⟩
        · cases h
      · cases h
  · cases h
end Go.Proofs.Ytjoenmmjpmnkfaa
