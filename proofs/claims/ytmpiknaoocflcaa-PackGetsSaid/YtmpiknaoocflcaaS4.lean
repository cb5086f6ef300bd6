/- addValue. -/
import Derived.Test.YtmpiknaoocflcaaS1
import Derived.Test.YtmpiknaoocflcaaV3
namespace Go.Proofs.Ytmpiknaoocflcaa
open Go.RowKit

theorem Row.under {w : World} {base : Nat} {v : Value} {l : List UInt8} (h : Row w base v l) : ∀ k, v.ownBlock = some k → k < w.heap.size := by
  rcases h.2 with ⟨rfl, _⟩ | ⟨g, cap, cur, rfl, hb, hh, _⟩
  · intro k e; simp [Value.ownBlock] at e
  · intro k e
    simp [Value.ownBlock] at e
    subst e
    exact (Array.getElem?_eq_some_iff.1 hh).1
theorem Ready.below {w0 w W : World} {v : Value} {l : List UInt8} (h : Ready w0 w v l) (hb : Below w.heap.size w W) : Ready w0 W v l := by
  refine ⟨below_next h.1 hb, h.2.imp (fun r => r.below hb) ?_⟩
  rintro ⟨A, e, hh⟩
  exact ⟨A, e, hh.below hb⟩
/-- append, and what else was made stays. -/
theorem append_keep {w0 w W : World} {v : Value} {l : List UInt8} (h : Ready w0 w v l) (hb : Below w.heap.size w W) (A : Option Addr) (c : Nat) (m : List UInt8) (hm : Holds W A m) (hne : m ≠ []) (hn : l.length + m.length ≤ 1000000) :
    ∃ v' w', Sem.run Try.prog (Builtin.append_ #[23, 23] 23 #[v, .slice A m.length c]) W = .ok v' w' ∧ Row w' w0.heap.size v' (l ++ m) ∧ Below w0.heap.size w0 w' ∧ ∀ q, w.heap.size ≤ q → q < W.heap.size → w'.heap[q]? = W.heap[q]? := by
  obtain ⟨hb0, h⟩ := h
  rcases h with h | h
  · obtain ⟨v', w', hr, ho, hg, -⟩ := append_bytes (h.below hb) A c m hm hn (Nat.le_trans hb0.size hb.size)
    refine ⟨v', w', hr, ho, below_grown (below_next hb0 hb) hg h.block, fun q h1 h2 => hg.block q h2 (fun e => ?_)⟩
    have := h.under q e.symm
    omega
  · have hF : Full W v l := by
      obtain ⟨B, e, hh⟩ := h
      exact ⟨B, e, hh.below hb⟩
    obtain ⟨v', w', hr, ho, hbl⟩ := append_full hF A c m hm hne hn
    have := below_next hb0 hb
    exact ⟨v', w', hr, ho.le this.size, below_next this hbl, fun q _ h2 => hbl.block q h2⟩
/-- a value that is none counts as null. -/
def norm (v : Tri) : Tri := if Val.plainB v.1 v.2.1 v.2.2 = true then v else (0, 0, ⟨#[]⟩)
/-- a value, packed. -/
def vb (v : Tri) : List UInt8 :=
  if v.1 = 1 then 1 :: grp (zig v.2.1) else if v.1 = 2 then 2 :: txt v.2.2 else if v.1 = 3 then [3, UInt8.ofNat v.2.1.toNat] else [0]
theorem plain_cases {k n : Int} {s : ByteArray} (h : Val.plainB k n s = true) :
    (k = 0 ∧ n = 0 ∧ s = ⟨#[]⟩) ∨ (k = 1 ∧ s = ⟨#[]⟩) ∨ (k = 2 ∧ n = 0 ∧ s.size ≤ 200) ∨ (k = 3 ∧ (n = 0 ∨ n = 1) ∧ s = ⟨#[]⟩) := by
  have e : ∀ a b : ByteArray, a.toList = b.toList → a = b := fun a b h => by
    rw [ByteArray.toList_eq, ByteArray.toList_eq] at h
    exact ByteArray.ext (Array.toList_inj.1 h)
  unfold Val.plainB at h
  simp only [Bool.or_eq_true, Val.same_iff] at h
  rcases h with ((h | h) | h) | h
  · exact .inl ⟨h.1, h.2.1, e _ _ h.2.2⟩
  · exact .inr (.inl ⟨h.1, e _ _ h.2.2⟩)
  · refine .inr (.inr (.inl ⟨h.1, h.2.1, ?_⟩))
    rw [e _ _ h.2.2]
    exact Val.cut_size s
  · refine .inr (.inr (.inr ⟨h.1, ?_, e _ _ h.2.2⟩))
    rw [h.2.1]
    unfold Val.bit
    split <;> simp

theorem below_set3 {w W : World} {u v x : Value} (h : Below w.heap.size w W) : Below w.heap.size w (((W.setCell ⟨w.heap.size, 0, none⟩ u).setCell ⟨w.heap.size, 1, none⟩ v).setCell ⟨w.heap.size, 2, none⟩ x) := by
  refine ⟨h.os, h.tape, h.output, by simpa using h.size, fun k hk => ?_⟩
  have e : ∀ (W : World) (i : Nat) (u : Value), (W.setCell ⟨w.heap.size, i, none⟩ u).heap[k]? = W.heap[k]? := fun W i u => Below.heap_setCell W ⟨w.heap.size, i, none⟩ u k (by show k ≠ w.heap.size; omega)
  rw [e, e, e]
  exact h.block k hk

section
variable {w0 w : World} {v0 : Value} {l : List UInt8}
set_option maxRecDepth 100000 in
set_option maxHeartbeats 1000000 in
theorem addValue_null  (h : Ready w0 w v0 l) (hl : l.length ≤ 800000) :
    Calls Try.prog 44 #[v0, Val.val 0 0 ⟨#[]⟩] w fun r w' => ∃ v, r = .returned v ∧ Row w' w0.heap.size v (l ++ vb (0, 0, ⟨#[]⟩)) ∧ Below w0.heap.size w0 w' := by
  have H0 := Lib.hid h
  clear h
  have bal : Below w.heap.size w (w.alloc (.cells #[.int .i64 0, .int .i64 0, .string ⟨#[]⟩] 42)) := (Below.refl _ _).alloc (Nat.le_refl _) _
  have HW : Whole (w.alloc (.cells #[.int .i64 0, .int .i64 0, .string ⟨#[]⟩] 42)) w.heap.size 42 #[.int .i64 0, .int .i64 0, .string ⟨#[]⟩] := Whole.new _ _ _
  generalize hW' : w.alloc (.cells #[.int .i64 0, .int .i64 0, .string ⟨#[]⟩] 42) = W' at *
  have a0 := HW.cell 0
  have a1 := HW.cell 1
  have a2 := HW.cell 2
  simp only [List.getElem?_toArray, List.getElem?_cons_zero, List.getElem?_cons_succ] at a0 a1 a2
  go_enter Try.func44, Try.ntmps44
  go_wp2_with fail
  try simp only [hW']
  clear hW'
  refine (Val.plain_any _ _ _ _ (by decide)).mono ?_
  rintro e u1 ⟨rfl, b1⟩
  rw [show Val.plainB 0 0 ⟨#[]⟩ = true by simp [Val.plainB, Val.same_iff]]
  have HU := HW.below b1 HW.lt
  have B1 := below_next bal b1
  have hq : w.heap.size < u1.heap.size := HU.lt
  clear bal HW b1 a0 a1 a2
  have c0 := HU.cell 0
  have c1 := HU.cell 1
  have c2 := HU.cell 2
  simp only [List.getElem?_toArray, List.getElem?_cons_zero, List.getElem?_cons_succ] at c0 c1 c2
  obtain ⟨v', w2, ha, ro, bo, hk⟩ := append_keep H0.out (B1.alloc B1.size (.cells #[.int .u8 (((0 : UInt8).toNat : Nat) : Int)] 5)) (some ⟨u1.heap.size, 0, none⟩) 1 [0] (one_byte u1 0) (by simp) (by simp; omega)
  have hkq : Whole w2 w.heap.size 42 #[.int .i64 0, .int .i64 0, .string ⟨#[]⟩] := by
    have := hk w.heap.size (Nat.le_refl _) (by simp; omega)
    unfold Whole at *
    rw [this]
    exact (Below.heap_alloc u1 _ _ hq).trans HU
  rw [show (((0 : UInt8).toNat : Nat) : Int) = 0 from rfl] at ha
  have d0' := hkq.cell 0
  have d1' := hkq.cell 1
  have d2' := hkq.cell 2
  simp only [List.getElem?_toArray, List.getElem?_cons_zero, List.getElem?_cons_succ] at d0' d1' d2'
  have HA := Lib.hid ha
  have RO := Lib.hid ro
  have BO := Lib.hid bo
  clear ha ro bo hk hkq HU B1 hq
  go_wp2_with (at_builtin; refine Lib.wpList_append_run _ rfl (.tmp 9) (.tmp 13) 23 23 rfl _ _ rfl rfl _ _ HA.out ?_)
  go_ret
  exact ⟨_, rfl, RO.out, BO.out⟩

set_option maxRecDepth 100000 in
set_option maxHeartbeats 1000000 in
theorem addValue_int (n : Int) (h1 : -9223372036854775808 ≤ n) (h2 : n ≤ 9223372036854775807) (h : Ready w0 w v0 l) (hl : l.length ≤ 800000) :
    Calls Try.prog 44 #[v0, Val.val 1 n ⟨#[]⟩] w fun r w' => ∃ v, r = .returned v ∧ Row w' w0.heap.size v (l ++ vb (1, n, ⟨#[]⟩)) ∧ Below w0.heap.size w0 w' := by
  have H0 := Lib.hid h
  clear h
  have bal : Below w.heap.size w (w.alloc (.cells #[.int .i64 1, .int .i64 n, .string ⟨#[]⟩] 42)) := (Below.refl _ _).alloc (Nat.le_refl _) _
  have HW : Whole (w.alloc (.cells #[.int .i64 1, .int .i64 n, .string ⟨#[]⟩] 42)) w.heap.size 42 #[.int .i64 1, .int .i64 n, .string ⟨#[]⟩] := Whole.new _ _ _
  generalize hW' : w.alloc (.cells #[.int .i64 1, .int .i64 n, .string ⟨#[]⟩] 42) = W' at *
  have a0 := HW.cell 0
  have a1 := HW.cell 1
  have a2 := HW.cell 2
  simp only [List.getElem?_toArray, List.getElem?_cons_zero, List.getElem?_cons_succ] at a0 a1 a2
  go_enter Try.func44, Try.ntmps44
  go_wp2_with fail
  try simp only [hW']
  clear hW'
  refine (Val.plain_any _ _ _ _ (by decide)).mono ?_
  rintro e u1 ⟨rfl, b1⟩
  rw [show Val.plainB 1 n ⟨#[]⟩ = true by simp [Val.plainB, Val.same_iff]]
  have HU := HW.below b1 HW.lt
  have B1 := below_next bal b1
  have hq : w.heap.size < u1.heap.size := HU.lt
  clear bal HW b1 a0 a1 a2
  have c0 := HU.cell 0
  have c1 := HU.cell 1
  have c2 := HU.cell 2
  simp only [List.getElem?_toArray, List.getElem?_cons_zero, List.getElem?_cons_succ] at c0 c1 c2
  obtain ⟨v', w2, ha, ro, bo, hk⟩ := append_keep H0.out (B1.alloc B1.size (.cells #[.int .u8 (((1 : UInt8).toNat : Nat) : Int)] 5)) (some ⟨u1.heap.size, 0, none⟩) 1 [1] (one_byte u1 1) (by simp) (by simp; omega)
  have hkq : Whole w2 w.heap.size 42 #[.int .i64 1, .int .i64 n, .string ⟨#[]⟩] := by
    have := hk w.heap.size (Nat.le_refl _) (by simp; omega)
    unfold Whole at *
    rw [this]
    exact (Below.heap_alloc u1 _ _ hq).trans HU
  rw [show (((1 : UInt8).toNat : Nat) : Int) = 1 from rfl] at ha
  have d0' := hkq.cell 0
  have d1' := hkq.cell 1
  have d2' := hkq.cell 2
  simp only [List.getElem?_toArray, List.getElem?_cons_zero, List.getElem?_cons_succ] at d0' d1' d2'
  have HA := Lib.hid ha
  have RO := Lib.hid ro
  have BO := Lib.hid bo
  clear ha ro bo hk hkq HU B1 hq
  go_wp2_with (at_builtin; refine Lib.wpList_append_run _ rfl (.tmp 9) (.tmp 13) 23 23 rfl _ _ rfl rfl _ _ HA.out ?_)
  refine (addInt_any w0 n h1 h2 v' (l ++ [1]) w2 (Ready.of_row RO.out BO.out) (by simp; omega)).mono ?_
  rintro e w3 ⟨v3, rfl, hr3, hb3⟩
  have R3 := Lib.hid hr3
  have B3 := Lib.hid hb3
  clear hr3 hb3
  go_wp2_with fail
  go_ret
  exact ⟨_, rfl, by simpa [vb] using R3.out, B3.out⟩

set_option maxRecDepth 100000 in
set_option maxHeartbeats 1000000 in
theorem addValue_text (s : ByteArray) (hs : s.size ≤ 200) (h : Ready w0 w v0 l) (hl : l.length ≤ 800000) :
    Calls Try.prog 44 #[v0, Val.val 2 0 s] w fun r w' => ∃ v, r = .returned v ∧ Row w' w0.heap.size v (l ++ vb (2, 0, s)) ∧ Below w0.heap.size w0 w' := by
  have H0 := Lib.hid h
  clear h
  have bal : Below w.heap.size w (w.alloc (.cells #[.int .i64 2, .int .i64 0, .string s] 42)) := (Below.refl _ _).alloc (Nat.le_refl _) _
  have HW : Whole (w.alloc (.cells #[.int .i64 2, .int .i64 0, .string s] 42)) w.heap.size 42 #[.int .i64 2, .int .i64 0, .string s] := Whole.new _ _ _
  generalize hW' : w.alloc (.cells #[.int .i64 2, .int .i64 0, .string s] 42) = W' at *
  have a0 := HW.cell 0
  have a1 := HW.cell 1
  have a2 := HW.cell 2
  simp only [List.getElem?_toArray, List.getElem?_cons_zero, List.getElem?_cons_succ] at a0 a1 a2
  go_enter Try.func44, Try.ntmps44
  go_wp2_with fail
  try simp only [hW']
  clear hW'
  refine (Val.plain_any _ _ _ _ (by omega)).mono ?_
  rintro e u1 ⟨rfl, b1⟩
  rw [show Val.plainB 2 0 s = true by simp [Val.plainB, Val.same_iff, Val.cut_small hs]]
  have HU := HW.below b1 HW.lt
  have B1 := below_next bal b1
  have hq : w.heap.size < u1.heap.size := HU.lt
  clear bal HW b1 a0 a1 a2
  have c0 := HU.cell 0
  have c1 := HU.cell 1
  have c2 := HU.cell 2
  simp only [List.getElem?_toArray, List.getElem?_cons_zero, List.getElem?_cons_succ] at c0 c1 c2
  obtain ⟨v', w2, ha, ro, bo, hk⟩ := append_keep H0.out (B1.alloc B1.size (.cells #[.int .u8 (((2 : UInt8).toNat : Nat) : Int)] 5)) (some ⟨u1.heap.size, 0, none⟩) 1 [2] (one_byte u1 2) (by simp) (by simp; omega)
  have hkq : Whole w2 w.heap.size 42 #[.int .i64 2, .int .i64 0, .string s] := by
    have := hk w.heap.size (Nat.le_refl _) (by simp; omega)
    unfold Whole at *
    rw [this]
    exact (Below.heap_alloc u1 _ _ hq).trans HU
  rw [show (((2 : UInt8).toNat : Nat) : Int) = 2 from rfl] at ha
  have d0' := hkq.cell 0
  have d1' := hkq.cell 1
  have d2' := hkq.cell 2
  simp only [List.getElem?_toArray, List.getElem?_cons_zero, List.getElem?_cons_succ] at d0' d1' d2'
  have HA := Lib.hid ha
  have RO := Lib.hid ro
  have BO := Lib.hid bo
  clear ha ro bo hk hkq HU B1 hq
  go_wp2_with (at_builtin; refine Lib.wpList_append_run _ rfl (.tmp 9) (.tmp 13) 23 23 rfl _ _ rfl rfl _ _ HA.out ?_)
  refine (addText_any w0 s (by omega) v' (l ++ [2]) w2 (Ready.of_row RO.out BO.out) (by simp; omega)).mono ?_
  rintro e w3 ⟨v3, rfl, hr3, hb3⟩
  have R3 := Lib.hid hr3
  have B3 := Lib.hid hb3
  clear hr3 hb3
  go_wp2_with fail
  go_ret
  exact ⟨_, rfl, by simpa [vb] using R3.out, B3.out⟩

set_option maxRecDepth 100000 in
set_option maxHeartbeats 1000000 in
theorem addValue_bool0  (h : Ready w0 w v0 l) (hl : l.length ≤ 800000) :
    Calls Try.prog 44 #[v0, Val.val 3 0 ⟨#[]⟩] w fun r w' => ∃ v, r = .returned v ∧ Row w' w0.heap.size v (l ++ vb (3, 0, ⟨#[]⟩)) ∧ Below w0.heap.size w0 w' := by
  have H0 := Lib.hid h
  clear h
  have bal : Below w.heap.size w (w.alloc (.cells #[.int .i64 3, .int .i64 0, .string ⟨#[]⟩] 42)) := (Below.refl _ _).alloc (Nat.le_refl _) _
  have HW : Whole (w.alloc (.cells #[.int .i64 3, .int .i64 0, .string ⟨#[]⟩] 42)) w.heap.size 42 #[.int .i64 3, .int .i64 0, .string ⟨#[]⟩] := Whole.new _ _ _
  generalize hW' : w.alloc (.cells #[.int .i64 3, .int .i64 0, .string ⟨#[]⟩] 42) = W' at *
  have a0 := HW.cell 0
  have a1 := HW.cell 1
  have a2 := HW.cell 2
  simp only [List.getElem?_toArray, List.getElem?_cons_zero, List.getElem?_cons_succ] at a0 a1 a2
  go_enter Try.func44, Try.ntmps44
  go_wp2_with fail
  try simp only [hW']
  clear hW'
  refine (Val.plain_any _ _ _ _ (by decide)).mono ?_
  rintro e u1 ⟨rfl, b1⟩
  rw [show Val.plainB 3 0 ⟨#[]⟩ = true by simp [Val.plainB, Val.same_iff, Val.bit]]
  have HU := HW.below b1 HW.lt
  have B1 := below_next bal b1
  have hq : w.heap.size < u1.heap.size := HU.lt
  clear bal HW b1 a0 a1 a2
  have c0 := HU.cell 0
  have c1 := HU.cell 1
  have c2 := HU.cell 2
  simp only [List.getElem?_toArray, List.getElem?_cons_zero, List.getElem?_cons_succ] at c0 c1 c2
  obtain ⟨v', w2, ha, ro, bo, hk⟩ := append_keep H0.out (B1.alloc B1.size (.cells #[.int .u8 (((3 : UInt8).toNat : Nat) : Int)] 5)) (some ⟨u1.heap.size, 0, none⟩) 1 [3] (one_byte u1 3) (by simp) (by simp; omega)
  have hkq : Whole w2 w.heap.size 42 #[.int .i64 3, .int .i64 0, .string ⟨#[]⟩] := by
    have := hk w.heap.size (Nat.le_refl _) (by simp; omega)
    unfold Whole at *
    rw [this]
    exact (Below.heap_alloc u1 _ _ hq).trans HU
  rw [show (((3 : UInt8).toNat : Nat) : Int) = 3 from rfl] at ha
  have d0' := hkq.cell 0
  have d1' := hkq.cell 1
  have d2' := hkq.cell 2
  simp only [List.getElem?_toArray, List.getElem?_cons_zero, List.getElem?_cons_succ] at d0' d1' d2'
  obtain ⟨v3, w3, hb3, ro3, bo3⟩ := append_ready ((Ready.of_row ro bo).alloc (.cells #[.int .u8 (((0 : UInt8).toNat : Nat) : Int)] 5)) (some ⟨w2.heap.size, 0, none⟩) 1 [0] (one_byte w2 0) (by simp) (by simp; omega)
  rw [show (((0 : UInt8).toNat : Nat) : Int) = 0 from rfl] at hb3
  have HA := Lib.hid ha
  have HB := Lib.hid hb3
  have RO := Lib.hid ro3
  have BO := Lib.hid bo3
  clear ha hb3 ro bo ro3 bo3 hk hkq HU B1 hq
  go_wp2_with (first | (at_builtin; refine Lib.wpList_append_run _ rfl (.tmp 9) (.tmp 13) 23 23 rfl _ _ rfl rfl _ _ HA.out ?_) | (at_builtin; refine Lib.wpList_append_run _ rfl (.tmp 31) (.tmp 35) 23 23 rfl _ _ rfl rfl _ _ HB.out ?_))
  go_ret
  exact ⟨_, rfl, by simpa [vb] using RO.out, BO.out⟩

set_option maxRecDepth 100000 in
set_option maxHeartbeats 1000000 in
theorem addValue_bool1  (h : Ready w0 w v0 l) (hl : l.length ≤ 800000) :
    Calls Try.prog 44 #[v0, Val.val 3 1 ⟨#[]⟩] w fun r w' => ∃ v, r = .returned v ∧ Row w' w0.heap.size v (l ++ vb (3, 1, ⟨#[]⟩)) ∧ Below w0.heap.size w0 w' := by
  have H0 := Lib.hid h
  clear h
  have bal : Below w.heap.size w (w.alloc (.cells #[.int .i64 3, .int .i64 1, .string ⟨#[]⟩] 42)) := (Below.refl _ _).alloc (Nat.le_refl _) _
  have HW : Whole (w.alloc (.cells #[.int .i64 3, .int .i64 1, .string ⟨#[]⟩] 42)) w.heap.size 42 #[.int .i64 3, .int .i64 1, .string ⟨#[]⟩] := Whole.new _ _ _
  generalize hW' : w.alloc (.cells #[.int .i64 3, .int .i64 1, .string ⟨#[]⟩] 42) = W' at *
  have a0 := HW.cell 0
  have a1 := HW.cell 1
  have a2 := HW.cell 2
  simp only [List.getElem?_toArray, List.getElem?_cons_zero, List.getElem?_cons_succ] at a0 a1 a2
  go_enter Try.func44, Try.ntmps44
  go_wp2_with fail
  try simp only [hW']
  clear hW'
  refine (Val.plain_any _ _ _ _ (by decide)).mono ?_
  rintro e u1 ⟨rfl, b1⟩
  rw [show Val.plainB 3 1 ⟨#[]⟩ = true by simp [Val.plainB, Val.same_iff, Val.bit]]
  have HU := HW.below b1 HW.lt
  have B1 := below_next bal b1
  have hq : w.heap.size < u1.heap.size := HU.lt
  clear bal HW b1 a0 a1 a2
  have c0 := HU.cell 0
  have c1 := HU.cell 1
  have c2 := HU.cell 2
  simp only [List.getElem?_toArray, List.getElem?_cons_zero, List.getElem?_cons_succ] at c0 c1 c2
  obtain ⟨v', w2, ha, ro, bo, hk⟩ := append_keep H0.out (B1.alloc B1.size (.cells #[.int .u8 (((3 : UInt8).toNat : Nat) : Int)] 5)) (some ⟨u1.heap.size, 0, none⟩) 1 [3] (one_byte u1 3) (by simp) (by simp; omega)
  have hkq : Whole w2 w.heap.size 42 #[.int .i64 3, .int .i64 1, .string ⟨#[]⟩] := by
    have := hk w.heap.size (Nat.le_refl _) (by simp; omega)
    unfold Whole at *
    rw [this]
    exact (Below.heap_alloc u1 _ _ hq).trans HU
  rw [show (((3 : UInt8).toNat : Nat) : Int) = 3 from rfl] at ha
  have d0' := hkq.cell 0
  have d1' := hkq.cell 1
  have d2' := hkq.cell 2
  simp only [List.getElem?_toArray, List.getElem?_cons_zero, List.getElem?_cons_succ] at d0' d1' d2'
  obtain ⟨v3, w3, hb3, ro3, bo3⟩ := append_ready ((Ready.of_row ro bo).alloc (.cells #[.int .u8 (((1 : UInt8).toNat : Nat) : Int)] 5)) (some ⟨w2.heap.size, 0, none⟩) 1 [1] (one_byte w2 1) (by simp) (by simp; omega)
  rw [show (((1 : UInt8).toNat : Nat) : Int) = 1 from rfl] at hb3
  have HA := Lib.hid ha
  have HB := Lib.hid hb3
  have RO := Lib.hid ro3
  have BO := Lib.hid bo3
  clear ha hb3 ro bo ro3 bo3 hk hkq HU B1 hq
  go_wp2_with (first | (at_builtin; refine Lib.wpList_append_run _ rfl (.tmp 9) (.tmp 13) 23 23 rfl _ _ rfl rfl _ _ HA.out ?_) | (at_builtin; refine Lib.wpList_append_run _ rfl (.tmp 31) (.tmp 35) 23 23 rfl _ _ rfl rfl _ _ HB.out ?_))
  go_ret
  exact ⟨_, rfl, by simpa [vb] using RO.out, BO.out⟩

set_option maxRecDepth 100000 in
set_option maxHeartbeats 1000000 in
theorem addValue_bad (k n : Int) (s : ByteArray) (hs : s.size ≤ 9000000) (hp : Val.plainB k n s = false) (h : Ready w0 w v0 l) (hl : l.length ≤ 800000) :
    Calls Try.prog 44 #[v0, Val.val k n s] w fun r w' => ∃ v, r = .returned v ∧ Row w' w0.heap.size v (l ++ vb (0, 0, ⟨#[]⟩)) ∧ Below w0.heap.size w0 w' := by
  have H0 := Lib.hid h
  clear h
  have bal : Below w.heap.size w (w.alloc (.cells #[.int .i64 k, .int .i64 n, .string s] 42)) := (Below.refl _ _).alloc (Nat.le_refl _) _
  have HW : Whole (w.alloc (.cells #[.int .i64 k, .int .i64 n, .string s] 42)) w.heap.size 42 #[.int .i64 k, .int .i64 n, .string s] := Whole.new _ _ _
  generalize hW' : w.alloc (.cells #[.int .i64 k, .int .i64 n, .string s] 42) = W' at *
  have a0 := HW.cell 0
  have a1 := HW.cell 1
  have a2 := HW.cell 2
  simp only [List.getElem?_toArray, List.getElem?_cons_zero, List.getElem?_cons_succ] at a0 a1 a2
  go_enter Try.func44, Try.ntmps44
  go_wp2_with fail
  try simp only [hW']
  clear hW'
  refine (Val.plain_any _ _ _ _ (by omega)).mono ?_
  rintro e u1 ⟨rfl, b1⟩
  rw [hp]
  have HU := HW.below b1 HW.lt
  have B1 := below_next bal b1
  have hq : w.heap.size < u1.heap.size := HU.lt
  clear bal HW b1 a0 a1 a2
  have f0 := HU.frozen 0
  have f1 := HU.frozen 1
  have f2 := HU.frozen 2
  go_wp2_with fail
  refine (Val.null_any _).mono ?_
  rintro e u2 ⟨rfl, b2⟩
  have HU2 := HU.below b2 HU.lt
  have B2 := below_next B1 b2
  have d0 := HU2.cell 0
  have d1 := HU2.cell 1
  have d2 := HU2.cell 2
  simp only [List.getElem?_toArray, List.getElem?_cons_zero, List.getElem?_cons_succ] at d0 d1 d2
  have g0 := HU2.frozen 0
  have g1 := HU2.frozen 1
  have g2 := HU2.frozen 2
  have HU3 := three (u := .int .i64 0) (v := .int .i64 0) (x := .string ⟨#[]⟩) HU2
  have B3 := below_set3 B2 (u := .int .i64 0) (v := .int .i64 0) (x := .string ⟨#[]⟩)
  clear f0 f1 f2 HU B1 b2 B2 HU2 hq
  generalize hU4 : ((u2.setCell ⟨w.heap.size, 0, none⟩ (.int .i64 0)).setCell ⟨w.heap.size, 1, none⟩ (.int .i64 0)).setCell ⟨w.heap.size, 2, none⟩ (.string ⟨#[]⟩) = u4 at *
  have HU : Whole u4 w.heap.size 42 #[.int .i64 0, .int .i64 0, .string ⟨#[]⟩] := HU3
  have B1 := B3
  have hq : w.heap.size < u4.heap.size := HU.lt
  clear HU3 B3
  have c0 := HU.cell 0
  have c1 := HU.cell 1
  have c2 := HU.cell 2
  simp only [List.getElem?_toArray, List.getElem?_cons_zero, List.getElem?_cons_succ] at c0 c1 c2
  obtain ⟨v', w2, ha, ro, bo, hk⟩ := append_keep H0.out (B1.alloc B1.size (.cells #[.int .u8 (((0 : UInt8).toNat : Nat) : Int)] 5)) (some ⟨u4.heap.size, 0, none⟩) 1 [0] (one_byte u4 0) (by simp) (by simp; omega)
  have hkq : Whole w2 w.heap.size 42 #[.int .i64 0, .int .i64 0, .string ⟨#[]⟩] := by
    have := hk w.heap.size (Nat.le_refl _) (by simp; omega)
    unfold Whole at *
    rw [this]
    exact (Below.heap_alloc u4 _ _ hq).trans HU
  rw [show (((0 : UInt8).toNat : Nat) : Int) = 0 from rfl] at ha
  have d0' := hkq.cell 0
  have d1' := hkq.cell 1
  have d2' := hkq.cell 2
  simp only [List.getElem?_toArray, List.getElem?_cons_zero, List.getElem?_cons_succ] at d0' d1' d2'
  have HA := Lib.hid ha
  have RO := Lib.hid ro
  have BO := Lib.hid bo
  clear ha ro bo hk hkq HU B1 hq
  go_wp2_with (at_builtin; refine Lib.wpList_append_run _ rfl (.tmp 9) (.tmp 13) 23 23 rfl _ _ rfl rfl _ _ HA.out ?_)
  go_ret
  exact ⟨_, rfl, RO.out, BO.out⟩

end
end Go.Proofs.Ytmpiknaoocflcaa
