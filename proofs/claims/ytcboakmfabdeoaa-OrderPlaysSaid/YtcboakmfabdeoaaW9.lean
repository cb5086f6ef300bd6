/- slices.Insert at the kids of a node. (Made out of the text for pairs.) -/
import Derived.Test.YtcboakmfabdeoaaW8
namespace Go.Proofs.Ytcboakmfabdeoaa
open Go.RowKit

theorem Try.info52 : (Try.prog.info? 52).map (fun i => (i.zero, i.size, i.bytes)) = some (some (.pointer none), 1, 8) := by kernel_rfl
theorem ptrs_length (l : List Kid) : (ptrs l).length = l.length := by simp [ptrs]
theorem ptrs_append (l r : List Kid) : ptrs (l ++ r) = ptrs l ++ ptrs r := by simp [ptrs]
theorem ptrs_one (l : List Kid) : ∀ v ∈ ptrs l, v.oneCell' = true := by
  intro v hv
  simp only [ptrs, List.mem_map] at hv
  obtain ⟨p, _, rfl⟩ := hv
  rfl
theorem ptrs_take (l : List Kid) (i : Nat) : (ptrs l).take i = ptrs (l.take i) := by simp [ptrs, List.map_take]
theorem ptrs_drop (l : List Kid) (i : Nat) : (ptrs l).drop i = ptrs (l.drop i) := by simp [ptrs, List.map_drop]

/-- append(s[:i], make(S, z)...) where there is no room. -/
theorem append_zeros_K (g n cap i z : Nat) (l : List Kid) (w : World) (hl : l.length = n) (hi : i ≤ n) (hnc : n ≤ cap) (hz : 0 < z) (hc : cap < i + z) (hn : i + z ≤ 1000001) (hcap : cap ≤ 1000001) (hr : KRow w (.slice (some ⟨g, 0, none⟩) n cap) l) :
    ∃ (C : Nat) (cur : Array Value), i + z ≤ C ∧ C ≤ maxLen ∧ cur.size = C ∧ cur.toList.take i = ptrs (l.take i) ∧
      ∀ ty, (Builtin.append_ #[66, 3] ty #[.slice (some ⟨g, 0, none⟩) i cap, .int .i64 z]).run Try.prog w = .ok (.slice (some ⟨w.heap.size, 0, none⟩) (i + z) C) (w.drew.alloc (.cells cur 52)) := by
  obtain ⟨i0, hi0, hz0, hzs, hzb⟩ := info_parts Try.info52
  have hcl := hr.cells (g := g) rfl
  have hold : (Builtin.firstCells i0.size i (.slice (some ⟨g, 0, none⟩) i cap)).run Try.prog w.drew = .ok (ptrs (l.take i)).toArray w.drew := by
    rw [hzs]
    have hle : (ptrs (l.take i)).length = i := by rw [ptrs_length, List.length_take]; omega
    have := run_loadCells_list (P := Try.prog) w.drew ⟨g, 0, none⟩ (ptrs (l.take i)) (fun j v hj => by
      rw [World.cell?_drew]
      refine hcl j v ?_
      rw [← ptrs_take] at hj
      rw [List.getElem?_take] at hj
      split at hj
      · exact hj
      · cases hj)
    rw [hle] at this
    show (loadCells _ (i * 1)).run _ _ = _
    rw [Nat.mul_one]
    exact this
  have hrun := fun ty => Lib.run_append_grow_zeros (P := Try.prog) w 66 3 ty 52 i0 (.pointer none) .i64 .i64 Try.underlying66 Try.underlying3 hi0 hz0 (some ⟨g, 0, none⟩) i cap (ptrs (l.take i)) hold z hz (by omega) hc (by omega) (by rw [hzb]; omega) (growslice_fits (by omega) (by rw [hzb]; omega))
  have hge := grownCap_ge w (i + z) cap 52
  refine ⟨grownCap w (i + z) cap 52, _, hge, grownCap_le_maxLen w _ _ _ (by unfold maxLen; omega), ?_, ?_, hrun⟩
  · simp only [Array.size_append, List.size_toArray, ptrs_length, List.length_take, Builtin.zeroCells, Array.size_map, Array.size_range]
    have : (Value.pointer none).cells.size = 1 := rfl
    rw [this]
    omega
  · simp only [Array.toList_append]
    rw [List.append_assoc, List.take_left' (by rw [ptrs_length, List.length_take]; omega)]

set_option maxHeartbeats 400000 in
set_option maxRecDepth 100000 in
theorem insertK_grow (g n cap i vb : Nat) (l : List Kid) (x : Kid) (w : World) (hl : l.length = n) (hi : i < n) (hnc : n ≤ cap) (hc : cap < n + 1) (hn : n ≤ 1000000) (hr : KRow w (.slice (some ⟨g, 0, none⟩) n cap) l)
   (hv : w.heap[vb]? = some (.cells #[.pointer (some ⟨x.p, 0, none⟩)] 52 (0, 0))) (hne : vb ≠ g) :
    Calls Try.prog 62 #[.slice (some ⟨g, 0, none⟩) n cap, .int .i64 i, .slice (some ⟨vb, 0, none⟩) 1 1] w fun e w' =>
      ∃ cap', e = .returned (.slice (some ⟨w.heap.size, 0, none⟩) (n + 1) cap') ∧ KRow w' (.slice (some ⟨w.heap.size, 0, none⟩) (n + 1) cap') (l.take i ++ x :: l.drop i) ∧ Below w.heap.size w w' := by
  have h1 : ¬ ((i : Int) = (n : Int)) := by omega
  obtain ⟨C, cur, hC, hCm, hcs, htk, hap⟩ := append_zeros_K g n cap i (n + 1 - i) l w hl (by omega) hnc (by omega) (by omega) (by omega) (by omega) hr
  have hz : ((n + 1 - i : Nat) : Int) = (n : Int) + 1 - i := by omega
  rw [hz, show i + (n + 1 - i) = n + 1 by omega] at hap
  rw [show i + (n + 1 - i) = n + 1 by omega] at hC
  clear hz
  have HAP := Lib.hid hap
  have HR := Lib.hid hr
  have HV := Lib.hid hv
  have HL := Lib.hid hl
  have HTK := Lib.hid htk
  have HCS := Lib.hid hcs
  clear hr hv hl hap htk hcs
  obtain ⟨W0, hW0⟩ : ∃ W0, W0 = (w.alloc (.cells cur 52)).drew := ⟨_, rfl⟩
  have g0 : W0.heap[w.heap.size]? = some (.cells cur 52 (0, 0)) := by rw [hW0]; exact heap_alloc_new w _
  have b0 : Below w.heap.size w W0 := by rw [hW0]; exact ((Below.refl _ w).alloc (Nat.le_refl _) _).drew
  have vlt : vb < w.heap.size := (Array.getElem?_eq_some_iff.1 HV.out).1
  have glt : g < w.heap.size := (World.ownsRow.lt HR.out g rfl).2
  have cp1 := run_copy_rowk (P := Try.prog) 1 W0 66 66 3 52 w.heap.size i (n + 1 - i) (C - i) ⟨vb, 0, none⟩ 1 1 cur 52 (ptrs [x]) Try.underlying66 (by obtain ⟨i0, h0, _, h2, _⟩ := info_parts Try.info52; rw [h0]; simp [h2]) g0
    (by rw [ptrs_length, show Nat.min 1 (n + 1 - i) = 1 from Nat.min_eq_left (by omega)]; rfl)
    (fun j v hj => by
      rw [b0.cell (p := (⟨vb, 0, none⟩ : Addr).add j) (by rw [Addr.add_lit]; exact vlt), Addr.add_lit, Nat.zero_add, cell_of_row w vb j _ _ _ HV.out]
      simpa [ptrs] using hj) (by rw [ptrs_length, HCS.out]; simp; omega) (ptrs_one _)
  obtain ⟨cur1, hcur1⟩ : ∃ cur1, cur1 = (cur.toList.take i ++ ptrs [x] ++ cur.toList.drop (i + (ptrs [x]).length)).toArray := ⟨_, rfl⟩
  rw [← hcur1] at cp1
  have s1 : cur1.size = C := by rw [hcur1]; simp [ptrs_length, HCS.out]; omega
  have t1 : cur1.toList.take (i + 1) = ptrs (l.take i ++ [x]) := by
    rw [hcur1, ptrs_append, ← HTK.out]
    have hlen : (cur.toList.take i ++ ptrs [x]).length = i + 1 := by simp [ptrs_length, HCS.out]; omega
    show List.take _ (List.toArray _).toList = _
    rw [← hlen]; exact List.take_left
  obtain ⟨W1, hW1⟩ : ∃ W1, W1 = W0.setRow w.heap.size cur1 := ⟨_, rfl⟩
  rw [← hW1] at cp1
  have g1 : W1.heap[w.heap.size]? = some (.cells cur1 52 (0, 0)) := by rw [hW1]; exact setRow_heap W0 _ cur _ _ _ g0
  have b1 : Below w.heap.size w W1 := by rw [hW1]; exact b0.trans ⟨rfl, rfl, rfl, by simp, fun k hk => setRow_other _ _ _ _ (by omega)⟩
  have cp2 := run_copy_rowk (P := Try.prog) 1 W1.drew 66 66 3 52 w.heap.size (i + 1) (n - i) (C - (i + 1)) ⟨g, i, none⟩ (n - i) (cap - i) cur1 52 (ptrs (l.drop i)) Try.underlying66 (by obtain ⟨i0, h0, _, h2, _⟩ := info_parts Try.info52; rw [h0]; simp [h2]) g1
    (by rw [ptrs_length, List.length_drop, HL.out]; simp [Nat.min_def])
    (fun j v hj => by
      rw [World.cell?_drew, b1.cell (p := (⟨g, i, none⟩ : Addr).add j) (by rw [Addr.add_lit]; exact glt), Addr.add_lit]
      have := World.ownsRow.cells HR.out (g := g) rfl (i + j) v (by rw [← ptrs_drop] at hj; rw [List.getElem?_drop] at hj; exact hj)
      rw [Addr.add_lit, Nat.zero_add] at this
      exact this) (by rw [ptrs_length, s1, List.length_drop, HL.out]; omega) (ptrs_one _)
  obtain ⟨cur2, hcur2⟩ : ∃ cur2, cur2 = (cur1.toList.take (i + 1) ++ ptrs (l.drop i) ++ cur1.toList.drop (i + 1 + (ptrs (l.drop i)).length)).toArray := ⟨_, rfl⟩
  rw [← hcur2] at cp2
  have s2 : cur2.size = C := by rw [hcur2]; simp [ptrs_length, s1, HL.out]; omega
  have t2 : cur2.toList.take (n + 1) = ptrs (l.take i ++ x :: l.drop i) := by
    rw [hcur2, show l.take i ++ x :: l.drop i = (l.take i ++ [x]) ++ l.drop i by simp, ptrs_append _ (l.drop i), ← t1]
    have hlen : (cur1.toList.take (i + 1) ++ ptrs (l.drop i)).length = n + 1 := by simp [ptrs_length, s1, HL.out]; omega
    show List.take _ (List.toArray _).toList = _
    rw [← hlen]; exact List.take_left
  obtain ⟨W2, hW2⟩ : ∃ W2, W2 = W1.drew.setRow w.heap.size cur2 := ⟨_, rfl⟩
  rw [← hW2] at cp2
  have g2 : W2.heap[w.heap.size]? = some (.cells cur2 52 (0, 0)) := by rw [hW2]; exact setRow_heap W1.drew _ cur1 _ _ _ g1
  have b2 : Below w.heap.size w W2 := by rw [hW2]; exact b1.drew.trans ⟨rfl, rfl, rfl, by simp, fun k hk => setRow_other _ _ _ _ (by omega)⟩
  have hlen : (l.take i ++ x :: l.drop i).length = n + 1 := by have := HL.out; simp; omega
  have own : KRow W2 (.slice (some ⟨w.heap.size, 0, none⟩) (n + 1) C) (l.take i ++ x :: l.drop i) := by
    unfold KRow
    rw [hlen]
    exact ⟨by rw [ptrs_length, hlen, Nat.mul_one], .inr ⟨w.heap.size, C, cur2, rfl, Nat.zero_le _, g2, hC, hCm, by rw [Nat.mul_one]; exact s2, by rw [Nat.mul_one]; exact t2⟩⟩
  rw [hW0] at cp1
  have FIN : Hid (KRow W2 (.slice (some ⟨w.heap.size, 0, none⟩) (n + 1) C) (l.take i ++ x :: l.drop i) ∧ Below w.heap.size w W2) := ⟨own, b2⟩
  clear own b2 g2 hW2 t2 s2 hcur2 b1 g1 hW1 t1 s1 hcur1 b0 g0 hW0 HCS HTK HL HV HR hlen
  have CP2 := Lib.hid cp2
  clear cp2
  have q1 : IntKind.i64.wrap ((i : Int) + 1) = (i : Int) + 1 := by rw [IntKind.wrap_i64]; omega
  have q2 : (0 : Int) ≤ (i : Int) + 1 := by omega
  have q3 : ((i : Int) + 1).toNat = i + 1 := by omega
  have q4 : ¬ (C = i + 1) := by omega
  have q5 : (i : Int) + 1 ≤ (n : Int) + 1 := by omega
  have q6 : ¬ (cap = i) := by omega
  have q7 : (i : Int) ≤ (n : Int) := by omega
  go_enter Try.func62, Try.ntmps62
  go_wp2_with (at_builtin; refine Lib.wpList_append_run _ rfl _ _ 66 3 rfl _ _ rfl rfl _ _ (HAP.out _) ?_)
  go_region_law (refine step_copy_runI rfl _ _ 66 66 rfl _ _ (by simp [Act.eval, Act.put]) (by simp [Act.eval, Act.put]) CP2.out ?_)
  go_wp2
  go_ret
  exact ⟨C, rfl, FIN.out⟩
theorem size52 : (Try.prog.info? 52).map (·.size) = some 1 := by obtain ⟨i0, h0, _, h2, _⟩ := info_parts Try.info52; rw [h0]; simp [h2]

theorem overlapsK_no (g vb o la ca lb cb : Nat) (c1 c2 : Array Value) (w : World) (hv : w.heap[vb]? = some (.cells c1 52 (0, 0))) (hg : w.heap[g]? = some (.cells c2 52 (0, 0))) (h2 : c2.size ≠ 0) (hne : vb ≠ g) :
    (callFunc 68 #[.slice (some ⟨vb, 0, none⟩) la ca, .slice (some ⟨g, o, none⟩) lb cb]).run Try.prog w = .ok (.value (.bool false)) w := by
  rw [run_callFunc_extern Try.func68 (by kernel_rfl) (by kernel_rfl) (by kernel_rfl) (e := Extern.SlicesOverlaps.overlaps #[66, 66] #[4]) (by kernel_rfl),
    Lib.run_overlaps_apart w 66 4 52 Try.underlying66 1 Try.sizeOf52 ⟨vb, 0, none⟩ ⟨g, o, none⟩ la ca lb cb hne 52 52 c1.size c2.size (by simp [World.shape?, hv]) (by simp [World.shape?, hg]) h2 (by simp [World.frozen?, hv]) (by simp [World.frozen?, hv])]
  rfl

set_option maxHeartbeats 400000 in
set_option maxRecDepth 100000 in
theorem insertK_shift (g n cap i vb : Nat) (l : List Kid) (x : Kid) (w : World) (hl : l.length = n) (hi : i < n) (hc : n + 1 ≤ cap) (hn : n ≤ 1000000) (hr : KRow w (.slice (some ⟨g, 0, none⟩) n cap) l)
   (hv : w.heap[vb]? = some (.cells #[.pointer (some ⟨x.p, 0, none⟩)] 52 (0, 0))) (hne : vb ≠ g) :
    Calls Try.prog 62 #[.slice (some ⟨g, 0, none⟩) n cap, .int .i64 i, .slice (some ⟨vb, 0, none⟩) 1 1] w fun e w' =>
      e = .returned (.slice (some ⟨g, 0, none⟩) (n + 1) cap) ∧ KRow w' (.slice (some ⟨g, 0, none⟩) (n + 1) cap) (l.take i ++ x :: l.drop i) ∧ w.grownBy w' (some g) := by
  have h1 : ¬ ((i : Int) = (n : Int)) := by omega
  obtain ⟨cur, hg, hcm, hcs, htk⟩ : ∃ cur, w.heap[g]? = some (.cells cur 52 (0, 0)) ∧ cap ≤ maxLen ∧ cur.size = cap ∧ cur.toList.take n = ptrs l := by
    rcases hr.2 with ⟨h, _⟩ | ⟨g', cap', cur, h, _, h2, _, h4, h5, h6⟩
    · cases h
    · simp only [Value.slice.injEq, Option.some.injEq, Addr.mk.injEq] at h
      obtain ⟨⟨rfl, _⟩, _, rfl⟩ := h
      exact ⟨cur, h2, h4, by simpa using h5, by rw [← h6, hl, Nat.mul_one]⟩
  have hcl := hr.cells (g := g) rfl
  have hov := fun la ca lb cb o => overlapsK_no g vb o la ca lb cb _ cur w hv hg (by omega) hne
  have cp1 := run_copy_rowk (P := Try.prog) 1 w.drew 66 66 3 52 g (i + 1) (n - i) (cap - (i + 1)) ⟨g, i, none⟩ (n + 1 - i) (cap - i) cur 52 (ptrs (l.drop i)) Try.underlying66 size52 hg
    (by rw [ptrs_length, List.length_drop, hl, show Nat.min (n + 1 - i) (n - i) = n - i from Nat.min_eq_right (by omega), Nat.mul_one])
    (fun j v hj => by
      rw [World.cell?_drew, Addr.add_lit]
      have := hcl (i + j) v (by rw [← ptrs_drop] at hj; rw [List.getElem?_drop] at hj; exact hj)
      rw [Addr.add_lit, Nat.zero_add] at this
      exact this) (by rw [ptrs_length, hcs, List.length_drop, hl]; omega) (ptrs_one _)
  obtain ⟨cur1, hcur1⟩ : ∃ cur1, cur1 = (cur.toList.take (i + 1) ++ ptrs (l.drop i) ++ cur.toList.drop (i + 1 + (ptrs (l.drop i)).length)).toArray := ⟨_, rfl⟩
  rw [← hcur1] at cp1
  have s1 : cur1.size = cap := by rw [hcur1]; simp [ptrs_length, hcs, hl]; omega
  have t0 : cur1.toList.take i = ptrs (l.take i) := by
    rw [hcur1, ← ptrs_take, ← htk, List.take_take]
    show List.take _ (List.toArray _).toList = _
    rw [List.append_assoc, List.take_append_of_le_length (by simp [hcs]; omega), List.take_take]
    rw [Nat.min_eq_left (by omega), Nat.min_eq_left (by omega)]
  have d0 : cur1.toList.drop (i + 1) = ptrs (l.drop i) ++ cur.toList.drop (i + 1 + (ptrs (l.drop i)).length) := by
    rw [hcur1]
    show List.drop _ (List.toArray _).toList = _
    rw [List.append_assoc, List.drop_left' (by simp [hcs]; omega)]
  obtain ⟨W1, hW1⟩ : ∃ W1, W1 = w.drew.setRow g cur1 := ⟨_, rfl⟩
  rw [← hW1] at cp1
  have g1 : W1.heap[g]? = some (.cells cur1 52 (0, 0)) := by rw [hW1]; exact setRow_heap w.drew _ cur _ _ _ hg
  have b1 : w.grownBy W1 (some g) := by rw [hW1]; exact ⟨rfl, rfl, rfl, by simp, fun k _ hk => setRow_other _ _ _ _ (fun e => hk (by rw [e]))⟩
  have cp2 := run_copy_rowk (P := Try.prog) 1 W1 66 66 3 52 g i (n + 1 - i) (cap - i) ⟨vb, 0, none⟩ 1 1 cur1 52 (ptrs [x]) Try.underlying66 size52 g1
    (by rw [ptrs_length, show Nat.min 1 (n + 1 - i) = 1 from Nat.min_eq_left (by omega)]; rfl)
    (fun j v hj => by
      have hvl : w.cell? ((⟨vb, 0, none⟩ : Addr).add j) = some v := by
        rw [Addr.add_lit, Nat.zero_add, cell_of_row w vb j _ _ _ hv]
        simpa [ptrs] using hj
      exact b1.cell hvl (by rw [Addr.add_lit]; simpa using hne)) (by rw [ptrs_length, s1]; simp; omega) (ptrs_one _)
  obtain ⟨cur2, hcur2⟩ : ∃ cur2, cur2 = (cur1.toList.take i ++ ptrs [x] ++ cur1.toList.drop (i + (ptrs [x]).length)).toArray := ⟨_, rfl⟩
  rw [← hcur2] at cp2
  have s2 : cur2.size = cap := by rw [hcur2]; simp [ptrs_length, s1]; omega
  have t2 : cur2.toList.take (n + 1) = ptrs (l.take i ++ x :: l.drop i) := by
    rw [hcur2, t0, show i + (ptrs [x]).length = i + 1 by rw [ptrs_length]; simp, d0, show l.take i ++ x :: l.drop i = (l.take i ++ [x]) ++ l.drop i by simp, ptrs_append _ (l.drop i), ptrs_append]
    show List.take _ (List.toArray _).toList = _
    rw [← List.append_assoc]
    exact List.take_left' (by simp [ptrs_length, hl]; omega)
  obtain ⟨W2, hW2⟩ : ∃ W2, W2 = W1.setRow g cur2 := ⟨_, rfl⟩
  rw [← hW2] at cp2
  have g2 : W2.heap[g]? = some (.cells cur2 52 (0, 0)) := by rw [hW2]; exact setRow_heap W1 _ cur1 _ _ _ g1
  have b2 : w.grownBy W2 (some g) := by
    rw [hW2]
    exact ⟨b1.os, b1.tape, b1.output, Nat.le_trans b1.size (by simp), fun k hk hne => (setRow_other _ _ _ _ (fun e => hne (by rw [e]))).trans (b1.block k hk hne)⟩
  have hlen : (l.take i ++ x :: l.drop i).length = n + 1 := by simp; omega
  have own : KRow W2 (.slice (some ⟨g, 0, none⟩) (n + 1) cap) (l.take i ++ x :: l.drop i) := by
    unfold KRow
    rw [hlen]
    exact ⟨by rw [ptrs_length, hlen, Nat.mul_one], .inr ⟨g, cap, cur2, rfl, Nat.zero_le _, g2, hc, hcm, by rw [Nat.mul_one]; exact s2, by rw [Nat.mul_one]; exact t2⟩⟩
  have FIN : Hid (KRow W2 (.slice (some ⟨g, 0, none⟩) (n + 1) cap) (l.take i ++ x :: l.drop i) ∧ w.grownBy W2 (some g)) := ⟨own, b2⟩
  clear own b2 g2 hW2 t2 s2 hcur2 b1 g1 hW1 t0 d0 s1 hcur1 hcl hg hcs htk hcm hlen hv hr hl
  have CP1 := Lib.hid cp1
  clear cp1
  have q1 : IntKind.i64.wrap ((i : Int) + 1) = (i : Int) + 1 := by rw [IntKind.wrap_i64]; omega
  have q2 : (0 : Int) ≤ (i : Int) + 1 := by omega
  have q3 : ((i : Int) + 1).toNat = i + 1 := by omega
  have q4 : ¬ (cap = i + 1) := by omega
  have q5 : (i : Int) + 1 ≤ (n : Int) + 1 := by omega
  have q6 : ¬ (cap = i) := by omega
  have q8 : (i : Int) ≤ (n : Int) + 1 := by omega
  have q7 : (i : Int) ≤ (n : Int) := by omega
  go_enter Try.func62, Try.ntmps62
  go_wp2_with (simp only [hov])
  go_region_law (refine step_copy_runI rfl _ _ 66 66 rfl _ _ (by simp [Act.eval, Act.put]) (by simp [Act.eval, Act.put]) CP1.out ?_)
  go_wp2
  go_ret
  exact ⟨rfl, FIN.out⟩

set_option maxHeartbeats 400000 in
set_option maxRecDepth 100000 in
theorem insertK_end (v : Value) (n cap vb : Nat) (l : List Kid) (x : Kid) (w : World) (a : Option Addr) (hva : v = .slice a n cap) (hl : l.length = n) (hn : n ≤ 1000000) (hr : KRow w v l)
   (hv : w.heap[vb]? = some (.cells #[.pointer (some ⟨x.p, 0, none⟩)] 52 (0, 0))) :
    Calls Try.prog 62 #[v, .int .i64 n, .slice (some ⟨vb, 0, none⟩) 1 1] w fun e w' =>
      ∃ v', e = .returned v' ∧ KRow w' v' (l ++ [x]) ∧ w.grownBy w' v.ownBlock ∧ OwnNew w v v' := by
  obtain ⟨i0, hi0, hz0, hzs, hzb⟩ := info_parts Try.info52
  have hnews : ∀ j u, (ptrs [x])[j]? = some u → w.cell? ((⟨vb, 0, none⟩ : Addr).add j) = some u := fun j u hj => by
    rw [Addr.add_lit, Nat.zero_add, cell_of_row w vb j _ _ _ hv]
    simpa [ptrs] using hj
  obtain ⟨v', w', r1, r2, r3, r4⟩ := append_own2 (P := Try.prog) w 66 66 52 i0 (.pointer none) 1 8 Try.underlying66 hi0 hz0 hzs hzb rfl (by decide) v l.length (ptrs l) hr ⟨vb, 0, none⟩ 1 1 (ptrs [x]) rfl hnews (ptrs_one _) (by omega) (by omega) (by
    intro g k cp e
    rcases hr.2 with ⟨h, _⟩ | ⟨g', cap', cur, h, _, _, h3, _⟩
    · rw [h] at e; cases e
    · rw [h] at e; simp only [Value.slice.injEq] at e; omega)
  have FIN : Hid (KRow w' v' (l ++ [x]) ∧ w.grownBy w' v.ownBlock ∧ OwnNew w v v') := ⟨by unfold KRow; rw [ptrs_append, List.length_append]; exact r2, r3, r4⟩
  have R1 := Lib.hid r1
  clear hr hv hl hnews r1 r2 r3 r4
  subst hva
  by_cases hcn : cap = n
  · subst hcn
    go_enter Try.func62, Try.ntmps62
    go_wp2_with (at_builtin; refine Lib.wpList_append_run _ rfl _ _ 66 66 rfl _ _ rfl rfl _ _ R1.out ?_)
    all_goals go_ret
    all_goals exact ⟨v', rfl, FIN.out⟩
  · go_enter Try.func62, Try.ntmps62
    go_wp2_with (at_builtin; refine Lib.wpList_append_run _ rfl _ _ 66 66 rfl _ _ rfl rfl _ _ R1.out ?_)
    all_goals go_ret
    all_goals exact ⟨v', rfl, FIN.out⟩
theorem insertK_any (v : Value) (i vb : Nat) (l : List Kid) (x : Kid) (w : World) (hi : i ≤ l.length) (hn : l.length ≤ 1000000) (hr : KRow w v l)
    (hv : w.heap[vb]? = some (.cells #[.pointer (some ⟨x.p, 0, none⟩)] 52 (0, 0))) (hne : v.ownBlock ≠ some vb) :
    Calls Try.prog 62 #[v, .int .i64 i, .slice (some ⟨vb, 0, none⟩) 1 1] w fun e w' =>
      ∃ v', e = .returned v' ∧ KRow w' v' (l.take i ++ x :: l.drop i) ∧ w.grownBy w' v.ownBlock ∧ OwnNew w v v' := by
  by_cases hin : i = l.length
  · subst hin
    rcases hr.cases with ⟨rfl, rfl⟩ | ⟨g, cap, cur, rfl, _⟩
    · refine (insertK_end _ 0 0 vb [] x w none rfl rfl (by omega) hr hv).mono ?_
      rintro e w' ⟨v', rfl, h1, h2⟩
      exact ⟨v', rfl, by simpa using h1, h2⟩
    · refine (insertK_end _ l.length cap vb l x w _ rfl rfl hn hr hv).mono ?_
      rintro e w' ⟨v', rfl, h1, h2⟩
      exact ⟨v', rfl, by simpa using h1, h2⟩
  · rcases hr.cases with ⟨rfl, rfl⟩ | ⟨g, cap, cur, rfl, _, hnc, _⟩
    · simp at hi hin; omega
    · by_cases hc : l.length + 1 ≤ cap
      · refine (insertK_shift g l.length cap i vb l x w rfl (by omega) hc hn hr hv (fun e => hne (by rw [e]; rfl))).mono ?_
        rintro e w' ⟨rfl, h1, h2⟩
        exact ⟨_, rfl, h1, h2, fun g hg => .inl hg⟩
      · refine (insertK_grow g l.length cap i vb l x w rfl (by omega) hnc (by omega) hn hr hv (fun e => hne (by rw [e]; rfl))).mono ?_
        rintro e w' ⟨c', rfl, h1, h2⟩
        exact ⟨_, rfl, h1, ⟨h2.os, h2.tape, h2.output, h2.size, fun k hk _ => h2.block k hk⟩, fun g hg => .inr (by have : w.heap.size = g := by {simpa [Value.ownBlock] using hg}; omega)⟩

end Go.Proofs.Ytcboakmfabdeoaa
