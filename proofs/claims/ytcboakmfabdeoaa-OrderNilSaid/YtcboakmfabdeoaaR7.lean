/- What a map that is not there tells. -/
import Derived.Test.YtcboakmfabdeoaaR6
namespace Go.Proofs.Ytcboakmfabdeoaa
open Go.RowKit Go.Shelf

attribute [local go_sem] Oper.semAt_some

theorem put_nil (k : Int) (s : ByteArray) (w : World) : Calls Try.prog 16 #[.pointer none, .int .i64 k, .string s] w fun e w' => e = .returned (.tuple #[.string ⟨#[]⟩, .bool false]) ∧ w = w' := by
  go_enter Try.func16, Try.ntmps16
  go_wp2
  go_ret2
  exact ⟨rfl, rfl⟩

theorem get_nil (k : Int) (w : World) : Calls Try.prog 14 #[.pointer none, .int .i64 k] w fun e w' => e = .returned (.tuple #[.string ⟨#[]⟩, .bool false]) ∧ w = w' := by
  go_enter Try.func14, Try.ntmps14
  go_wp2_with (first | (go_at_call 28; refine (top_nil _).mono ?_; rintro e w' ⟨rfl, rfl⟩) | (go_at_call 31; refine (find_nil k _).mono ?_; rintro e w' ⟨rfl, rfl⟩))
  go_ret2
  exact ⟨rfl, rfl⟩

theorem drop_nil (k : Int) (w : World) : Calls Try.prog 17 #[.pointer none, .int .i64 k] w fun e w' => e = .returned (.tuple #[.string ⟨#[]⟩, .bool false]) ∧ w = w' := by
  go_enter Try.func17, Try.ntmps17
  go_wp2_with (first | (go_at_call 28; refine (top_nil _).mono ?_; rintro e w' ⟨rfl, rfl⟩) | (go_at_call 31; refine (find_nil k _).mono ?_; rintro e w' ⟨rfl, rfl⟩))
  go_ret2
  exact ⟨rfl, rfl⟩

theorem count_nil (w : World) : Calls Try.prog 29 #[.pointer none] w fun e w' => e = .returned (.int .i64 0) ∧ w = w' := by
  go_enter Try.func29, Try.ntmps29
  go_wp2
  go_ret
  exact ⟨rfl, rfl⟩

theorem len_nil (w : World) : Calls Try.prog 12 #[.pointer none] w fun e w' => e = .returned (.int .i64 0) ∧ w = w' := by
  go_enter Try.func12, Try.ntmps12
  go_wp2_with (first | (go_at_call 28; refine (top_nil _).mono ?_; rintro e w' ⟨rfl, rfl⟩) | (go_at_call 29; refine (count_nil _).mono ?_; rintro e w' ⟨rfl, rfl⟩))
  go_ret
  exact ⟨rfl, rfl⟩

theorem rankM_nil (k : Int) (w : World) : Calls Try.prog 15 #[.pointer none, .int .i64 k] w fun e w' => e = .returned (.int .i64 0) ∧ w = w' := by
  go_enter Try.func15, Try.ntmps15
  go_wp2_with (first | (go_at_call 28; refine (top_nil _).mono ?_; rintro e w' ⟨rfl, rfl⟩) | (go_at_call 32; refine (rank_nil k _).mono ?_; rintro e w' ⟨rfl, rfl⟩))
  go_ret
  exact ⟨rfl, rfl⟩

theorem nodes_nil (w : World) : Calls Try.prog 39 #[.pointer none] w fun e w' => e = .returned (.int .i64 0) ∧ w = w' := by
  go_enter Try.func39, Try.ntmps39
  go_wp2
  go_ret
  exact ⟨rfl, rfl⟩

theorem nodesM_nil (w : World) : Calls Try.prog 19 #[.pointer none] w fun e w' => e = .returned (.int .i64 0) ∧ w = w' := by
  go_enter Try.func19, Try.ntmps19
  go_wp2_with (first | (go_at_call 28; refine (top_nil _).mono ?_; rintro e w' ⟨rfl, rfl⟩) | (go_at_call 39; refine (nodes_nil _).mono ?_; rintro e w' ⟨rfl, rfl⟩))
  go_ret
  exact ⟨rfl, rfl⟩

theorem copy_nil (w : World) : Calls Try.prog 11 #[.pointer none] w fun e w' => e = .returned (.pointer none) ∧ w = w' := by
  go_enter Try.func11, Try.ntmps11
  go_wp2
  go_ret
  exact ⟨rfl, rfl⟩

theorem at_nil (i : Int) (w : World) : Calls Try.prog 13 #[.pointer none, .int .i64 i] w fun e w' => e = .returned (.tuple #[.int .i64 0, .string ⟨#[]⟩, .bool false]) ∧ w = w' := by
  by_cases h : i < 0
  · go_enter Try.func13, Try.ntmps13
    go_wp2_with (go_at_call 12; refine (len_nil _).mono ?_; rintro e w' ⟨rfl, rfl⟩)
    go_ret3
    exact ⟨rfl, rfl⟩
  · go_enter Try.func13, Try.ntmps13
    go_wp2_with (go_at_call 12; refine (len_nil _).mono ?_; rintro e w' ⟨rfl, rfl⟩)
    go_ret3
    exact ⟨rfl, rfl⟩

set_option maxHeartbeats 400000 in
theorem depth_nil (w : World) : Calls Try.prog 18 #[.pointer none] w fun e w' => e = .returned (.int .i64 0) ∧ w = w' := by
  go_enter Try.func18, Try.ntmps18
  go_wp2_with (go_at_call 28; refine (top_nil _).mono ?_; rintro e w' ⟨rfl, rfl⟩)
  go_loopw [3, 4] (fun s3 s4 wr => s3 = .int .i64 0 ∧ s4 = .pointer none ∧ wr = w) (fun _ _ _ => 0)
  case atStart => exact ⟨rfl, rfl, rfl⟩
  case round =>
    obtain ⟨rfl, rfl, rfl⟩ := hrel
    go_wp2
    go_ret
    exact ⟨rfl, rfl⟩

set_option maxHeartbeats 1000000 in
set_option maxRecDepth 100000 in
theorem things_nil_in (k most : Int) (w : World) :
    CallsIn Fence.wide 5 Try.prog 21 #[.pointer none, .int .i64 k, .int .i64 most] w fun e w' => e = .returned (.slice none 0 0) ∧ Below w.heap.size w w' := by
  refine callsIn_of_wp_marks Try.func21 rfl trivial ?_ rfl
  simp only [Try.ntmps21, List.size_toArray, List.length_cons, List.length_nil, Nat.reduceAdd, Nat.reduceSub, Array.replicate_succ, Array.replicate_zero, List.push_toArray, List.append_toArray, List.nil_append, List.cons_append]
  gi_wp2_with ((try refine ⟨trivial, ?_⟩); gi_at_call 40; refine (callsIn_wide.2 (from_any none k most _)).mono ?_; rintro e w' ⟨rfl, rfl⟩)
  obtain ⟨W0, hW0⟩ : ∃ W0, W0 = (((w.alloc (.cells #[.slice none 0 0] 49)).alloc (.cells #[.pointer none] 24)).alloc (.cells #[.int .i64 k] 2)).alloc (.cells #[.int .i64 most] 3) := ⟨_, rfl⟩
  rw [← hW0]
  have b0 : Below w.heap.size w W0 := by rw [hW0]; exact ((((Below.refl _ w).alloc (Nat.le_refl _) _).alloc (by simp) _).alloc (by simp; omega) _).alloc (by simp; omega) _
  have sz0 : W0.heap.size = w.heap.size + 4 := by rw [hW0]; simp
  have l0 : W0.heap[w.heap.size]? = some (.cells #[.slice none 0 0] 49 (0, 0)) := by
    rw [hW0, Below.heap_alloc _ _ _ (by simp; omega), Below.heap_alloc _ _ _ (by simp; omega), Below.heap_alloc _ _ _ (by simp)]; exact heap_alloc_new w _
  have m0 : W0.heap[w.heap.size + 1]? = some (.cells #[.pointer none] 24 (0, 0)) := by
    rw [hW0, Below.heap_alloc _ _ _ (by simp), Below.heap_alloc _ _ _ (by simp)]
    have := heap_alloc_new (w.alloc (.cells #[.slice none 0 0] 49)) (.cells #[.pointer none] 24)
    rwa [World.size_alloc] at this
  have k0 : W0.heap[w.heap.size + 1 + 1]? = some (.cells #[.int .i64 k] 2 (0, 0)) := by
    rw [hW0, Below.heap_alloc _ _ _ (by simp)]
    have := heap_alloc_new ((w.alloc (.cells #[.slice none 0 0] 49)).alloc (.cells #[.pointer none] 24)) (.cells #[.int .i64 k] 2)
    rwa [World.size_alloc, World.size_alloc] at this
  have t0 : W0.heap[w.heap.size + 1 + 2]? = some (.cells #[.int .i64 most] 3 (0, 0)) := by
    rw [hW0]
    have := heap_alloc_new (((w.alloc (.cells #[.slice none 0 0] 49)).alloc (.cells #[.pointer none] 24)).alloc (.cells #[.int .i64 k] 2)) (.cells #[.int .i64 most] 3)
    rwa [World.size_alloc, World.size_alloc, World.size_alloc] at this
  have seq : ∀ n, SeqB Fence.wide n Try.prog 53 #[.pointer (some ⟨w.heap.size + 1 + 2, 0, none⟩), .pointer (some ⟨w.heap.size + 1, 0, none⟩), .pointer (some ⟨w.heap.size + 1 + 1, 0, none⟩)] encs2 KeepT (fun xs => xs = []) 0 W0 := by
    intro n l' J W2 hb2 hJa hY h0
    refine callsIn_wide.2 ((from1_nil k most W0 _ _ _ (cell_of_row W0 _ 0 _ _ _ t0) (cell_of_row W0 _ 0 _ _ _ m0) (cell_of_row W0 _ 0 _ _ _ k0) l' J W2 hb2 hJa h0).mono ?_)
    rintro e W' ⟨h1, h2⟩
    exact ⟨h1, _, rfl, h2⟩
  refine wpIn_rangeFunc_B rfl (by omega) (gf := 53) rfl trivial (enters_of Try.func53 (by kernel_rfl) rfl) (seq 4) KeepT.trans KeepT.putObj (Below.refl _ _) (fun _ => rfl)
    (fun _ W => W.heap[w.heap.size]? = some (.cells #[.slice none 0 0] 49 (0, 0)) ∧ Below w.heap.size w W) ?own ⟨l0, b0⟩
    (fun x => { tmps := #[.pointer none, .int .i64 k, .int .i64 most, undef, undef, undef, .slice none 0 0, .pointer (some ⟨w.heap.size, 0, none⟩), undef, .string x.2, .pointer none, .int .i64 k, .int .i64 most, .func (.func 53) #[] #[.pointer (some ⟨w.heap.size + 1 + 2, 0, none⟩), .pointer (some ⟨w.heap.size + 1, 0, none⟩), .pointer (some ⟨w.heap.size + 1 + 1, 0, none⟩)], .int .i64 x.1, .string x.2, undef, undef, undef, undef, undef], defers := [] }) ?assign ?body ?done
  case own =>
    rintro pre W W' row ⟨h1, h3⟩ hg hr
    refine ⟨(hg.block _ (Array.getElem?_eq_some_iff.1 h1).1 (fun e => ?_)).trans h1, h3.grown hg h3.size (fun k e => by have := (hr k e).1; omega)⟩
    obtain ⟨_, o, ho, h⟩ := hr _ e.symm
    rw [h1] at ho
    cases ho
    rcases h with h | ⟨cs', h⟩
    · simp [Obj.isCells] at h
    · simp at h
  case assign =>
    intro l x W K hK
    gi_wp2
    exact hK
  case body =>
    rintro l pre x W _ hlen
    exact absurd hlen (Nat.not_lt_zero _)
  case done =>
    rintro D xs W rfl ⟨h1, h3⟩ hD hle
    have lc : W.cell? ⟨w.heap.size, 0, none⟩ = some (.slice none 0 0) := cell_of_row W _ 0 _ _ _ h1
    have H3 := Lib.hid h3
    have HD := Lib.hid hD
    clear h1 h3 hD
    gi_wp2
    refine ⟨by simp, .inl ⟨_, _, rfl, run_takeDeferred HD.out, ?_⟩⟩
    refine ⟨_, results_tmp rfl _ _ _, rfl, ?_⟩
    exact H3.out.trans (belowK_b (w := w) (Nat.le_refl _) W D _ _ (by omega) HD.out rfl rfl)

theorem things_nil (k most : Int) (w : World) : Calls Try.prog 21 #[.pointer none, .int .i64 k, .int .i64 most] w fun e w' => e = .returned (.slice none 0 0) ∧ Below w.heap.size w w' :=
  callsIn_wide.1 (things_nil_in k most w)
end Go.Proofs.Ytcboakmfabdeoaa
