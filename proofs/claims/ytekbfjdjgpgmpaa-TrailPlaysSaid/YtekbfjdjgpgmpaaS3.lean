/- stands, Forget, Add, Mark. -/
import Derived.Test.YtekbfjdjgpgmpaaS2
import Derived.StillTailTactics
import Derived.Lib.SliceRun
import Derived.Lib.AppendZerosOnto
namespace Go.Proofs.Ytekbfjdjgpgmpaa
open Go.RowKit

theorem stands_yes {w : World} {p : Nat} {F : List Nat} {ts : List ByteArray} {ms : List Nat} (h : IsTrail w p F ts ms) (m : Int) (k : Nat) (hm : m = k) (hk : k < ms.length) : Calls Try.prog 23 #[.pointer (some ⟨p, 0, none⟩), .int .i64 m] w fun e w' => e = .returned (.int .i64 0) ∧ w' = w := by
  obtain ⟨vt, vm, h, -⟩ := h
  obtain ⟨a, c, rfl⟩ := slice_shape h.marks
  have c1 : w.cell? ⟨p, 1, none⟩ = some (.slice a ms.length c) := cell_of_row w p 1 _ _ _ h.cellp
  clear h
  have h1 : ¬ m < 0 := by omega
  have h2 : ¬ m ≥ (ms.length : Int) := by omega
  clear hm hk
  go_enter Try.func23, Try.ntmps23
  go_wp2
  go_ret
  exact ⟨rfl, rfl⟩
theorem stands_no {w : World} {p : Nat} {F : List Nat} {ts : List ByteArray} {ms : List Nat} (h : IsTrail w p F ts ms) (m : Int) (hm : m < 0 ∨ (ms.length : Int) ≤ m) : Calls Try.prog 23 #[.pointer (some ⟨p, 0, none⟩), .int .i64 m] w fun e w' => e = .returned (.int .i64 1) ∧ w' = w := by
  obtain ⟨vt, vm, h, -⟩ := h
  obtain ⟨a, c, rfl⟩ := slice_shape h.marks
  have c1 : w.cell? ⟨p, 1, none⟩ = some (.slice a ms.length c) := cell_of_row w p 1 _ _ _ h.cellp
  clear h
  by_cases h1 : m < 0
  · clear hm
    go_enter Try.func23, Try.ntmps23
    go_wp2
    go_ret
    exact ⟨rfl, rfl⟩
  · have h2 : m ≥ (ms.length : Int) := by omega
    clear hm
    go_enter Try.func23, Try.ntmps23
    go_wp2
    go_ret
    exact ⟨rfl, rfl⟩

theorem Try.info9 : (Try.prog.info? 9).map (fun i => (i.zero, i.size, i.bytes)) = some (some (.string ByteArray.empty), 1, 16) := by kernel_rfl
theorem Try.info3 : (Try.prog.info? 3).map (fun i => (i.zero, i.size, i.bytes)) = some (some (.int .i64 0), 1, 8) := by kernel_rfl

/-- one more thing, or mark: what the append gives, and the trail behind the store. -/
theorem push_thing {w : World} {p : Nat} {vt vm : Value} {ts : List ByteArray} {ms : List Nat} (h : TrailAt w p vt vm ts ms) (x : ByteArray) (hn : ts.length ≤ 1048576) (W : World) (hW : W.heap = (w.alloc (.cells #[.string x] 9)).heap) (hT : Touch [] w W) :
    ∃ v' w', (Builtin.append_ #[39, 39] 39 #[vt, .slice (some ⟨w.heap.size, 0, none⟩) 1 1]).run Try.prog W = .ok v' w' ∧ w'.heap[p]? = some (.cells #[vt, vm] 53 (0, 0)) ∧
      TrailAt (w'.setCell ⟨p, 0, none⟩ v') p v' vm (ts ++ [x]) ms ∧ Touch (Foot p vt vm) w (w'.setCell ⟨p, 0, none⟩ v') ∧ ∀ b ∈ Foot p v' vm, b ∈ Foot p vt vm ∨ w.heap.size ≤ b := by
  obtain ⟨i0, hi0, hz0, hzs, hzb⟩ := info_parts Try.info9
  have hal := (Below.refl w.heap.size w).alloc (Nat.le_refl _) (.cells #[.string x] 9)
  have hsz : W.heap.size = w.heap.size + 1 := by rw [hW]; simp
  have hold : ∀ b, b < w.heap.size → W.heap[b]? = w.heap[b]? := fun b hb => by rw [hW]; exact hal.block b hb
  have hnew : W.heap[w.heap.size]? = some (.cells #[.string x] 9 (0, 0)) := by rw [hW]; exact heap_alloc_new w _
  have h2 : TrailAt W p vt vm ts ms := h.frame fun b hb => hold b (h.lt b hb)
  obtain ⟨v', w', r1, r2, r3, r4⟩ := append_own2 (P := Try.prog) W 39 39 9 i0 (.string ByteArray.empty) 1 16 Try.underlying39 hi0 hz0 hzs hzb rfl (by decide) vt ts.length (texts ts) h2.things ⟨w.heap.size, 0, none⟩ 1 1 (texts [x]) rfl (fun j u hj => by
    rw [Addr.add_lit, Nat.zero_add, cell_of_row W w.heap.size j _ _ _ hnew]
    simpa [texts] using hj) (by intro u hu; simp [texts] at hu; subst hu; rfl) (by omega) (by omega)
  have hp : p < w.heap.size := h.lt p (by simp [Foot])
  have hpw : w'.heap[p]? = some (.cells #[vt, vm] 53 (0, 0)) := (r3.block p (by omega) (fun e => h.not1 e.symm)).trans h2.cellp
  have hv' : v'.ownBlock ≠ some p := fun e => by
    obtain ⟨cur, h1⟩ := row_kind r2 e
    rw [hpw] at h1; simp at h1
  refine ⟨v', w', r1, hpw, ⟨heap_setCell_same _ p 0 _ _ _ hpw, ?_, ?_⟩, ?_, ?_⟩
  · have r5 : w'.ownsRow 0 9 1 v' (ts ++ [x]).length (texts (ts ++ [x])) := by simpa [texts] using r2
    exact ownsRow_of_heap r5 fun b hb => heap_setCell_other _ _ b _ (fun e => hv' (by rw [hb, e]))
  · refine ownsRow_of_heap h2.marks fun b hb => ?_
    rw [heap_setCell_other _ _ b _ (fun e => h.not2 (by rw [hb, e]))]
    exact r3.block b (h2.marks.lt b hb).2 (fun e => h.not3 e.symm hb)
  · refine ((hT.mono (by simp)).grown r3 (fun k hk => .inl (by simp [Foot, hk]))).setCell (.inl (by simp [Foot])) _
  · intro b hb
    simp only [Foot, List.mem_cons, List.mem_append, Option.mem_toList] at hb ⊢
    rcases hb with rfl | hb | hb
    · exact .inl (.inl rfl)
    · rcases r4 b hb with h6 | h6
      · exact .inl (.inr (.inl h6))
      · exact .inr (by omega)
    · exact .inl (.inr (.inr hb))

theorem push_mark {w : World} {p : Nat} {vt vm : Value} {ts : List ByteArray} {ms : List Nat} (h : TrailAt w p vt vm ts ms) (x : Nat) (hn : ms.length ≤ 1048576) (W : World) (hW : W.heap = (w.alloc (.cells #[.int .i64 x] 3)).heap) (hT : Touch [] w W) :
    ∃ v' w', (Builtin.append_ #[51, 51] 51 #[vm, .slice (some ⟨w.heap.size, 0, none⟩) 1 1]).run Try.prog W = .ok v' w' ∧ w'.heap[p]? = some (.cells #[vt, vm] 53 (0, 0)) ∧
      TrailAt (w'.setCell ⟨p, 1, none⟩ v') p vt v' ts (ms ++ [x]) ∧ Touch (Foot p vt vm) w (w'.setCell ⟨p, 1, none⟩ v') ∧ ∀ b ∈ Foot p vt v', b ∈ Foot p vt vm ∨ w.heap.size ≤ b := by
  obtain ⟨i0, hi0, hz0, hzs, hzb⟩ := info_parts Try.info3
  have hal := (Below.refl w.heap.size w).alloc (Nat.le_refl _) (.cells #[.int .i64 x] 3)
  have hsz : W.heap.size = w.heap.size + 1 := by rw [hW]; simp
  have hold : ∀ b, b < w.heap.size → W.heap[b]? = w.heap[b]? := fun b hb => by rw [hW]; exact hal.block b hb
  have hnew : W.heap[w.heap.size]? = some (.cells #[.int .i64 x] 3 (0, 0)) := by rw [hW]; exact heap_alloc_new w _
  have h2 : TrailAt W p vt vm ts ms := h.frame fun b hb => hold b (h.lt b hb)
  obtain ⟨v', w', r1, r2, r3, r4⟩ := append_own2 (P := Try.prog) W 51 51 3 i0 (.int .i64 0) 1 8 Try.underlying51 hi0 hz0 hzs hzb rfl (by decide) vm ms.length (nums ms) h2.marks ⟨w.heap.size, 0, none⟩ 1 1 (nums [x]) rfl (fun j u hj => by
    rw [Addr.add_lit, Nat.zero_add, cell_of_row W w.heap.size j _ _ _ hnew]
    simpa [nums] using hj) (by intro u hu; simp [nums] at hu; subst hu; rfl) (by omega) (by omega)
  have hp : p < w.heap.size := h.lt p (by simp [Foot])
  have hpw : w'.heap[p]? = some (.cells #[vt, vm] 53 (0, 0)) := (r3.block p (by omega) (fun e => h.not2 e.symm)).trans h2.cellp
  have hv' : v'.ownBlock ≠ some p := fun e => by
    obtain ⟨cur, h1⟩ := row_kind r2 e
    rw [hpw] at h1; simp at h1
  refine ⟨v', w', r1, hpw, ⟨heap_setCell_same _ p 1 _ _ _ hpw, ?_, ?_⟩, ?_, ?_⟩
  · refine ownsRow_of_heap h2.things fun b hb => ?_
    rw [heap_setCell_other _ _ b _ (fun e => h.not1 (by rw [hb, e]))]
    exact r3.block b (h2.things.lt b hb).2 (fun e => h.not3 hb e.symm)
  · have r5 : w'.ownsRow 0 3 1 v' (ms ++ [x]).length (nums (ms ++ [x])) := by simpa [nums] using r2
    exact ownsRow_of_heap r5 fun b hb => heap_setCell_other _ _ b _ (fun e => hv' (by rw [hb, e]))
  · refine ((hT.mono (by simp)).grown r3 (fun k hk => .inl (by simp [Foot, hk]))).setCell (.inl (by simp [Foot])) _
  · intro b hb
    simp only [Foot, List.mem_cons, List.mem_append, Option.mem_toList] at hb ⊢
    rcases hb with rfl | hb | hb
    · exact .inl (.inl rfl)
    · exact .inl (.inr (.inl hb))
    · rcases r4 b hb with h6 | h6
      · exact .inl (.inr (.inr h6))
      · exact .inr (by omega)

/-- the trail that comes of a call, and what may have changed. -/
def Goes (w w' : World) (p : Nat) (F : List Nat) (ts : List ByteArray) (ms : List Nat) : Prop := ∃ F', IsTrail w' p F' ts ms ∧ Touch F w w' ∧ ∀ b ∈ F', b ∈ F ∨ w.heap.size ≤ b

set_option maxRecDepth 100000 in
set_option maxHeartbeats 1000000 in
theorem add_ok {w : World} {p : Nat} {F : List Nat} {ts : List ByteArray} {ms : List Nat} (h : IsTrail w p F ts ms) (x : ByteArray) (hn : ts.length < 1048576) :
    Calls Try.prog 10 #[.pointer (some ⟨p, 0, none⟩), .string x] w fun e w' => e = .returned (.int .i64 0) ∧ Goes w w' p F (ts ++ [x]) ms := by
  obtain ⟨vt, vm, h, rfl⟩ := h
  obtain ⟨v', w', r1, r2, r3, r4, r5⟩ := push_thing h x (by omega) (w.alloc (.cells #[.string x] 9)) rfl ((Touch.refl _ _).alloc _)
  obtain ⟨a', c', rfl⟩ := slice_shape r3.things
  rw [List.length_append, List.length_singleton] at *
  have FIN : Hid (Goes w (w'.setCell ⟨p, 0, none⟩ _) p (Foot p vt vm) (ts ++ [x]) ms) := ⟨_, ⟨_, _, r3, rfl⟩, r4, r5⟩
  obtain ⟨a, c, rfl⟩ := slice_shape h.things
  have c0 : w.cell? ⟨p, 0, none⟩ = some (.slice a ts.length c) := cell_of_row w p 0 _ _ _ h.cellp
  have c0' : w'.cell? ⟨p, 0, none⟩ = some (.slice a ts.length c) := cell_of_row w' p 0 _ _ _ r2
  have f0' : w'.frozen? ⟨p, 0, none⟩ = false := by simp [World.frozen?, r2]
  have R1 := Lib.hid r1
  have hq : ¬ ((ts.length : Int) ≥ 1048576) := by omega
  clear r1 r2 r3 r4 r5 h hn
  go_enter Try.func10, Try.ntmps10
  go_wp2_with (at_builtin; refine Lib.wpList_append_run _ rfl _ _ 39 39 rfl _ _ rfl rfl _ _ R1.out ?_)
  go_ret
  exact ⟨rfl, FIN.out⟩

set_option maxRecDepth 100000 in
set_option maxHeartbeats 1000000 in
theorem mark_ok {w : World} {p : Nat} {F : List Nat} {ts : List ByteArray} {ms : List Nat} (h : IsTrail w p F ts ms) (hn : ms.length < 1048576) (ht : ts.length ≤ 1048576) :
    Calls Try.prog 11 #[.pointer (some ⟨p, 0, none⟩)] w fun e w' => e = .returned (.int .i64 ms.length) ∧ Goes w w' p F ts (ms ++ [ts.length]) := by
  obtain ⟨vt, vm, h, rfl⟩ := h
  obtain ⟨v', w', r1, r2, r3, r4, r5⟩ := push_mark h ts.length (by omega) (w.alloc (.cells #[.int .i64 ts.length] 3)).drew rfl ((Touch.refl _ _).alloc _).drew
  obtain ⟨a', c', rfl⟩ := slice_shape r3.marks
  have FIN : Hid (Goes w (w'.setCell ⟨p, 1, none⟩ _) p (Foot p vt vm) ts (ms ++ [ts.length])) := ⟨_, ⟨_, _, r3, rfl⟩, r4, r5⟩
  obtain ⟨a, c, rfl⟩ := slice_shape h.things
  obtain ⟨a2, c2, rfl⟩ := slice_shape h.marks
  have c0 : w.cell? ⟨p, 0, none⟩ = some (.slice a ts.length c) := cell_of_row w p 0 _ _ _ h.cellp
  have c1 : w.cell? ⟨p, 1, none⟩ = some (.slice a2 ms.length c2) := cell_of_row w p 1 _ _ _ h.cellp
  have c1' : w'.cell? ⟨p, 1, none⟩ = some (.slice a2 ms.length c2) := cell_of_row w' p 1 _ _ _ r2
  have c1f : (w'.setCell ⟨p, 1, none⟩ (.slice a' (ms ++ [ts.length]).length c')).cell? ⟨p, 1, none⟩ = some (.slice a' (ms ++ [ts.length]).length c') := cell_of_row _ p 1 _ _ _ r3.cellp
  have d0 : (w.alloc (.cells #[.int .i64 ts.length] 3)).cell? ⟨p, 0, none⟩ = some (.slice a ts.length c) := cell_of_row _ p 0 _ _ _ ((Below.heap_alloc w _ p (h.lt p (by simp [Foot]))).trans h.cellp)
  have d1 : (w.alloc (.cells #[.int .i64 ts.length] 3)).cell? ⟨p, 1, none⟩ = some (.slice a2 ms.length c2) := cell_of_row _ p 1 _ _ _ ((Below.heap_alloc w _ p (h.lt p (by simp [Foot]))).trans h.cellp)
  have f1' : w'.frozen? ⟨p, 1, none⟩ = false := by simp [World.frozen?, r2]
  have R1 := Lib.hid r1
  have hl : (((ms ++ [ts.length]).length : Nat) : Int) - 1 = ms.length := by simp
  have HL := Lib.hid hl
  have hb : ((ms ++ [ts.length]).length : Nat) ≤ 2000000 := by simp; omega
  generalize (ms ++ [ts.length]).length = N at *
  clear r1 r2 r3 r4 r5 h hn hl
  go_enter Try.func11, Try.ntmps11
  go_wp2_with fail
  go_region_law (go_loud (refine step_append_runI rfl _ _ 51 51 rfl _ _ ?h1 ?h2 R1.out ?_; (case h1 => rfl); (case h2 => rfl)))
  all_goals go_wp2_with fail
  all_goals go_ret
  all_goals rw [HL.out]
  all_goals exact ⟨rfl, FIN.out⟩

theorem cut_row {w : World} {b g n cap k : Nat} {e : TypeId} {xs : List Value} (h : w.ownsRow b e 1 (.slice (some ⟨g, 0, none⟩) n cap) n xs) (hk : k ≤ n) : w.ownsRow b e 1 (.slice (some ⟨g, 0, none⟩) k cap) k (xs.take k) := by
  have hl := h.1
  rcases h.2 with ⟨h1, _⟩ | ⟨g', cap', cur, h1, h2, h3, h4, h5, h6, h7⟩
  · cases h1
  · cases h1
    refine ⟨by rw [List.length_take, hl]; omega, .inr ⟨g, cap, cur, rfl, h2, h3, by omega, h5, h6, ?_⟩⟩
    rw [← h7, List.take_take]
    congr 1
    omega
theorem texts_take (l : List ByteArray) (k : Nat) : (texts l).take k = texts (l.take k) := by simp [texts, List.map_take]
theorem nums_take (l : List Nat) (k : Nat) : (nums l).take k = nums (l.take k) := by simp [nums, List.map_take]

theorem row_pos {w : World} {b : Nat} {v : Value} {n : Nat} {xs : List Value} {e : TypeId} {z : Nat} (h : w.ownsRow b e z v n xs) (hn : 0 < n) : ∃ g c, v = .slice (some ⟨g, 0, none⟩) n c ∧ n ≤ c := by
  rcases h.2 with ⟨h1, h2⟩ | ⟨g, cap, cur, h1, _, _, h4, _⟩
  · omega
  · exact ⟨_, _, h1, h4⟩

theorem forget_no {w : World} {p : Nat} {F : List Nat} {ts : List ByteArray} {ms : List Nat} (h : IsTrail w p F ts ms) (m : Int) (hm : m < 0 ∨ (ms.length : Int) ≤ m) : Calls Try.prog 16 #[.pointer (some ⟨p, 0, none⟩), .int .i64 m] w fun e w' => e = .returned (.int .i64 1) ∧ w' = w := by
  go_enter Try.func16, Try.ntmps16
  go_wp2_with (go_at_call 23; refine (stands_no h m hm).mono ?_; rintro e w' ⟨rfl, rfl⟩)
  go_ret
  exact ⟨rfl, rfl⟩

theorem forget_yes {w : World} {p : Nat} {F : List Nat} {ts : List ByteArray} {ms : List Nat} (h : IsTrail w p F ts ms) (m : Int) (k : Nat) (hm : m = k) (hk : k < ms.length) :
    Calls Try.prog 16 #[.pointer (some ⟨p, 0, none⟩), .int .i64 m] w fun e w' => e = .returned (.int .i64 0) ∧ Goes w w' p F ts (ms.take k) := by
  have HS := Lib.hid (stands_yes h m k hm hk)
  obtain ⟨vt, vm, h, rfl⟩ := h
  obtain ⟨g, c, rfl, hc⟩ := row_pos h.marks (by omega)
  have c1 : w.cell? ⟨p, 1, none⟩ = some (.slice (some ⟨g, 0, none⟩) ms.length c) := cell_of_row w p 1 _ _ _ h.cellp
  have f1 : w.frozen? ⟨p, 1, none⟩ = false := by simp [World.frozen?, h.cellp]
  have FIN : Hid (Goes w (w.setCell ⟨p, 1, none⟩ (.slice (some ⟨g, 0, none⟩) k c)) p (Foot p vt (.slice (some ⟨g, 0, none⟩) ms.length c)) ts (ms.take k)) := by
    refine ⟨_, ⟨vt, .slice (some ⟨g, 0, none⟩) k c, ⟨heap_setCell_same _ p 1 _ _ _ h.cellp, ?_, ?_⟩, rfl⟩, (Touch.refl _ w).setCell (.inl (by simp [Foot])) _, fun b hb => .inl hb⟩
    · exact ownsRow_of_heap h.things fun b hb => heap_setCell_other _ _ b _ (fun e => h.not1 (by rw [hb, e]))
    · have h3 := cut_row h.marks (Nat.le_of_lt hk)
      rw [nums_take] at h3
      have h4 : w.ownsRow 0 3 1 (.slice (some ⟨g, 0, none⟩) k c) (ms.take k).length (nums (ms.take k)) := by rw [List.length_take, Nat.min_eq_left (by omega)]; exact h3
      exact ownsRow_of_heap h4 fun b hb => heap_setCell_other _ _ b _ (fun e => h.not2 (by cases hb; exact congrArg some e))
  have hkc : (k : Int) ≤ (c : Int) := by omega
  have hkc2 : k ≤ c := by omega
  clear h hk hc
  subst hm
  go_enter Try.func16, Try.ntmps16
  go_wp2_with (go_at_call 23; refine HS.out.mono ?_; rintro e w' ⟨rfl, rfl⟩)
  go_ret
  exact ⟨rfl, FIN.out⟩
end Go.Proofs.Ytekbfjdjgpgmpaa
