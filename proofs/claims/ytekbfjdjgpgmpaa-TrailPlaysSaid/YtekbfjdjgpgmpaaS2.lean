/- Trails in memory; New, Len, Marks, Add, Mark, and what a nil trail answers. -/
import Derived.Test.YtekbfjdjgpgmpaaS1
import Derived.Lib.Hide
import Derived.Laws.CopyRow
import Derived.Deep.RegionLaw
import Derived.Deep.DeepCutAuto
import Derived.Deep.RegionWith
namespace Go.Proofs.Ytekbfjdjgpgmpaa
open Go.RowKit

/-! what may have changed -/
structure Touch (F : List Nat) (w w' : World) : Prop where
  os : w'.os = w.os
  tape : w'.tape = w.tape
  output : w'.output = w.output
  size : w.heap.size ≤ w'.heap.size
  block : ∀ k, k < w.heap.size → k ∉ F → w'.heap[k]? = w.heap[k]?

theorem Touch.refl (F : List Nat) (w : World) : Touch F w w := ⟨rfl, rfl, rfl, Nat.le_refl _, fun _ _ _ => rfl⟩
theorem Touch.of_below {w w' : World} (h : Below w.heap.size w w') (F : List Nat) : Touch F w w' := ⟨h.os, h.tape, h.output, h.size, fun k hk _ => h.block k hk⟩
theorem Touch.of_grown {w w' : World} {o : Option Nat} (h : w.grownBy w' o) : Touch o.toList w w' := ⟨h.os, h.tape, h.output, h.size, fun k hk hn => h.block k hk (fun e => hn (by simp [← e]))⟩
theorem Touch.trans {F G : List Nat} {a b c : World} (h : Touch F a b) (k : Touch G b c) (hG : ∀ x ∈ G, x ∈ F ∨ a.heap.size ≤ x) : Touch F a c :=
  ⟨k.os.trans h.os, k.tape.trans h.tape, k.output.trans h.output, Nat.le_trans h.size k.size, fun x hx hn => (k.block x (Nat.lt_of_lt_of_le hx h.size) (fun hm => by rcases hG x hm with h1 | h1; exact hn h1; omega)).trans (h.block x hx hn)⟩
theorem Touch.mono {F G : List Nat} {a b : World} (h : Touch F a b) (hG : ∀ x ∈ F, x ∈ G ∨ a.heap.size ≤ x) : Touch G a b :=
  (Touch.refl G a).trans h hG
theorem Touch.setCell {F : List Nat} {a w : World} (h : Touch F a w) {q : Addr} (hq : q.block ∈ F ∨ a.heap.size ≤ q.block) (u : Value) : Touch F a (w.setCell q u) :=
  ⟨h.os, h.tape, h.output, by simpa using h.size, fun k hk hn => (Below.heap_setCell w q u k (fun e => by rcases hq with h1 | h1; exact hn (e ▸ h1); omega)).trans (h.block k hk hn)⟩
theorem Touch.alloc {F : List Nat} {a w : World} (h : Touch F a w) (o : Obj) : Touch F a (w.alloc o) :=
  ⟨h.os, h.tape, h.output, Nat.le_trans h.size (by simp), fun k hk hn => (Below.heap_alloc w o k (Nat.lt_of_lt_of_le hk h.size)).trans (h.block k hk hn)⟩
theorem Touch.drew {F : List Nat} {a w : World} (h : Touch F a w) : Touch F a w.drew := ⟨h.os, h.tape, h.output, h.size, h.block⟩
theorem Touch.below {w w' : World} (h : Touch [] w w') : Below w.heap.size w w' := ⟨h.os, h.tape, h.output, h.size, fun k hk => h.block k hk (by simp)⟩
theorem Touch.grown {F : List Nat} {a w w' : World} {o : Option Nat} (h : Touch F a w) (hg : w.grownBy w' o) (ho : ∀ k, o = some k → k ∈ F ∨ a.heap.size ≤ k) : Touch F a w' :=
  h.trans (Touch.of_grown hg) (fun x hx => ho x (by simpa using hx))
theorem Touch.belowTo {F : List Nat} {a w w' : World} (h : Touch F a w) (hb : Below w.heap.size w w') : Touch F a w' := h.trans (Touch.of_below hb []) (by simp)
/-- all that was touched is new. -/
theorem Touch.fresh {F : List Nat} {a w w' : World} (hb : Below a.heap.size a w) (h : Touch F w w') (hF : ∀ x ∈ F, a.heap.size ≤ x) : Below a.heap.size a w' :=
  ⟨h.os.trans hb.os, h.tape.trans hb.tape, h.output.trans hb.output, Nat.le_trans hb.size h.size, fun k hk => (h.block k (Nat.lt_of_lt_of_le hk hb.size) (fun hm => by have := hF k hm; omega)).trans (hb.block k hk)⟩

theorem ownsRow_of_heap {w w' : World} {base : Nat} {e : TypeId} {size : Nat} {v : Value} {n : Nat} {xs : List Value} (h : w.ownsRow base e size v n xs) (hb : ∀ b, v.ownBlock = some b → w'.heap[b]? = w.heap[b]?) : w'.ownsRow base e size v n xs := by
  refine ⟨h.1, ?_⟩
  rcases h.2 with hn | ⟨g, cap, cur, rfl, hb1, hgg, rest⟩
  · exact .inl hn
  · exact .inr ⟨g, cap, cur, rfl, hb1, (hb g rfl).trans hgg, rest⟩
theorem rebase {w : World} {b : Nat} {v : Value} {n : Nat} {xs : List Value} {e : TypeId} {z : Nat} (h : w.ownsRow b e z v n xs) : w.ownsRow 0 e z v n xs := by
  refine ⟨h.1, ?_⟩
  rcases h.2 with hn | ⟨g, cap, cur, h1, _, h2⟩
  · exact .inl hn
  · exact .inr ⟨g, cap, cur, h1, Nat.zero_le _, h2⟩
theorem row_kind {w : World} {b : Nat} {v : Value} {n : Nat} {xs : List Value} {e : TypeId} {z : Nat} (h : w.ownsRow b e z v n xs) {g : Nat} (hg : v.ownBlock = some g) : ∃ cur, w.heap[g]? = some (.cells cur e (0, 0)) := by
  rcases h.2 with ⟨rfl, _⟩ | ⟨g', cap, cur, rfl, _, h2, _⟩
  · cases hg
  · cases hg; exact ⟨cur, h2⟩

/-- the block of the row that comes back: the old one, or a new one. -/
def OwnNew (w : World) (v v' : Value) : Prop := ∀ g, v'.ownBlock = some g → v.ownBlock = some g ∨ w.heap.size ≤ g

theorem append_own2 {P : Program} (w : World) (t ty e : TypeId) (i : TypeInfo) (z : Value) (size bytes : Nat) (ht : P.underlying t = some (.slice e)) (hi : P.info? e = some i) (hz : i.zero = some z)
    (hsize : i.size = size) (hby : i.bytes = bytes) (hzs : z.cells.size = size) (hsz : 0 < size)
    (v : Value) (n : Nat) (xs : List Value) (hown : w.ownsRow 0 e size v n xs)
    (a : Addr) (m c : Nat) (news : List Value) (hl : news.length = m * size) (hnews : ∀ j u, news[j]? = some u → w.cell? (a.add j) = some u) (h1 : ∀ u ∈ news, u.oneCell' = true)
    (h63 : n + m ≤ 1100001) (hbytes : bytes ≤ 64) :
    ∃ v' w', (Builtin.append_ #[t, t] ty #[v, .slice (some a) m c]).run P w = .ok v' w' ∧ w'.ownsRow 0 e size v' (n + m) (xs ++ news) ∧ w.grownBy w' v.ownBlock ∧ OwnNew w v v' := by
  have hb2 : (n + m) * bytes ≤ 140737488355328 := by
    have : (n + m) * bytes ≤ 1100001 * 64 := Nat.mul_le_mul h63 hbytes
    omega
  obtain ⟨v', w', r1, r2, r3, _⟩ := run_append_own (P := P) w 0 t ty e i z size bytes ht hi hz hsize hby hzs hsz v n xs hown a m c news hl hnews h1 (by unfold maxLen; omega) hb2 (Nat.zero_le _)
  refine ⟨v', w', r1, r2, r3, ?_⟩
  intro g hg
  rcases hown.2 with ⟨rfl, rfl⟩ | ⟨g0, cap, cur, rfl, _, hh, hnc, hcm, hcs, htk⟩
  · have hx : xs = [] := List.eq_nil_of_length_eq_zero (by simpa using hown.1)
    subst hx
    obtain ⟨v2, w2, q1, q2, _, _⟩ := run_append_own (P := P) w w.heap.size t ty e i z size bytes ht hi hz hsize hby hzs hsz (.slice none 0 0) 0 [] (World.ownsRow_nil _ _ _ _) a m c news hl hnews h1 (by unfold maxLen; omega) hb2 (Nat.le_refl _)
    rw [r1] at q1
    injection q1 with q1 q1'
    subst q1; subst q1'
    exact .inr (q2.lt g hg).1
  · by_cases hroom : n + m ≤ cap
    · have q1 := run_append_room (P := P) w t ty e i ht hi g0 n cap cur hh a m c news (by rw [hl, hsize]) hnews h1 hroom (by rw [hl, hcs, hsize, ← Nat.add_mul]; exact Nat.mul_le_mul_right _ hroom)
      rw [r1] at q1
      injection q1 with q1 q1'
      subst q1
      exact .inl hg
    · have hcl := hown.cells (g := g0) rfl
      have q1 := run_append_grow (P := P) w t ty e i z ht hi hz ⟨g0, 0, none⟩ n cap xs (by rw [hown.1, hsize]) hcl a m c news (by rw [hl, hsize]) hnews (by omega) (by omega) (growslice_fits (by omega) (by rw [hby]; exact hb2))
      rw [r1] at q1
      injection q1 with q1 q1'
      subst q1
      have : w.heap.size = g := by simpa [Value.ownBlock] using hg
      exact .inr (by omega)

theorem step_append_runI {P : Program} {ops : Array Oper} {o : Oper} {a : Act} {w : World} {K : Act → World → Prop} {Q : Exit → Act → World → Prop} {E : Prop}
    (hg : o.guard = none) (d x : Operand) (dT sT : TypeId) (hop : o.op = Op.call { callee := Callee.builtin Builtin.append, args := #[d, x], argTypes := #[dT, sT] })
    (v u : Value) (hd : a.eval d = v) (hx : a.eval x = u) {v' : Value} {w' : World} (hr : (Builtin.append_ #[dT, sT] o.type #[v, u]).run P w = .ok v' w') (hK : K (a.put o.dst v') w') :
    if Region.wanted o (yielded ops a.tmps) = true then Oper.wp P o a w K Q else E := by
  have hw : Region.wanted o (yielded ops a.tmps) = true := by simp [Region.wanted, hg]
  rw [if_pos hw]
  unfold Oper.wp
  simp [execOp, hop, resolve, invoke, builtin, hd, hx, hr, Result.andThen]
  exact hK

/-! a trail -/
def nums (l : List Nat) : List Value := l.map fun m => .int .i64 (m : Nat)
theorem nums_length (l : List Nat) : (nums l).length = l.length := by simp [nums]

def Foot (p : Nat) (vt vm : Value) : List Nat := p :: (vt.ownBlock.toList ++ vm.ownBlock.toList)

structure TrailAt (w : World) (p : Nat) (vt vm : Value) (ts : List ByteArray) (ms : List Nat) : Prop where
  cellp : w.heap[p]? = some (.cells #[vt, vm] 53 (0, 0))
  things : w.ownsRow 0 9 1 vt ts.length (texts ts)
  marks : w.ownsRow 0 3 1 vm ms.length (nums ms)

def IsTrail (w : World) (p : Nat) (F : List Nat) (ts : List ByteArray) (ms : List Nat) : Prop := ∃ vt vm, TrailAt w p vt vm ts ms ∧ F = Foot p vt vm

theorem TrailAt.not1 {w : World} {p : Nat} {vt vm : Value} {ts : List ByteArray} {ms : List Nat} (h : TrailAt w p vt vm ts ms) : vt.ownBlock ≠ some p := fun e => by
  obtain ⟨cur, h1⟩ := row_kind h.things e
  rw [h.cellp] at h1
  simp at h1
theorem TrailAt.not2 {w : World} {p : Nat} {vt vm : Value} {ts : List ByteArray} {ms : List Nat} (h : TrailAt w p vt vm ts ms) : vm.ownBlock ≠ some p := fun e => by
  obtain ⟨cur, h1⟩ := row_kind h.marks e
  rw [h.cellp] at h1
  simp at h1
theorem TrailAt.not3 {w : World} {p : Nat} {vt vm : Value} {ts : List ByteArray} {ms : List Nat} (h : TrailAt w p vt vm ts ms) {g : Nat} (h1 : vt.ownBlock = some g) (h2 : vm.ownBlock = some g) : False := by
  obtain ⟨c1, e1⟩ := row_kind h.things h1
  obtain ⟨c2, e2⟩ := row_kind h.marks h2
  rw [e1] at e2
  simp at e2
theorem TrailAt.lt {w : World} {p : Nat} {vt vm : Value} {ts : List ByteArray} {ms : List Nat} (h : TrailAt w p vt vm ts ms) : ∀ b ∈ Foot p vt vm, b < w.heap.size := fun b hb => by
  simp only [Foot, List.mem_cons, List.mem_append, Option.mem_toList] at hb
  rcases hb with rfl | hb | hb
  · exact (Array.getElem?_eq_some_iff.1 h.cellp).1
  · exact (h.things.lt b hb).2
  · exact (h.marks.lt b hb).2
theorem TrailAt.frame {w w' : World} {p : Nat} {vt vm : Value} {ts : List ByteArray} {ms : List Nat} (h : TrailAt w p vt vm ts ms) (hb : ∀ b ∈ Foot p vt vm, w'.heap[b]? = w.heap[b]?) : TrailAt w' p vt vm ts ms :=
  ⟨(hb p (by simp [Foot])).trans h.cellp, ownsRow_of_heap h.things fun b e => hb b (by simp [Foot, e]), ownsRow_of_heap h.marks fun b e => hb b (by simp [Foot, e])⟩
theorem IsTrail.lt {w : World} {p : Nat} {F : List Nat} {ts : List ByteArray} {ms : List Nat} (h : IsTrail w p F ts ms) : ∀ b ∈ F, b < w.heap.size := by
  obtain ⟨vt, vm, h1, rfl⟩ := h; exact h1.lt
theorem IsTrail.touch {w w' : World} {p : Nat} {F G : List Nat} {ts : List ByteArray} {ms : List Nat} (h : IsTrail w p F ts ms) (ht : Touch G w w') (hd : ∀ b ∈ F, b ∉ G) : IsTrail w' p F ts ms := by
  have hl := h.lt
  obtain ⟨vt, vm, h1, rfl⟩ := h
  exact ⟨vt, vm, h1.frame fun b hb => ht.block b (hl b hb) (hd b hb), rfl⟩
theorem IsTrail.below {w w' : World} {p : Nat} {F : List Nat} {ts : List ByteArray} {ms : List Nat} (h : IsTrail w p F ts ms) (ht : Below w.heap.size w w') : IsTrail w' p F ts ms :=
  h.touch (Touch.of_below ht []) (by simp)
theorem slice_shape {w : World} {b : Nat} {v : Value} {n : Nat} {xs : List Value} {e : TypeId} {z : Nat} (h : w.ownsRow b e z v n xs) : ∃ a c, v = .slice a n c := by
  rcases h.2 with ⟨h1, h2⟩ | ⟨g, cap, cur, h1, _⟩
  · exact ⟨none, 0, by rw [h1, h2]⟩
  · exact ⟨_, _, h1⟩

theorem new_ok (w : World) : Calls Try.prog 8 #[] w fun e w' => e = .returned (.pointer (some ⟨w.heap.size, 0, none⟩)) ∧ w' = w.alloc (.cells #[.slice none 0 0, .slice none 0 0] 53) := by
  go_enter Try.func8, Try.ntmps8
  go_wp2
  go_ret
  exact ⟨rfl, rfl⟩
theorem new_trail (w : World) : IsTrail (w.alloc (.cells #[.slice none 0 0, .slice none 0 0] 53)) w.heap.size [w.heap.size] [] [] :=
  ⟨_, _, ⟨heap_alloc_new w _, World.ownsRow_nil _ _ _ _, World.ownsRow_nil _ _ _ _⟩, rfl⟩

theorem len_ok {w : World} {p : Nat} {F : List Nat} {ts : List ByteArray} {ms : List Nat} (h : IsTrail w p F ts ms) : Calls Try.prog 20 #[.pointer (some ⟨p, 0, none⟩)] w fun e w' => e = .returned (.int .i64 ts.length) ∧ w' = w := by
  obtain ⟨vt, vm, h, -⟩ := h
  obtain ⟨a, c, rfl⟩ := slice_shape h.things
  have c0 : w.cell? ⟨p, 0, none⟩ = some (.slice a ts.length c) := cell_of_row w p 0 _ _ _ h.cellp
  clear h
  go_enter Try.func20, Try.ntmps20
  go_wp2
  go_ret
  exact ⟨rfl, rfl⟩
theorem marks_ok {w : World} {p : Nat} {F : List Nat} {ts : List ByteArray} {ms : List Nat} (h : IsTrail w p F ts ms) : Calls Try.prog 21 #[.pointer (some ⟨p, 0, none⟩)] w fun e w' => e = .returned (.int .i64 ms.length) ∧ w' = w := by
  obtain ⟨vt, vm, h, -⟩ := h
  obtain ⟨a, c, rfl⟩ := slice_shape h.marks
  have c1 : w.cell? ⟨p, 1, none⟩ = some (.slice a ms.length c) := cell_of_row w p 1 _ _ _ h.cellp
  clear h
  go_enter Try.func21, Try.ntmps21
  go_wp2
  go_ret
  exact ⟨rfl, rfl⟩

/-! the nil trail -/
theorem len_nil (w : World) : Calls Try.prog 20 #[.pointer none] w fun e w' => e = .returned (.int .i64 0) ∧ w' = w := by
  go_enter Try.func20, Try.ntmps20
  go_wp2
  go_ret
  exact ⟨rfl, rfl⟩
theorem marks_nil (w : World) : Calls Try.prog 21 #[.pointer none] w fun e w' => e = .returned (.int .i64 0) ∧ w' = w := by
  go_enter Try.func21, Try.ntmps21
  go_wp2
  go_ret
  exact ⟨rfl, rfl⟩
theorem add_nil (x : ByteArray) (w : World) : Calls Try.prog 10 #[.pointer none, .string x] w fun e w' => e = .returned (.int .i64 2) ∧ w' = w := by
  go_enter Try.func10, Try.ntmps10
  go_wp2
  go_ret
  exact ⟨rfl, rfl⟩
theorem mark_nil (w : World) : Calls Try.prog 11 #[.pointer none] w fun e w' => e = .returned (.int .i64 (-1)) ∧ w' = w := by
  go_enter Try.func11, Try.ntmps11
  go_wp2
  go_ret
  exact ⟨rfl, rfl⟩
theorem stands_nil (n : Int) (w : World) : Calls Try.prog 23 #[.pointer none, .int .i64 n] w fun e w' => e = .returned (.int .i64 2) ∧ w' = w := by
  go_enter Try.func23, Try.ntmps23
  go_wp2
  go_ret
  exact ⟨rfl, rfl⟩
theorem forget_nil (n : Int) (w : World) : Calls Try.prog 16 #[.pointer none, .int .i64 n] w fun e w' => e = .returned (.int .i64 2) ∧ w' = w := by
  go_enter Try.func16, Try.ntmps16
  go_wp2_with (go_at_call 23; refine (stands_nil n _).mono ?_; rintro e w' ⟨rfl, rfl⟩)
  go_ret
  exact ⟨rfl, rfl⟩
theorem since_nil (n : Int) (w : World) : Calls Try.prog 18 #[.pointer none, .int .i64 n] w fun e w' => e = .returned (.tuple #[.slice none 0 0, .int .i64 2]) ∧ w' = w := by
  go_enter Try.func18, Try.ntmps18
  go_wp2_with (go_at_call 23; refine (stands_nil n _).mono ?_; rintro e w' ⟨rfl, rfl⟩)
  go_ret2
  exact ⟨rfl, rfl⟩
theorem cut_nil (n : Int) (w : World) : Calls Try.prog 13 #[.pointer none, .int .i64 n] w fun e w' => e = .returned (.tuple #[.slice none 0 0, .int .i64 2]) ∧ w' = w := by
  go_enter Try.func13, Try.ntmps13
  go_wp2_with (go_at_call 18; refine (since_nil n _).mono ?_; rintro e w' ⟨rfl, rfl⟩)
  go_ret2
  exact ⟨rfl, rfl⟩
end Go.Proofs.Ytekbfjdjgpgmpaa
