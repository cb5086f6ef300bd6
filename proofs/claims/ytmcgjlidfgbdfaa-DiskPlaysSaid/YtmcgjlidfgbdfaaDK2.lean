/- What may have changed; the writes that wait; the disk in memory. -/
import Derived.Test.YtmcgjlidfgbdfaaDK1
import Derived.Laws.CopyRow
import Derived.Deep.RegionLaw
namespace Go.Proofs.Ytmcgjlidfgbdfaa
open Go.RowKit

/-! what may have changed -/
structure Touch (F : List Nat) (w w' : World) : Prop where
  os : w'.os = w.os
  tape : w'.tape = w.tape
  output : w'.output = w.output
  size : w.heap.size ≤ w'.heap.size
  block : ∀ k, k < w.heap.size → k ∉ F → w'.heap[k]? = w.heap[k]?

theorem Touch.refl (F : List Nat) (w : World) : Touch F w w := ⟨rfl, rfl, rfl, Nat.le_refl _, fun _ _ _ => rfl⟩
theorem Touch.of_below {w w' : World} (h : Below w.heap.size w w') (F : List Nat) : Touch F w w' := ⟨h.os, h.tape, h.output, h.size, fun k hk _ => h.block k hk⟩
theorem Touch.of_grown {w w' : World} {o : Option Nat} (h : w.grownBy w' o) : Touch o.toList w w' := ⟨h.os, h.tape, h.output, h.size, fun k hk hn => h.block k hk (fun e => hn (by simp [← e]))⟩
theorem Touch.trans {F G : List Nat} {a b c : World} (h : Touch F a b) (k : Touch G b c) (hG : ∀ x ∈ G, x ∈ F ∨ a.heap.size ≤ x) : Touch F a c :=
  ⟨k.os.trans h.os, k.tape.trans h.tape, k.output.trans h.output, Nat.le_trans h.size k.size, fun x hx hn => (k.block x (Nat.lt_of_lt_of_le hx h.size) (fun hm => by rcases hG x hm with h1 | h1; exact hn h1; omega)).trans (h.block x hx hn)⟩
theorem Touch.mono {F G : List Nat} {a b : World} (h : Touch F a b) (hG : ∀ x ∈ F, x ∈ G ∨ a.heap.size ≤ x) : Touch G a b :=
  (Touch.refl G a).trans h hG
theorem Touch.setCell {F : List Nat} {a w : World} (h : Touch F a w) {q : Addr} (hq : q.block ∈ F ∨ a.heap.size ≤ q.block) (u : Value) : Touch F a (w.setCell q u) :=
  ⟨h.os, h.tape, h.output, by simpa using h.size, fun k hk hn => (Below.heap_setCell w q u k (fun e => by rcases hq with h1 | h1; exact hn (e ▸ h1); omega)).trans (h.block k hk hn)⟩
theorem Touch.alloc {F : List Nat} {a w : World} (h : Touch F a w) (o : Obj) : Touch F a (w.alloc o) :=
  ⟨h.os, h.tape, h.output, Nat.le_trans h.size (by simp), fun k hk hn => (Below.heap_alloc w o k (Nat.lt_of_lt_of_le hk h.size)).trans (h.block k hk hn)⟩
theorem Touch.drew {F : List Nat} {a w : World} (h : Touch F a w) : Touch F a w.drew := ⟨h.os, h.tape, h.output, h.size, h.block⟩
theorem Touch.below {w w' : World} (h : Touch [] w w') : Below w.heap.size w w' := ⟨h.os, h.tape, h.output, h.size, fun k hk => h.block k hk (by simp)⟩
theorem Touch.grown {F : List Nat} {a w w' : World} {o : Option Nat} (h : Touch F a w) (hg : w.grownBy w' o) (ho : ∀ k, o = some k → k ∈ F ∨ a.heap.size ≤ k) : Touch F a w' :=
  h.trans (Touch.of_grown hg) (fun x hx => ho x (by simpa using hx))
theorem Touch.belowTo {F : List Nat} {a w w' : World} (h : Touch F a w) (hb : Below w.heap.size w w') : Touch F a w' := h.trans (Touch.of_below hb []) (by simp)
/-- all that was touched is new. -/
theorem Touch.fresh {F : List Nat} {a w w' : World} (hb : Below a.heap.size a w) (h : Touch F w w') (hF : ∀ x ∈ F, a.heap.size ≤ x) : Below a.heap.size a w' :=
  ⟨h.os.trans hb.os, h.tape.trans hb.tape, h.output.trans hb.output, Nat.le_trans hb.size h.size, fun k hk => (h.block k (Nat.lt_of_lt_of_le hk hb.size) (fun hm => by have := hF k hm; omega)).trans (hb.block k hk)⟩

theorem ownsRow_of_heap {w w' : World} {base : Nat} {e : TypeId} {size : Nat} {v : Value} {n : Nat} {xs : List Value} (h : w.ownsRow base e size v n xs) (hb : ∀ b, v.ownBlock = some b → w'.heap[b]? = w.heap[b]?) : w'.ownsRow base e size v n xs := by
  refine ⟨h.1, ?_⟩
  rcases h.2 with hn | ⟨g, cap, cur, rfl, hb1, hgg, rest⟩
  · exact .inl hn
  · exact .inr ⟨g, cap, cur, rfl, hb1, (hb g rfl).trans hgg, rest⟩
theorem rebase {w : World} {b : Nat} {v : Value} {n : Nat} {xs : List Value} {e : TypeId} {z : Nat} (h : w.ownsRow b e z v n xs) : w.ownsRow 0 e z v n xs := by
  refine ⟨h.1, ?_⟩
  rcases h.2 with hn | ⟨g, cap, cur, h1, _, h2⟩
  · exact .inl hn
  · exact .inr ⟨g, cap, cur, h1, Nat.zero_le _, h2⟩
theorem row_kind {w : World} {b : Nat} {v : Value} {n : Nat} {xs : List Value} {e : TypeId} {z : Nat} (h : w.ownsRow b e z v n xs) {g : Nat} (hg : v.ownBlock = some g) : ∃ cur, w.heap[g]? = some (.cells cur e (0, 0)) := by
  rcases h.2 with ⟨rfl, _⟩ | ⟨g', cap, cur, rfl, _, h2, _⟩
  · cases hg
  · cases hg; exact ⟨cur, h2⟩


/-- a write that waits: its number, the slice, its bytes. -/
structure Wt where
  n : Nat
  a : Option Addr
  c : Nat
  b : List UInt8
abbrev Wt.v (x : Wt) : Value := .slice x.a x.b.length x.c
def encW (ws : List Wt) : List Value := ws.flatMap fun x => [.int .i64 x.n, x.v]
theorem encW_length : ∀ ws : List Wt, (encW ws).length = ws.length * 2
  | [] => rfl
  | x :: xs => by
    have := encW_length xs
    unfold encW at *
    rw [List.flatMap_cons, List.length_append, this, List.length_cons]
    simp only [List.length_cons, List.length_nil]
    omega
theorem encW_append (xs ys : List Wt) : encW (xs ++ ys) = encW xs ++ encW ys := by simp [encW]
theorem encW_at : ∀ (xs : List Wt) (i : Nat) (h : i < xs.length), (encW xs)[i * 2]? = some (.int .i64 xs[i].n) ∧ (encW xs)[i * 2 + 1]? = some xs[i].v
  | [], i, h => absurd h (by simp)
  | x :: xs, 0, h => ⟨rfl, rfl⟩
  | x :: xs, i + 1, h => by
    have := encW_at xs i (by simpa using h)
    have e : encW (x :: xs) = Value.int .i64 x.n :: x.v :: encW xs := rfl
    rw [e]
    have e0 : (i + 1) * 2 = i * 2 + 1 + 1 := by omega
    rw [e0]
    simp only [List.getElem?_cons_succ, List.getElem_cons_succ]
    exact this
def WRow (w : World) (v : Value) (ws : List Wt) : Prop := w.ownsRow 0 68 2 v ws.length (encW ws)
theorem WRow.of_heap {w w' : World} {v : Value} {ws : List Wt} (h : WRow w v ws) (hb : ∀ b, v.ownBlock = some b → w'.heap[b]? = w.heap[b]?) : WRow w' v ws := ownsRow_of_heap h hb
theorem WRow.nil (w : World) : WRow w (.slice none 0 0) [] := World.ownsRow_nil _ _ _ _
theorem WRow.lt {w : World} {v : Value} {ws : List Wt} (h : WRow w v ws) {k : Nat} (hk : v.ownBlock = some k) : k < w.heap.size := by
  obtain ⟨cur, h1⟩ := row_kind h hk
  exact (Array.getElem?_eq_some_iff.1 h1).1
/-- what is read of a row of writes. -/
theorem WRow.shape {w : World} {v : Value} {ws : List Wt} (h : WRow w v ws) : ∃ A c, v = .slice A ws.length c ∧ ws.length ≤ c ∧ ∀ i (h : i < ws.length), ∃ g, A = some ⟨g, 0, none⟩ ∧ v.ownBlock = some g ∧ g < w.heap.size ∧ w.cell? ⟨g, i * 2, none⟩ = some (.int .i64 ws[i].n) ∧ w.cell? ⟨g, i * 2 + 1, none⟩ = some ws[i].v := by
  obtain ⟨_, h2⟩ := h
  rcases h2 with ⟨rfl, h0⟩ | ⟨g, cap, cur, rfl, hb, hh, hn, hm, hs, ht⟩
  · exact ⟨none, 0, by rw [h0], by omega, fun i hi => absurd hi (by omega)⟩
  · refine ⟨_, cap, rfl, hn, fun i hi => ⟨g, rfl, rfl, (Array.getElem?_eq_some_iff.1 hh).1, ?_⟩⟩
    obtain ⟨k0, k1⟩ := encW_at ws i hi
    have key : ∀ j u, j < ws.length * 2 → (encW ws)[j]? = some u → w.cell? ⟨g, j, none⟩ = some u := by
      intro j u hj hu
      rw [cell_of_row w g j cur 68 (0, 0) hh, ← hu, ← ht, List.getElem?_take, if_pos hj]
      simp
    exact ⟨key _ _ (by omega) k0, key _ _ (by omega) k1⟩
theorem zeroW : (Try.prog.info? 68).map (fun i => (i.zero.map (fun z => z.cells.size), i.size, decide (i.bytes ≤ 1000))) = some (some 2, 2, true) := by kernel_rfl
/-- append of a write that was built. -/
theorem append_wt {w : World} {v : Value} {ws : List Wt} (h : WRow w v ws) (x : Wt) (hx : x.v.oneCell' = true) (hn : ws.length ≤ 1000000) :
    ∃ v' w', Sem.run Try.prog (Builtin.append_ #[61, 61] 61 #[v, .slice (some ⟨w.heap.size, 0, none⟩) 1 1]) (w.alloc (.cells #[.int .i64 x.n, x.v] 68)) = .ok v' w' ∧ WRow w' v' (ws ++ [x]) ∧ (w.alloc (.cells #[.int .i64 x.n, x.v] 68)).grownBy w' v.ownBlock ∧ ∀ k, v'.ownBlock = some k → v.ownBlock = some k ∨ w.heap.size ≤ k := by
  have hinf := zeroW
  cases hi : Try.prog.info? 68 with
  | none => rw [hi] at hinf; simp at hinf
  | some i =>
    rw [hi] at hinf
    simp at hinf
    obtain ⟨⟨z, hz, i1⟩, i2, i3⟩ := hinf
    have hb : ∀ (a b : Nat), a ≤ 1000001 → b ≤ 1000 → a * b ≤ 140737488355328 := fun a b h1 h2 => Nat.le_trans (Nat.mul_le_mul h1 h2) (by omega)
    obtain ⟨v', w', hr, ho, hg, _, hown⟩ := run_append_own_at (P := Try.prog) (w.alloc (.cells #[.int .i64 x.n, x.v] 68)) 0 61 61 68 i z 2 i.bytes Try.underlying61 hi hz i2 rfl i1 (by omega) v ws.length (encW ws) (h.of_heap fun b hb => Below.heap_alloc _ _ _ (h.lt hb)) ⟨w.heap.size, 0, none⟩ 1 1 (encW [x]) rfl (by
      intro j u hu
      rw [Addr.add_lit, Nat.zero_add, cell_of_row _ w.heap.size j #[.int .i64 x.n, x.v] 68 (0, 0) (heap_alloc_new w _), ← hu, show encW [x] = [Value.int .i64 x.n, x.v] from rfl]
      simp) (by
      intro u hu
      simp [encW] at hu
      rcases hu with rfl | rfl
      · rfl
      · exact hx) (by simp only [maxLen]; omega) (hb _ _ (by omega) i3) (by simp)
    refine ⟨v', w', hr, ?_, hg, fun k hk => ?_⟩
    · unfold WRow
      rw [List.length_append, encW_append]
      exact ho
    · rcases hown with e | e
      · exact .inl (e ▸ hk)
      · rw [e] at hk
        injection hk with hk
        simp at hk
        exact .inr (by omega)

/-! the disk -/
structure Sec where
  la : Option Addr
  lc : Nat
  l : List UInt8
  wv : Value
  ws : List Wt
abbrev Sec.lv (s : Sec) : Value := .slice s.la s.l.length s.lc
structure Dsk where
  p : Nat
  q : Nat
  size : Nat
  secs : List Sec
  waits : Nat
  deeds : Nat
  fused : Bool
  fuse : Nat
  dark : Bool
def encS (ss : List Sec) : List Value := ss.flatMap fun s => [s.lv, s.wv]
theorem encS_length : ∀ ss : List Sec, (encS ss).length = ss.length * 2
  | [] => rfl
  | x :: xs => by
    have := encS_length xs
    unfold encS at *
    rw [List.flatMap_cons, List.length_append, this, List.length_cons]
    simp only [List.length_cons, List.length_nil]
    omega
theorem encS_at : ∀ (xs : List Sec) (i : Nat) (h : i < xs.length), (encS xs)[i * 2]? = some xs[i].lv ∧ (encS xs)[i * 2 + 1]? = some xs[i].wv
  | [], i, h => absurd h (by simp)
  | x :: xs, 0, h => ⟨rfl, rfl⟩
  | x :: xs, i + 1, h => by
    have := encS_at xs i (by simpa using h)
    have e : encS (x :: xs) = x.lv :: x.wv :: encS xs := rfl
    rw [e]
    have e0 : (i + 1) * 2 = i * 2 + 1 + 1 := by omega
    rw [e0]
    simp only [List.getElem?_cons_succ, List.getElem_cons_succ]
    exact this
theorem encS_set : ∀ (xs : List Sec) (i : Nat) (s : Sec), i < xs.length → ((encS xs).set (i * 2) s.lv).set (i * 2 + 1) s.wv = encS (xs.set i s)
  | [], i, s, h => absurd h (by simp)
  | x :: xs, 0, s, h => rfl
  | x :: xs, i + 1, s, h => by
    have := encS_set xs i s (by simpa using h)
    have e : ∀ y, encS (y :: xs) = y.lv :: y.wv :: encS xs := fun y => rfl
    have e0 : (i + 1) * 2 = i * 2 + 1 + 1 := by omega
    rw [e, e0]
    simp only [List.set_cons_succ]
    rw [this]
    rfl
def dcells (d : Dsk) : Array Value := #[.int .i64 d.size, .slice (some ⟨d.q, 0, none⟩) d.secs.length d.secs.length, .int .i64 d.waits, .int .i64 d.deeds, .bool d.fused, .int .i64 d.fuse, .bool d.dark]
def foot (d : Dsk) : List Nat := d.p :: d.q :: d.secs.flatMap fun s => s.wv.ownBlock.toList
structure SecOk (w : World) (size waits : Nat) (s : Sec) : Prop where
  lrow : Row w 0 s.lv s.l
  lfit : s.l.length ≤ size
  wrow : WRow w s.wv s.ws
  few : s.ws.length ≤ waits
  wt : ∀ x ∈ s.ws, Row w 0 x.v x.b ∧ x.b.length ≤ size ∧ x.n < waits
structure DiskAt (w : World) (d : Dsk) : Prop where
  top : Whole w d.p 56 (dcells d)
  sec : Whole w d.q 63 (encS d.secs).toArray
  ok : ∀ s ∈ d.secs, SecOk w d.size d.waits s
  apart : ∀ i j (hi : i < d.secs.length) (hj : j < d.secs.length) k, d.secs[i].wv.ownBlock = some k → d.secs[j].wv.ownBlock = some k → i = j
  few : d.secs.length ≤ 600
  small : d.size ≤ 1024
/-- a block of bytes. -/
def Bytes (w : World) (k : Nat) : Prop := ∃ cs z, w.heap[k]? = some (.cells cs 5 z)
theorem Row.bytes {w : World} {v : Value} {l : List UInt8} {b : Nat} (h : Row w b v l) {k : Nat} (hk : v.ownBlock = some k) : Bytes w k := let ⟨c, hc⟩ := row_kind h hk; ⟨c, _, hc⟩
theorem Row.of_heap {w w' : World} {v : Value} {l : List UInt8} {b : Nat} (h : Row w b v l) (hb : ∀ k, v.ownBlock = some k → w'.heap[k]? = w.heap[k]?) : Row w' b v l := ownsRow_of_heap h hb
theorem SecOk.of_heap {w w' : World} {size waits : Nat} {s : Sec} (h : SecOk w size waits s) (hw : ∀ k, s.wv.ownBlock = some k → w'.heap[k]? = w.heap[k]?) (hb : ∀ k, Bytes w k → w'.heap[k]? = w.heap[k]?) : SecOk w' size waits s :=
  ⟨h.lrow.of_heap fun k hk => hb k (h.lrow.bytes hk), h.lfit, h.wrow.of_heap hw, h.few, fun x hx => ⟨(h.wt x hx).1.of_heap fun k hk => hb k ((h.wt x hx).1.bytes hk), (h.wt x hx).2⟩⟩
theorem SecOk.more {w : World} {size waits waits' : Nat} {s : Sec} (h : SecOk w size waits s) (hw : waits ≤ waits') : SecOk w size waits' s :=
  ⟨h.lrow, h.lfit, h.wrow, Nat.le_trans h.few hw, fun x hx => ⟨(h.wt x hx).1, (h.wt x hx).2.1, Nat.lt_of_lt_of_le (h.wt x hx).2.2 hw⟩⟩
theorem not_bytes {w : World} {g : Nat} {t : TypeId} {cs : Array Value} (h : w.heap[g]? = some (.cells cs t (0, 0))) (ht : t ≠ 5) : ¬ Bytes w g := by
  rintro ⟨cs', z, h'⟩
  rw [h] at h'
  simp at h'
  exact ht h'.2.1
section
variable {w w' : World} {d : Dsk}
theorem foot_wv {s : Sec} (hs : s ∈ d.secs) {k : Nat} (hk : s.wv.ownBlock = some k) : k ∈ foot d := by
  simp only [foot, List.mem_cons, List.mem_flatMap, Option.mem_toList]
  exact .inr (.inr ⟨s, hs, hk⟩)
theorem foot_cases {k : Nat} (h : k ∈ foot d) : k = d.p ∨ k = d.q ∨ ∃ s ∈ d.secs, s.wv.ownBlock = some k := by
  simpa only [foot, List.mem_cons, List.mem_flatMap, Option.mem_toList] using h
theorem foot_p : d.p ∈ foot d := by simp [foot]
theorem foot_q : d.q ∈ foot d := by simp [foot]
theorem DiskAt.plain (h : DiskAt w d) {k : Nat} (hk : k ∈ foot d) : k < w.heap.size ∧ ¬ Bytes w k := by
  rcases foot_cases hk with rfl | rfl | ⟨s, hs, e⟩
  · exact ⟨h.top.lt, not_bytes h.top (by decide)⟩
  · exact ⟨h.sec.lt, not_bytes h.sec (by decide)⟩
  · obtain ⟨cur, hc⟩ := row_kind (h.ok s hs).wrow e
    exact ⟨(h.ok s hs).wrow.lt e, not_bytes hc (by decide)⟩
/-- what stands, stands. -/
theorem DiskAt.of_heap (h : DiskAt w d) (hf : ∀ k ∈ foot d, w'.heap[k]? = w.heap[k]?) (hb : ∀ k, Bytes w k → w'.heap[k]? = w.heap[k]?) : DiskAt w' d :=
  ⟨(hf _ foot_p).trans h.top, (hf _ foot_q).trans h.sec, fun s hs => (h.ok s hs).of_heap (fun k hk => hf k (foot_wv hs hk)) hb, h.apart, h.few, h.small⟩
theorem Bytes.lt {k : Nat} (h : Bytes w k) : k < w.heap.size := by obtain ⟨cs, z, h⟩ := h; exact (Array.getElem?_eq_some_iff.1 h).1
theorem DiskAt.touch (h : DiskAt w d) {G : List Nat} (ht : Touch G w w') (hG : ∀ k ∈ foot d, k ∉ G) (hB : ∀ k, Bytes w k → k ∉ G) : DiskAt w' d :=
  h.of_heap (fun k hk => ht.block k (h.plain hk).1 (hG k hk)) (fun k hk => ht.block k hk.lt (hB k hk))
theorem DiskAt.below (h : DiskAt w d) (hb : Below w.heap.size w w') : DiskAt w' d := h.touch (Touch.of_below hb []) (by simp) (by simp)
/-- the disk's own cells turn, and nothing else of it. -/
theorem DiskAt.turn (h : DiskAt w d) {d' : Dsk} (hp : Whole w' d.p 56 (dcells d')) (hk : ∀ k, k ≠ d.p → w'.heap[k]? = w.heap[k]?) (e : d'.p = d.p ∧ d'.q = d.q ∧ d'.size = d.size ∧ d'.secs = d.secs ∧ d'.waits = d.waits) : DiskAt w' d' ∧ foot d' = foot d := by
  obtain ⟨e1, e2, e3, e4, e5⟩ := e
  obtain ⟨p, q, size, secs, waits, deeds, fused, fuse, dark⟩ := d'
  simp only at e1 e2 e3 e4 e5
  subst e1 e2 e3 e4 e5
  have hne : ∀ k, Bytes w k → k ≠ d.p := fun k hb e => (h.plain foot_p).2 (e ▸ hb)
  have hq : d.q ≠ d.p := fun e => by
    have h1 := h.top
    have h2 := h.sec
    unfold Whole at h1 h2
    rw [e, h1] at h2
    simp at h2
  refine ⟨⟨hp, (hk _ hq).trans h.sec, fun s hs => (h.ok s hs).of_heap (fun k e => hk k fun e' => ?_) (fun k hb => hk k (hne k hb)), h.apart, h.few, h.small⟩, rfl⟩
  subst e'
  obtain ⟨cur, hc⟩ := row_kind (h.ok s hs).wrow e
  have h1 := h.top
  unfold Whole at h1
  rw [h1] at hc
  simp at hc
end
end Go.Proofs.Ytmcgjlidfgbdfaa
