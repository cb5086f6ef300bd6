/- Trees in memory: what they are, and that they stay where nothing of theirs is touched. -/
import Derived.Test.YtcboakmfabdeoaaL1
namespace Go.Proofs.Ytcboakmfabdeoaa
open Go.RowKit

/-- A tree: where its node lies, its pairs in order, the blocks that are its own, how many pairs its own node has. -/
structure Kid where
  p : Nat
  l : List Pr
  fp : List Nat
  c : Nat

def Rec (w : World) (p : Nat) (vp vk : Value) (n : Nat) : Prop := w.heap[p]? = some (.cells #[vp, vk, .int .i64 n] 68 (0, 0))
def ptrs (ks : List Kid) : List Value := ks.map fun x => .pointer (some ⟨x.p, 0, none⟩)
def KRow (w : World) (v : Value) (ks : List Kid) : Prop := w.ownsRow 0 52 1 v ks.length (ptrs ks)
def rows (vp vk : Value) : List Nat := vp.ownBlock.toList ++ vk.ownBlock.toList
def fpAll (ks : List Kid) : List Nat := ks.flatMap Kid.fp

def IsT (t : Nat) (w : World) : Nat → Kid → Prop
  | 0, x => ∃ vp, Rec w x.p vp (.slice none 0 0) x.l.length ∧ PRow w vp x.l ∧ x.fp = x.p :: vp.ownBlock.toList ∧ x.c = x.l.length
  | h + 1, x => ∃ vp vk ps ks, Rec w x.p vp vk x.l.length ∧ PRow w vp ps ∧ KRow w vk ks ∧ ks.length = ps.length + 1 ∧ x.l = join (ks.map Kid.l) ps ∧ x.fp = x.p :: (rows vp vk ++ fpAll ks) ∧ x.c = ps.length ∧
      ∀ y ∈ ks, IsT t w h y ∧ t - 1 ≤ y.c

theorem mem_rows {vp vk : Value} {b : Nat} : b ∈ rows vp vk ↔ vp.ownBlock = some b ∨ vk.ownBlock = some b := by simp [rows]
theorem mem_fpAll {ks : List Kid} {b : Nat} : b ∈ fpAll ks ↔ ∃ y ∈ ks, b ∈ y.fp := by simp [fpAll]

theorem ownsRow_of_heap {w w' : World} {base : Nat} {e : TypeId} {size : Nat} {v : Value} {n : Nat} {xs : List Value} (h : w.ownsRow base e size v n xs) (hb : ∀ b, v.ownBlock = some b → w'.heap[b]? = w.heap[b]?) : w'.ownsRow base e size v n xs := by
  refine ⟨h.1, ?_⟩
  rcases h.2 with hn | ⟨g, cap, cur, rfl, hb1, hgg, rest⟩
  · exact .inl hn
  · exact .inr ⟨g, cap, cur, rfl, hb1, (hb g rfl).trans hgg, rest⟩

theorem IsT.frame {t : Nat} {w w' : World} : ∀ {h : Nat} {x : Kid}, IsT t w h x → (∀ b ∈ x.fp, w'.heap[b]? = w.heap[b]?) → IsT t w' h x
  | 0, x, ⟨vp, h1, h2, h3, h4⟩, hb => by
    rw [h3] at hb
    exact ⟨vp, (hb x.p (by simp)).trans h1, ownsRow_of_heap h2 (fun b e => hb b (by simp [e])), h3, h4⟩
  | h + 1, x, ⟨vp, vk, ps, ks, h1, h2, h3, h4, h5, h6, h7, h8⟩, hb => by
    rw [h6] at hb
    exact ⟨vp, vk, ps, ks, (hb x.p (by simp)).trans h1, ownsRow_of_heap h2 (fun b e => hb b (by simp [mem_rows, e])), ownsRow_of_heap h3 (fun b e => hb b (by simp [mem_rows, e])), h4, h5, h6, h7,
      fun y hy => ⟨IsT.frame (h8 y hy).1 (fun b hby => hb b (by simp [mem_fpAll]; exact .inr (.inr ⟨y, hy, hby⟩))), (h8 y hy).2⟩⟩

theorem IsT.lt {t : Nat} {w : World} : ∀ {h : Nat} {x : Kid}, IsT t w h x → ∀ b ∈ x.fp, b < w.heap.size
  | 0, x, ⟨vp, h1, h2, h3, h4⟩, b, hb => by
    rw [h3] at hb
    rcases List.mem_cons.1 hb with rfl | hb
    · exact (Array.getElem?_eq_some_iff.1 h1).1
    · exact h2.lt (by simpa using hb)
  | h + 1, x, ⟨vp, vk, ps, ks, h1, h2, h3, h4, h5, h6, h7, h8⟩, b, hb => by
    rw [h6] at hb
    rcases List.mem_cons.1 hb with rfl | hb
    · exact (Array.getElem?_eq_some_iff.1 h1).1
    · rcases List.mem_append.1 hb with hb | hb
      · rcases mem_rows.1 hb with e | e
        · exact h2.lt e
        · exact (World.ownsRow.lt h3 b e).2
      · obtain ⟨y, hy, hby⟩ := mem_fpAll.1 hb
        exact IsT.lt (h8 y hy).1 b hby

theorem IsT.p_mem {t : Nat} {w : World} : ∀ {h : Nat} {x : Kid}, IsT t w h x → x.p ∈ x.fp
  | 0, _, ⟨_, _, _, h3, _⟩ => by rw [h3]; simp
  | _ + 1, _, ⟨_, _, _, _, _, _, _, _, _, h6, _⟩ => by rw [h6]; simp

/-- Nothing but the blocks of F, and what is new, has changed. -/
structure Touch (F : List Nat) (w w' : World) : Prop where
  os : w'.os = w.os
  tape : w'.tape = w.tape
  output : w'.output = w.output
  size : w.heap.size ≤ w'.heap.size
  block : ∀ k, k < w.heap.size → k ∉ F → w'.heap[k]? = w.heap[k]?

theorem Touch.refl (F : List Nat) (w : World) : Touch F w w := ⟨rfl, rfl, rfl, Nat.le_refl _, fun _ _ _ => rfl⟩
theorem Touch.of_below {w w' : World} (h : Below w.heap.size w w') (F : List Nat) : Touch F w w' := ⟨h.os, h.tape, h.output, h.size, fun k hk _ => h.block k hk⟩
theorem Touch.of_grown {w w' : World} {o : Option Nat} (h : w.grownBy w' o) : Touch o.toList w w' := ⟨h.os, h.tape, h.output, h.size, fun k hk hn => h.block k hk (fun e => hn (by simp [← e]))⟩
theorem Touch.trans {F G : List Nat} {a b c : World} (h : Touch F a b) (k : Touch G b c) (hG : ∀ x ∈ G, x ∈ F ∨ a.heap.size ≤ x) : Touch F a c :=
  ⟨k.os.trans h.os, k.tape.trans h.tape, k.output.trans h.output, Nat.le_trans h.size k.size, fun x hx hn => (k.block x (Nat.lt_of_lt_of_le hx h.size) (fun hm => by rcases hG x hm with h1 | h1; exact hn h1; omega)).trans (h.block x hx hn)⟩
theorem Touch.mono {F G : List Nat} {a b : World} (h : Touch F a b) (hG : ∀ x ∈ F, x ∈ G ∨ a.heap.size ≤ x) : Touch G a b :=
  (Touch.refl G a).trans h hG
theorem Touch.setCell {F : List Nat} {a w : World} (h : Touch F a w) {q : Addr} (hq : q.block ∈ F ∨ a.heap.size ≤ q.block) (u : Value) : Touch F a (w.setCell q u) :=
  ⟨h.os, h.tape, h.output, by simpa using h.size, fun k hk hn => (Below.heap_setCell w q u k (fun e => by rcases hq with h1 | h1; exact hn (e ▸ h1); omega)).trans (h.block k hk hn)⟩
theorem Touch.alloc {F : List Nat} {a w : World} (h : Touch F a w) (o : Obj) : Touch F a (w.alloc o) :=
  ⟨h.os, h.tape, h.output, Nat.le_trans h.size (by simp), fun k hk hn => (Below.heap_alloc w o k (Nat.lt_of_lt_of_le hk h.size)).trans (h.block k hk hn)⟩
theorem Touch.drew {F : List Nat} {a w : World} (h : Touch F a w) : Touch F a w.drew := ⟨h.os, h.tape, h.output, h.size, h.block⟩
theorem Touch.below {w w' : World} (h : Touch [] w w') : Below w.heap.size w w' := ⟨h.os, h.tape, h.output, h.size, fun k hk => h.block k hk (by simp)⟩
theorem Touch.grown {F : List Nat} {a w w' : World} {o : Option Nat} (h : Touch F a w) (hg : w.grownBy w' o) (ho : ∀ k, o = some k → k ∈ F ∨ a.heap.size ≤ k) : Touch F a w' :=
  h.trans (Touch.of_grown hg) (fun x hx => ho x (by simpa using hx))
theorem Touch.belowTo {F : List Nat} {a w w' : World} (h : Touch F a w) (hb : Below w.heap.size w w') : Touch F a w' := h.trans (Touch.of_below hb []) (by simp)

theorem IsT.touch {t : Nat} {w w' : World} {h : Nat} {x : Kid} {F : List Nat} (hx : IsT t w h x) (ht : Touch F w w') (hd : ∀ b ∈ x.fp, b ∉ F) : IsT t w' h x :=
  hx.frame fun b hb => ht.block b (hx.lt b hb) (hd b hb)
theorem PRow.touch {w w' : World} {v : Value} {l : List Pr} {F : List Nat} (hx : PRow w v l) (ht : Touch F w w') (hd : ∀ b, v.ownBlock = some b → b ∉ F) : PRow w' v l :=
  ownsRow_of_heap hx fun b hb => ht.block b (hx.lt hb) (hd b hb)
theorem KRow.touch {w w' : World} {v : Value} {l : List Kid} {F : List Nat} (hx : KRow w v l) (ht : Touch F w w') (hd : ∀ b, v.ownBlock = some b → b ∉ F) : KRow w' v l :=
  ownsRow_of_heap hx fun b hb => ht.block b (World.ownsRow.lt hx b hb).2 (hd b hb)
theorem Rec.touch {w w' : World} {p : Nat} {vp vk : Value} {n : Nat} {F : List Nat} (hx : Rec w p vp vk n) (ht : Touch F w w') (hd : p ∉ F) : Rec w' p vp vk n :=
  (ht.block p (Array.getElem?_eq_some_iff.1 hx).1 hd).trans hx

theorem Rec.c0 {w : World} {p : Nat} {vp vk : Value} {n : Nat} (h : Rec w p vp vk n) : w.cell? ⟨p, 0, none⟩ = some vp := cell_of_row w p 0 _ _ _ h
theorem Rec.c1 {w : World} {p : Nat} {vp vk : Value} {n : Nat} (h : Rec w p vp vk n) : w.cell? ⟨p, 1, none⟩ = some vk := cell_of_row w p 1 _ _ _ h
theorem Rec.c2 {w : World} {p : Nat} {vp vk : Value} {n : Nat} (h : Rec w p vp vk n) : w.cell? ⟨p, 2, none⟩ = some (.int .i64 n) := cell_of_row w p 2 _ _ _ h
theorem Rec.fr {w : World} {p : Nat} {vp vk : Value} {n : Nat} (h : Rec w p vp vk n) (o : Nat) : w.frozen? ⟨p, o, none⟩ = false := by unfold Rec at h; simp [World.frozen?, h]

theorem rec_size {w : World} {p : Nat} {vp vk : Value} {m : Nat} (h : Rec w p vp vk m) (n : Nat) : Rec (w.setCell ⟨p, 2, none⟩ (.int .i64 n)) p vp vk n :=
  heap_setCell_same w p 2 _ _ _ h

theorem KRow.cases {w : World} {v : Value} {ks : List Kid} (h : KRow w v ks) :
    (v = .slice none 0 0 ∧ ks = []) ∨ ∃ g cap cur, v = .slice (some ⟨g, 0, none⟩) ks.length cap ∧ w.heap[g]? = some (.cells cur 52 (0, 0)) ∧ ks.length ≤ cap ∧ cap ≤ maxLen ∧ cur.size = cap ∧ cur.toList.take ks.length = ptrs ks := by
  rcases h.2 with ⟨h1, h2⟩ | ⟨g, cap, cur, h1, _, h2, h3, h4, h5, h6⟩
  · exact .inl ⟨h1, List.eq_nil_of_length_eq_zero h2⟩
  · exact .inr ⟨g, cap, cur, h1, h2, h3, h4, by simpa using h5, by simpa using h6⟩

theorem KRow.cell {w : World} {g n cap : Nat} {ks : List Kid} (h : KRow w (.slice (some ⟨g, 0, none⟩) n cap) ks) (j : Nat) (x : Kid) (hj : ks[j]? = some x) : w.cell? ⟨g, j, none⟩ = some (.pointer (some ⟨x.p, 0, none⟩)) := by
  have := World.ownsRow.cells h (g := g) rfl j (.pointer (some ⟨x.p, 0, none⟩)) (by simp [ptrs, hj])
  rwa [Addr.add_lit, Nat.zero_add] at this

theorem PRow.own {w : World} {v : Value} {l : List Pr} (h : PRow w v l) (hl : l ≠ []) : ∃ g cap, v = .slice (some ⟨g, 0, none⟩) l.length cap ∧ l.length ≤ cap := by
  rcases h.cases with ⟨_, h⟩ | ⟨g, cap, _, h, _, h2, _⟩
  · exact absurd h hl
  · exact ⟨g, cap, h, h2⟩
end Go.Proofs.Ytcboakmfabdeoaa
