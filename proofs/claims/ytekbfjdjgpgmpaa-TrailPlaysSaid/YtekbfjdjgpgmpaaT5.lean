/- The trail and the list beside each other. -/
import Derived.Test.YtekbfjdjgpgmpaaT4
namespace Go.Proofs.Ytekbfjdjgpgmpaa
open Go.RowKit

/-- one more element of the list. -/
theorem pushR {w : World} {r : Nat} {v : Value} {l : List One} (h : RefAt w r v l) (q : Bool) (x : ByteArray) (hn : l.length ≤ 500000) (W : World) (hW : W.heap = (w.alloc (.cells #[.bool q, .string x] 36)).heap) (hT : Touch [] w W) :
    ∃ v' w', (Builtin.append_ #[27, 27] 27 #[v, .slice (some ⟨w.heap.size, 0, none⟩) 1 1]).run Try.prog W = .ok v' w' ∧ w'.heap[r]? = some (.cells #[v] 29 (0, 0)) ∧
      GoesR w (w'.setCell ⟨r, 0, none⟩ v') r (FootR r v) (l ++ [(q, x)]) ∧ ∃ a n c, v' = .slice a n c := by
  obtain ⟨i0, hi0, hz0, hzs, hzb⟩ := info_parts Try.info36
  have hal := (Below.refl w.heap.size w).alloc (Nat.le_refl _) (.cells #[.bool q, .string x] 36)
  have hsz : W.heap.size = w.heap.size + 1 := by rw [hW]; simp
  have hold : ∀ b, b < w.heap.size → W.heap[b]? = w.heap[b]? := fun b hb => by rw [hW]; exact hal.block b hb
  have hnew : W.heap[w.heap.size]? = some (.cells #[.bool q, .string x] 36 (0, 0)) := by rw [hW]; exact heap_alloc_new w _
  have h2 : RefAt W r v l := h.frame fun b hb => hold b (h.lt b hb)
  obtain ⟨v', w', r1, r2, r3, r4⟩ := append_own2 (P := Try.prog) W 27 27 36 i0 (.agg #[.bool false, .string ByteArray.empty]) 2 24 Try.underlying27 hi0 hz0 hzs hzb rfl (by decide) v l.length (encO l) h2.row ⟨w.heap.size, 0, none⟩ 1 1 (encO [(q, x)]) rfl (one_cells hnew) (encO_one _) (by omega) (by omega)
  have hr : r < w.heap.size := h.lt r (by simp [FootR])
  have hrw : w'.heap[r]? = some (.cells #[v] 29 (0, 0)) := (r3.block r (by omega) (fun e => h.not1 e.symm)).trans h2.cellr
  have hv' : v'.ownBlock ≠ some r := fun e => by
    obtain ⟨cur, h1⟩ := row_kind r2 e
    rw [hrw] at h1; simp at h1
  refine ⟨v', w', r1, hrw, ⟨FootR r v', ⟨v', ⟨heap_setCell_same _ r 0 _ _ _ hrw, ?_⟩, rfl⟩, ?_, ?_⟩, ?_⟩
  · have r5 : w'.ownsRow 0 36 2 v' (l ++ [(q, x)]).length (encO (l ++ [(q, x)])) := by rw [encO_append, List.length_append]; exact r2
    exact ownsRow_of_heap r5 fun b hb => heap_setCell_other _ _ b _ (fun e => hv' (by rw [hb, e]))
  · exact ((hT.mono (by simp)).grown r3 (fun k hk => .inl (by simp [FootR, hk]))).setCell (.inl (by simp [FootR])) _
  · intro b hb
    simp only [FootR, List.mem_cons, Option.mem_toList] at hb ⊢
    rcases hb with rfl | hb
    · exact .inl (.inl rfl)
    · rcases r4 b hb with h6 | h6
      · exact .inl (.inr h6)
      · exact .inr (by omega)
  · obtain ⟨a, c, e⟩ := slice_shape r2
    exact ⟨a, _, c, e⟩

/-- a trail and a list, both new since w0. -/
theorem IsTrail.not31 {w : World} {p : Nat} {F : List Nat} {ts : List ByteArray} {ms : List Nat} (h : IsTrail w p F ts ms) {b : Nat} {cs : Array Value} (hb : w.heap[b]? = some (.cells cs 31 (0, 0))) : b ∉ F := fun hm => by
  obtain ⟨vt, vm, h1, rfl⟩ := h
  simp only [Foot, List.mem_cons, List.mem_append, Option.mem_toList] at hm
  rcases hm with rfl | hm | hm
  · rw [h1.cellp] at hb; simp at hb
  · obtain ⟨cur, e⟩ := row_kind h1.things hm
    rw [e] at hb; simp at hb
  · obtain ⟨cur, e⟩ := row_kind h1.marks hm
    rw [e] at hb; simp at hb
theorem IsRef.not31 {w : World} {r : Nat} {G : List Nat} {l : List One} (h : IsRef w r G l) {b : Nat} {cs : Array Value} (hb : w.heap[b]? = some (.cells cs 31 (0, 0))) : b ∉ G := fun hm => by
  obtain ⟨v, h1, rfl⟩ := h
  simp only [FootR, List.mem_cons, Option.mem_toList] at hm
  rcases hm with rfl | hm
  · rw [h1.cellr] at hb; simp at hb
  · obtain ⟨cur, e⟩ := row_kind h1.row hm
    rw [e] at hb; simp at hb

/-- blocks of the law's own that lie beside. -/
def Besides (X : List (Nat × Array Value)) (w : World) : Prop := ∀ q ∈ X, w.heap[q.1]? = some (.cells q.2 31 (0, 0))
theorem Besides.touch {X : List (Nat × Array Value)} {w w' : World} {F : List Nat} (h : Besides X w) (ht : Touch F w w') (hn : ∀ b cs, w.heap[b]? = some (.cells cs 31 (0, 0)) → b ∉ F) : Besides X w' := fun q hq =>
  (ht.block q.1 (Array.getElem?_eq_some_iff.1 (h q hq)).1 (hn _ _ (h q hq))).trans (h q hq)

def Both (w0 : World) (p r : Nat) (X : List (Nat × Array Value)) (w : World) (ts : List ByteArray) (ms : List Nat) (l : List One) : Prop :=
  ∃ F G, IsTrail w p F ts ms ∧ IsRef w r G l ∧ Below w0.heap.size w0 w ∧ (∀ b ∈ F, w0.heap.size ≤ b) ∧ (∀ b ∈ G, w0.heap.size ≤ b) ∧ (∀ b ∈ F, b ∉ G) ∧ Besides X w

theorem Both.trail {w0 w w' : World} {p r : Nat} {X : List (Nat × Array Value)} {F G : List Nat} {ts ts' : List ByteArray} {ms ms' : List Nat} {l : List One} (h1 : IsTrail w p F ts ms) (h2 : IsRef w r G l) (h3 : Below w0.heap.size w0 w) (h4 : ∀ b ∈ F, w0.heap.size ≤ b) (h5 : ∀ b ∈ G, w0.heap.size ≤ b) (h6 : ∀ b ∈ F, b ∉ G) (h7 : Besides X w)
    (hg : Goes w w' p F ts' ms') : Both w0 p r X w' ts' ms' l := by
  obtain ⟨F', g1, g2, g3⟩ := hg
  refine ⟨F', G, g1, h2.touch g2 (fun b hb hf => h6 b hf hb), g2.fresh h3 h4, fun b hb => ?_, h5, fun b hb hb2 => ?_, h7.touch g2 fun b cs hb => h1.not31 hb⟩
  · rcases g3 b hb with h | h
    · exact h4 b h
    · exact Nat.le_trans h3.size h
  · rcases g3 b hb with h | h
    · exact h6 b h hb2
    · have := h2.lt b hb2; omega
theorem Both.ref {w0 w w' : World} {p r : Nat} {X : List (Nat × Array Value)} {F G : List Nat} {ts : List ByteArray} {ms : List Nat} {l l' : List One} (h1 : IsTrail w p F ts ms) (h2 : IsRef w r G l) (h3 : Below w0.heap.size w0 w) (h4 : ∀ b ∈ F, w0.heap.size ≤ b) (h5 : ∀ b ∈ G, w0.heap.size ≤ b) (h6 : ∀ b ∈ F, b ∉ G) (h7 : Besides X w)
    (hg : GoesR w w' r G l') : Both w0 p r X w' ts ms l' := by
  obtain ⟨G', g1, g2, g3⟩ := hg
  refine ⟨F, G', h1.touch g2 (fun b hb hf => h6 b hb hf), g1, g2.fresh h3 h5, h4, fun b hb => ?_, fun b hb hb2 => ?_, h7.touch g2 fun b cs hb => h2.not31 hb⟩
  · rcases g3 b hb with h | h
    · exact h5 b h
    · exact Nat.le_trans h3.size h
  · rcases g3 b hb2 with h | h
    · exact h6 b hb h
    · have := h1.lt b hb; omega
theorem Both.below {w0 w w' : World} {p r : Nat} {X : List (Nat × Array Value)} {ts : List ByteArray} {ms : List Nat} {l : List One} (h : Both w0 p r X w ts ms l) (hb : Below w.heap.size w w') : Both w0 p r X w' ts ms l := by
  obtain ⟨F, G, h1, h2, h3, h4, h5, h6, h7⟩ := h
  exact ⟨F, G, h1.below hb, h2.below hb, h3.trans (hb.mono h3.size), h4, h5, h6, h7.touch (Touch.of_below hb []) (by simp)⟩
theorem Both.out {w0 w : World} {p r : Nat} {X : List (Nat × Array Value)} {ts : List ByteArray} {ms : List Nat} {l : List One} (h : Both w0 p r X w ts ms l) : Below w0.heap.size w0 w := by
  obtain ⟨F, G, h1, h2, h3, h4, h5, h6, h7⟩ := h
  exact h3
theorem Both.new (w : World) : Both w w.heap.size (w.heap.size + 1) [] ((w.alloc (.cells #[.slice none 0 0, .slice none 0 0] 53)).alloc (.cells #[.slice none 0 0] 29)) [] [] [] := by
  have h1 := new_trail w
  have hb := (Below.refl w.heap.size w).alloc (Nat.le_refl _) (.cells #[.slice none 0 0, .slice none 0 0] 53)
  have hb2 := (Below.refl (w.heap.size + 1) (w.alloc (.cells #[.slice none 0 0, .slice none 0 0] 53))).alloc (by simp) (.cells #[.slice none 0 0] 29)
  have hc := heap_alloc_new (w.alloc (.cells #[.slice none 0 0, .slice none 0 0] 53)) (.cells #[.slice none 0 0] 29)
  rw [World.size_alloc] at hc
  exact ⟨_, _, h1.below (by rw [World.size_alloc]; exact hb2), ⟨_, ⟨hc, World.ownsRow_nil _ _ _ _⟩, rfl⟩, hb.trans (hb2.mono (Nat.le_succ _)), by simp, by simp [FootR, Value.ownBlock], by simp [FootR, Value.ownBlock], by simp [Besides]⟩

theorem Both.add {w0 w : World} {p r : Nat} {X : List (Nat × Array Value)} {ts : List ByteArray} {ms : List Nat} {l : List One} (h : Both w0 p r X w ts ms l) (x : ByteArray) (hn : ts.length < 1048576) :
    Calls Try.prog 10 #[.pointer (some ⟨p, 0, none⟩), .string x] w fun e w' => e = .returned (.int .i64 0) ∧ Both w0 p r X w' (ts ++ [x]) ms l := by
  obtain ⟨F, G, h1, h2, h3, h4, h5, h6, h7⟩ := h
  refine (add_ok h1 x hn).mono ?_
  rintro e w' ⟨rfl, hg⟩
  exact ⟨rfl, Both.trail h1 h2 h3 h4 h5 h6 h7 hg⟩
theorem Both.mark {w0 w : World} {p r : Nat} {X : List (Nat × Array Value)} {ts : List ByteArray} {ms : List Nat} {l : List One} (h : Both w0 p r X w ts ms l) (hn : ms.length < 1048576) (ht : ts.length ≤ 1048576) :
    Calls Try.prog 11 #[.pointer (some ⟨p, 0, none⟩)] w fun e w' => e = .returned (.int .i64 ms.length) ∧ Both w0 p r X w' ts (ms ++ [ts.length]) l := by
  obtain ⟨F, G, h1, h2, h3, h4, h5, h6, h7⟩ := h
  refine (mark_ok h1 hn ht).mono ?_
  rintro e w' ⟨rfl, hg⟩
  exact ⟨rfl, Both.trail h1 h2 h3 h4 h5 h6 h7 hg⟩
theorem Both.forget {w0 w : World} {p r : Nat} {X : List (Nat × Array Value)} {ts : List ByteArray} {ms : List Nat} {l : List One} (h : Both w0 p r X w ts ms l) (m : Int) (k : Nat) (hm : m = k) (hk : k < ms.length) :
    Calls Try.prog 16 #[.pointer (some ⟨p, 0, none⟩), .int .i64 m] w fun e w' => e = .returned (.int .i64 0) ∧ Both w0 p r X w' ts (ms.take k) l := by
  obtain ⟨F, G, h1, h2, h3, h4, h5, h6, h7⟩ := h
  refine (forget_yes h1 m k hm hk).mono ?_
  rintro e w' ⟨rfl, hg⟩
  exact ⟨rfl, Both.trail h1 h2 h3 h4 h5 h6 h7 hg⟩
theorem Both.forgetNo {w0 w : World} {p r : Nat} {X : List (Nat × Array Value)} {ts : List ByteArray} {ms : List Nat} {l : List One} (h : Both w0 p r X w ts ms l) (m : Int) (hm : m < 0 ∨ (ms.length : Int) ≤ m) :
    Calls Try.prog 16 #[.pointer (some ⟨p, 0, none⟩), .int .i64 m] w fun e w' => e = .returned (.int .i64 1) ∧ w' = w := by
  obtain ⟨F, G, h1, -⟩ := h
  exact forget_no h1 m hm
theorem Both.since {w0 w : World} {p r : Nat} {X : List (Nat × Array Value)} {ts : List ByteArray} {ms : List Nat} {l : List One} (h : Both w0 p r X w ts ms l) (m : Int) (k x : Nat) (hm : m = k) (hk : ms[k]? = some x) (hl : x ≤ ts.length) (hn : ts.length ≤ 1000000) :
    Calls Try.prog 18 #[.pointer (some ⟨p, 0, none⟩), .int .i64 m] w fun e w' => ∃ v, e = .returned (.tuple #[v, .int .i64 0]) ∧ w'.ownsRow w.heap.size 9 1 v (ts.length - x) (texts (ts.drop x)) ∧ Both w0 p r X w' ts ms l := by
  have h' := h
  obtain ⟨F, G, h1, -⟩ := h
  refine (since_yes h1 m k x hm hk hl hn).mono ?_
  rintro e w' ⟨v, rfl, o, b⟩
  exact ⟨v, rfl, o, h'.below b⟩
theorem Both.sinceNo {w0 w : World} {p r : Nat} {X : List (Nat × Array Value)} {ts : List ByteArray} {ms : List Nat} {l : List One} (h : Both w0 p r X w ts ms l) (m : Int) (hm : m < 0 ∨ (ms.length : Int) ≤ m) :
    Calls Try.prog 18 #[.pointer (some ⟨p, 0, none⟩), .int .i64 m] w fun e w' => e = .returned (.tuple #[.slice none 0 0, .int .i64 1]) ∧ w' = w := by
  obtain ⟨F, G, h1, -⟩ := h
  exact since_no h1 m hm
theorem Both.cut {w0 w : World} {p r : Nat} {X : List (Nat × Array Value)} {ts : List ByteArray} {ms : List Nat} {l : List One} (h : Both w0 p r X w ts ms l) (m : Int) (k x : Nat) (hm : m = k) (hk : ms[k]? = some x) (hl : x ≤ ts.length) (hn : ts.length ≤ 1000000) :
    Calls Try.prog 13 #[.pointer (some ⟨p, 0, none⟩), .int .i64 m] w fun e w' => ∃ v, e = .returned (.tuple #[v, .int .i64 0]) ∧ w'.ownsRow w.heap.size 9 1 v (ts.length - x) (texts (ts.drop x).reverse) ∧ Both w0 p r X w' (ts.take x) (ms.take k) l ∧ w0.heap.size ≤ w.heap.size := by
  obtain ⟨F, G, h1, h2, h3, h4, h5, h6, h7⟩ := h
  refine (cut_yes h1 m k x hm hk hl hn).mono ?_
  rintro e w' ⟨v, rfl, o, i, t⟩
  exact ⟨v, rfl, o, Both.trail h1 h2 h3 h4 h5 h6 h7 ⟨F, i, t, fun b hb => .inl hb⟩, h3.size⟩
theorem Both.cutNo {w0 w : World} {p r : Nat} {X : List (Nat × Array Value)} {ts : List ByteArray} {ms : List Nat} {l : List One} (h : Both w0 p r X w ts ms l) (m : Int) (hm : m < 0 ∨ (ms.length : Int) ≤ m) :
    Calls Try.prog 13 #[.pointer (some ⟨p, 0, none⟩), .int .i64 m] w fun e w' => e = .returned (.tuple #[.slice none 0 0, .int .i64 1]) ∧ w' = w := by
  obtain ⟨F, G, h1, -⟩ := h
  exact cut_no h1 m hm
theorem Both.len {w0 w : World} {p r : Nat} {X : List (Nat × Array Value)} {ts : List ByteArray} {ms : List Nat} {l : List One} (h : Both w0 p r X w ts ms l) : Calls Try.prog 20 #[.pointer (some ⟨p, 0, none⟩)] w fun e w' => e = .returned (.int .i64 ts.length) ∧ w' = w := by
  obtain ⟨F, G, h1, -⟩ := h
  exact len_ok h1
theorem Both.marks {w0 w : World} {p r : Nat} {X : List (Nat × Array Value)} {ts : List ByteArray} {ms : List Nat} {l : List One} (h : Both w0 p r X w ts ms l) : Calls Try.prog 21 #[.pointer (some ⟨p, 0, none⟩)] w fun e w' => e = .returned (.int .i64 ms.length) ∧ w' = w := by
  obtain ⟨F, G, h1, -⟩ := h
  exact marks_ok h1
theorem Both.at {w0 w : World} {p r : Nat} {X : List (Nat × Array Value)} {ts : List ByteArray} {ms : List Nat} {l : List One} (h : Both w0 p r X w ts ms l) (m : Int) (hn : l.length ≤ 500000) : Calls Try.prog 9 #[.pointer (some ⟨r, 0, none⟩), .int .i64 m] w fun e w' => e = .returned (.int .i64 (at' m 0 0 l)) ∧ w' = w := by
  obtain ⟨F, G, h1, h2, -⟩ := h
  exact at_ok h2 m (by omega)
theorem Both.count {w0 w : World} {p r : Nat} {X : List (Nat × Array Value)} {ts : List ByteArray} {ms : List Nat} {l : List One} (h : Both w0 p r X w ts ms l) (b : Bool) (hn : l.length ≤ 500000) : Calls Try.prog 12 #[.pointer (some ⟨r, 0, none⟩), .bool b] w fun e w' => e = .returned (.int .i64 (Ytekbfjdjgpgmpaa.count b l : Nat)) ∧ w' = w := by
  obtain ⟨F, G, h1, h2, -⟩ := h
  exact lenR_ok h2 b (by omega)
theorem Both.sinceR {w0 w : World} {p r : Nat} {X : List (Nat × Array Value)} {ts : List ByteArray} {ms : List Nat} {l A B : List One} {x : ByteArray} (h : Both w0 p r X w ts ms l) (hl : l = A ++ (true, x) :: B) (m : Int) (hm : m = (Ytekbfjdjgpgmpaa.count true A : Nat)) (hn : l.length ≤ 500000) :
    Calls Try.prog 19 #[.pointer (some ⟨r, 0, none⟩), .int .i64 m] w fun e w' => ∃ v, e = .returned v ∧ w'.ownsRow w.heap.size 9 1 v (things B).length (texts (things B)) ∧ Below w.heap.size w w' ∧ Both w0 p r X w' ts ms l := by
  have h' := h
  obtain ⟨F, G, h1, h2, -⟩ := h
  refine (sinceR_ok h2 hl m hm (by omega)).mono ?_
  rintro e w' ⟨v, rfl, o, b⟩
  exact ⟨v, rfl, o, b, h'.below b⟩
theorem Both.forgetR {w0 w : World} {p r : Nat} {X : List (Nat × Array Value)} {ts : List ByteArray} {ms : List Nat} {l A B : List One} {x : ByteArray} (h : Both w0 p r X w ts ms l) (hl : l = A ++ (true, x) :: B) (m : Int) (hm : m = (Ytekbfjdjgpgmpaa.count true A : Nat)) (hn : l.length ≤ 500000) :
    Calls Try.prog 17 #[.pointer (some ⟨r, 0, none⟩), .int .i64 m] w fun e w' => e = .returned (.tuple #[]) ∧ Both w0 p r X w' ts ms (A ++ plain B) := by
  obtain ⟨F, G, h1, h2, h3, h4, h5, h6, h7⟩ := h
  refine (forgetR_ok h2 hl m hm hn).mono ?_
  rintro e w' ⟨rfl, hg⟩
  exact ⟨rfl, Both.ref h1 h2 h3 h4 h5 h6 h7 hg⟩
/-- rows of strings that are neither the trail's nor the list's stay. -/
theorem Both.cutR {w0 w : World} {p r : Nat} {X : List (Nat × Array Value)} {ts : List ByteArray} {ms : List Nat} {l A B : List One} {x : ByteArray} (h : Both w0 p r X w ts ms l) (hl : l = A ++ (true, x) :: B) (m : Int) (hm : m = (Ytekbfjdjgpgmpaa.count true A : Nat)) (hn : l.length ≤ 500000)
    (b n : Nat) (v : Value) (xs : List ByteArray) (ho : w.ownsRow b 9 1 v n (texts xs)) :
    Calls Try.prog 15 #[.pointer (some ⟨r, 0, none⟩), .int .i64 m] w fun e w' => ∃ u, e = .returned u ∧ w'.ownsRow w.heap.size 9 1 u (things B).length (texts (things B).reverse) ∧ Both w0 p r X w' ts ms A ∧ w'.ownsRow b 9 1 v n (texts xs) := by
  obtain ⟨F, G, h1, h2, h3, h4, h5, h6, h7⟩ := h
  refine (cutR_ok h2 hl m hm hn).mono ?_
  rintro e w' ⟨u, rfl, o, hg⟩
  refine ⟨u, rfl, o, Both.ref h1 h2 h3 h4 h5 h6 h7 hg, ?_⟩
  obtain ⟨G', g1, g2, g3⟩ := hg
  refine ownsRow_of_heap ho fun k hk => g2.block k (ho.lt k hk).2 fun hm => ?_
  obtain ⟨cur, e1⟩ := row_kind ho hk
  obtain ⟨vl, hr, rfl⟩ := h2
  simp only [FootR, List.mem_cons, Option.mem_toList] at hm
  rcases hm with rfl | hm
  · rw [hr.cellr] at e1; simp at e1
  · obtain ⟨cur2, e2⟩ := row_kind hr.row hm
    rw [e1] at e2; simp at e2
theorem Both.local {w0 w : World} {p r : Nat} {ts : List ByteArray} {ms : List Nat} {l : List One} (h : Both w0 p r [] w ts ms l) (cs : Array Value) : Both w0 p r [(w.heap.size, cs)] (w.alloc (.cells cs 31)) ts ms l := by
  obtain ⟨F, G, h1, h2, h3, h4, h5, h6, h7⟩ := h.below ((Below.refl w.heap.size w).alloc (Nat.le_refl _) (.cells cs 31))
  exact ⟨F, G, h1, h2, h3, h4, h5, h6, fun q hq => by simp at hq; subst hq; exact heap_alloc_new w _⟩
theorem Both.forgetX {w0 w : World} {p r : Nat} {X : List (Nat × Array Value)} {ts : List ByteArray} {ms : List Nat} {l : List One} (h : Both w0 p r X w ts ms l) : Both w0 p r [] w ts ms l := by
  obtain ⟨F, G, h1, h2, h3, h4, h5, h6, h7⟩ := h
  exact ⟨F, G, h1, h2, h3, h4, h5, h6, by simp [Besides]⟩
theorem Both.cells {w0 w : World} {p r nb : Nat} {cs : Array Value} {ts : List ByteArray} {ms : List Nat} {l : List One} (h : Both w0 p r [(nb, cs)] w ts ms l) (j : Nat) : w.cell? ⟨nb, j, none⟩ = cs[j]? := by
  obtain ⟨F, G, h1, h2, h3, h4, h5, h6, h7⟩ := h
  exact cell_of_row w nb j _ _ _ (h7 (nb, cs) (by simp))
/-- an append to the list, and the store: what the law's own text does. -/
theorem Both.push {w0 w : World} {p r : Nat} {X : List (Nat × Array Value)} {ts : List ByteArray} {ms : List Nat} {l : List One} (h : Both w0 p r X w ts ms l) (q : Bool) (x : ByteArray) (hn : l.length ≤ 500000) :
    ∃ a n c, w.cell? ⟨r, 0, none⟩ = some (.slice a n c) ∧ (w.alloc (.cells #[.bool q, .string x] 36)).cell? ⟨r, 0, none⟩ = some (.slice a n c) ∧ ∀ W : World, W.heap = (w.alloc (.cells #[.bool q, .string x] 36)).heap → Touch [] w W → ∃ a' n' c' w',
      (Builtin.append_ #[27, 27] 27 #[.slice a n c, .slice (some ⟨w.heap.size, 0, none⟩) 1 1]).run Try.prog W = .ok (.slice a' n' c') w' ∧ w'.cell? ⟨r, 0, none⟩ = some (.slice a n c) ∧ w'.frozen? ⟨r, 0, none⟩ = false ∧ Both w0 p r X (w'.setCell ⟨r, 0, none⟩ (.slice a' n' c')) ts ms (l ++ [(q, x)]) := by
  obtain ⟨F, G, h1, h2, h3, h4, h5, h6, h7⟩ := h
  have h2' := h2
  obtain ⟨v, hr, rfl⟩ := h2
  obtain ⟨a, c, rfl⟩ := slice_shape hr.row
  refine ⟨a, l.length, c, cell_of_row _ r 0 _ _ _ hr.cellr, cell_of_row _ r 0 _ _ _ ((Below.heap_alloc w _ r (hr.lt r (by simp [FootR]))).trans hr.cellr), fun W hW hT => ?_⟩
  obtain ⟨v', w', r1, r2, r3, a', n', c', rfl⟩ := pushR hr q x hn W hW hT
  exact ⟨a', n', c', w', r1, cell_of_row _ r 0 _ _ _ r2, by simp [World.frozen?, r2], Both.ref h1 h2' h3 h4 h5 h6 h7 r3⟩
end Go.Proofs.Ytekbfjdjgpgmpaa
