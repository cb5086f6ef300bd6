/- A few nodes apart from each other, whose rows change one by one: plain facts about worlds, no walk. -/
import Derived.Test.YtcboakmfabdeoaaXk
namespace Go.Proofs.Ytcboakmfabdeoaa
open Go.RowKit

/-- A node by its own: where it lies, its rows, the number in its third cell. -/
structure Nd where
  p : Nat
  vp : Value
  vk : Value
  sz : Nat
  ps : List Pr
  ks : List Kid

def Nd.bs (n : Nd) : List Nat := n.p :: rows n.vp n.vk

structure Nd.ok (w : World) (n : Nd) : Prop where
  r : Rec w n.p n.vp n.vk n.sz
  pr : PRow w n.vp n.ps
  kr : KRow w n.vk n.ks

/-- These nodes lie apart; since w0 nothing has changed but the blocks of F; what they have is in F, or is new. -/
structure Forest (w0 : World) (F : List Nat) (w : World) (L : List Nd) : Prop where
  ok : ∀ n ∈ L, n.ok w
  nd : (L.flatMap Nd.bs).Nodup
  touch : Touch F w0 w
  own : ∀ b ∈ L.flatMap Nd.bs, b ∈ F ∨ w0.heap.size ≤ b

theorem Nd.ok.lt {w : World} {n : Nd} (h : n.ok w) : ∀ b ∈ n.bs, b < w.heap.size := fun b hb => by
  rcases List.mem_cons.1 hb with e | e
  · rw [e]; exact (Array.getElem?_eq_some_iff.1 h.r).1
  · rcases mem_rows.1 e with e | e
    · exact h.pr.lt e
    · exact (World.ownsRow.lt h.kr b e).2

theorem Nd.ok.touch {w w' : World} {n : Nd} {F : List Nat} (h : n.ok w) (T : Touch F w w') (hd : ∀ b ∈ n.bs, b ∉ F) : n.ok w' :=
  ⟨h.r.touch T (hd _ (by simp [Nd.bs])), h.pr.touch T (fun b hb => hd b (by simp [Nd.bs, mem_rows, hb])), h.kr.touch T (fun b hb => hd b (by simp [Nd.bs, mem_rows, hb]))⟩

theorem Forest.below {w0 w w' : World} {F : List Nat} {L : List Nd} (H : Forest w0 F w L) (T : Touch [] w w') : Forest w0 F w' L :=
  ⟨fun n hn => (H.ok n hn).touch T (by simp), H.nd, H.touch.trans T (by simp), H.own⟩

theorem Forest.at {w0 w : World} {F : List Nat} {A B : List Nd} {x : Nd} (H : Forest w0 F w (A ++ x :: B)) : x.ok w := H.ok x (by simp)

/-- One node is turned, the others stay. -/
theorem Forest.turn {w0 w w' : World} {F : List Nat} {A B : List Nd} {x y : Nd} (H : Forest w0 F w (A ++ x :: B)) (T : Touch x.bs w w') (hy : y.ok w') (hyn : y.bs.Nodup) (hyo : ∀ b ∈ y.bs, b ∈ x.bs ∨ w.heap.size ≤ b) : Forest w0 F w' (A ++ y :: B) := by
  have hnd := H.nd
  have e1 : (A ++ x :: B).flatMap Nd.bs = A.flatMap Nd.bs ++ (x.bs ++ B.flatMap Nd.bs) := by simp
  have e2 : (A ++ y :: B).flatMap Nd.bs = A.flatMap Nd.bs ++ (y.bs ++ B.flatMap Nd.bs) := by simp
  rw [e1] at hnd
  have p1 : (A.flatMap Nd.bs ++ (x.bs ++ B.flatMap Nd.bs)).Perm (x.bs ++ (A.flatMap Nd.bs ++ B.flatMap Nd.bs)) := List.perm_append_comm_assoc _ _ _
  have p2 : (A.flatMap Nd.bs ++ (y.bs ++ B.flatMap Nd.bs)).Perm (y.bs ++ (A.flatMap Nd.bs ++ B.flatMap Nd.bs)) := List.perm_append_comm_assoc _ _ _
  have n1 := List.nodup_append.1 (p1.nodup_iff.1 hnd)
  have hmem : ∀ n, n ∈ A ∨ n ∈ B → ∀ b ∈ n.bs, b ∈ A.flatMap Nd.bs ++ B.flatMap Nd.bs := fun n hn b hb => by
    rcases hn with e | e
    · exact List.mem_append.2 (.inl (List.mem_flatMap.2 ⟨n, e, hb⟩))
    · exact List.mem_append.2 (.inr (List.mem_flatMap.2 ⟨n, e, hb⟩))
  have hold : ∀ b ∈ A.flatMap Nd.bs ++ B.flatMap Nd.bs, b < w.heap.size := fun b hb => by
    rcases List.mem_append.1 hb with e | e
    · obtain ⟨n, hn, hb2⟩ := List.mem_flatMap.1 e
      exact (H.ok n (by simp [hn])).lt b hb2
    · obtain ⟨n, hn, hb2⟩ := List.mem_flatMap.1 e
      exact (H.ok n (by simp [hn])).lt b hb2
  have hs := H.touch.size
  refine ⟨fun n hn => ?_, ?_, ?_, ?_⟩
  · have hn2 : n ∈ A ∨ n = y ∨ n ∈ B := by simpa using hn
    rcases hn2 with e | e | e
    · exact (H.ok n (by simp [e])).touch T (fun b hb hm => n1.2.2 b hm b (hmem n (.inl e) b hb) rfl)
    · rw [e]; exact hy
    · exact (H.ok n (by simp [e])).touch T (fun b hb hm => n1.2.2 b hm b (hmem n (.inr e) b hb) rfl)
  · rw [e2]
    refine p2.nodup_iff.2 (List.nodup_append.2 ⟨hyn, n1.2.1, fun a ha b hb e => ?_⟩)
    subst e
    rcases hyo a ha with h1 | h1
    · exact n1.2.2 a h1 a hb rfl
    · have := hold a hb; omega
  · refine H.touch.trans T (fun b hb => H.own b ?_)
    rw [e1]; exact p1.mem_iff.2 (by simp [hb])
  · intro b hb
    rw [e2] at hb
    rcases List.mem_append.1 (p2.mem_iff.1 hb) with e | e
    · rcases hyo b e with h1 | h1
      · exact H.own b (by rw [e1]; exact p1.mem_iff.2 (by simp [h1]))
      · exact .inr (by omega)
    · exact H.own b (by rw [e1]; exact p1.mem_iff.2 (List.mem_append.2 (.inr e)))

theorem Forest.nodup_at {w0 w : World} {F : List Nat} {A B : List Nd} {x : Nd} (H : Forest w0 F w (A ++ x :: B)) : x.bs.Nodup := by
  have hnd := H.nd
  have e1 : (A ++ x :: B).flatMap Nd.bs = A.flatMap Nd.bs ++ (x.bs ++ B.flatMap Nd.bs) := by simp
  rw [e1] at hnd
  exact (List.nodup_append.1 (List.nodup_append.1 hnd).2.1).1

theorem bs_parts {p : Nat} {vp vk : Value} (h : (p :: rows vp vk).Nodup) : (∀ b, vp.ownBlock = some b → b ≠ p ∧ vk.ownBlock ≠ some b) ∧ (∀ b, vk.ownBlock = some b → b ≠ p) := by
  rw [List.nodup_cons, rows, List.nodup_append] at h
  obtain ⟨h1, _, _, h4⟩ := h
  simp only [List.mem_append, Option.mem_toList] at h1 h4
  exact ⟨fun b hb => ⟨fun e => h1 (.inl (by rw [← e]; simp [hb])), fun e => h4 b hb b e rfl⟩, fun b hb e => h1 (.inr (by rw [← e]; simp [hb]))⟩

theorem bs_nodup {p : Nat} {vp vk : Value} (h1 : ∀ b, vp.ownBlock = some b → b ≠ p ∧ vk.ownBlock ≠ some b) (h2 : ∀ b, vk.ownBlock = some b → b ≠ p) : (p :: rows vp vk).Nodup := by
  rw [List.nodup_cons, rows, List.nodup_append]
  refine ⟨fun hm => ?_, ?_, ?_, ?_⟩
  · rcases mem_rows.1 hm with e | e
    · exact (h1 p e).1 rfl
    · exact h2 p e rfl
  · cases vp.ownBlock <;> simp
  · cases vk.ownBlock <;> simp
  · intro a ha b hb e
    subst e
    exact (h1 a (by simpa using ha)).2 (by simpa using hb)

/-- The row of pairs of one node becomes another one: a call's, then the store. -/
theorem Forest.pairs {w0 w w4 : World} {F : List Nat} {A B : List Nd} {x : Nd} (H : Forest w0 F w (A ++ x :: B)) {v' : Value} {l' : List Pr} (hT : Touch x.vp.ownBlock.toList w w4) (hr : PRow w4 v' l') (ho : ∀ g, v'.ownBlock = some g → x.vp.ownBlock = some g ∨ w.heap.size ≤ g) :
    Rec w4 x.p x.vp x.vk x.sz ∧ Forest w0 F (w4.setCell ⟨x.p, 0, none⟩ v') (A ++ { x with vp := v', ps := l' } :: B) := by
  have ok := H.at
  obtain ⟨b1, b2⟩ := bs_parts H.nodup_at
  have plt := ok.lt x.p (by simp [Nd.bs])
  have r4 : Rec w4 x.p x.vp x.vk x.sz := ok.r.touch hT (fun hm => (b1 x.p (by simpa using hm)).1 rfl)
  have k4 : KRow w4 x.vk x.ks := ok.kr.touch hT (fun b hb hm => (b1 b (by simpa using hm)).2 hb)
  have T2 : Touch [x.p] w4 (w4.setCell ⟨x.p, 0, none⟩ v') := (Touch.refl [x.p] w4).setCell (q := ⟨x.p, 0, none⟩) (.inl (by simp)) _
  have hv : ∀ g, v'.ownBlock = some g → g ≠ x.p ∧ x.vk.ownBlock ≠ some g := fun g hg => by
    rcases ho g hg with e | e
    · exact b1 g e
    · refine ⟨by omega, fun e2 => ?_⟩
      have := ok.lt g (by simp [Nd.bs, mem_rows, e2]); omega
  refine ⟨r4, H.turn (y := { x with vp := v', ps := l' }) ?_ ⟨r4.set0 _, hr.touch T2 (fun b hb => by simp; exact (hv b hb).1), k4.touch T2 (fun b hb => by simp; exact b2 b hb)⟩ (bs_nodup hv b2) ?_⟩
  · exact (hT.mono (G := x.bs) (fun b hb => .inl (by simp [Nd.bs, mem_rows]; exact .inr (.inl (by simpa using hb))))).trans T2 (fun b hb => .inl (by simp at hb; simp [Nd.bs, hb]))
  · intro b hb
    rcases List.mem_cons.1 hb with e | e
    · exact .inl (by simp [Nd.bs, e])
    · rcases mem_rows.1 e with e | e
      · rcases ho b e with h1 | h1
        · exact .inl (by simp [Nd.bs, mem_rows, h1])
        · exact .inr h1
      · exact .inl (by simp only [Nd.bs, List.mem_cons, mem_rows]; exact .inr (.inr e))

/-- The row of kids of one node becomes another one. -/
theorem Forest.kids {w0 w w4 : World} {F : List Nat} {A B : List Nd} {x : Nd} (H : Forest w0 F w (A ++ x :: B)) {v' : Value} {l' : List Kid} (hT : Touch x.vk.ownBlock.toList w w4) (hr : KRow w4 v' l') (ho : ∀ g, v'.ownBlock = some g → x.vk.ownBlock = some g ∨ w.heap.size ≤ g) :
    Rec w4 x.p x.vp x.vk x.sz ∧ Forest w0 F (w4.setCell ⟨x.p, 1, none⟩ v') (A ++ { x with vk := v', ks := l' } :: B) := by
  have ok := H.at
  obtain ⟨b1, b2⟩ := bs_parts H.nodup_at
  have plt := ok.lt x.p (by simp [Nd.bs])
  have r4 : Rec w4 x.p x.vp x.vk x.sz := ok.r.touch hT (fun hm => b2 x.p (by simpa using hm) rfl)
  have k4 : PRow w4 x.vp x.ps := ok.pr.touch hT (fun b hb hm => (b1 b hb).2 (by simpa using hm))
  have T2 : Touch [x.p] w4 (w4.setCell ⟨x.p, 1, none⟩ v') := (Touch.refl [x.p] w4).setCell (q := ⟨x.p, 1, none⟩) (.inl (by simp)) _
  have hv : ∀ g, v'.ownBlock = some g → g ≠ x.p ∧ x.vp.ownBlock ≠ some g := fun g hg => by
    rcases ho g hg with e | e
    · exact ⟨b2 g e, fun e2 => (b1 g e2).2 e⟩
    · refine ⟨by omega, fun e2 => ?_⟩
      have := ok.lt g (by simp [Nd.bs, mem_rows, e2]); omega
  refine ⟨r4, H.turn (y := { x with vk := v', ks := l' }) ?_ ⟨r4.set1 _, k4.touch T2 (fun b hb => by simp; exact (b1 b hb).1), hr.touch T2 (fun b hb => by simp; exact (hv b hb).1)⟩ (bs_nodup (fun b hb => ⟨(b1 b hb).1, fun e => (hv b e).2 hb⟩) (fun b hb => (hv b hb).1)) ?_⟩
  · exact (hT.mono (G := x.bs) (fun b hb => .inl (by simp [Nd.bs, mem_rows]; exact .inr (.inr (by simpa using hb))))).trans T2 (fun b hb => .inl (by simp at hb; simp [Nd.bs, hb]))
  · intro b hb
    rcases List.mem_cons.1 hb with e | e
    · exact .inl (by simp [Nd.bs, e])
    · rcases mem_rows.1 e with e | e
      · exact .inl (by simp only [Nd.bs, List.mem_cons, mem_rows]; exact .inr (.inl e))
      · rcases ho b e with h1 | h1
        · exact .inl (by simp [Nd.bs, mem_rows, h1])
        · exact .inr h1

/-- The number in the third cell. -/
theorem Forest.size {w0 w w' : World} {F : List Nat} {A B : List Nd} {x : Nd} (H : Forest w0 F w (A ++ x :: B)) {n : Nat} (T : Touch [x.p] w w') (hr : Rec w' x.p x.vp x.vk n) : Forest w0 F w' (A ++ { x with sz := n } :: B) := by
  have ok := H.at
  obtain ⟨b1, b2⟩ := bs_parts H.nodup_at
  exact H.turn (y := { x with sz := n }) (T.mono (fun b hb => .inl (by simp at hb; simp [Nd.bs, hb]))) ⟨hr, ok.pr.touch T (fun b hb => by simp; exact (b1 b hb).1), ok.kr.touch T (fun b hb => by simp; exact b2 b hb)⟩ H.nodup_at (fun b hb => .inl hb)

theorem Forest.sizeSet {w0 w : World} {F : List Nat} {A B : List Nd} {x : Nd} (H : Forest w0 F w (A ++ x :: B)) (n : Nat) : Forest w0 F (w.setCell ⟨x.p, 2, none⟩ (.int .i64 n)) (A ++ { x with sz := n } :: B) :=
  H.size ((Touch.refl [x.p] w).setCell (q := ⟨x.p, 2, none⟩) (.inl (by simp)) _) (rec_size H.at.r n)

/-- One pair of the row. -/
theorem encP_set2 : ∀ (l : List Pr) (i : Nat) (q : Pr), ((encP l).set (i * 2) (.int .i64 q.1)).set (i * 2 + 1) (.string q.2) = encP (l.set i q)
  | [], i, q => by simp [encP]
  | a :: l, 0, q => by simp [encP]
  | a :: l, i + 1, q => by
    have h := encP_set2 l i q
    simp only [encP, List.flatMap_cons, List.set_cons_succ] at h ⊢
    rw [show (i + 1) * 2 = i * 2 + 1 + 1 by omega]
    simp only [List.cons_append, List.nil_append, List.set_cons_succ]
    rw [h]

theorem PRow.setPair {w : World} {g n cap i : Nat} {l : List Pr} (h : PRow w (.slice (some ⟨g, 0, none⟩) n cap) l) (hi : i < l.length) (q : Pr) :
    PRow ((w.setCell ⟨g, i * 2, none⟩ (.int .i64 q.1)).setCell ⟨g, i * 2 + 1, none⟩ (.string q.2)) (.slice (some ⟨g, 0, none⟩) n cap) (l.set i q) := by
  rcases h.2 with ⟨h1, _⟩ | ⟨g', cap', cur, h1, h2, h3, h4, h5, h6, h7⟩
  · cases h1
  · simp only [Value.slice.injEq, Option.some.injEq, Addr.mk.injEq] at h1
    obtain ⟨⟨rfl, _⟩, rfl, rfl⟩ := h1
    have c1 := heap_setCell_same w g (i * 2) cur _ (.int .i64 q.1) h3
    have c2 := heap_setCell_same _ g (i * 2 + 1) _ _ (.string q.2) c1
    refine ⟨by rw [List.length_set, encP_length, List.length_set], .inr ⟨g, cap, _, by rw [List.length_set], h2, c2, by rw [List.length_set]; exact h4, h5, by simpa using h6, ?_⟩⟩
    rw [← encP_set2, ← h7]
    simp [List.take_set, List.length_set]

theorem Forest.setPair {w0 w : World} {F : List Nat} {A B : List Nd} {x : Nd} (H : Forest w0 F w (A ++ x :: B)) {g n cap i : Nat} (hv : x.vp = .slice (some ⟨g, 0, none⟩) n cap) (hi : i < x.ps.length) (q : Pr) :
    Forest w0 F ((w.setCell ⟨g, i * 2, none⟩ (.int .i64 q.1)).setCell ⟨g, i * 2 + 1, none⟩ (.string q.2)) (A ++ { x with ps := x.ps.set i q } :: B) := by
  have ok := H.at
  obtain ⟨b1, b2⟩ := bs_parts H.nodup_at
  have hb : x.vp.ownBlock = some g := by rw [hv]; rfl
  have T : Touch [g] w ((w.setCell ⟨g, i * 2, none⟩ (.int .i64 q.1)).setCell ⟨g, i * 2 + 1, none⟩ (.string q.2)) := ((Touch.refl [g] w).setCell (q := ⟨g, i * 2, none⟩) (.inl (by simp)) _).setCell (q := ⟨g, i * 2 + 1, none⟩) (.inl (by simp)) _
  refine H.turn (y := { x with ps := x.ps.set i q }) (T.mono (fun b hm => .inl (by simp at hm; simp [Nd.bs, mem_rows, hm, hb]))) ⟨ok.r.touch T (by simp; exact fun e => (b1 g hb).1 e.symm), ?_, ok.kr.touch T (fun b hb2 hm => ?_)⟩ H.nodup_at (fun b hb => .inl hb)
  · have := ok.pr
    simp only at this ⊢
    rw [hv] at this ⊢
    exact this.setPair hi q
  · simp at hm
    exact (b1 g hb).2 (hm ▸ hb2)
/-- Insert at the pairs of one node: its record behind the call, and all behind the store. -/
theorem Forest.insRec {w0 wb : World} {F : List Nat} {A B : List Nd} {x : Nd} (H : Forest w0 F wb (A ++ x :: B)) : ∀ W w4 : World, W.grownBy w4 x.vp.ownBlock → Touch [] wb W → Rec w4 x.p x.vp x.vk x.sz := fun W w4 hg hW => by
  have ok := (H.below hW).at
  obtain ⟨b1, b2⟩ := bs_parts H.nodup_at
  exact ok.r.touch (Touch.of_grown hg) (fun hm => (b1 x.p (by simpa using hm)).1 rfl)

theorem Forest.insRecK {w0 wb : World} {F : List Nat} {A B : List Nd} {x : Nd} (H : Forest w0 F wb (A ++ x :: B)) : ∀ W w4 : World, W.grownBy w4 x.vk.ownBlock → Touch [] wb W → Rec w4 x.p x.vp x.vk x.sz := fun W w4 hg hW => by
  have ok := (H.below hW).at
  obtain ⟨b1, b2⟩ := bs_parts H.nodup_at
  exact ok.r.touch (Touch.of_grown hg) (fun hm => b2 x.p (by simpa using hm) rfl)

theorem Forest.insP {w0 wb : World} {F : List Nat} {A B : List Nd} {x : Nd} (H : Forest w0 F wb (A ++ x :: B)) {W w4 : World} {g c n : Nat} {l' : List Pr} (h4 : PRow w4 (.slice (some ⟨g, 0, none⟩) n c) l') (g4 : W.grownBy w4 x.vp.ownBlock) (hW : Touch [] wb W) (o4 : x.vp.ownBlock = some g ∨ W.heap.size ≤ g) :
    Forest w0 F (w4.setCell ⟨x.p, 0, none⟩ (.slice (some ⟨g, 0, none⟩) n c)) (A ++ { x with vp := .slice (some ⟨g, 0, none⟩) n c, ps := l' } :: B) :=
  (Forest.pairs (H.below hW) (Touch.of_grown g4) h4 (fun k hk => by
    have : g = k := by simpa [Value.ownBlock] using hk
    exact this ▸ o4)).2

theorem Forest.insK {w0 wb : World} {F : List Nat} {A B : List Nd} {x : Nd} (H : Forest w0 F wb (A ++ x :: B)) {W w4 : World} {g c n : Nat} {l' : List Kid} (h4 : KRow w4 (.slice (some ⟨g, 0, none⟩) n c) l') (g4 : W.grownBy w4 x.vk.ownBlock) (hW : Touch [] wb W) (o4 : x.vk.ownBlock = some g ∨ W.heap.size ≤ g) :
    Forest w0 F (w4.setCell ⟨x.p, 1, none⟩ (.slice (some ⟨g, 0, none⟩) n c)) (A ++ { x with vk := .slice (some ⟨g, 0, none⟩) n c, ks := l' } :: B) :=
  (Forest.kids (H.below hW) (Touch.of_grown g4) h4 (fun k hk => by
    have : g = k := by simpa [Value.ownBlock] using hk
    exact this ▸ o4)).2
theorem PRow.fr {w : World} {g n cap : Nat} {l : List Pr} (h : PRow w (.slice (some ⟨g, 0, none⟩) n cap) l) (o : Nat) : w.frozen? ⟨g, o, none⟩ = false := by
  rcases h.2 with ⟨h1, _⟩ | ⟨g', cap', cur, h1, h2, h3, _⟩
  · cases h1
  · simp only [Value.slice.injEq, Option.some.injEq, Addr.mk.injEq] at h1
    obtain ⟨⟨rfl, _⟩, _, _⟩ := h1
    simp [World.frozen?, h3]

/-- a block made, and orders drawn. -/
theorem touch_heap {w : World} (o : Obj) (W : World) (h1 : W.heap = (w.alloc o).heap) (h2 : W.os = w.os) (h3 : W.tape = w.tape) (h4 : W.output = w.output) : Touch [] w W :=
  ⟨h2, h3, h4, by rw [h1]; simp, fun k hk _ => by rw [h1]; exact Below.heap_alloc w o k hk⟩
end Go.Proofs.Ytcboakmfabdeoaa
