/- A law's own state: its disk, and its superblocks in blocks of their own. -/
import Derived.Test.YtjoenmmjpmnkfaaMU3
namespace Go.Proofs.Ytjoenmmjpmnkfaa
open Go.RowKit
/-- the law's disk, and its variables. -/
def Law (w W : World) (p : Nat) (m : Mod) (L : List (Nat × Array Value)) : Prop := OwnD w W p m ∧ ∀ x ∈ L, Whole W x.1 30 x.2
section
variable {w W W' : World} {p : Nat} {m m' : Mod} {L : List (Nat × Array Value)}
theorem Law.below (h : Law w W p m L) (hb : Below W.heap.size W W') : Law w W' p m L := ⟨h.1.below hb, fun x hx => (h.2 x hx).below hb (h.2 x hx).lt⟩
theorem Law.drew (h : Law w W p m L) : Law w W.drew p m L := h.below (Below.refl _ _).drew
theorem Law.push (h : Law w W p m L) (cs : Array Value) : Law w (W.alloc (.cells cs 30)) p m ((W.heap.size, cs) :: L) := by
  have h2 := h.below ((Below.refl _ _).alloc (Nat.le_refl _) (.cells cs 30))
  refine ⟨h2.1, fun x hx => ?_⟩
  rcases List.mem_cons.1 hx with rfl | hx
  · exact Whole.new W _ cs
  · exact h2.2 x hx
theorem Law.still (h : Law w W p m L) (hs : Still W W') (ho : OwnD w W' p m') : Law w W' p m' L := ⟨ho, fun x hx => (h.2 x hx).still hs (by decide) (by decide) (by decide)⟩
theorem Law.at (h : Law w W p m L) {g : Nat} {a b c : Value} (hm : (g, #[a, b, c]) ∈ L) : W.cell? ⟨g, 0, none⟩ = some a ∧ W.cell? ⟨g, 1, none⟩ = some b ∧ W.cell? ⟨g, 2, none⟩ = some c ∧ g < W.heap.size ∧ W.frozen? ⟨g, 0, none⟩ = false ∧ W.frozen? ⟨g, 1, none⟩ = false ∧ W.frozen? ⟨g, 2, none⟩ = false := by
  have hw : Whole W g _ _ := h.2 _ hm
  have h0 := hw.cell 0
  have h1 := hw.cell 1
  have h2 := hw.cell 2
  simp only [List.getElem?_toArray, List.getElem?_cons_zero, List.getElem?_cons_succ] at h0 h1 h2
  exact ⟨h0, h1, h2, hw.lt, hw.frozen 0, hw.frozen 1, hw.frozen 2⟩
theorem Law.new (w0 : World) (a b : Nat) (w : World) (h0 : Below w0.heap.size w0 w) (h1 : 1 ≤ a) (h2 : a ≤ 600) (h3 : 64 ≤ b) (h4 : b ≤ 1024) (L : List (Nat × Array Value)) (hL : ∀ x ∈ L, Whole w x.1 30 x.2) :
    Calls Try.prog 7 #[.int .i64 (a : Nat), .int .i64 (b : Nat)] w fun e w' => ∃ p, e = .returned (.tuple #[.pointer (some ⟨p, 0, none⟩), .int .i64 0]) ∧ Law w0 w' p (Mod.new a b) L := by
  refine (newM a b w h1 h2 h3 h4).mono ?_
  rintro e w' ⟨p, rfl, F, k1, k2, k3⟩
  exact ⟨p, rfl, ⟨F, k1, fun k hk => Nat.le_trans h0.size (k2 k hk), below_next h0 k3⟩, fun x hx => (hL x hx).below k3 (hL x hx).lt⟩
theorem Law.sub {L' : List (Nat × Array Value)} (h : Law w W p m L) (hs : ∀ x ∈ L', x ∈ L) : Law w W p m L' := ⟨h.1, fun x hx => h.2 x (hs x hx)⟩
theorem Law.poke (h : Law w W p m L) {g : Nat} {a b c : Value} (hm : (g, #[a, b, c]) ∈ L) (hg : w.heap.size ≤ g) (u v y : Value) {L' : List (Nat × Array Value)} (hL : ∀ x ∈ L', x ∈ L ∧ x.1 ≠ g) :
    Law w (((W.setCell ⟨g, 0, none⟩ u).setCell ⟨g, 1, none⟩ v).setCell ⟨g, 2, none⟩ y) p m ((g, #[u, v, y]) :: L') := by
  have hw : Whole W g 30 #[a, b, c] := h.2 _ hm
  have o1 := h.1.poke hw (by decide) (by decide) (by decide) (by decide) hg 0 u
  have w1 := hw.set_ 0 u
  have o2 := o1.poke w1 (by decide) (by decide) (by decide) (by decide) hg 1 v
  have w2 := w1.set_ 1 v
  have o3 := o2.poke w2 (by decide) (by decide) (by decide) (by decide) hg 2 y
  refine ⟨o3, fun x hx => ?_⟩
  rcases List.mem_cons.1 hx with rfl | hx
  · exact hw.three u v y
  · exact (h.2 x (hL x hx).1).farThree (hL x hx).2 u v y
end
end Go.Proofs.Ytjoenmmjpmnkfaa
