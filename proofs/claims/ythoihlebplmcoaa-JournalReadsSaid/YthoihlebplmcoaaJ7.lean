/- What JournalLasts leaves behind its loop. -/
import Derived.Test.YthoihlebplmcoaaJ6
namespace Go.Proofs.Ythoihlebplmcoaa
open Go.RowKit
set_option linter.unusedVariables false
/-- the disk behind the commits: what comes to last, whatever the pattern. -/
structure Fell (w0 w : World) (p : Nat) (m : Mod) (z e : Nat) (al : List (List UInt8)) (k tr : Nat) : Prop where
  own : OwnA (fun _ => False) w0 w p m
  n : m.n = 9
  size : m.size = z
  low : LowS m 100000
  kl : k ≤ al.length
  tl : tr ≤ al.length
  small : ∀ b ∈ al, b.length ≤ 10000
  len : (rowR (z - 4) e al).length ≤ 7 * (z - 4)
  few : al.length ≤ 100
  st : ∀ x, Stands (seen z 2 fun j => m.cont x j) e (z - 4) 7 (rowR (z - 4) e (al.take k)) ∨ Stands (seen z 2 fun j => m.cont x j) e (z - 4) 7 (rowR (z - 4) e (al.take tr))
theorem Fell.below {w0 w w' : World} {p : Nat} {m : Mod} {z e : Nat} {al : List (List UInt8)} {k tr : Nat} (h : Fell w0 w p m z e al k tr) (hb : Below w.heap.size w w') : Fell w0 w' p m z e al k tr :=
  ⟨h.own.below hb, h.n, h.size, h.low, h.kl, h.tl, h.small, h.len, h.few, h.st⟩
theorem rowR_take (f e : Nat) (hf : 12 ≤ f) (l : List (List UInt8)) (k : Nat) : (rowR f e (l.take k)).length ≤ (rowR f e l).length := by
  have h : rowR f e l = rowN f e 0 (l.take k ++ l.drop k) := by rw [List.take_append_drop]; rfl
  rw [h, rowN_append f e hf, List.length_append]
  exact Nat.le_add_right _ _
theorem Live.fell {w0 w : World} {J : Jd} {m : Mod} {c : Nat → List UInt8} {R S : List (List UInt8)} {p z e : Nat} (h : Live w0 w J m c R S) (ha : At J p 2 9 (z - 4) e) (hn : m.n = 9) (hz : m.size = z) (hl : LowS m 100000) (hf : R.length + S.length ≤ 100) : Fell w0 w p m z e (R ++ S) R.length R.length := by
  have hd := h.jp.own.avoid (a' := fun _ => False) fun _ hk => hk.elim
  rw [ha.dp] at hd
  have hlen := h.len
  rw [h.row, ha.f, ha.e, ha.tt, ha.fr] at hlen
  have hc := h.clean.stands
  rw [ha.f, ha.e, ha.tt, ha.fr, hz] at hc
  refine ⟨hd, hn, hz, hl, by rw [List.length_append]; omega, by rw [List.length_append]; omega, h.small, hlen, by rw [List.length_append]; exact hf, fun x => .inl ?_⟩
  rw [List.take_left]
  have h2 : (fun k => m.cont x k) = c := by funext k; exact h.quiet.cont x k
  rw [h2]
  exact hc
theorem Live.torn {w0 w w' : World} {J : Jd} {m m' : Mod} {c : Nat → List UInt8} {R S : List (List UInt8)} {p z e : Nat} (h : Live w0 w J m c R S) (ha : At J p 2 9 (z - 4) e) (hj : JP w0 w' J m') (ht : TornJ m' J R S) (hn : m'.n = 9) (hz : m'.size = z) (hl : LowS m' 100000) (hf : R.length + S.length ≤ 100) : Fell w0 w' p m' z e (R ++ S) R.length (R ++ S).length := by
  have hd := hj.own.avoid (a' := fun _ => False) fun _ hk => hk.elim
  rw [ha.dp] at hd
  have hlen := h.len
  rw [h.row, ha.f, ha.e, ha.tt, ha.fr] at hlen
  refine ⟨hd, hn, hz, hl, by rw [List.length_append]; omega, Nat.le_refl _, h.small, hlen, by rw [List.length_append]; exact hf, fun x => ?_⟩
  have := ht x
  rw [ha.f, ha.e, ha.tt, ha.fr, hz] at this
  rw [List.take_left, List.take_length]
  exact this
/-- behind a crash, a fuse, an opening that may go dark, and another crash. -/
structure Rose (w0 w : World) (p : Nat) (m : Mod) (z e : Nat) (R : List (List UInt8)) : Prop where
  own : OwnA (fun _ => False) w0 w p m
  n : m.n = 9
  size : m.size = z
  low : LowS m 90000
  st : ∀ x, Stands (seen z 2 fun j => m.cont x j) e (z - 4) 7 (rowR (z - 4) e R)
theorem Lists.take {w : World} {A : Option Addr} {l : List (List UInt8)} (h : Lists w A l) (k : Nat) : Lists w A (l.take k) := fun i hi => by
  have hi' : i < l.length := by rw [List.length_take] at hi; omega
  obtain ⟨g, o, B, c, h1, h2, h3, h4⟩ := h i hi'
  rw [List.getElem_take]
  exact ⟨g, o, B, c, h1, h2, h3, h4⟩
theorem ARow.moved {We w w' : World} {base : Nat} {v : Value} {l : List (List UInt8)} (h : ARow We w base v l) (hb : ∀ k cs, base ≤ k → w.heap[k]? = some (.cells cs 35 (0, 0)) → w'.heap[k]? = w.heap[k]?) : ARow We w' base v l := by
  obtain ⟨xs, e, ho, he⟩ := h.rows
  exact ⟨xs, e, ownsRow_of_heap ho fun k hk => by
    obtain ⟨cs, hc⟩ := row_kind ho hk
    exact hb k cs (own_ge ho hk) hc, he⟩
theorem ARow.stay {We w w' : World} {base : Nat} {v : Value} {l : List (List UInt8)} (h : ARow We w base v l) {a : Option Nat} (hs : Stay a w w') (ha : ∀ k, a = some k → Bytes w k) : ARow We w' base v l :=
  h.moved fun k cs _ hc => hs.block k cs _ _ hc (by decide) (by decide) (by decide) (by decide) fun e => not_bytes hc (by decide) (ha k e)
theorem ARow.still {We w w' : World} {base : Nat} {v : Value} {l : List (List UInt8)} (h : ARow We w base v l) (hs : Still w w') : ARow We w' base v l :=
  h.moved fun k cs _ hc => hs.block k cs _ _ hc (by decide) (by decide) (by decide)
theorem LRow.stay {w w' : World} {base : Nat} {v : Value} {l : List (List UInt8)} (h : LRow w base v l) {a : Option Nat} (hs : Stay a w w') (ha : ∀ k, a = some k → Bytes w k ∧ k < base) : LRow w' base v l := by
  obtain ⟨ys, e, hb⟩ := h.rows
  refine ⟨ys, e, ⟨ownsRow_of_heap hb.row fun k hk => ?_, fun x hx => (hb.each x hx).of_heap fun k hk => ?_⟩⟩
  · obtain ⟨cs, hc⟩ := row_kind hb.row hk
    exact hs.block k cs _ _ hc (by decide) (by decide) (by decide) (by decide) fun e => not_bytes hc (by decide) (ha k e).1
  · obtain ⟨cs, hc⟩ := row_kind (hb.each x hx) hk
    refine hs.block k cs _ _ hc (by decide) (by decide) (by decide) (by decide) fun e => ?_
    have := (ha k e).2
    have := own_ge (hb.each x hx) hk
    omega
theorem LRow.still {w w' : World} {base : Nat} {v : Value} {l : List (List UInt8)} (h : LRow w base v l) (hs : Still w w') : LRow w' base v l :=
  h.stay (hs.stay none) fun k e => by cases e
theorem LRow.below {w w' : World} {base : Nat} {v : Value} {l : List (List UInt8)} (h : LRow w base v l) (hb : Below w.heap.size w w') : LRow w' base v l := h.still (Still.of_below hb)
end Go.Proofs.Ythoihlebplmcoaa
