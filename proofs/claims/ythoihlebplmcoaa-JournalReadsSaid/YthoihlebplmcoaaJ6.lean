/- A list of byte strings that is built by append; what it is beside a journal. -/
import Derived.Test.YthoihlebplmcoaaJ5
namespace Go.Proofs.Ythoihlebplmcoaa
open Go.RowKit
set_option linter.unusedVariables false
/-- a byte string, as a slice tells it. -/
structure Bx where
  A : Option Addr
  c : Nat
  b : List UInt8
abbrev Bx.v (x : Bx) : Value := .slice x.A x.b.length x.c
def bvs (l : List Bx) : List Value := l.map Bx.v
def bbs (l : List Bx) : List (List UInt8) := l.map fun x => x.b
/-- a list of the call's own, of byte strings that stand in an older world. -/
structure ARow (We w : World) (base : Nat) (v : Value) (l : List (List UInt8)) : Prop where
  rows : ∃ xs : List Bx, bbs xs = l ∧ w.ownsRow base 35 1 v xs.length (bvs xs) ∧ ∀ x ∈ xs, Holds We x.A x.b
theorem bbs_len (xs : List Bx) : (bbs xs).length = xs.length := by simp [bbs]
theorem bvs_len (xs : List Bx) : (bvs xs).length = xs.length := by simp [bvs]
theorem ARow.lists {We w : World} {base : Nat} {v : Value} {l : List (List UInt8)} (h : ARow We w base v l) (hb : Below We.heap.size We w) : ∃ A c, v = .slice A l.length c ∧ Lists w A l ∧ l.length ≤ c := by
  obtain ⟨xs, rfl, ho, he⟩ := h.rows
  obtain ⟨h1, h2⟩ := ho
  rw [bbs_len]
  rcases h2 with ⟨rfl, h0⟩ | ⟨g, cap, cur, rfl, hg, hh, hn, hm, hs, ht⟩
  · rw [h0]
    have : xs = [] := List.eq_nil_of_length_eq_zero h0
    subst this
    exact ⟨none, 0, rfl, Lists.nil _ _, Nat.le_refl _⟩
  · refine ⟨_, cap, rfl, fun i hi => ?_, hn⟩
    have hi' : i < xs.length := by rw [bbs_len] at hi; exact hi
    have hbi : (bbs xs)[i] = xs[i].b := by simp [bbs]
    rw [hbi]
    refine ⟨g, 0, xs[i].A, xs[i].c, rfl, (Array.getElem?_eq_some_iff.1 hh).1, ?_, (he _ (List.getElem_mem hi')).below hb⟩
    rw [Nat.zero_add, cell_of_row w g i cur 35 (0, 0) hh]
    have e3 : (bvs xs)[i]? = some (xs[i].v) := by simp [bvs, hi']
    rw [← ht, List.getElem?_take] at e3
    rw [if_pos (by omega)] at e3
    rw [← Array.getElem?_toList, e3]
theorem infoBsA : (Try.prog.info? 35).map (fun i => (i.zero, i.size, i.bytes)) = some (some (.slice none 0 0), 1, 24) := by kernel_rfl
/-- append of byte strings that stand in a row. -/
theorem append_list {We w : World} {base : Nat} {v : Value} {l : List (List UInt8)} (h : ARow We w base v l) (a : Addr) (c : Nat) (ys : List Bx) (hys : ∀ i (h : i < ys.length), w.cell? (a.add i) = some ys[i].v) (hy : ∀ y ∈ ys, Holds We y.A y.b) (hn : l.length + ys.length ≤ 1000000) (hbase : base ≤ w.heap.size) :
    ∃ v' w', Sem.run Try.prog (Builtin.append_ #[23, 23] 23 #[v, .slice (some a) ys.length c]) w = .ok v' w' ∧ ARow We w' base v' (l ++ bbs ys) ∧ w.grownBy w' v.ownBlock := by
  obtain ⟨xs, rfl, ho, he⟩ := h.rows
  rw [bbs_len] at hn
  obtain ⟨i, hi, hz0, hz1, hz2⟩ := info_parts infoBsA
  obtain ⟨v', w', hr, ho', hg, _, _⟩ := run_append_own_at (P := Try.prog) w base 23 23 35 i (.slice none 0 0) 1 24 Try.underlying23 hi hz0 hz1 hz2 rfl (by omega) v xs.length (bvs xs) ho a ys.length c (bvs ys) (by rw [bvs_len]; omega) (by
    intro j u hu
    have hj : j < ys.length := by
      have := (List.getElem?_eq_some_iff.1 hu).1
      rwa [bvs_len] at this
    rw [hys j hj, ← hu]
    simp [bvs, hj]) (by
    intro u hu
    simp only [bvs, List.mem_map] at hu
    obtain ⟨y, _, rfl⟩ := hu
    rfl) (by simp only [maxLen]; omega) (by omega) hbase
  refine ⟨v', w', hr, ⟨xs ++ ys, by simp [bbs], ?_, fun x hx => ?_⟩, hg⟩
  · rw [List.length_append, show bvs (xs ++ ys) = bvs xs ++ bvs ys by simp [bvs]]
    exact ho'
  · rcases List.mem_append.1 hx with hx | hx
    · exact he x hx
    · exact hy x hx
/-- the whole of a list is appended, also one that is none. -/
theorem append_all {We w : World} {base : Nat} {v : Value} {l : List (List UInt8)} (h : ARow We w base v l) (A : Option Addr) (c : Nat) (m : List (List UInt8)) (hA : (A = none ∧ c = 0) ∨ ∃ a, A = some a) (hm : Lists w A m) (hmA : ∀ i (h : i < m.length) (B : Option Addr) (a : Addr) (d : Nat), A = some a → w.cell? (a.add i) = some (.slice B m[i].length d) → Holds We B m[i]) (hn : l.length + m.length ≤ 1000000) (hbase : base ≤ w.heap.size) :
    ∃ v' w', Sem.run Try.prog (Builtin.append_ #[23, 23] 23 #[v, .slice A m.length c]) w = .ok v' w' ∧ ARow We w' base v' (l ++ m) ∧ w.grownBy w' v.ownBlock := by
  rcases hA with ⟨rfl, rfl⟩ | ⟨a, rfl⟩
  · have hm0 : m = [] := by
      cases m with
      | nil => rfl
      | cons x r =>
        obtain ⟨g, o, B, c, e, _⟩ := hm 0 (by simp)
        cases e
    subst hm0
    obtain ⟨xs, rfl, ho, he⟩ := h.rows
    obtain ⟨i, hi, hz0, hz1, hz2⟩ := info_parts infoBsA
    refine ⟨v, w, run_append_owned_none w base 23 23 35 i 1 Try.underlying23 hi v xs.length (bvs xs) ho, ?_, World.grownBy.refl _ _⟩
    rw [List.append_nil]
    exact h
  · obtain ⟨ys, hyl, hyp⟩ := choose_bytes (P := fun i t => ∃ h : i < m.length, t.2.2 = m[i] ∧ w.cell? (a.add i) = some (.slice t.1 t.2.2.length t.2.1)) m.length (fun i hi => by
      obtain ⟨g, o, B, d, e, -, hc, -⟩ := hm i hi
      cases e
      exact ⟨(B, d, m[i]), hi, rfl, by rw [Addr.add_lit]; exact hc⟩)
    have hbm : bbs (ys.map fun t => ⟨t.1, t.2.1, t.2.2⟩) = m := by
      refine List.ext_getElem (by rw [bbs_len, List.length_map, hyl]) fun i h1 h2 => ?_
      obtain ⟨_, e, _⟩ := hyp i (by omega)
      simp only [bbs, List.getElem_map]
      exact e
    have hlen : (ys.map fun t => (⟨t.1, t.2.1, t.2.2⟩ : Bx)).length = m.length := by rw [List.length_map, hyl]
    have := append_list h a c (ys.map fun t => ⟨t.1, t.2.1, t.2.2⟩) (fun i hi => by
      have hi' : i < ys.length := by rw [List.length_map] at hi; exact hi
      obtain ⟨_, _, e⟩ := hyp i hi'
      rw [List.getElem_map]
      exact e) (fun y hy => by
      obtain ⟨t, ht, rfl⟩ := List.mem_map.1 hy
      obtain ⟨i, hi, rfl⟩ := List.mem_iff_getElem.1 ht
      obtain ⟨h1, e1, e2⟩ := hyp i hi
      show Holds We ys[i].1 ys[i].2.2
      rw [e1]
      rw [e1] at e2
      exact hmA i h1 _ a _ rfl e2) (by rw [hlen]; exact hn) hbase
    rw [hbm, hlen] at this
    exact this
/-- a journal, where own blocks of another kind turn. -/
theorem JP.elsewhere {w0 w w' : World} {J : Jd} {m : Mod} (h : JP w0 w J m) {G : List Nat} (ht : Touch G w w') (hG : ∀ k ∈ G, w0.heap.size ≤ k ∧ ∃ cs z, w.heap[k]? = some (.cells cs 35 z)) : JP w0 w' J m := by
  have hby : ∀ k, Bytes w k → k ∉ G := fun k hk hm => by
    obtain ⟨-, cs, z, e⟩ := hG k hm
    obtain ⟨cs', z', e'⟩ := hk
    rw [e] at e'
    simp at e'
  have hp : J.p ∉ G := fun hm => by
    obtain ⟨-, cs, z, e⟩ := hG _ hm
    have h2 := h.is
    unfold JIs Whole at h2
    rw [e] at h2
    simp at h2
  refine ⟨h.own.touch ht fun k hk => ⟨(hG k hk).1, .inr ?_⟩, ?_, h.new, h.rowNew, h.row.of_heap (fun k hk => ht.block k hk.lt (hby k hk)) ht.size, h.ok⟩
  · obtain ⟨-, cs, z, e⟩ := hG k hk
    exact ⟨cs, _, z, e, by decide, by decide, by decide, by decide⟩
  · exact (ht.block J.p h.is.lt hp).trans h.is
theorem Live.elsewhere {w0 w w' : World} {J : Jd} {m : Mod} {c : Nat → List UInt8} {R S : List (List UInt8)} (h : Live w0 w J m c R S) {G : List Nat} (ht : Touch G w w') (hG : ∀ k ∈ G, w0.heap.size ≤ k ∧ ∃ cs z, w.heap[k]? = some (.cells cs 35 z)) : Live w0 w' J m c R S :=
  ⟨h.jp.elsewhere ht hG, h.quiet, h.row, h.kept, h.pend, h.clean, h.len, h.e0, h.room, h.small⟩
end Go.Proofs.Ythoihlebplmcoaa
