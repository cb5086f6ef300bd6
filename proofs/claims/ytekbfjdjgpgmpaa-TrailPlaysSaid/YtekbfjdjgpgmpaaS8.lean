/- Same; appending one row to another. -/
import Derived.Test.YtekbfjdjgpgmpaaS7
import Derived.Laws.OwnMore
namespace Go.Proofs.Ytekbfjdjgpgmpaa
open Go.RowKit

theorem Came.of_row {w : World} {B n c : Nat} {a : Option Addr} {xs : List ByteArray} (h : w.ownsRow B 9 1 (.slice a n c) n (texts xs)) : Came w a xs := by
  have hl : xs.length = n := by have := h.1; simpa [texts] using this
  rcases h.2 with ⟨e, e2⟩ | ⟨g, cap, cur, e, _, h3, _⟩
  · have : xs = [] := List.eq_nil_of_length_eq_zero (by omega)
    subst this
    exact ⟨fun i hi => absurd hi (by simp)⟩
  · cases e
    refine ⟨fun i hi => ⟨g, 0, rfl, (Array.getElem?_eq_some_iff.1 h3).1, ?_⟩⟩
    rw [Nat.zero_add]
    exact row_cells h i _ (by simp [texts, hi])

set_option maxRecDepth 100000 in
set_option maxHeartbeats 1000000 in
theorem same_eq (a b : Option Addr) (n c d : Nat) (xs : List ByteArray) (w : World) (hn : n = xs.length) (hs : n ≤ 1000000) (ha : Came w a xs) (hb : Came w b xs) :
    Calls Try.prog 14 #[.slice a n c, .slice b n d] w fun e w' => e = .returned (.bool true) ∧ Below w.heap.size w w' := by
  have HA := Lib.hid ha
  have HB := Lib.hid hb
  have HN := Lib.hid hn
  clear ha hb hn
  go_enter Try.func14, Try.ntmps14
  go_wp2_with fail
  go_loopg [5] n (fun j s5 wr => ∃ q : Nat, q + j = n ∧ s5 = .int .i64 (q : Nat) ∧ Below w.heap.size w wr)
  case atStart => exact ⟨0, by omega, rfl, Below.refl _ _⟩
  case round =>
    obtain ⟨q, hq, rfl, hbq⟩ := hrel
    have BQ := Lib.hid hbq
    have HQ := Lib.hid hq
    by_cases hlt : (q : Int) < (n : Int)
    · have hq2 : q < xs.length := by have := HN.out; omega
      obtain ⟨g1, o1, rfl, _, c1⟩ := (HA.out.below hbq).cell q hq2
      obtain ⟨g2, o2, rfl, _, c2⟩ := (HB.out.below hbq).cell q hq2
      clear hq hbq
      go_wp2_with fail
      go_quiet (fail)
      go_wp2_with fail
      go_roundg (n - q - 1)
      case measure => have := HQ.out; omega
      case rel => exact ⟨q + 1, by have := HQ.out; omega, by simp, ⟨BQ.out.os, BQ.out.tape, BQ.out.output, BQ.out.size, BQ.out.block⟩⟩
    · clear hq hbq
      go_wp2_with fail
      go_ret
      exact ⟨rfl, BQ.out⟩

/-- append of a row of strings (a nil one too) behind a row of one's own. -/
theorem append_rows (B : Nat) (v : Value) (n m c : Nat) (a : Option Addr) (xs ys : List ByteArray) (w : World) (hv : w.ownsRow B 9 1 v n (texts xs)) (hu : ∀ h : a = none, m = 0 ∧ c = 0) (hl : ys.length = m) (hy : Came w a ys) (hn : n + m ≤ 1000000) (hB : B ≤ w.heap.size) :
    ∃ v' w', (Builtin.append_ #[39, 39] 39 #[v, .slice a m c]).run Try.prog w = .ok v' w' ∧ w'.ownsRow B 9 1 v' (n + m) (texts (xs ++ ys)) ∧ w.grownBy w' v.ownBlock := by
  obtain ⟨i0, hi0, hz0, hzs, hzb⟩ := info_parts Try.info9
  cases a with
  | none =>
    obtain ⟨rfl, rfl⟩ := hu rfl
    have : ys = [] := List.eq_nil_of_length_eq_zero hl
    subst this
    refine ⟨v, w, run_append_owned_none (P := Try.prog) w B 39 39 9 i0 1 Try.underlying39 hi0 v n (texts xs) hv, by simpa using hv, ⟨rfl, rfl, rfl, Nat.le_refl _, fun _ _ _ => rfl⟩⟩
  | some x =>
    obtain ⟨v', w', r1, r2, r3, _⟩ := run_append_own (P := Try.prog) w B 39 39 9 i0 (.string ByteArray.empty) 1 16 Try.underlying39 hi0 hz0 hzs hzb rfl (by decide) v n (texts xs) hv x m c (texts ys) (by simp [texts, hl]) (fun j u hj => by
      have hj2 : j < ys.length := by have := (List.getElem?_eq_some_iff.1 hj).1; simpa [texts] using this
      obtain ⟨b, off, e, _, h3⟩ := hy.cell j hj2
      cases e
      rw [Addr.add_lit, h3]
      rw [← hj]
      simp [texts, hj2]) (by intro u hu; obtain ⟨z, _, rfl⟩ := List.mem_map.1 hu; rfl) (by unfold maxLen; omega) (by omega) hB
    refine ⟨v', w', r1, ?_, r3⟩
    simpa [texts] using r2

/-! two trails -/
def Pair (w0 : World) (p r : Nat) (w : World) (tx : List ByteArray) (mx : List Nat) (ty : List ByteArray) (my : List Nat) : Prop :=
  ∃ F G, IsTrail w p F tx mx ∧ IsTrail w r G ty my ∧ Below w0.heap.size w0 w ∧ (∀ b ∈ F, w0.heap.size ≤ b) ∧ (∀ b ∈ G, w0.heap.size ≤ b) ∧ ∀ b ∈ F, b ∉ G

theorem Pair.swap {w0 w : World} {p r : Nat} {tx ty : List ByteArray} {mx my : List Nat} (h : Pair w0 p r w tx mx ty my) : Pair w0 r p w ty my tx mx := by
  obtain ⟨F, G, h1, h2, h3, h4, h5, h6⟩ := h
  exact ⟨G, F, h2, h1, h3, h5, h4, fun b hb hb2 => h6 b hb2 hb⟩

theorem Pair.goes {w0 w w' : World} {p r : Nat} {F G : List Nat} {tx ty tx' : List ByteArray} {mx my mx' : List Nat} (h1 : IsTrail w p F tx mx) (h2 : IsTrail w r G ty my) (h3 : Below w0.heap.size w0 w) (h4 : ∀ b ∈ F, w0.heap.size ≤ b) (h5 : ∀ b ∈ G, w0.heap.size ≤ b) (h6 : ∀ b ∈ F, b ∉ G)
    (hg : Goes w w' p F tx' mx') : Pair w0 p r w' tx' mx' ty my := by
  obtain ⟨F', g1, g2, g3⟩ := hg
  refine ⟨F', G, g1, h2.touch g2 (fun b hb hf => h6 b hf hb), g2.fresh h3 h4, fun b hb => ?_, h5, fun b hb hb2 => ?_⟩
  · rcases g3 b hb with h | h
    · exact h4 b h
    · exact Nat.le_trans h3.size h
  · rcases g3 b hb with h | h
    · exact h6 b h hb2
    · have := h2.lt b hb2; omega

theorem Pair.below {w0 w w' : World} {p r : Nat} {tx ty : List ByteArray} {mx my : List Nat} (h : Pair w0 p r w tx mx ty my) (hb : Below w.heap.size w w') : Pair w0 p r w' tx mx ty my := by
  obtain ⟨F, G, h1, h2, h3, h4, h5, h6⟩ := h
  exact ⟨F, G, h1.below hb, h2.below hb, h3.trans (hb.mono h3.size), h4, h5, h6⟩
theorem Pair.out {w0 w : World} {p r : Nat} {tx ty : List ByteArray} {mx my : List Nat} (h : Pair w0 p r w tx mx ty my) : Below w0.heap.size w0 w := by
  obtain ⟨F, G, h1, h2, h3, h4, h5, h6⟩ := h
  exact h3
theorem Pair.new (w : World) : Pair w w.heap.size (w.heap.size + 1) ((w.alloc (.cells #[.slice none 0 0, .slice none 0 0] 53)).alloc (.cells #[.slice none 0 0, .slice none 0 0] 53)) [] [] [] [] := by
  have h1 := new_trail w
  have h2 := new_trail (w.alloc (.cells #[.slice none 0 0, .slice none 0 0] 53))
  rw [World.size_alloc] at h2
  have hb := (Below.refl w.heap.size w).alloc (Nat.le_refl _) (.cells #[.slice none 0 0, .slice none 0 0] 53)
  have hb2 := (Below.refl (w.heap.size + 1) (w.alloc (.cells #[.slice none 0 0, .slice none 0 0] 53))).alloc (by simp) (.cells #[.slice none 0 0, .slice none 0 0] 53)
  refine ⟨_, _, h1.below (by rw [World.size_alloc]; exact hb2), h2, hb.trans (hb2.mono (Nat.le_succ _)), by simp, by simp, by simp⟩
theorem Pair.add {w0 w : World} {p r : Nat} {tx ty : List ByteArray} {mx my : List Nat} (h : Pair w0 p r w tx mx ty my) (x : ByteArray) (hn : tx.length < 1048576) :
    Calls Try.prog 10 #[.pointer (some ⟨p, 0, none⟩), .string x] w fun e w' => e = .returned (.int .i64 0) ∧ Pair w0 p r w' (tx ++ [x]) mx ty my := by
  obtain ⟨F, G, h1, h2, h3, h4, h5, h6⟩ := h
  refine (add_ok h1 x hn).mono ?_
  rintro e w' ⟨rfl, hg⟩
  exact ⟨rfl, Pair.goes h1 h2 h3 h4 h5 h6 hg⟩
theorem Pair.mark {w0 w : World} {p r : Nat} {tx ty : List ByteArray} {mx my : List Nat} (h : Pair w0 p r w tx mx ty my) (hn : mx.length < 1048576) (ht : tx.length ≤ 1048576) :
    Calls Try.prog 11 #[.pointer (some ⟨p, 0, none⟩)] w fun e w' => e = .returned (.int .i64 mx.length) ∧ Pair w0 p r w' tx (mx ++ [tx.length]) ty my := by
  obtain ⟨F, G, h1, h2, h3, h4, h5, h6⟩ := h
  refine (mark_ok h1 hn ht).mono ?_
  rintro e w' ⟨rfl, hg⟩
  exact ⟨rfl, Pair.goes h1 h2 h3 h4 h5 h6 hg⟩
theorem Pair.len {w0 w : World} {p r : Nat} {tx ty : List ByteArray} {mx my : List Nat} (h : Pair w0 p r w tx mx ty my) : Calls Try.prog 20 #[.pointer (some ⟨p, 0, none⟩)] w fun e w' => e = .returned (.int .i64 tx.length) ∧ w' = w := by
  obtain ⟨F, G, h1, -⟩ := h
  exact len_ok h1
theorem Pair.marks {w0 w : World} {p r : Nat} {tx ty : List ByteArray} {mx my : List Nat} (h : Pair w0 p r w tx mx ty my) : Calls Try.prog 21 #[.pointer (some ⟨p, 0, none⟩)] w fun e w' => e = .returned (.int .i64 mx.length) ∧ w' = w := by
  obtain ⟨F, G, h1, -⟩ := h
  exact marks_ok h1
end Go.Proofs.Ytekbfjdjgpgmpaa
