/- Since and Forget of the list. -/
import Derived.Test.YtekbfjdjgpgmpaaT2
namespace Go.Proofs.Ytekbfjdjgpgmpaa
open Go.RowKit

/-- append of some of the list's elements behind a row of one's own. -/
theorem append_ones (B : Nat) (v : Value) (n m c : Nat) (a : Addr) (xs ys : List One) (w : World) (hv : w.ownsRow B 36 2 v n (encO xs)) (hl : ys.length = m) (hy : ∀ j u, (encO ys)[j]? = some u → w.cell? (a.add j) = some u) (hn : n + m ≤ 1000000) (hB : B ≤ w.heap.size) :
    ∃ v' w', (Builtin.append_ #[27, 27] 27 #[v, .slice (some a) m c]).run Try.prog w = .ok v' w' ∧ w'.ownsRow B 36 2 v' (n + m) (encO (xs ++ ys)) ∧ w.grownBy w' v.ownBlock := by
  obtain ⟨i0, hi0, hz0, hzs, hzb⟩ := info_parts Try.info36
  obtain ⟨v', w', r1, r2, r3, _⟩ := run_append_own (P := Try.prog) w B 27 27 36 i0 (.agg #[.bool false, .string ByteArray.empty]) 2 24 Try.underlying27 hi0 hz0 hzs hzb rfl (by decide) v n (encO xs) hv a m c (encO ys) (by rw [encO_length, hl]) hy (encO_one _) (by unfold maxLen; omega) (by omega) hB
  exact ⟨v', w', r1, by rw [encO_append]; exact r2, r3⟩

theorem one_cells {w : World} {g : Nat} {q : Bool} {s : ByteArray} (h : w.heap[g]? = some (.cells #[.bool q, .string s] 36 (0, 0))) : ∀ j u, (encO [(q, s)])[j]? = some u → w.cell? ((⟨g, 0, none⟩ : Addr).add j) = some u := fun j u hj => by
  rw [Addr.add_lit, Nat.zero_add, cell_of_row w g j _ _ _ h]
  simpa [encO] using hj

set_option maxRecDepth 100000 in
set_option maxHeartbeats 1000000 in
theorem sinceR_ok {w : World} {r : Nat} {G : List Nat} {l A B : List One} {x : ByteArray} (h : IsRef w r G l) (hl : l = A ++ (true, x) :: B) (m : Int) (hm : m = (count true A : Nat)) (hn : l.length ≤ 1000000) :
    Calls Try.prog 19 #[.pointer (some ⟨r, 0, none⟩), .int .i64 m] w fun e w' => ∃ v, e = .returned v ∧ w'.ownsRow w.heap.size 9 1 v (things B).length (texts (things B)) ∧ Below w.heap.size w w' := by
  have hpos : 0 < l.length := by rw [hl, List.length_append, List.length_cons]; omega
  have hat : at' m 0 0 l = (A.length : Int) := by rw [hl, at_there A B x m 0 0 (by omega)]; simp
  have b0 := (Below.refl w.heap.size w).alloc (Nat.le_refl _) (.cells #[] 9)
  have CALL := Lib.hid (at_ok (h.below b0) m hn)
  rw [hat] at CALL
  obtain ⟨v, h, -⟩ := h
  obtain ⟨g, c, rfl, hc⟩ := row_pos h.row hpos
  have HH := Lib.hid h
  have HL := Lib.hid hl
  have HN := Lib.hid hn
  have o0 : (w.alloc (.cells #[] 9)).ownsRow w.heap.size 9 1 (.slice (some ⟨w.heap.size, 0, none⟩) 0 0) 0 (texts []) := World.ownsRow_made w #[] 0 (Nat.le_refl _) (Nat.zero_le _) rfl
  have O0 := Lib.hid o0
  have B0 := Lib.hid b0
  clear h hl hn b0 o0 hat hpos hm hc
  go_enter Try.func19, Try.ntmps19
  go_wp2_with fail
  refine CALL.out.mono ?_
  rintro e w1 ⟨rfl, rfl⟩
  go_wp2_with fail
  go_loopg [5, 6] (B.length + 1) (fun j s5 s6 wr => ∃ (P Q : List One) (a : Option Addr) (n k : Nat), (true, x) :: B = P ++ Q ∧ Q.length ≤ j ∧ s5 = .slice a n k ∧ s6 = .int .i64 ((A ++ P).length : Nat) ∧ wr.ownsRow w.heap.size 9 1 (.slice a n k) n (texts (things P)) ∧ Below w.heap.size w wr)
  case atStart => exact ⟨[], (true, x) :: B, _, _, _, rfl, by simp, rfl, by simp, O0.out, B0.out⟩
  case round =>
    obtain ⟨P, Q, a, n, k, hp, hq, rfl, rfl, ho, hb⟩ := hrel
    have hr : RefAt wr r (.slice (some ⟨g, 0, none⟩) l.length c) l := HH.out.frame fun b hb2 => hb.block b (HH.out.lt b hb2)
    have c0 : wr.cell? ⟨r, 0, none⟩ = some (.slice (some ⟨g, 0, none⟩) l.length c) := cell_of_row wr r 0 _ _ _ hr.cellr
    have hlq : l = (A ++ P) ++ Q := by rw [HL.out, hp]; simp
    have hN := HN.out
    have hnl : n = (things P).length := by have := ho.1; simpa [texts] using this.symm
    cases Q with
    | nil =>
      have hlt : ¬ (((A ++ P).length : Int) < (l.length : Int)) := by rw [hlq]; simp
      have hpb : things P = things B := by have e : P = (true, x) :: B := by simpa using hp.symm
                                           rw [e]; rfl
      rw [hpb] at ho hnl
      subst hnl
      have FIN := Lib.hid (And.intro ho hb)
      generalize hXX : (A ++ P).length = X at *
      clear ho hb hr hlq hp hq hpb hN hXX
      go_wp2_with fail
      go_ret
      exact ⟨_, rfl, FIN.out.1, FIN.out.2⟩
    | cons y Q =>
      obtain ⟨q, s⟩ := y
      have hlt : ((A ++ P).length : Int) < (l.length : Int) := by rw [hlq]; simp; omega
      have hrow := hr.row
      rw [hlq] at hrow
      obtain ⟨k0, k1, -⟩ := ORow.at hrow
      have e5 : (true, x) :: B = (P ++ [(q, s)]) ++ Q := by rw [hp]; simp
      have e6 : (A ++ (P ++ [(q, s)])).length = (A ++ P).length + 1 := by simp; omega
      have hX : (A ++ P).length ≤ 1000000 := by rw [hlq] at hN; simp at hN ⊢; omega
      have hthl : (things P).length + 1 ≤ 1000000 := by
        have h1 := things_len P
        have h2 := count_le false P
        rw [hlq] at hN; simp at hN; omega
      have HQ := Lib.hid hq
      have E5 := Lib.hid e5
      generalize hXX : (A ++ P).length = X at *
      cases q with
      | true =>
        have e7 : things (P ++ [(true, s)]) = things P := by rw [things_append]; simp [things]
        have FIN : Hid (wr.ownsRow w.heap.size 9 1 (.slice a n k) n (texts (things (P ++ [(true, s)]))) ∧ Below w.heap.size w wr) := by rw [e7]; exact ⟨ho, hb⟩
        clear ho hb hr hlq hp hq hrow e5 e7 hN hthl
        go_wp2_with fail
        go_roundg Q.length
        case measure => have := HQ.out; simp at this; omega
        case rel => exact ⟨P ++ [(true, s)], Q, a, n, k, E5.out, Nat.le_refl _, rfl, by rw [e6]; simp, FIN.out.1, FIN.out.2⟩
      | false =>
        have e7 : things (P ++ [(false, s)]) = things P ++ [s] := by rw [things_append]; simp [things]
        have hB1 : w.heap.size ≤ (wr.alloc (.cells #[.string s] 9)).heap.size := by have := hb.size; simp; omega
        obtain ⟨v', w', r1, o1, gr⟩ := append_rows w.heap.size _ n 1 1 (some ⟨wr.heap.size, 0, none⟩) (things P) [s] (wr.alloc (.cells #[.string s] 9)) (World.ownsRow.alloc ho _) (fun h => by cases h) rfl ⟨fun i hi => ⟨wr.heap.size, 0, rfl, by simp, by
          have : i = 0 := by simp at hi; omega
          subst this
          exact cell_of_row _ _ 0 _ _ _ (heap_alloc_new wr _)⟩⟩ (by omega) hB1
        obtain ⟨a', c', rfl⟩ := slice_shape o1
        have FIN : Hid (w'.ownsRow w.heap.size 9 1 (.slice a' (n + 1) c') (n + 1) (texts (things (P ++ [(false, s)]))) ∧ Below w.heap.size w w') := by
          rw [e7]
          exact ⟨o1, (hb.alloc (by have := hb.size; omega) _).grown gr hB1 (fun b hb2 => (ho.lt b hb2).1)⟩
        have R1 := Lib.hid r1
        clear r1 o1 gr ho hb hr hlq hp hq hrow e5 e7 hB1 hN hthl hnl
        go_wp2_with (at_builtin; refine Lib.wpList_append_run _ rfl _ _ 39 39 rfl _ _ rfl rfl _ _ R1.out ?_)
        go_roundg Q.length
        case measure => have := HQ.out; simp at this; omega
        case rel => exact ⟨P ++ [(false, s)], Q, a', n + 1, c', E5.out, Nat.le_refl _, rfl, by rw [e6]; simp, FIN.out.1, FIN.out.2⟩

/-- the list that comes of a call, and what may have changed. -/
def GoesR (w w' : World) (r : Nat) (G : List Nat) (l : List One) : Prop := ∃ G', IsRef w' r G' l ∧ Touch G w w' ∧ ∀ b ∈ G', b ∈ G ∨ w.heap.size ≤ b

/-- the list's row is laid anew. -/
theorem store_row {w W : World} {r B : Nat} {v v' : Value} {l l' : List One} (h : RefAt w r v l) (hb : Below w.heap.size w W) (hB : w.heap.size ≤ B) (ho : ORow W B v' l') : GoesR w (W.setCell ⟨r, 0, none⟩ v') r (FootR r v) l' := by
  have hr : W.heap[r]? = some (.cells #[v] 29 (0, 0)) := (hb.block r (h.lt r (by simp [FootR]))).trans h.cellr
  have hr2 : r < w.heap.size := h.lt r (by simp [FootR])
  refine ⟨FootR r v', ⟨v', ⟨heap_setCell_same _ r 0 _ _ _ hr, ?_⟩, rfl⟩, (Touch.of_below hb _).setCell (.inl (by simp [FootR])) _, fun b hbm => ?_⟩
  · exact ownsRow_of_heap (rebase ho) fun b hb2 => heap_setCell_other _ _ b _ (fun e => by have h1 := (World.ownsRow.lt ho b hb2).1; have e2 : b = r := e; omega)
  · simp only [FootR, List.mem_cons, Option.mem_toList] at hbm ⊢
    rcases hbm with rfl | hbm
    · exact .inl (.inl rfl)
    · have h1 := (World.ownsRow.lt ho b hbm).1
      exact .inr (by omega)

/-- the first of the list's elements, handed to append. -/
theorem front_cells {w : World} {g n c B : Nat} {a b : List One} (h : ORow w B (.slice (some ⟨g, 0, none⟩) n c) (a ++ b)) : ∀ j u, (encO a)[j]? = some u → w.cell? ((⟨g, 0, none⟩ : Addr).add j) = some u := fun j u hj => by
  have hlt := (List.getElem?_eq_some_iff.1 hj).1
  refine World.ownsRow.cells h (g := g) rfl j u ?_
  rw [encO_append, List.getElem?_append_left hlt]
  exact hj
end Go.Proofs.Ytekbfjdjgpgmpaa
