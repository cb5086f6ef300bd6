/- The list of things and marks in memory; At and Len. -/
import Derived.Test.YtekbfjdjgpgmpaaT1
import Derived.Test.YtekbfjdjgpgmpaaS8
namespace Go.Proofs.Ytekbfjdjgpgmpaa
open Go.RowKit

theorem Try.info36 : (Try.prog.info? 36).map (fun i => (i.zero, i.size, i.bytes)) = some (some (.agg #[.bool false, .string ByteArray.empty]), 2, 24) := by kernel_rfl

def encO (l : List One) : List Value := l.flatMap fun p => [.bool p.1, .string p.2]
theorem encO_length (l : List One) : (encO l).length = l.length * 2 := by
  induction l with
  | nil => rfl
  | cons x l ih => simp only [encO, List.flatMap_cons, List.length_append, List.length_cons, List.length_nil] at *; omega
theorem encO_append (l r : List One) : encO (l ++ r) = encO l ++ encO r := by simp [encO]
theorem encO_one (l : List One) : ∀ v ∈ encO l, v.oneCell' = true := by
  intro v hv
  simp only [encO, List.mem_flatMap] at hv
  obtain ⟨p, _, hv⟩ := hv
  simp at hv
  rcases hv with rfl | rfl <;> rfl
theorem encO_take (l : List One) (i : Nat) : (encO l).take (i * 2) = encO (l.take i) := by
  induction l generalizing i with
  | nil => simp [encO]
  | cons x l ih =>
    cases i with
    | zero => simp [encO]
    | succ i =>
      have := ih i
      have e : (i + 1) * 2 = i * 2 + 1 + 1 := by omega
      rw [e]
      simp only [encO, List.flatMap_cons, List.cons_append, List.nil_append, List.take_succ_cons] at *
      rw [this]
theorem encO_at (a b : List One) (q : Bool) (s : ByteArray) : (encO (a ++ (q, s) :: b))[a.length * 2]? = some (.bool q) ∧ (encO (a ++ (q, s) :: b))[a.length * 2 + 1]? = some (.string s) := by
  rw [encO_append]
  have hl := encO_length a
  constructor
  · rw [List.getElem?_append_right (by omega), hl, Nat.sub_self]; rfl
  · rw [List.getElem?_append_right (by omega), hl, show a.length * 2 + 1 - a.length * 2 = 1 by omega]; rfl

def ORow (w : World) (b : Nat) (v : Value) (l : List One) : Prop := w.ownsRow b 36 2 v l.length (encO l)

structure RefAt (w : World) (r : Nat) (v : Value) (l : List One) : Prop where
  cellr : w.heap[r]? = some (.cells #[v] 29 (0, 0))
  row : ORow w 0 v l
def FootR (r : Nat) (v : Value) : List Nat := r :: v.ownBlock.toList
def IsRef (w : World) (r : Nat) (G : List Nat) (l : List One) : Prop := ∃ v, RefAt w r v l ∧ G = FootR r v

theorem RefAt.not1 {w : World} {r : Nat} {v : Value} {l : List One} (h : RefAt w r v l) : v.ownBlock ≠ some r := fun e => by
  obtain ⟨cur, h1⟩ := row_kind h.row e
  rw [h.cellr] at h1
  simp at h1
theorem RefAt.lt {w : World} {r : Nat} {v : Value} {l : List One} (h : RefAt w r v l) : ∀ b ∈ FootR r v, b < w.heap.size := fun b hb => by
  simp only [FootR, List.mem_cons, Option.mem_toList] at hb
  rcases hb with rfl | hb
  · exact (Array.getElem?_eq_some_iff.1 h.cellr).1
  · exact (World.ownsRow.lt h.row b hb).2
theorem RefAt.frame {w w' : World} {r : Nat} {v : Value} {l : List One} (h : RefAt w r v l) (hb : ∀ b ∈ FootR r v, w'.heap[b]? = w.heap[b]?) : RefAt w' r v l :=
  ⟨(hb r (by simp [FootR])).trans h.cellr, ownsRow_of_heap h.row fun b e => hb b (by simp [FootR, e])⟩
theorem IsRef.lt {w : World} {r : Nat} {G : List Nat} {l : List One} (h : IsRef w r G l) : ∀ b ∈ G, b < w.heap.size := by
  obtain ⟨v, h1, rfl⟩ := h; exact h1.lt
theorem IsRef.touch {w w' : World} {r : Nat} {F G : List Nat} {l : List One} (h : IsRef w r F l) (ht : Touch G w w') (hd : ∀ b ∈ F, b ∉ G) : IsRef w' r F l := by
  have hl := h.lt
  obtain ⟨v, h1, rfl⟩ := h
  exact ⟨v, h1.frame fun b hb => ht.block b (hl b hb) (hd b hb), rfl⟩
theorem IsRef.below {w w' : World} {r : Nat} {F : List Nat} {l : List One} (h : IsRef w r F l) (ht : Below w.heap.size w w') : IsRef w' r F l :=
  h.touch (Touch.of_below ht []) (by simp)

theorem row2_cells {w : World} {b g n cap : Nat} {e : TypeId} {xs : List Value} (h : w.ownsRow b e 2 (.slice (some ⟨g, 0, none⟩) n cap) n xs) (j : Nat) (u : Value) (hj : xs[j]? = some u) : w.cell? ⟨g, j, none⟩ = some u := by
  have := h.cells (g := g) rfl j u hj
  rwa [Addr.add_lit, Nat.zero_add] at this

/-- one element of the list, in memory. -/
theorem ORow.at {w : World} {g n c B : Nat} {a b : List One} {q : Bool} {s : ByteArray} (h : ORow w B (.slice (some ⟨g, 0, none⟩) n c) (a ++ (q, s) :: b)) :
    w.cell? ⟨g, a.length * 2, none⟩ = some (.bool q) ∧ w.cell? ⟨g, a.length * 2 + 1, none⟩ = some (.string s) ∧ n = (a ++ (q, s) :: b).length := by
  have hn : n = (a ++ (q, s) :: b).length := by
    obtain ⟨a', c', e⟩ := slice_shape h
    cases e; rfl
  subst hn
  obtain ⟨e1, e2⟩ := encO_at a b q s
  exact ⟨row2_cells h _ _ e1, row2_cells h _ _ e2, rfl⟩

set_option maxRecDepth 100000 in
set_option maxHeartbeats 1000000 in
theorem at_ok {w : World} {r : Nat} {G : List Nat} {l : List One} (h : IsRef w r G l) (m : Int) (hn : l.length ≤ 1000000) :
    Calls Try.prog 9 #[.pointer (some ⟨r, 0, none⟩), .int .i64 m] w fun e w' => e = .returned (.int .i64 (at' m 0 0 l)) ∧ w' = w := by
  obtain ⟨v, h, -⟩ := h
  obtain ⟨a, c, rfl⟩ := slice_shape h.row
  have c0 : w.cell? ⟨r, 0, none⟩ = some (.slice a l.length c) := cell_of_row w r 0 _ _ _ h.cellr
  have HR := Lib.hid h.row
  have HN := Lib.hid hn
  clear h hn
  by_cases hm : m < 0
  · have hat : at' m 0 0 l = -1 := at_not l m 0 0 (by omega)
    rw [hat]
    clear hat
    go_enter Try.func9, Try.ntmps9
    go_wp2_with fail
    go_loopg [5, 6] 0 (fun j s5 s6 wr => s5 = .int .i64 0 ∧ s6 = .int .i64 0 ∧ wr = w)
    case atStart => exact ⟨rfl, rfl, rfl⟩
    case round =>
      obtain ⟨rfl, rfl, rfl⟩ := hrel
      have hm2 : ¬ m ≥ 0 := by omega
      go_wp2_with fail
      all_goals go_ret
      all_goals exact ⟨rfl, rfl⟩
  · have hm2 : m ≥ 0 := by omega
    go_enter Try.func9, Try.ntmps9
    go_wp2_with fail
    go_loopg [5, 6] (l.length) (fun j s5 s6 wr => ∃ A B : List One, l = A ++ B ∧ B.length ≤ j ∧ s5 = .int .i64 (count true A : Nat) ∧ s6 = .int .i64 (A.length : Nat) ∧ at' m 0 0 l = at' m (count true A) A.length B ∧ wr = w)
    case atStart => exact ⟨[], l, rfl, Nat.le_refl _, rfl, rfl, rfl, rfl⟩
    case round =>
      obtain ⟨A, B, hl, hB, rfl, rfl, hat, rfl⟩ := hrel
      have HL := Lib.hid hl
      have HAT := Lib.hid hat
      have HB := Lib.hid hB
      clear hl hat hB
      cases B with
      | nil =>
        have hlt : ¬ ((A.length : Int) < (l.length : Int)) := by rw [HL.out]; simp
        go_wp2_with fail
        go_ret
        rw [HAT.out]
        exact ⟨rfl, rfl⟩
      | cons y B =>
        obtain ⟨q, s⟩ := y
        have hlt : (A.length : Int) < (l.length : Int) := by rw [HL.out]; simp; omega
        have hpos : 0 < l.length := by rw [HL.out, List.length_append, List.length_cons]; omega
        obtain ⟨g, cc, e, hcc⟩ := row_pos HR.out hpos
        cases e
        have hr := HR.out
        rw [HL.out] at hr
        obtain ⟨k0, k1, -⟩ := ORow.at hr
        have hAl : A.length ≤ 1000000 := by have h9 := HN.out; rw [HL.out, List.length_append] at h9; omega
        clear hr hpos hcc
        have e5 : A ++ (q, s) :: B = (A ++ [(q, s)]) ++ B := by simp
        have e6 : (A ++ [(q, s)]).length = A.length + 1 := by simp
        cases q with
        | false =>
          have e7 : count true (A ++ [(false, s)]) = count true A := by rw [count_append]; simp [count]
          have HREL : Hid (l = (A ++ [(false, s)]) ++ B ∧ at' m 0 0 l = at' m (count true (A ++ [(false, s)])) (A ++ [(false, s)]).length B) := ⟨HL.out.trans e5, by rw [HAT.out, e7, e6]; rfl⟩
          clear e5
          go_wp2_with fail
          go_roundg B.length
          case measure => have := HB.out; simp at this; omega
          case rel => exact ⟨A ++ [(false, s)], B, HREL.out.1, Nat.le_refl _, by rw [e7], by rw [e6]; simp, HREL.out.2, rfl⟩
        | true =>
          by_cases hk : (count true A : Int) = m
          · have hat2 : at' m 0 0 l = (A.length : Int) := by rw [HAT.out]; simp only [at']; rw [if_pos hk]
            have HAT2 := Lib.hid hat2
            clear hat2 e5
            go_wp2_with fail
            go_ret
            rw [HAT2.out]
            exact ⟨rfl, rfl⟩
          · have e7 : count true (A ++ [(true, s)]) = count true A + 1 := by rw [count_append]; simp [count]
            have HREL : Hid (l = (A ++ [(true, s)]) ++ B ∧ at' m 0 0 l = at' m (count true (A ++ [(true, s)])) (A ++ [(true, s)]).length B) := ⟨HL.out.trans e5, by rw [HAT.out, e7, e6]; simp only [at']; rw [if_neg hk]⟩
            have hca : count true A ≤ 1000000 := by have := count_le true A; have := HN.out; rw [HL.out] at this; simp at this; omega
            clear e5
            go_wp2_with fail
            go_roundg B.length
            case measure => have := HB.out; simp at this; omega
            case rel => exact ⟨A ++ [(true, s)], B, HREL.out.1, Nat.le_refl _, by rw [e7]; simp, by rw [e6]; simp, HREL.out.2, rfl⟩

set_option maxRecDepth 100000 in
set_option maxHeartbeats 1000000 in
theorem lenR_ok {w : World} {r : Nat} {G : List Nat} {l : List One} (h : IsRef w r G l) (b : Bool) (hn : l.length ≤ 1000000) :
    Calls Try.prog 12 #[.pointer (some ⟨r, 0, none⟩), .bool b] w fun e w' => e = .returned (.int .i64 (count b l : Nat)) ∧ w' = w := by
  obtain ⟨v, h, -⟩ := h
  obtain ⟨a, c, rfl⟩ := slice_shape h.row
  have c0 : w.cell? ⟨r, 0, none⟩ = some (.slice a l.length c) := cell_of_row w r 0 _ _ _ h.cellr
  have HR := Lib.hid h.row
  have HN := Lib.hid hn
  clear h hn
  go_enter Try.func12, Try.ntmps12
  go_wp2_with fail
  go_loopg [5, 6] (l.length) (fun j s5 s6 wr => ∃ A B : List One, l = A ++ B ∧ B.length ≤ j ∧ s5 = .int .i64 (count b A : Nat) ∧ s6 = .int .i64 (A.length : Nat) ∧ wr = w)
  case atStart => exact ⟨[], l, rfl, Nat.le_refl _, rfl, rfl, rfl⟩
  case round =>
    obtain ⟨A, B, hl, hB, rfl, rfl, rfl⟩ := hrel
    have HL := Lib.hid hl
    have HB := Lib.hid hB
    clear hl hB
    cases B with
    | nil =>
      have hlt : ¬ ((A.length : Int) < (l.length : Int)) := by rw [HL.out]; simp
      have hal : count b l = count b A := by rw [HL.out]; simp
      have HAL := Lib.hid hal
      clear hal
      go_wp2_with fail
      go_ret
      rw [HAL.out]
      exact ⟨rfl, rfl⟩
    | cons y B =>
      obtain ⟨q, s⟩ := y
      have hlt : (A.length : Int) < (l.length : Int) := by rw [HL.out]; simp; omega
      have hpos : 0 < l.length := by rw [HL.out, List.length_append, List.length_cons]; omega
      obtain ⟨g, cc, e, hcc⟩ := row_pos HR.out hpos
      cases e
      have hr := HR.out
      rw [HL.out] at hr
      obtain ⟨k0, k1, -⟩ := ORow.at hr
      have hAl : A.length ≤ 1000000 := by have h9 := HN.out; rw [HL.out, List.length_append] at h9; omega
      clear hr hpos hcc
      have e5 : A ++ (q, s) :: B = (A ++ [(q, s)]) ++ B := by simp
      have e6 : (A ++ [(q, s)]).length = A.length + 1 := by simp
      have HREL : Hid (l = (A ++ [(q, s)]) ++ B) := HL.out.trans e5
      have hca : count b A ≤ 1000000 := by have := count_le b A; have := HN.out; rw [HL.out] at this; simp at this; omega
      clear e5
      by_cases hk : q = b
      · subst hk
        have e7 : count q (A ++ [(q, s)]) = count q A + 1 := by rw [count_append]; simp [count]
        go_wp2_with fail
        all_goals go_roundg B.length
        case measure => have := HB.out; simp at this; omega
        case rel => exact ⟨A ++ [(q, s)], B, HREL.out, Nat.le_refl _, by rw [e7]; simp, by rw [e6]; simp, rfl⟩
      · have e7 : count b (A ++ [(q, s)]) = count b A := by rw [count_append]; simp [count, hk]
        have hkb : (q == b) = false := by simp [hk]
        go_wp2_with fail
        all_goals go_roundg B.length
        case measure => have := HB.out; simp at this; omega
        case rel => exact ⟨A ++ [(q, s)], B, HREL.out, Nat.le_refl _, by rw [e7], by rw [e6]; simp, rfl⟩
end Go.Proofs.Ytekbfjdjgpgmpaa
