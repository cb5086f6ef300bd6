/- Forget and Cut of the list. -/
import Derived.Test.YtekbfjdjgpgmpaaT3
namespace Go.Proofs.Ytekbfjdjgpgmpaa
open Go.RowKit

theorem plain_true (P : List One) (s : ByteArray) : plain (P ++ [(true, s)]) = plain P := by simp [plain]
theorem plain_false (P : List One) (s : ByteArray) : plain (P ++ [(false, s)]) = plain P ++ [(false, s)] := by simp [plain]
theorem own_len {w : World} {b n : Nat} {v : Value} {l : List One} (h : w.ownsRow b 36 2 v n (encO l)) : n = l.length := by
  have := h.1
  rw [encO_length] at this
  omega

set_option maxRecDepth 100000 in
set_option maxHeartbeats 1000000 in
theorem forgetR_ok {w : World} {r : Nat} {G : List Nat} {l A B : List One} {x : ByteArray} (h : IsRef w r G l) (hl : l = A ++ (true, x) :: B) (m : Int) (hm : m = (count true A : Nat)) (hn : l.length ≤ 500000) :
    Calls Try.prog 17 #[.pointer (some ⟨r, 0, none⟩), .int .i64 m] w fun e w' => e = .returned (.tuple #[]) ∧ GoesR w w' r G (A ++ plain B) := by
  have hpos : 0 < l.length := by rw [hl, List.length_append, List.length_cons]; omega
  have hat : at' m 0 0 l = (A.length : Int) := by rw [hl, at_there A B x m 0 0 (by omega)]; simp
  have CALL := Lib.hid (at_ok h m (by omega))
  rw [hat] at CALL
  obtain ⟨v, h, rfl⟩ := h
  obtain ⟨g, c, rfl, hc⟩ := row_pos h.row hpos
  have cc : w.cell? ⟨r, 0, none⟩ = some (.slice (some ⟨g, 0, none⟩) l.length c) := cell_of_row w r 0 _ _ _ h.cellr
  have hal := (Below.refl w.heap.size w).alloc (Nat.le_refl _) (.cells #[] 36)
  have ccal : (w.alloc (.cells #[] 36)).cell? ⟨r, 0, none⟩ = some (.slice (some ⟨g, 0, none⟩) l.length c) := cell_of_row _ r 0 _ _ _ ((hal.block r (h.lt r (by simp [FootR]))).trans h.cellr)
  have o0 : (w.alloc (.cells #[] 36)).ownsRow w.heap.size 36 2 (.slice (some ⟨w.heap.size, 0, none⟩) 0 0) 0 (encO []) := World.ownsRow_made w #[] 0 (Nat.le_refl _) (Nat.zero_le _) rfl
  have hrow1 : ORow (w.alloc (.cells #[] 36)) 0 (.slice (some ⟨g, 0, none⟩) l.length c) (A ++ (true, x) :: B) := by rw [← hl]; exact World.ownsRow.alloc h.row _
  have hAl : A.length < l.length := by rw [hl]; simp
  obtain ⟨v1, w2, r1, o1, gr1⟩ := append_ones w.heap.size _ 0 A.length c ⟨g, 0, none⟩ [] A _ o0 rfl (front_cells hrow1) (by omega) (by simp)
  obtain ⟨a1, c1, rfl⟩ := slice_shape o1
  rw [List.nil_append, Nat.zero_add] at o1
  rw [Nat.zero_add] at r1
  have b2 : Below w.heap.size w w2 := hal.grown gr1 (by simp) (fun y hy => (o0.lt y hy).1)
  have R1 := Lib.hid r1
  have O1 := Lib.hid o1
  have B2 := Lib.hid b2
  have HH := Lib.hid h
  have HL := Lib.hid hl
  have HN := Lib.hid hn
  have q1 : (A.length : Int) ≤ (c : Int) := by omega
  have q2 : A.length ≤ c := by omega
  clear h hl hn hal o0 hrow1 r1 o1 gr1 b2 hat hpos hm hc hAl
  go_enter Try.func17, Try.ntmps17
  go_wp2_with fail
  refine CALL.out.mono ?_
  rintro e wx ⟨rfl, rfl⟩
  go_wp2_with (at_builtin; refine Lib.wpList_append_run _ rfl _ _ 27 27 rfl _ _ rfl rfl _ _ R1.out ?_)
  clear R1 CALL cc ccal q1 q2
  go_loopg [5, 6] (B.length + 1) (fun j s5 s6 wr => ∃ (P Q : List One) (a : Option Addr) (n k : Nat), (true, x) :: B = P ++ Q ∧ Q.length ≤ j ∧ s5 = .slice a n k ∧ s6 = .int .i64 ((A ++ P).length : Nat) ∧ wr.ownsRow wx.heap.size 36 2 (.slice a n k) n (encO (A ++ plain P)) ∧ Below wx.heap.size wx wr)
  case atStart => exact ⟨[], (true, x) :: B, _, _, _, rfl, by simp, rfl, by simp, by simpa [plain] using O1.out, B2.out⟩
  case round =>
    obtain ⟨P, Q, a, n, k, hp, hq, rfl, rfl, ho, hb⟩ := hrel
    have hr : RefAt wr r (.slice (some ⟨g, 0, none⟩) l.length c) l := HH.out.frame fun b hb2 => hb.block b (HH.out.lt b hb2)
    have c0 : wr.cell? ⟨r, 0, none⟩ = some (.slice (some ⟨g, 0, none⟩) l.length c) := cell_of_row wr r 0 _ _ _ hr.cellr
    have hlq : l = (A ++ P) ++ Q := by rw [HL.out, hp]; simp
    have hN := HN.out
    have hnl := own_len ho
    cases Q with
    | nil =>
      have hlt : ¬ (((A ++ P).length : Int) < (l.length : Int)) := by rw [hlq]; simp
      have hpb : plain P = plain B := by have e : P = (true, x) :: B := by simpa using hp.symm
                                         rw [e]; rfl
      rw [hpb] at ho hnl
      subst hnl
      have f0 : wr.frozen? ⟨r, 0, none⟩ = false := by simp [World.frozen?, hr.cellr]
      have FIN : Hid (GoesR wx (wr.setCell ⟨r, 0, none⟩ (.slice a (A ++ plain B).length k)) r _ (A ++ plain B)) := store_row HH.out hb (Nat.le_refl _) ho
      generalize hXX : (A ++ P).length = X at *
      generalize hZZ : (A ++ plain B).length = Z at *
      clear ho hb hr hlq hp hq hpb hN hXX hZZ
      go_wp2_with fail
      go_end0
      exact ⟨rfl, FIN.out⟩
    | cons y Q =>
      obtain ⟨q, s⟩ := y
      have hlt : ((A ++ P).length : Int) < (l.length : Int) := by rw [hlq]; simp; omega
      have hrow := hr.row
      rw [hlq] at hrow
      obtain ⟨k0, k1, -⟩ := ORow.at hrow
      have e5 : (true, x) :: B = (P ++ [(q, s)]) ++ Q := by rw [hp]; simp
      have e6 : (A ++ (P ++ [(q, s)])).length = (A ++ P).length + 1 := by simp; omega
      have hX : (A ++ P).length ≤ 1000000 := by rw [hlq] at hN; simp at hN ⊢; omega
      have hthl : n + 1 ≤ 1000000 := by
        have h1 := plain_len P
        rw [hlq] at hN
        rw [hnl]
        simp at hN ⊢; omega
      have HQ := Lib.hid hq
      have E5 := Lib.hid e5
      generalize hXX : (A ++ P).length = X at *
      cases q with
      | true =>
        have FIN : Hid (wr.ownsRow wx.heap.size 36 2 (.slice a n k) n (encO (A ++ plain (P ++ [(true, s)]))) ∧ Below wx.heap.size wx wr) := by rw [plain_true]; exact ⟨ho, hb⟩
        clear ho hb hr hlq hp hq hrow e5 hN hthl hnl
        go_wp2_with fail
        go_roundg Q.length
        case measure => have := HQ.out; simp at this; omega
        case rel => exact ⟨P ++ [(true, s)], Q, a, n, k, E5.out, Nat.le_refl _, rfl, by rw [e6]; simp, FIN.out.1, FIN.out.2⟩
      | false =>
        have hB1 : wx.heap.size ≤ (wr.alloc (.cells #[.bool false, .string s] 36)).heap.size := by have := hb.size; simp; omega
        obtain ⟨v', w', r1, o1, gr⟩ := append_ones wx.heap.size _ n 1 1 ⟨wr.heap.size, 0, none⟩ (A ++ plain P) [(false, s)] (wr.alloc (.cells #[.bool false, .string s] 36)) (World.ownsRow.alloc ho _) rfl (one_cells (heap_alloc_new wr _)) (by omega) hB1
        obtain ⟨a', c', rfl⟩ := slice_shape o1
        have FIN : Hid (w'.ownsRow wx.heap.size 36 2 (.slice a' (n + 1) c') (n + 1) (encO (A ++ plain (P ++ [(false, s)]))) ∧ Below wx.heap.size wx w') := by
          rw [plain_false, ← List.append_assoc]
          exact ⟨o1, (hb.alloc (by have := hb.size; omega) _).grown gr hB1 (fun b hb2 => (ho.lt b hb2).1)⟩
        have R1 := Lib.hid r1
        clear r1 o1 gr ho hb hr hlq hp hq hrow e5 hB1 hN hthl hnl
        go_wp2_with (at_builtin; refine Lib.wpList_append_run _ rfl _ _ 27 27 rfl _ _ rfl rfl _ _ R1.out ?_)
        go_roundg Q.length
        case measure => have := HQ.out; simp at this; omega
        case rel => exact ⟨P ++ [(false, s)], Q, a', n + 1, c', E5.out, Nat.le_refl _, rfl, by rw [e6]; simp, FIN.out.1, FIN.out.2⟩

theorem rebase_le {w : World} {b b' : Nat} {v : Value} {n : Nat} {xs : List Value} {e : TypeId} {z : Nat} (h : w.ownsRow b e z v n xs) (hb : b' ≤ b) : w.ownsRow b' e z v n xs := by
  refine ⟨h.1, ?_⟩
  rcases h.2 with hn | ⟨g, cap, cur, h1, h0, h2⟩
  · exact .inl hn
  · exact .inr ⟨g, cap, cur, h1, Nat.le_trans hb h0, h2⟩

/-- a call that leaves the world as it is, as one step of a region that draws. -/
theorem step_call_same {P : Program} {ops : Array Oper} {o : Oper} {a : Act} {w : World} {K : Act → World → Prop} {Q : Exit → Act → World → Prop} {E : Prop}
    (hg : o.guard = none) (f : FuncId) (args : Array Value) (hrun : (execOp a.eval o).run P w = .ok (.enter f args) w) (v : Value) (hc : Calls P f args w fun e w' => e = .returned v ∧ w' = w) (hK : K (a.put o.dst v) w) :
    if Region.wanted o (yielded ops a.tmps) = true then Oper.wp P o a w K Q else E := by
  have hw : Region.wanted o (yielded ops a.tmps) = true := by simp [Region.wanted, hg]
  rw [if_pos hw]
  unfold Oper.wp
  rw [hrun, Oper.upon_enter]
  refine hc.mono fun e w' hh => ?_
  obtain ⟨rfl, rfl⟩ := hh
  exact hK

set_option maxRecDepth 100000 in
set_option maxHeartbeats 1000000 in
theorem cutR_ok {w : World} {r : Nat} {G : List Nat} {l A B : List One} {x : ByteArray} (h : IsRef w r G l) (hl : l = A ++ (true, x) :: B) (m : Int) (hm : m = (count true A : Nat)) (hn : l.length ≤ 500000) :
    Calls Try.prog 15 #[.pointer (some ⟨r, 0, none⟩), .int .i64 m] w fun e w' => ∃ v, e = .returned v ∧ w'.ownsRow w.heap.size 9 1 v (things B).length (texts (things B).reverse) ∧ GoesR w w' r G A := by
  have SINCE := Lib.hid (sinceR_ok h hl m hm (by omega))
  have HH := Lib.hid h
  have HN := Lib.hid hn
  have hB : (things B).length ≤ 500000 := by
    have h1 := things_len B
    have h2 := count_le false B
    rw [hl] at hn; simp at hn; omega
  have HBL := Lib.hid hB
  have HLL := Lib.hid hl
  have HMM := Lib.hid hm
  clear h hB hn hl hm
  go_enter Try.func15, Try.ntmps15
  go_wp2_with fail
  refine SINCE.out.mono ?_
  rintro e w1 ⟨v, rfl, o1, b1⟩
  obtain ⟨a1, c1, rfl⟩ := slice_shape o1
  have hal := (Below.refl w1.heap.size w1).alloc (Nat.le_refl _) (.cells #[] 9)
  have o0 : (w1.alloc (.cells #[] 9)).ownsRow w1.heap.size 9 1 (.slice (some ⟨w1.heap.size, 0, none⟩) 0 0) 0 (texts []) := World.ownsRow_made w1 #[] 0 (Nat.le_refl _) (Nat.zero_le _) rfl
  have e0 : ((things B).drop (things B).length).reverse = [] := by rw [List.drop_length]; rfl
  have O0 : Hid ((w1.alloc (.cells #[] 9)).ownsRow w1.heap.size 9 1 (.slice (some ⟨w1.heap.size, 0, none⟩) 0 0) 0 (texts ((things B).drop (things B).length).reverse)) := by rw [e0]; exact o0
  have O1 := Lib.hid o1
  have B1 := Lib.hid b1
  have AL := Lib.hid hal
  clear o1 b1 hal o0 SINCE e0
  generalize htl : (things B).length = N at *
  have HT := Lib.hid htl
  have hNs : N ≤ 500000 := HBL.out
  clear htl
  go_wp2_with fail
  go_loopg [6, 7] N (fun j s6 s7 wr => ∃ (k : Nat) (z : Int) (a : Option Addr) (n c : Nat), k ≤ j ∧ k ≤ N ∧ z = (k : Int) - 1 ∧ s7 = .int .i64 z ∧ s6 = .slice a n c ∧ wr.ownsRow w1.heap.size 9 1 (.slice a n c) n (texts ((things B).drop k).reverse) ∧ Below w1.heap.size w1 wr)
  case atStart => exact ⟨N, (N : Int) - 1, _, _, _, Nat.le_refl _, Nat.le_refl _, rfl, rfl, rfl, O0.out, AL.out⟩
  case round =>
    obtain ⟨k, z, a, n, c, hkj, hkN, hz, rfl, rfl, ho, hb⟩ := hrel
    have o1 := ownsRow_of_heap O1.out fun b hb2 => hb.block b (O1.out.lt b hb2).2
    have hT := HT.out
    have hl := HLL.out
    have hm := HMM.out
    have hB := HBL.out
    have hn := HN.out
    have hnl : n = N - k := by have := ho.1; simp [texts] at this; omega
    cases k with
    | succ k =>
      have hz2 : z = (k : Int) := by omega
      subst hz2
      have hkt : k < (things B).length := by omega
      obtain ⟨b2, off, rfl, _, hc⟩ := (Came.of_row o1).cell k hkt
      have hoff : off = 0 ∧ b2 < wr.heap.size := by
        obtain ⟨g', c', e, _⟩ := row_pos o1 (by omega)
        cases e
        exact ⟨rfl, (o1.lt _ rfl).2⟩
      obtain ⟨rfl, _⟩ := hoff
      rw [Nat.zero_add] at hc
      have hB1 : w1.heap.size ≤ (wr.alloc (.cells #[.string (things B)[k]] 9)).heap.size := by have := hb.size; simp; omega
      obtain ⟨v', w', r1, o2, gr⟩ := append_rows w1.heap.size _ n 1 1 (some ⟨wr.heap.size, 0, none⟩) ((things B).drop (k + 1)).reverse [(things B)[k]] (wr.alloc (.cells #[.string (things B)[k]] 9)) (World.ownsRow.alloc ho _) (fun h => by cases h) rfl ⟨fun i hi => ⟨wr.heap.size, 0, rfl, by simp, by
        have : i = 0 := by simp at hi; omega
        subst this
        exact cell_of_row _ _ 0 _ _ _ (heap_alloc_new wr _)⟩⟩ (by omega) hB1
      obtain ⟨a', c', rfl⟩ := slice_shape o2
      have e7 : ((things B).drop (k + 1)).reverse ++ [(things B)[k]] = ((things B).drop k).reverse := by rw [List.drop_eq_getElem_cons hkt, List.reverse_cons]
      rw [e7] at o2
      have FIN : Hid (w'.ownsRow w1.heap.size 9 1 (.slice a' (n + 1) c') (n + 1) (texts ((things B).drop k).reverse) ∧ Below w1.heap.size w1 w') :=
        ⟨o2, (hb.alloc (by have := hb.size; omega) _).grown gr hB1 (fun b hb2 => (ho.lt b hb2).1)⟩
      have R1 := Lib.hid r1
      have hkn : (k : Int) < (N : Int) := by omega
      have hk0 : (k : Int) ≥ 0 := by omega
      have HKJ := Lib.hid hkj
      clear r1 o2 gr ho hb o1 e7 hB1 hnl hT hz hkj hl hm hB hn
      go_wp2_with (at_builtin; refine Lib.wpList_append_run _ rfl _ _ 39 39 rfl _ _ rfl rfl _ _ R1.out ?_)
      go_roundg k
      case measure => have := HKJ.out; omega
      case rel => exact ⟨k, _, a', n + 1, c', Nat.le_refl _, by omega, rfl, rfl, rfl, FIN.out.1, FIN.out.2⟩
    | zero =>
      have hz2 : z = -1 := by omega
      subst hz2
      rw [Nat.sub_zero] at hnl
      subst hnl
      have bw : Below w.heap.size w wr := B1.out.trans (hb.mono B1.out.size)
      have hpos : 0 < l.length := by rw [hl, List.length_append, List.length_cons]; omega
      have hat : at' m 0 0 l = (A.length : Int) := by rw [hl, at_there A B x m 0 0 (by omega)]; simp
      obtain ⟨v, h, rfl⟩ := HH.out
      obtain ⟨g, c0, rfl, hc0⟩ := row_pos h.row hpos
      have hr : RefAt wr r (.slice (some ⟨g, 0, none⟩) l.length c0) l := h.frame fun b hb2 => bw.block b (h.lt b hb2)
      have hal := (Below.refl wr.heap.size wr).alloc (Nat.le_refl _) (.cells #[] 36)
      have hr2 : RefAt (wr.alloc (.cells #[] 36)) r (.slice (some ⟨g, 0, none⟩) l.length c0) l := hr.frame fun b hb2 => hal.block b (hr.lt b hb2)
      have CALL : Hid (∀ W : World, W.heap = wr.heap ∨ W.heap = (wr.alloc (.cells #[] 36)).heap → Calls Try.prog 9 #[.pointer (some ⟨r, 0, none⟩), .int .i64 m] W fun e w' => e = .returned (.int .i64 A.length) ∧ w' = W) := fun W hW => by
        rw [← hat]
        rcases hW with hW | hW
        · exact at_ok ⟨_, hr.frame fun b _ => by rw [hW], rfl⟩ m (by omega)
        · exact at_ok ⟨_, hr2.frame fun b _ => by rw [hW], rfl⟩ m (by omega)
      have d0 : wr.cell? ⟨r, 0, none⟩ = some (.slice (some ⟨g, 0, none⟩) l.length c0) := cell_of_row _ r 0 _ _ _ hr.cellr
      have d1 : (wr.alloc (.cells #[] 36)).cell? ⟨r, 0, none⟩ = some (.slice (some ⟨g, 0, none⟩) l.length c0) := cell_of_row _ r 0 _ _ _ hr2.cellr
      have hAl : A.length < l.length := by rw [hl]; simp
      have o0 : (wr.alloc (.cells #[] 36)).drew.ownsRow wr.heap.size 36 2 (.slice (some ⟨wr.heap.size, 0, none⟩) 0 0) 0 (encO []) := World.ownsRow_made wr #[] 0 (Nat.le_refl _) (Nat.zero_le _) rfl
      have hrow1 : ORow (wr.alloc (.cells #[] 36)).drew 0 (.slice (some ⟨g, 0, none⟩) l.length c0) (A ++ (true, x) :: B) := by have := hr2.row; rw [hl] at this ⊢; exact this
      obtain ⟨v1, w2, r1, o2, gr1⟩ := append_ones wr.heap.size _ 0 A.length c0 ⟨g, 0, none⟩ [] A _ o0 rfl (front_cells hrow1) (by omega) (by simp [World.drew])
      obtain ⟨a2, c2, rfl⟩ := slice_shape o2
      rw [List.nil_append, Nat.zero_add] at o2
      rw [Nat.zero_add] at r1
      have bdr : Below wr.heap.size wr (wr.alloc (.cells #[] 36)).drew := ⟨hal.os, hal.tape, hal.output, hal.size, hal.block⟩
      have b2 : Below wr.heap.size wr w2 := bdr.grown gr1 bdr.size (fun y hy => (o0.lt y hy).1)
      have bw2 : Below w.heap.size w w2 := bw.trans (b2.mono bw.size)
      have hcr : w2.heap[r]? = some (.cells #[.slice (some ⟨g, 0, none⟩) l.length c0] 29 (0, 0)) := (bw2.block r (h.lt r (by simp [FootR]))).trans h.cellr
      have d2 : w2.cell? ⟨r, 0, none⟩ = some (.slice (some ⟨g, 0, none⟩) l.length c0) := cell_of_row _ r 0 _ _ _ hcr
      have f2 : w2.frozen? ⟨r, 0, none⟩ = false := by simp [World.frozen?, hcr]
      have FIN : Hid (GoesR w (w2.setCell ⟨r, 0, none⟩ (.slice a2 A.length c2)) r (FootR r (.slice (some ⟨g, 0, none⟩) l.length c0)) A) := store_row h bw2 bw.size o2
      have OUT : Hid ((w2.setCell ⟨r, 0, none⟩ (.slice a2 A.length c2)).ownsRow w.heap.size 9 1 (.slice a n c) n (texts (things B).reverse)) := by
        have h1 := rebase_le ho B1.out.size
        rw [List.drop_zero] at h1
        refine ownsRow_of_heap h1 fun b hb2 => ?_
        rw [heap_setCell_other _ _ b _ (fun e => by have h2 := (h1.lt b hb2).1; have h3 := h.lt r (by simp [FootR]); have e2 : b = r := e; omega)]
        exact b2.block b (h1.lt b hb2).2
      have OUT2 : Hid ((w2.setCell ⟨r, 0, none⟩ (.slice a2 A.length c2)).ownsRow w.heap.size 9 1 (.slice a n c) (things B).length (texts (things B).reverse)) := by rw [hT]; exact OUT.out
      clear OUT
      have R1 := Lib.hid r1
      have q1 : (A.length : Int) ≤ (c0 : Int) := by omega
      have q2 : A.length ≤ c0 := by omega
      clear h hr hr2 hal o0 hrow1 r1 o2 gr1 b2 bw2 hat hpos hc0 hAl bdr ho hb o1 hkj hkN hz hT hcr bw HH O0 O1 B1 AL HT HN hm hl hB hn HBL HLL HMM
      go_wp2_with fail
      go_region_law (first | (refine step_append_runI rfl _ _ 27 27 rfl _ _ ?h3 ?h4 R1.out ?_; (case h3 => rfl); (case h4 => rfl)) | (refine step_call_same rfl 9 #[.pointer (some ⟨r, 0, none⟩), .int .i64 m] ?h1 _ (CALL.out _ ?h2) ?_; (case h1 => kernel_rfl); (case h2 => first | exact .inl rfl | exact .inr rfl)))
      all_goals go_wp2_with fail
      all_goals go_ret
      all_goals exact ⟨.slice a n c, rfl, OUT2.out, FIN.out⟩
end Go.Proofs.Ytekbfjdjgpgmpaa
