/- The iterator over a leaf's pairs: the closure that counts, the walk, the iterator. -/
import Derived.Test.YtcboakmfabdeoaaR1
import Derived.StillTailTactics
namespace Go.Proofs.Ytcboakmfabdeoaa
open Go.RowKit Go.Shelf

attribute [local go_sem] Oper.semAt_some

theorem room_of_none {F : Fence} (hd : F.depth = none) (k : Nat) : F.room k := fun d h => by rw [hd] at h; cases h
theorem RoundIn.anyDepth {F : Fence} (hd : F.depth = none) {m m' : Nat} {P : Program} {l : Nat} {f : FuncId} {tmps : Array Value} {assign body : Code} {w : World} {R : Ending → World → Prop}
    (h : RoundIn F m P l f tmps assign body w R) : RoundIn F m' P l f tmps assign body w R := ⟨h.1, fun c cs _ => h.2 c cs (room_of_none hd _)⟩
theorem YieldAt.anyDepth {F : Fence} (hd : F.depth = none) {m : Nat} (m' : Nat) {P : Program} {l : Nat} {args : Array Value} {W : World} {R : Ending → World → Prop} (h : YieldAt F m P l args W R) : YieldAt F m' P l args W R := by
  obtain ⟨fn, tmps, assign, body, hy, hR⟩ := h
  exact ⟨fn, tmps, assign, body, hy, RoundIn.anyDepth hd hR⟩

abbrev encs2 (x : Pr) : Array Value := #[.int .i64 x.1, .string x.2]

/-- What a round keeps: every block of cells that is neither a row of int64 nor a variable of type []int64 (nor a row of strings, nor a variable of that type). -/
def KeepT (W W' : World) : Prop := W.heap.size ≤ W'.heap.size ∧ ∀ (b : Nat) (cs : Array Value) (ty : TypeId), W.heap[b]? = some (.cells cs ty (0, 0)) → ty ≠ 2 → ty ≠ 47 → ty ≠ 9 → ty ≠ 49 → W'.heap[b]? = W.heap[b]?

theorem KeepT.refl (W : World) : KeepT W W := ⟨Nat.le_refl _, fun _ _ _ _ _ _ _ _ => rfl⟩
theorem KeepT.trans {A B C : World} (h : KeepT A B) (k : KeepT B C) : KeepT A C :=
  ⟨Nat.le_trans h.1 k.1, fun b cs ty hb h1 h2 h3 h4 => (k.2 b cs ty ((h.2 b cs ty hb h1 h2 h3 h4).trans hb) h1 h2 h3 h4).trans (h.2 b cs ty hb h1 h2 h3 h4)⟩
theorem KeepT.putObj (W : World) (l : Nat) (o o' : Obj) (hl : W.heap[l]? = some o) (ho : o.isCells = false) : KeepT W (W.putObj l o') :=
  ⟨by simp, fun b cs ty hb _ _ _ _ => World.putObj_heap_other (fun e => by subst e; rw [hl] at hb; cases hb; simp [Obj.isCells] at ho)⟩

set_option maxHeartbeats 1000000 in
theorem from11_in (F : Fence) (hd : F.depth = none) (n : Nat) (h55 : F.fn 55) (hro : F.round = none) (l L Y : Nat) (J : List Pr → World → Prop) (B : Nat) (hJa : AbidesB B J) (hBL : B ≤ L)
    (N : Nat) (hY : ∀ m pre x W, J pre W → pre.length < N → YieldAt F m Try.prog l (encs2 x) W fun e W' => e = .returned (.bool true) ∧ J (pre ++ [x]) W' ∧ KeepT W W')
    (k : Int) (s : ByteArray) (c : Nat) (hc : 1 ≤ c) (hc2 : c ≤ 1000000000) (pre : List Pr) (W : World) (hL : W.heap[L]? = some (.cells #[.int .i64 c] 3 (0, 0))) (hYb : W.heap[Y]? = some (.cells #[.func (.yield l) #[] #[]] 86 (0, 0))) (h0 : J pre W) (hlen : pre.length < N) :
    CallsIn F n Try.prog 55 #[.int .i64 k, .string s, .pointer (some ⟨L, 0, none⟩), .pointer (some ⟨Y, 0, none⟩)] W fun e W' =>
      e = .returned (.bool (decide (1 < c))) ∧ J (pre ++ [(k, s)]) W' ∧ W'.heap[L]? = some (.cells #[.int .i64 (c - 1 : Nat)] 3 (0, 0)) ∧ KeepT (W.setCell ⟨L, 0, none⟩ (.int .i64 (c - 1 : Nat))) W' := by
  refine callsIn_of_wp Try.func55 rfl h55 ?_ hro
  simp only [Try.ntmps55, List.size_toArray, List.length_cons, List.length_nil, Nat.reduceAdd, Nat.reduceSub, Array.replicate_succ, Array.replicate_zero, List.push_toArray, List.append_toArray, List.nil_append, List.cons_append]
  have l0 : W.cell? ⟨L, 0, none⟩ = some (.int .i64 c) := cell_of_row W L 0 _ _ _ hL
  have lf : W.frozen? ⟨L, 0, none⟩ = false := by simp [World.frozen?, hL]
  have hLY : Y ≠ L := by rintro rfl; rw [hL] at hYb; simp at hYb
  obtain ⟨W1, hW1⟩ : ∃ W1, W1 = W.setCell ⟨L, 0, none⟩ (.int .i64 ((c - 1 : Nat) : Int)) := ⟨_, rfl⟩
  have hL1 : W1.heap[L]? = some (.cells #[.int .i64 ((c - 1 : Nat) : Int)] 3 (0, 0)) := by rw [hW1]; exact heap_setCell_same W L 0 _ _ _ hL
  have hY1 : W1.heap[Y]? = some (.cells #[.func (.yield l) #[] #[]] 86 (0, 0)) := by rw [hW1, heap_setCell_other W _ Y _ hLY]; exact hYb
  have hJ1 : J pre W1 := hJa pre W W1 (some L) h0 (by rw [hW1]; exact ⟨rfl, rfl, rfl, by simp, fun k _ hk => heap_setCell_other W _ k _ (fun e => hk (by rw [e]))⟩) (fun r e => by cases e; exact ⟨hBL, _, hL, _, rfl⟩)
  have y1 : W1.cell? ⟨Y, 0, none⟩ = some (.func (.yield l) #[] #[]) := cell_of_row W1 Y 0 _ _ _ hY1
  have hcast : ((c - 1 : Nat) : Int) = (c : Int) - 1 := by omega
  have hw1 : W.setCell ⟨L, 0, none⟩ (.int .i64 ((c : Int) - 1)) = W1 := by rw [hW1, hcast]
  rw [← hW1]
  obtain ⟨fn, tmps, assign, body, hy, hR⟩ := hY (n - 1) pre (k, s) W1 hJ1 hlen
  dsimp only [encs2] at hy
  have HL1 := Lib.hid hL1
  have HC := Lib.hid hcast
  clear hL hYb hW1 hL1 hY1 hJ1 h0 hY hcast
  have hdd : ∀ k : Nat, (F.depth.isSome = true → 1 ≤ k) := fun k h => by rw [hd] at h; cases h
  gi_wp2_with fail
  refine hR.mono ?_
  rintro e W2 ⟨rfl, hJ2, hK2⟩
  have l2h : W2.heap[L]? = some (.cells #[.int .i64 ((c - 1 : Nat) : Int)] 3 (0, 0)) := (hK2.2 L _ 3 HL1.out (by decide) (by decide) (by decide) (by decide)).trans HL1.out
  have l2 : W2.cell? ⟨L, 0, none⟩ = some (.int .i64 ((c : Int) - 1)) := by rw [← HC.out]; exact cell_of_row W2 L 0 _ _ _ l2h
  have FIN : Hid (J (pre ++ [(k, s)]) W2 ∧ W2.heap[L]? = some (.cells #[.int .i64 ((c - 1 : Nat) : Int)] 3 (0, 0)) ∧ KeepT W1 W2) := ⟨hJ2, l2h, hK2⟩
  clear hJ2 hK2 l2h hy hR hw1 y1 l0 lf
  by_cases hc1 : 1 < c
  · gi_wp2_with fail
    go_ret
    exact ⟨by simp; omega, FIN.out⟩
  · gi_wp2_with fail
    go_ret
    exact ⟨by simp; omega, FIN.out⟩
theorem KeepT.rec {W W' : World} (h : KeepT W W') {p : Nat} {vp vk : Value} {n : Nat} (hr : Rec W p vp vk n) : Rec W' p vp vk n := (h.2 p _ 68 hr (by decide) (by decide) (by decide) (by decide)).trans hr
theorem KeepT.prow {W W' : World} (h : KeepT W W') {v : Value} {l : List Pr} (hr : PRow W v l) : PRow W' v l := ownsRow_of_heap hr fun b hb => by
  rcases hr.cases with ⟨rfl, _⟩ | ⟨g, cap, cur, rfl, hg, _⟩
  · cases hb
  · have : g = b := by simpa [Value.ownBlock] using hb
    subst this
    exact h.2 g cur 61 hg (by decide) (by decide) (by decide) (by decide)
theorem KeepT.setInt {W : World} {L : Nat} {cs : Array Value} (hL : W.heap[L]? = some (.cells cs 3 (0, 0))) (v : Value) {p : Nat} {cs2 : Array Value} {ty : TypeId} (hp : W.heap[p]? = some (.cells cs2 ty (0, 0))) (ht : ty ≠ 3) : (W.setCell ⟨L, 0, none⟩ v).heap[p]? = W.heap[p]? :=
  heap_setCell_other W _ p _ (fun e => by have e2 : p = L := e; subst e2; rw [hL] at hp; simp at hp; exact ht hp.2.symm)

theorem from11 (l L Y : Nat) (J : List Pr → World → Prop) (B : Nat) (hJa : AbidesB B J) (hBL : B ≤ L)
    (N : Nat) (hY : ∀ m pre x W, J pre W → pre.length < N → YieldAt Fence.wide m Try.prog l (encs2 x) W fun e W' => e = .returned (.bool true) ∧ J (pre ++ [x]) W' ∧ KeepT W W')
    (k : Int) (s : ByteArray) (c : Nat) (hc : 1 ≤ c) (hc2 : c ≤ 1000000000) (pre : List Pr) (W : World) (hL : W.heap[L]? = some (.cells #[.int .i64 c] 3 (0, 0))) (hYb : W.heap[Y]? = some (.cells #[.func (.yield l) #[] #[]] 86 (0, 0))) (h0 : J pre W) (hlen : pre.length < N) :
    Calls Try.prog 55 #[.int .i64 k, .string s, .pointer (some ⟨L, 0, none⟩), .pointer (some ⟨Y, 0, none⟩)] W fun e W' =>
      e = .returned (.bool (decide (1 < c))) ∧ J (pre ++ [(k, s)]) W' ∧ W'.heap[L]? = some (.cells #[.int .i64 (c - 1 : Nat)] 3 (0, 0)) ∧ KeepT (W.setCell ⟨L, 0, none⟩ (.int .i64 (c - 1 : Nat))) W' :=
  callsIn_wide.1 (from11_in Fence.wide rfl 0 trivial rfl l L Y J B hJa hBL N hY k s c hc hc2 pre W hL hYb h0 hlen)

set_option maxHeartbeats 1000000 in
set_option maxRecDepth 100000 in
theorem walk_leaf (t l L Y : Nat) (J : List Pr → World → Prop) (B : Nat) (hJa : AbidesB B J) (hBL : B ≤ L)
    (N : Nat) (hY : ∀ m pre x W, J pre W → pre.length < N → YieldAt Fence.wide m Try.prog l (encs2 x) W fun e W' => e = .returned (.bool true) ∧ J (pre ++ [x]) W' ∧ KeepT W W')
    (x : Kid) (k : Int) (c : Nat) (hc : 1 ≤ c) (hc2 : c ≤ 1000000000) (pre : List Pr) (W : World) (hx : IsT t W 0 x) (hs : Rising x.l) (hn : x.l.length ≤ 1000)
    (hL : W.heap[L]? = some (.cells #[.int .i64 c] 3 (0, 0))) (hYb : W.heap[Y]? = some (.cells #[.func (.yield l) #[] #[]] 86 (0, 0))) (h0 : J pre W) (hNN : pre.length + x.l.length ≤ N) :
    Calls Try.prog 54 #[.pointer (some ⟨x.p, 0, none⟩), .int .i64 k, .func (.func 55) #[] #[.pointer (some ⟨L, 0, none⟩), .pointer (some ⟨Y, 0, none⟩)]] W fun e W' =>
      (∃ b, e = .returned (.bool b)) ∧ J (pre ++ (x.l.drop (pos x.l k)).take c) W' := by
  obtain ⟨vl, r1, r2, r3, r4⟩ := hx
  obtain ⟨hb, hhb⟩ : ∃ hb, hasB x.l k = hb := ⟨_, rfl⟩
  have c1 := r1.c1
  have HS := Lib.hid hs
  have HH := Lib.hid hhb
  have hp := pos_le x.l k
  clear hs hhb
  go_enter Try.func54, Try.ntmps54
  go_wp2_with fail
  refine (place_at x.p vl _ _ x.l k hb _ r1 r2 HS.out (by omega) HH.out).mono ?_
  rintro e W1 ⟨rfl, hb1⟩
  have c1' := (hb1.cell (p := ⟨x.p, 1, none⟩) (World.block_lt_of_cell? W _ c1)).trans c1
  have hJ1 : J pre W1 := hJa pre W W1 none h0 ⟨hb1.os, hb1.tape, hb1.output, hb1.size, fun k hk _ => hb1.block k hk⟩ (fun r e => by cases e)
  have ok1 : Rec W1 x.p vl (.slice none 0 0) x.l.length ∧ PRow W1 vl x.l ∧ W1.heap[Y]? = some (.cells #[.func (.yield l) #[] #[]] 86 (0, 0)) ∧ W1.heap[L]? = some (.cells #[.int .i64 c] 3 (0, 0)) :=
    ⟨(hb1.block _ (Array.getElem?_eq_some_iff.1 r1).1).trans r1, ownsRow_of_heap r2 (fun b hb => hb1.block b (r2.lt hb)), (hb1.block _ (Array.getElem?_eq_some_iff.1 hYb).1).trans hYb, (hb1.block _ (Array.getElem?_eq_some_iff.1 hL).1).trans hL⟩
  have OK1 := Lib.hid ok1
  have HJ1 := Lib.hid hJ1
  have HJA := Lib.hid hJa
  have HY := Lib.hid hY
  have HNN := Lib.hid hNN
  clear hNN r1 r2 r3 r4 c1 hb1 hJ1 ok1 hL hYb h0 hJa hY
  generalize hpp : pos x.l k = q at *
  have HQ := Lib.hid hpp
  clear hpp
  go_wp2_with fail
  refine (leaf_yes x.p 0 none _ c1').mono ?_
  rintro e w' ⟨rfl, rfl⟩
  obtain ⟨a, na, ca, hvl, hna⟩ : ∃ a n c, vl = .slice a n c ∧ n = x.l.length := by
    rcases OK1.out.2.1.cases with ⟨h, h2⟩ | ⟨g, cap, cur, h, _⟩
    · exact ⟨none, 0, 0, h, by rw [h2]; rfl⟩
    · exact ⟨_, _, _, h, rfl⟩
  subst hvl
  have HNA := Lib.hid hna
  have hnb : na ≤ 1000 := by omega
  have hqa : q ≤ na := by omega
  clear hna hp
  go_wp2_with fail
  go_loopw [7] (fun s7 wr => ∃ (j : Nat) (c' : Nat), s7 = .int .i64 j ∧ q ≤ j ∧ j ≤ na ∧ 1 ≤ c' ∧ c' ≤ c ∧ Hid (c' + (j - q) = c) ∧ Hid (J (pre ++ (x.l.drop q).take (j - q)) wr) ∧
      Hid (Rec wr x.p (.slice a na ca) (.slice none 0 0) x.l.length ∧ PRow wr (.slice a na ca) x.l ∧ wr.heap[Y]? = some (.cells #[.func (.yield l) #[] #[]] 86 (0, 0)) ∧ wr.heap[L]? = some (.cells #[.int .i64 c'] 3 (0, 0))))
    (fun s7 _ => na - (intOf s7).toNat)
  case atStart => exact ⟨q, c, rfl, Nat.le_refl _, hqa, hc, Nat.le_refl _, (by omega : c + (q - q) = c), (by rw [Nat.sub_self]; simpa using HJ1.out : J (pre ++ (x.l.drop q).take (q - q)) _), OK1.out⟩
  case round =>
    clear OK1 HJ1 c1'
    obtain ⟨j, c', rfl, hqj, hjn, hc1, hcc, HC, HJ, OK⟩ := hrel
    have c0 := OK.out.1.c0
    have c1 := OK.out.1.c1
    by_cases hlt : j < na
    · obtain ⟨g, cap, e1, e2⟩ : ∃ g cap, (Value.slice a na ca) = .slice (some ⟨g, 0, none⟩) na cap ∧ RowP wr g x.l := by
        rcases OK.out.2.1.cases with ⟨h, h2⟩ | ⟨g, cap, cur, h, _⟩
        · have := HNA.out; rw [h2] at this; simp at this; omega
        · have hr := OK.out.2.1
          rw [h] at hr
          exact ⟨g, cap, by rw [h, ← HNA.out], hr.row⟩
      simp only [Value.slice.injEq, true_and] at e1
      obtain ⟨rfl, rfl⟩ := e1
      obtain ⟨pr, hpr, k1, k2⟩ := e2.getAt j (by have := HNA.out; omega)
      have HPR := Lib.hid hpr
      clear e2 hpr
      have hN : c' ≤ 1000000000 := by omega
      have call := from11 l L Y J B HJA.out hBL N HY.out pr.1 pr.2 c' hc1 hN (pre ++ (x.l.drop q).take (j - q)) wr.drew OK.out.2.2.2 OK.out.2.2.1
        (HJA.out _ wr wr.drew none HJ.out ⟨rfl, rfl, rfl, Nat.le_refl _, fun k _ _ => rfl⟩ (fun r e => by cases e)) (by have := HNA.out; have := HNN.out; rw [List.length_append, List.length_take]; omega)
      have tk : (x.l.drop q).take (j + 1 - q) = (x.l.drop q).take (j - q) ++ [pr] := by
        rw [show j + 1 - q = (j - q) + 1 by omega, List.take_add_one, List.getElem?_drop, show q + (j - q) = j by omega, HPR.out]; rfl
      have TK := Lib.hid tk
      have keep : ∀ W2, KeepT (wr.drew.setCell ⟨L, 0, none⟩ (.int .i64 (c' - 1 : Nat))) W2 → Rec W2 x.p (.slice (some ⟨g, 0, none⟩) na ca) (.slice none 0 0) x.l.length ∧ PRow W2 (.slice (some ⟨g, 0, none⟩) na ca) x.l ∧ W2.heap[Y]? = some (.cells #[.func (.yield l) #[] #[]] 86 (0, 0)) := fun W2 hK => by
        obtain ⟨o1, o2, o3, o4⟩ := OK.out
        have q1 : Rec (wr.drew.setCell ⟨L, 0, none⟩ (.int .i64 (c' - 1 : Nat))) x.p (.slice (some ⟨g, 0, none⟩) na ca) (.slice none 0 0) x.l.length := (KeepT.setInt (W := wr.drew) o4 _ o1 (by decide)).trans o1
        have q2 : PRow (wr.drew.setCell ⟨L, 0, none⟩ (.int .i64 (c' - 1 : Nat))) (.slice (some ⟨g, 0, none⟩) na ca) x.l := ownsRow_of_heap o2 fun b hb => by
          rcases o2.cases with ⟨h, _⟩ | ⟨g', cap', cur', h, hg', _⟩
          · cases h
          · simp only [Value.slice.injEq, Option.some.injEq, Addr.mk.injEq] at h
            obtain ⟨⟨rfl, _⟩, _⟩ := h
            have : g = b := by simpa [Value.ownBlock] using hb
            subst this
            exact KeepT.setInt (W := wr.drew) o4 _ hg' (by decide)
        have q3 := (KeepT.setInt (W := wr.drew) o4 (.int .i64 (c' - 1 : Nat)) o3 (by decide)).trans o3
        exact ⟨hK.rec q1, hK.prow q2, (hK.2 Y _ 86 q3 (by decide) (by decide) (by decide) (by decide)).trans q3⟩
      have KEEP := Lib.hid keep
      clear tk keep
      by_cases hc' : 1 < c'
      · rw [show decide (1 < c') = true by simpa using hc'] at call
        have CALL := Lib.hid call
        clear call
        go_wp2_with fail
        go_still_tail 17, (by kernel_rfl)
        change wpList _ _ _ _ _ wr.drew
        go_wp2_with fail
        refine CALL.out.mono ?_
        rintro e W2 ⟨rfl, h2, h3, h4⟩
        obtain ⟨o1, o2, o3⟩ := KEEP.out W2 h4
        have c1' := o1.c1
        have OK2 := Lib.hid (And.intro o1 (And.intro o2 (And.intro o3 h3)))
        have HJ2 := Lib.hid h2
        clear h2 h3 h4 o1 o2 o3 c0 c1 k1 k2
        go_wp2_with fail
        refine (leaf_yes x.p 0 none _ c1').mono ?_
        rintro e w' ⟨rfl, rfl⟩
        go_wp2_with fail
        go_roundw
        case rel =>
          refine ⟨j + 1, c' - 1, by go_num, by omega, by omega, by omega, by omega, ?_, ?_, OK2.out⟩
          · have := HC.out; show c' - 1 + (j + 1 - q) = c; omega
          · show J (pre ++ (x.l.drop q).take (j + 1 - q)) W2
            rw [TK.out, ← List.append_assoc]; exact HJ2.out
        case measure => simp [intOf]; omega
      · rw [show decide (1 < c') = false by simpa using hc'] at call
        have CALL := Lib.hid call
        clear call
        go_wp2_with fail
        go_still_tail 17, (by kernel_rfl)
        change wpList _ _ _ _ _ wr.drew
        go_wp2_with fail
        refine CALL.out.mono ?_
        rintro e W2 ⟨rfl, h2, h3, h4⟩
        have HJ2 := Lib.hid h2
        clear h2 h3 h4 c0 c1 k1 k2
        go_wp2_with fail
        go_ret
        refine ⟨⟨_, rfl⟩, ?_⟩
        have e : c = j + 1 - q := by have := HC.out; omega
        rw [HQ.out, e, TK.out, ← List.append_assoc]; exact HJ2.out
    · have hj : j = na := by omega
      have HE : Hid ((x.l.drop q).take c = (x.l.drop q).take (j - q)) := by
        show _ = _
        have h1 : (x.l.drop q).length = na - q := by rw [List.length_drop, HNA.out]
        have := HC.out
        rw [List.take_of_length_le (by omega), List.take_of_length_le (by omega)]
      clear hj
      go_wp2_with fail
      go_ret
      refine ⟨⟨_, rfl⟩, ?_⟩
      rw [HQ.out, HE.out]; exact HJ.out
end Go.Proofs.Ytcboakmfabdeoaa
