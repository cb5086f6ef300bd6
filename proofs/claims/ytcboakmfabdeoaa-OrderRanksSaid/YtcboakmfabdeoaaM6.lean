import Derived.Test.YtcboakmfabdeoaaM4
import Derived.Test.YtcboakmfabdeoaaM5

/- The walk in a tree of any height. -/
namespace Go.Proofs.Ytcboakmfabdeoaa
open Go.RowKit Go.Shelf

/-- what stands behind kid j. -/
def rest (ks : List Kid) (ps : List Pr) (j : Nat) : List Pr := joinR (ps.drop j) ((ks.drop (j + 1)).map Kid.l)

theorem rest_end (ks : List Kid) (ps : List Pr) : rest ks ps ps.length = [] := by simp [rest, joinR]
theorem rest_step {ks : List Kid} {ps : List Pr} {j : Nat} {q : Pr} {u : Kid} (hq : ps[j]? = some q) (hu : ks[j + 1]? = some u) : rest ks ps j = q :: (u.l ++ rest ks ps (j + 1)) := by
  obtain ⟨h1, h2⟩ := List.getElem?_eq_some_iff.1 hq
  obtain ⟨h3, h4⟩ := List.getElem?_eq_some_iff.1 hu
  unfold rest
  rw [List.drop_eq_getElem_cons h1, List.drop_eq_getElem_cons h3, h2, h4]
  simp [joinR]

theorem mem_joinR : ∀ (ps : List Pr) (ls : List (List Pr)), ls.length = ps.length → ∀ l ∈ ls, ∀ p ∈ l, p ∈ joinR ps ls
  | [], [], _, _, h, _, _ => by simp at h
  | [], _ :: _, h, _, _, _, _ => by simp at h
  | _ :: _, [], h, _, _, _, _ => by simp at h
  | q :: ps, a :: ls, h, l, hl, p, hp => by
    rw [joinR]
    rcases List.mem_cons.1 hl with rfl | hl
    · simp [hp]
    · have := mem_joinR ps ls (by simpa using h) l hl p hp
      simp [this]

theorem walk_facts {ks : List Kid} {ps : List Pr} {k : Int} (hlen : ks.length = ps.length + 1) (hs : Rising (join (ks.map Kid.l) ps)) (hps : Rising ps) :
    ∃ z, ks[pos ps k]? = some z ∧ (hasB ps k = true → (join (ks.map Kid.l) ps).drop (pos (join (ks.map Kid.l) ps) k) = rest ks ps (pos ps k)) ∧
      (hasB ps k = false → (join (ks.map Kid.l) ps).drop (pos (join (ks.map Kid.l) ps) k) = z.l.drop (pos z.l k) ++ rest ks ps (pos ps k)) ∧
      (∀ j u, pos ps k ≤ j → ks[j + 1]? = some u → pos u.l k = 0) ∧ ∀ u ∈ ks, Rising u.l ∧ u.l.length ≤ (join (ks.map Kid.l) ps).length := by
  obtain ⟨z, hz, _, g1, g2⟩ := pos_kid (k := k) hlen hs hps
  have hall : ∀ u ∈ ks, Rising u.l ∧ u.l.length ≤ (join (ks.map Kid.l) ps).length := by
    intro u hu
    obtain ⟨j, hj, rfl⟩ := List.getElem_of_mem hu
    obtain ⟨z', hz', e⟩ := kid_split hlen j hj
    obtain rfl : z' = ks[j] := by rw [List.getElem?_eq_getElem hj] at hz'; exact (Option.some.inj hz').symm
    have hl := congrArg List.length e
    have hr := hs
    rw [e] at hr
    refine ⟨(rising_append.1 (rising_append.1 hr).1).2.1, ?_⟩
    simp only [List.length_append] at hl
    omega
  obtain ⟨P1, P2, K1, z', K2, e1, e2, e3, e4, e5, e6, e7, e8, e9⟩ := node_split (k := k) hlen hs
  obtain rfl : z' = z := by
    have : ks[pos ps k]? = some z' := by rw [e2, ← e3, ← e4]; simp
    rw [hz] at this; exact (Option.some.inj this).symm
  have hr : rest ks ps (pos ps k) = joinR P2 (K2.map Kid.l) := by
    unfold rest
    have h1 : ps.drop (pos ps k) = P2 := by rw [← e3, e1]; simp
    have h2 : ks.drop (pos ps k + 1) = K2 := by rw [e2, ← e3, ← e4]; simp
    rw [h1, h2]
  have ha : ahead ks ps (pos ps k) = (joinL (K1.map Kid.l) P1).length := by
    have h1 : ks.take (pos ps k) = K1 := by rw [e2, ← e3, ← e4]; simp
    have h2 : ps.take (pos ps k) = P1 := by rw [← e3, e1]; simp
    unfold ahead; rw [h1, h2]
  refine ⟨z', hz, fun hh => ?_, fun hh => ?_, ?_, hall⟩
  · rw [g1 hh, ha, hr, e6, ← List.length_append]; exact List.drop_left' rfl
  · rw [g2 hh, ha, hr, e6, List.append_assoc, List.drop_append, List.drop_append]
    have h1 : (joinL (K1.map Kid.l) P1).drop ((joinL (K1.map Kid.l) P1).length + pos z'.l k) = [] := by simp
    have h2 := pos_le z'.l k
    rw [h1, show (joinL (K1.map Kid.l) P1).length + pos z'.l k - (joinL (K1.map Kid.l) P1).length = pos z'.l k by omega, show pos z'.l k - z'.l.length = 0 by omega]
    simp
  · intro j u hj hu
    have hu2 : u ∈ K2 := by
      have h1 : ks.drop (pos ps k + 1) = K2 := by rw [e2, ← e3, ← e4]; simp
      rw [← h1, List.mem_drop_iff_getElem]
      obtain ⟨h3, h4⟩ := List.getElem?_eq_some_iff.1 hu
      exact ⟨j - pos ps k, by omega, by rw [← h4]; congr 1; omega⟩
    have hab : ∀ p ∈ u.l, k < p.1 := by
      cases hh : hasB ps k with
      | false => exact fun p hp => e9 hh p (mem_joinR P2 (K2.map Kid.l) (by simp [e5]) u.l (List.mem_map_of_mem hu2) p hp)
      | true =>
        obtain ⟨Q1, q, Q2, f1, f2, f3⟩ := pair_split hps hh
        have hP : P1 = Q1 ∧ P2 = q :: Q2 := by
          have : P1 ++ P2 = Q1 ++ q :: Q2 := e1.symm.trans f1
          exact List.append_inj this (by omega)
        obtain ⟨rfl, rfl⟩ := hP
        obtain ⟨v, K3, rfl⟩ : ∃ v K3, K2 = v :: K3 := by
          cases K2 with
          | nil => simp at e5
          | cons v K3 => exact ⟨v, K3, rfl⟩
        have hj' : joinL (K1.map Kid.l) P1 ++ z'.l ++ joinR (q :: Q2) ((v :: K3).map Kid.l) = (joinL (K1.map Kid.l) P1 ++ z'.l) ++ [q] ++ (v.l ++ joinR Q2 (K3.map Kid.l)) := by simp [joinR]
        rw [e6, hj'] at hs
        obtain ⟨b1, b2⟩ := mid_bounds hs
        subst f2
        intro p hp
        refine b2 p (List.mem_append.2 ?_)
        rcases List.mem_cons.1 hu2 with rfl | hu3
        · exact .inl hp
        · exact .inr (mem_joinR Q2 (K3.map Kid.l) (by simp at e5 ⊢; omega) u.l (List.mem_map_of_mem hu3) p hp)
    exact List.countP_eq_zero.2 (fun p hp => by have := hab p hp; simp; omega)

/-- What the walk keeps: all blocks of cells but rows of int64, of strings, variables of such types, and variables of type int. -/
def KeepW (W W' : World) : Prop := W.heap.size ≤ W'.heap.size ∧ ∀ (b : Nat) (cs : Array Value) (ty : TypeId), W.heap[b]? = some (.cells cs ty (0, 0)) → ty ≠ 3 → ty ≠ 2 → ty ≠ 47 → ty ≠ 9 → ty ≠ 49 → W'.heap[b]? = W.heap[b]?
theorem KeepW.refl (W : World) : KeepW W W := ⟨Nat.le_refl _, fun _ _ _ _ _ _ _ _ _ => rfl⟩
theorem KeepW.trans {A B C : World} (h : KeepW A B) (k : KeepW B C) : KeepW A C :=
  ⟨Nat.le_trans h.1 k.1, fun b cs ty hb h0 h1 h2 h3 h4 => (k.2 b cs ty ((h.2 b cs ty hb h0 h1 h2 h3 h4).trans hb) h0 h1 h2 h3 h4).trans (h.2 b cs ty hb h0 h1 h2 h3 h4)⟩
theorem KeepT.keepW {W W' : World} (h : KeepT W W') : KeepW W W' := ⟨h.1, fun b cs ty hb _ h1 h2 h3 h4 => h.2 b cs ty hb h1 h2 h3 h4⟩
theorem KeepW.setInt {W : World} {L : Nat} {cs : Array Value} (hL : W.heap[L]? = some (.cells cs 3 (0, 0))) (v : Value) : KeepW W (W.setCell ⟨L, 0, none⟩ v) :=
  ⟨by simp, fun b cs2 ty hb h0 _ _ _ _ => KeepT.setInt hL v hb h0⟩
theorem KeepW.below {W W' : World} (h : Below W.heap.size W W') : KeepW W W' := ⟨h.size, fun b _ _ hb _ _ _ _ _ => h.block b (Array.getElem?_eq_some_iff.1 hb).1⟩
theorem KeepW.blockRow {W W' : World} (h : KeepW W W') {base : Nat} {e : TypeId} {size : Nat} {v : Value} {n : Nat} {xs : List Value} (hr : W.ownsRow base e size v n xs) (h0 : e ≠ 3) (h1 : e ≠ 2) (h2 : e ≠ 47) (h3 : e ≠ 9) (h4 : e ≠ 49) : ∀ b, v.ownBlock = some b → W'.heap[b]? = W.heap[b]? := fun b hb => by
  rcases hr.2 with ⟨rfl, _⟩ | ⟨g, cap, cur, rfl, _, hg, _⟩
  · cases hb
  · have : g = b := by simpa [Value.ownBlock] using hb
    subst this
    exact h.2 g cur e hg h0 h1 h2 h3 h4
theorem KeepW.isT {t : Nat} {w w' : World} (hk : KeepW w w') : ∀ {h : Nat} {x : Kid}, IsT t w h x → IsT t w' h x
  | 0, x, ⟨vp, h1, h2, h3, h4⟩ => ⟨vp, (hk.2 x.p _ 68 h1 (by decide) (by decide) (by decide) (by decide) (by decide)).trans h1, ownsRow_of_heap h2 (hk.blockRow h2 (by decide) (by decide) (by decide) (by decide) (by decide)), h3, h4⟩
  | h + 1, x, ⟨vp, vk, ps, ks, h1, h2, h3, h4, h5, h6, h7, h8⟩ =>
    ⟨vp, vk, ps, ks, (hk.2 x.p _ 68 h1 (by decide) (by decide) (by decide) (by decide) (by decide)).trans h1, ownsRow_of_heap h2 (hk.blockRow h2 (by decide) (by decide) (by decide) (by decide) (by decide)),
      ownsRow_of_heap h3 (hk.blockRow h3 (by decide) (by decide) (by decide) (by decide) (by decide)), h4, h5, h6, h7, fun y hy => ⟨KeepW.isT hk (h8 y hy).1, (h8 y hy).2⟩⟩
end Go.Proofs.Ytcboakmfabdeoaa

/- The walk in a leaf: all that it tells. -/
namespace Go.Proofs.Ytcboakmfabdeoaa
open Go.RowKit Go.Shelf

/-- What a walk has done: res are the pairs that it may tell, c at most. -/
def WalkPost (J : List Pr → World → Prop) (pre res : List Pr) (c L : Nat) (W : World) (e : Ending) (W' : World) : Prop :=
  e = .returned (.bool (decide (res.length < c))) ∧ J (pre ++ res.take c) W' ∧ (res.length < c → W'.heap[L]? = some (.cells #[.int .i64 (c - res.length : Nat)] 3 (0, 0))) ∧ KeepW W W'

set_option maxHeartbeats 1000000 in
set_option maxRecDepth 100000 in
theorem walk_leaf2 (t l L Y : Nat) (J : List Pr → World → Prop) (B : Nat) (hJa : AbidesB B J) (hBL : B ≤ L)
    (N : Nat) (hY : ∀ m pre x W, J pre W → pre.length < N → YieldAt Fence.wide m Try.prog l (encs2 x) W fun e W' => e = .returned (.bool true) ∧ J (pre ++ [x]) W' ∧ KeepT W W')
    (x : Kid) (k : Int) (c : Nat) (hc : 1 ≤ c) (hc2 : c ≤ 9223372036854775807) (pre : List Pr) (W : World) (hx : IsT t W 0 x) (hs : Rising x.l) (hn : x.l.length ≤ 1000000)
    (hL : W.heap[L]? = some (.cells #[.int .i64 c] 3 (0, 0))) (hYb : W.heap[Y]? = some (.cells #[.func (.yield l) #[] #[]] 86 (0, 0))) (h0 : J pre W) (hNN : pre.length + x.l.length ≤ N) :
    Calls Try.prog 54 #[.pointer (some ⟨x.p, 0, none⟩), .int .i64 k, .func (.func 55) #[] #[.pointer (some ⟨L, 0, none⟩), .pointer (some ⟨Y, 0, none⟩)]] W fun e W' =>
      WalkPost J pre (x.l.drop (pos x.l k)) c L W e W' := by
  obtain ⟨vl, r1, r2, r3, r4⟩ := hx
  obtain ⟨hb, hhb⟩ : ∃ hb, hasB x.l k = hb := ⟨_, rfl⟩
  have c1 := r1.c1
  have HS := Lib.hid hs
  have HH := Lib.hid hhb
  have hp := pos_le x.l k
  clear hs hhb
  go_enter Try.func54, Try.ntmps54
  go_wp2_with fail
  refine (place_at x.p vl _ _ x.l k hb _ r1 r2 HS.out (by omega) HH.out).mono ?_
  rintro e W1 ⟨rfl, hb1⟩
  have c1' := (hb1.cell (p := ⟨x.p, 1, none⟩) (World.block_lt_of_cell? W _ c1)).trans c1
  have hJ1 : J pre W1 := hJa pre W W1 none h0 ⟨hb1.os, hb1.tape, hb1.output, hb1.size, fun k hk _ => hb1.block k hk⟩ (fun r e => by cases e)
  have ok1 : Rec W1 x.p vl (.slice none 0 0) x.l.length ∧ PRow W1 vl x.l ∧ W1.heap[Y]? = some (.cells #[.func (.yield l) #[] #[]] 86 (0, 0)) ∧ W1.heap[L]? = some (.cells #[.int .i64 c] 3 (0, 0)) :=
    ⟨(hb1.block _ (Array.getElem?_eq_some_iff.1 r1).1).trans r1, ownsRow_of_heap r2 (fun b hb => hb1.block b (r2.lt hb)), (hb1.block _ (Array.getElem?_eq_some_iff.1 hYb).1).trans hYb, (hb1.block _ (Array.getElem?_eq_some_iff.1 hL).1).trans hL⟩
  have OK1 := Lib.hid ok1
  have KW1 := Lib.hid (KeepW.below hb1)
  have HJ1 := Lib.hid hJ1
  have HJA := Lib.hid hJa
  have HY := Lib.hid hY
  have HNN := Lib.hid hNN
  clear hNN r1 r2 r3 r4 c1 hb1 hJ1 ok1 hL hYb h0 hJa hY
  generalize hpp : pos x.l k = q at *
  have HQ := Lib.hid hpp
  clear hpp
  go_wp2_with fail
  refine (leaf_yes x.p 0 none _ c1').mono ?_
  rintro e w' ⟨rfl, rfl⟩
  obtain ⟨a, na, ca, hvl, hna⟩ : ∃ a n c, vl = .slice a n c ∧ n = x.l.length := by
    rcases OK1.out.2.1.cases with ⟨h, h2⟩ | ⟨g, cap, cur, h, _⟩
    · exact ⟨none, 0, 0, h, by rw [h2]; rfl⟩
    · exact ⟨_, _, _, h, rfl⟩
  subst hvl
  have HNA := Lib.hid hna
  have hnb : na ≤ 1000000 := by omega
  have hqa : q ≤ na := by omega
  clear hna hp
  go_wp2_with fail
  go_loopw [7] (fun s7 wr => ∃ (j : Nat) (c' : Nat), s7 = .int .i64 j ∧ q ≤ j ∧ j ≤ na ∧ 1 ≤ c' ∧ c' ≤ c ∧ Hid (c' + (j - q) = c) ∧ Hid (J (pre ++ (x.l.drop q).take (j - q)) wr) ∧
      Hid (Rec wr x.p (.slice a na ca) (.slice none 0 0) x.l.length ∧ PRow wr (.slice a na ca) x.l ∧ wr.heap[Y]? = some (.cells #[.func (.yield l) #[] #[]] 86 (0, 0)) ∧ wr.heap[L]? = some (.cells #[.int .i64 c'] 3 (0, 0))) ∧ Hid (KeepW W wr))
    (fun s7 _ => na - (intOf s7).toNat)
  case atStart => exact ⟨q, c, rfl, Nat.le_refl _, hqa, hc, Nat.le_refl _, (by omega : c + (q - q) = c), (by rw [Nat.sub_self]; simpa using HJ1.out : J (pre ++ (x.l.drop q).take (q - q)) _), OK1.out, KW1⟩
  case round =>
    clear OK1 HJ1 c1' KW1
    obtain ⟨j, c', rfl, hqj, hjn, hc1, hcc, HC, HJ, OK, KW⟩ := hrel
    have c0 := OK.out.1.c0
    have c1 := OK.out.1.c1
    by_cases hlt : j < na
    · obtain ⟨g, cap, e1, e2⟩ : ∃ g cap, (Value.slice a na ca) = .slice (some ⟨g, 0, none⟩) na cap ∧ RowP wr g x.l := by
        rcases OK.out.2.1.cases with ⟨h, h2⟩ | ⟨g, cap, cur, h, _⟩
        · have := HNA.out; rw [h2] at this; simp at this; omega
        · have hr := OK.out.2.1
          rw [h] at hr
          exact ⟨g, cap, by rw [h, ← HNA.out], hr.row⟩
      simp only [Value.slice.injEq, true_and] at e1
      obtain ⟨rfl, rfl⟩ := e1
      obtain ⟨pr, hpr, k1, k2⟩ := e2.getAt j (by have := HNA.out; omega)
      have HPR := Lib.hid hpr
      clear e2 hpr
      have hN : c' ≤ 9223372036854775807 := by omega
      have call := from11 l L Y J B HJA.out hBL N HY.out pr.1 pr.2 c' hc1 hN (pre ++ (x.l.drop q).take (j - q)) wr.drew OK.out.2.2.2 OK.out.2.2.1
        (HJA.out _ wr wr.drew none HJ.out ⟨rfl, rfl, rfl, Nat.le_refl _, fun k _ _ => rfl⟩ (fun r e => by cases e)) (by have := HNA.out; have := HNN.out; rw [List.length_append, List.length_take]; omega)
      have tk : (x.l.drop q).take (j + 1 - q) = (x.l.drop q).take (j - q) ++ [pr] := by
        rw [show j + 1 - q = (j - q) + 1 by omega, List.take_add_one, List.getElem?_drop, show q + (j - q) = j by omega, HPR.out]; rfl
      have TK := Lib.hid tk
      have keep : ∀ W2, KeepT (wr.drew.setCell ⟨L, 0, none⟩ (.int .i64 (c' - 1 : Nat))) W2 → Rec W2 x.p (.slice (some ⟨g, 0, none⟩) na ca) (.slice none 0 0) x.l.length ∧ PRow W2 (.slice (some ⟨g, 0, none⟩) na ca) x.l ∧ W2.heap[Y]? = some (.cells #[.func (.yield l) #[] #[]] 86 (0, 0)) := fun W2 hK => by
        obtain ⟨o1, o2, o3, o4⟩ := OK.out
        have q1 : Rec (wr.drew.setCell ⟨L, 0, none⟩ (.int .i64 (c' - 1 : Nat))) x.p (.slice (some ⟨g, 0, none⟩) na ca) (.slice none 0 0) x.l.length := (KeepT.setInt (W := wr.drew) o4 _ o1 (by decide)).trans o1
        have q2 : PRow (wr.drew.setCell ⟨L, 0, none⟩ (.int .i64 (c' - 1 : Nat))) (.slice (some ⟨g, 0, none⟩) na ca) x.l := ownsRow_of_heap o2 fun b hb => by
          rcases o2.cases with ⟨h, _⟩ | ⟨g', cap', cur', h, hg', _⟩
          · cases h
          · simp only [Value.slice.injEq, Option.some.injEq, Addr.mk.injEq] at h
            obtain ⟨⟨rfl, _⟩, _⟩ := h
            have : g = b := by simpa [Value.ownBlock] using hb
            subst this
            exact KeepT.setInt (W := wr.drew) o4 _ hg' (by decide)
        have q3 := (KeepT.setInt (W := wr.drew) o4 (.int .i64 (c' - 1 : Nat)) o3 (by decide)).trans o3
        exact ⟨hK.rec q1, hK.prow q2, (hK.2 Y _ 86 q3 (by decide) (by decide) (by decide) (by decide)).trans q3⟩
      have KEEP := Lib.hid keep
      have kwn : ∀ W2, KeepT (wr.drew.setCell ⟨L, 0, none⟩ (.int .i64 (c' - 1 : Nat))) W2 → KeepW W W2 := fun W2 hK => (KW.out.trans (KeepW.setInt (W := wr.drew) OK.out.2.2.2 _)).trans hK.keepW
      have KWN := Lib.hid kwn
      clear kwn
      clear tk keep
      by_cases hc' : 1 < c'
      · rw [show decide (1 < c') = true by simpa using hc'] at call
        have CALL := Lib.hid call
        clear call
        go_wp2_with fail
        go_still_tail 17, (by kernel_rfl)
        change wpList _ _ _ _ _ wr.drew
        go_wp2_with fail
        refine CALL.out.mono ?_
        rintro e W2 ⟨rfl, h2, h3, h4⟩
        obtain ⟨o1, o2, o3⟩ := KEEP.out W2 h4
        have c1' := o1.c1
        have KW2 := Lib.hid (KWN.out W2 h4)
        have OK2 := Lib.hid (And.intro o1 (And.intro o2 (And.intro o3 h3)))
        have HJ2 := Lib.hid h2
        clear h2 h3 h4 o1 o2 o3 c0 c1 k1 k2
        go_wp2_with fail
        refine (leaf_yes x.p 0 none _ c1').mono ?_
        rintro e w' ⟨rfl, rfl⟩
        go_wp2_with fail
        go_roundw
        case rel =>
          refine ⟨j + 1, c' - 1, by go_num, by omega, by omega, by omega, by omega, ?_, ?_, OK2.out, KW2⟩
          · have := HC.out; show c' - 1 + (j + 1 - q) = c; omega
          · show J (pre ++ (x.l.drop q).take (j + 1 - q)) W2
            rw [TK.out, ← List.append_assoc]; exact HJ2.out
        case measure => simp [intOf]; omega
      · rw [show decide (1 < c') = false by simpa using hc'] at call
        have CALL := Lib.hid call
        clear call
        go_wp2_with fail
        go_still_tail 17, (by kernel_rfl)
        change wpList _ _ _ _ _ wr.drew
        go_wp2_with fail
        refine CALL.out.mono ?_
        rintro e W2 ⟨rfl, h2, h3, h4⟩
        have HJ2 := Lib.hid h2
        have KW2 := Lib.hid (KWN.out W2 h4)
        clear h2 h3 h4 c0 c1 k1 k2
        go_wp2_with fail
        go_ret
        have e : c = j + 1 - q := by have := HC.out; omega
        have h1 : (x.l.drop q).length = na - q := by rw [List.length_drop, HNA.out]
        rw [HQ.out]
        refine ⟨?_, ?_, fun h => absurd h (by omega), KW2.out⟩
        · rw [show decide ((x.l.drop q).length < c) = false by simp only [decide_eq_false_iff_not]; omega]; rfl
        · rw [e, TK.out, ← List.append_assoc]; exact HJ2.out
    · have hj : j = na := by omega
      have HE : Hid ((x.l.drop q).take c = (x.l.drop q).take (j - q)) := by
        show _ = _
        have h1 : (x.l.drop q).length = na - q := by rw [List.length_drop, HNA.out]
        have := HC.out
        rw [List.take_of_length_le (by omega), List.take_of_length_le (by omega)]
      have HJN := Lib.hid hj
      clear hj
      go_wp2_with fail
      go_ret
      have h1 : (x.l.drop q).length = na - q := by rw [List.length_drop, HNA.out]
      have h2 := HC.out
      have h3 := HJN.out
      rw [HQ.out]
      refine ⟨?_, by rw [HE.out]; exact HJ.out, fun _ => ?_, KW.out⟩
      · rw [show decide ((x.l.drop q).length < c) = true by simp only [decide_eq_true_eq]; omega]; rfl
      · rw [show c - (x.l.drop q).length = c' by omega]; exact OK.out.2.2.2
end Go.Proofs.Ytcboakmfabdeoaa

/- The walk in a tree of any height. -/
namespace Go.Proofs.Ytcboakmfabdeoaa
open Go.RowKit Go.Shelf

/-- Where a walk stands in a node: all is told up to kid j. -/
def WalkAt (J : List Pr → World → Prop) (pre res : List Pr) (ks : List Kid) (ps : List Pr) (c L : Nat) (W : World) (j : Nat) (wc : World) : Prop :=
  ∃ D, res = D ++ rest ks ps j ∧ D.length < c ∧ J (pre ++ D) wc ∧ wc.heap[L]? = some (.cells #[.int .i64 (c - D.length : Nat)] 3 (0, 0)) ∧ KeepW W wc

def WalkCut (J : List Pr → World → Prop) (pre res : List Pr) (ks : List Kid) (ps : List Pr) (c L : Nat) (W : World) (j : Nat) (s : Value) (wc : World) : Prop :=
  (s = .bool true ∧ c ≤ res.length ∧ J (pre ++ res.take c) wc ∧ KeepW W wc) ∨ (s = .bool false ∧ WalkAt J pre res ks ps c L W j wc)

set_option maxHeartbeats 1000000 in
set_option maxRecDepth 100000 in
theorem walk_any (t l L Y : Nat) (J : List Pr → World → Prop) (B : Nat) (hJa : AbidesB B J) (hBL : B ≤ L)
    (N : Nat) (hY : ∀ m pre x W, J pre W → pre.length < N → YieldAt Fence.wide m Try.prog l (encs2 x) W fun e W' => e = .returned (.bool true) ∧ J (pre ++ [x]) W' ∧ KeepT W W') (k : Int) :
    ∀ (h : Nat) (x : Kid) (c : Nat) (pre : List Pr) (W : World), 1 ≤ c → c ≤ 9223372036854775807 → IsT t W h x → Rising x.l → x.l.length ≤ 1000000 →
    W.heap[L]? = some (.cells #[.int .i64 c] 3 (0, 0)) → W.heap[Y]? = some (.cells #[.func (.yield l) #[] #[]] 86 (0, 0)) → J pre W → pre.length + x.l.length ≤ N →
    Calls Try.prog 54 #[.pointer (some ⟨x.p, 0, none⟩), .int .i64 k, .func (.func 55) #[] #[.pointer (some ⟨L, 0, none⟩), .pointer (some ⟨Y, 0, none⟩)]] W fun e W' => WalkPost J pre (x.l.drop (pos x.l k)) c L W e W'
  | 0, x, c, pre, W, hc, hc2, hx, hs, hn, hL, hYb, h0, hNN => walk_leaf2 t l L Y J B hJa hBL N hY x k c hc hc2 pre W hx hs hn hL hYb h0 hNN
  | h + 1, x, c, pre, W, hc, hc2, hx, hs, hn, hL, hYb, h0, hNN => by
    have IH := Lib.hid (walk_any t l L Y J B hJa hBL N hY k h)
    obtain ⟨vp, vk, ps, hr, h2, hps, hpl, hyc, hkids⟩ := hx.node hs
    rcases hkids with ⟨e, _⟩ | ⟨h', ks, e, hK, hlen, hj, hf, _, hz⟩
    · cases e
    obtain rfl : h = h' := by omega
    obtain ⟨gK, cK, rfl, hcK⟩ := hK.own (by intro e; rw [e] at hlen; simp at hlen)
    obtain ⟨z, q1, q2, q3, q4, q5⟩ := walk_facts (k := k) hlen (by rw [← hj]; exact hs) hps
    rw [← hj] at q2 q3 q5
    obtain ⟨hh, hhe⟩ : ∃ hh, hasB ps k = hh := ⟨_, rfl⟩
    rw [hhe] at q2 q3
    obtain ⟨res, hres⟩ : ∃ res, x.l.drop (pos x.l k) = res := ⟨_, rfl⟩
    have hrl : res.length ≤ x.l.length := by rw [← hres]; simp
    rw [hres] at q2 q3 ⊢
    obtain ⟨a, ca, rfl⟩ : ∃ a c, vp = .slice a ps.length c := by
      rcases h2.cases with ⟨h, e⟩ | ⟨g, cap, cur, h, _⟩
      · exact ⟨none, 0, by rw [h, e]; rfl⟩
      · exact ⟨_, _, h⟩
    have HX := Lib.hid hx
    have HR := Lib.hid hr
    have H2 := Lib.hid h2
    have HK := Lib.hid hK
    have HPS := Lib.hid hps
    have HL := Lib.hid hlen
    have HH := Lib.hid hhe
    have Q1 := Lib.hid q1
    have Q2 := Lib.hid q2
    have Q3 := Lib.hid q3
    have Q4 := Lib.hid q4
    have Q5 := Lib.hid q5
    have HZ := Lib.hid hz
    have HCL := Lib.hid hL
    have HCY := Lib.hid hYb
    have HJ0 := Lib.hid h0
    have HJA := Lib.hid hJa
    have HY := Lib.hid hY
    have c1 := hr.c1
    have hip := pos_le ps k
    have hks : 0 < ks.length := by omega
    have hkb : ks.length ≤ 1000001 := by omega
    have hik : pos ps k < ks.length := by omega
    clear hx hr h2 hps hK hlen hj hf hz hhe hres q1 q2 q3 q4 q5 hL hYb h0 hJa hY hyc hs
    go_enter Try.func54, Try.ntmps54
    go_wp2_with fail
    refine (place_at x.p _ _ _ ps k hh _ HR.out H2.out HPS.out (by omega) HH.out).mono ?_
    rintro e W1 ⟨rfl, hb1⟩
    have c1' := (hb1.cell (p := ⟨x.p, 1, none⟩) (World.block_lt_of_cell? W _ c1)).trans c1
    have J1 : Hid (J pre W1) := Lib.hid (HJA.out pre W W1 none HJ0.out ⟨hb1.os, hb1.tape, hb1.output, hb1.size, fun k hk _ => hb1.block k hk⟩ (fun r e => by cases e))
    have KW1 := Lib.hid (KeepW.below hb1)
    have KR1 : Hid (KRow W1 (.slice (some ⟨gK, 0, none⟩) ks.length cK) ks) := Lib.hid (KRow.touch HK.out (Touch.of_below hb1 []) (by simp))
    have L1 : Hid (W1.heap[L]? = some (.cells #[.int .i64 c] 3 (0, 0))) := Lib.hid ((hb1.block _ (Array.getElem?_eq_some_iff.1 HCL.out).1).trans HCL.out)
    have Y1 : Hid (W1.heap[Y]? = some (.cells #[.func (.yield l) #[] #[]] 86 (0, 0))) := Lib.hid ((hb1.block _ (Array.getElem?_eq_some_iff.1 HCY.out).1).trans HCY.out)
    clear c1 hb1
    generalize pos ps k = i at *
    go_upto_region 4 with fail
    go_cut [36] (fun s36 wc => WalkCut J pre res ks ps c L W i s36 wc)
    case first =>
      have kc := KR1.out.cell i z Q1.out
      have HHo : Hid (hasB ps k = hh) := HH
      cases hh with
      | true =>
        have FIN : Hid (WalkAt J pre res ks ps c L W i W1) := Lib.hid ⟨[], by rw [List.nil_append]; exact Q2.out rfl, by simp; omega, by simpa using J1.out, by simpa using L1.out, KW1.out⟩
        clear J1 KW1 L1
        go_wp2_with fail
        refine (leaf_no x.p _ cK _ _ c1' hks).mono ?_
        rintro e w2 ⟨rfl, rfl⟩
        go_wp2_with fail
        go_meet
        case rel => exact .inr ⟨rfl, FIN.out⟩
      | false =>
        obtain ⟨D, hD⟩ : ∃ D, z.l.drop (pos z.l k) = D := ⟨_, rfl⟩
        have hzm := List.mem_of_getElem? Q1.out
        have Q3' : Hid (res = D ++ rest ks ps i) := Lib.hid (by rw [← hD]; exact Q3.out rfl)
        have call := IH.out z c pre W1 hc hc2 (KW1.out.isT (HZ.out z hzm).1) (Q5.out z hzm).1 (by have := (Q5.out z hzm).2; omega) L1.out Y1.out J1.out (by have := (Q5.out z hzm).2; omega)
        rw [hD] at call
        have CALL := Lib.hid call
        clear call hD Q2 Q3 J1 L1
        go_wp2_with fail
        refine (leaf_no x.p _ cK _ _ c1' hks).mono ?_
        rintro e w2 ⟨rfl, rfl⟩
        go_wp2_with fail
        refine CALL.out.mono ?_
        rintro e W2 ⟨rfl, g1, g2, g3⟩
        by_cases hd : D.length < c
        · rw [show decide (D.length < c) = true by simpa using hd]
          have FIN : Hid (WalkAt J pre res ks ps c L W i W2) := Lib.hid ⟨D, Q3'.out, hd, by rw [List.take_of_length_le (by omega)] at g1; exact g1, g2 hd, KW1.out.trans g3⟩
          clear g1 g2 g3 hd
          go_wp2_with fail
          go_meet
          case rel => exact .inr ⟨rfl, FIN.out⟩
        · rw [show decide (D.length < c) = false by simpa using hd]
          have FIN : Hid (c ≤ res.length ∧ J (pre ++ res.take c) W2 ∧ KeepW W W2) := Lib.hid ⟨by rw [Q3'.out, List.length_append]; omega, by rw [Q3'.out, List.take_append_of_le_length (by omega)]; exact g1, KW1.out.trans g3⟩
          clear g1 g2 g3 hd
          go_wp2_with fail
          go_meet
          case rel => exact .inl ⟨rfl, FIN.out⟩
    case rest =>
      rcases hcut with ⟨rfl, g1, g2, g3⟩ | ⟨rfl, hat⟩
      · have FIN : Hid (c ≤ res.length ∧ J (pre ++ res.take c) wc ∧ KeepW W wc) := Lib.hid ⟨g1, g2, g3⟩
        clear g1 g2 g3
        go_wp2_with fail
        go_ret
        obtain ⟨f1, f2, f3⟩ := FIN.out
        refine ⟨?_, f2, fun h => absurd h (by omega), f3⟩
        rw [show decide (res.length < c) = false by simp only [decide_eq_false_iff_not]; omega]; rfl
      · have HAT := Lib.hid hat
        clear hat J1 L1 KW1 KR1 c1' HJ0
        go_wp2_with fail
        go_loopw [7] (fun s7 wr => ∃ (j : Nat), s7 = .int .i64 j ∧ i ≤ j ∧ j ≤ ps.length ∧ Hid (WalkAt J pre res ks ps c L W j wr)) (fun s7 _ => ps.length - (intOf s7).toNat)
        case atStart => exact ⟨i, rfl, Nat.le_refl _, hip, HAT⟩
        case round =>
          clear HAT
          obtain ⟨j, rfl, hij, hjn, HAT⟩ := hrel
          obtain ⟨D, d1, d2, d3, d4, d5⟩ := HAT.out
          have r1 : Rec wr x.p (.slice a ps.length ca) (.slice (some ⟨gK, 0, none⟩) ks.length cK) x.l.length := (d5.2 x.p _ 68 HR.out (by decide) (by decide) (by decide) (by decide) (by decide)).trans HR.out
          have r2 : PRow wr (.slice a ps.length ca) ps := ownsRow_of_heap H2.out (d5.blockRow H2.out (by decide) (by decide) (by decide) (by decide) (by decide))
          have r3 : wr.heap[Y]? = some (.cells #[.func (.yield l) #[] #[]] 86 (0, 0)) := (d5.2 Y _ 86 HCY.out (by decide) (by decide) (by decide) (by decide) (by decide)).trans HCY.out
          have c0 := r1.c0
          have hpsb : ps.length ≤ 1000000 := by omega
          by_cases hlt : j < ps.length
          · obtain ⟨g, cap, e1, e2⟩ : ∃ g cap, (Value.slice a ps.length ca) = .slice (some ⟨g, 0, none⟩) ps.length cap ∧ RowP wr g ps := by
              rcases r2.cases with ⟨h, h2⟩ | ⟨g, cap, cur, h, _⟩
              · rw [h2] at hlt; simp at hlt
              · have hr := r2
                rw [h] at hr
                exact ⟨g, cap, h, hr.row⟩
            simp only [Value.slice.injEq, true_and] at e1
            obtain ⟨rfl, rfl⟩ := e1
            obtain ⟨q, hq, k1, k2⟩ := e2.getAt j hlt
            have hju : j + 1 < ks.length := by have := HL.out; omega
            obtain ⟨u, hu⟩ : ∃ u, ks[j + 1]? = some u := ⟨ks[j + 1], List.getElem?_eq_getElem hju⟩
            have hrs := rest_step hq hu
            have hum := List.mem_of_getElem? hu
            have hup := Q4.out j u hij hu
            rw [hrs] at d1
            have hdl := congrArg List.length d1
            simp only [List.length_append, List.length_cons] at hdl
            obtain ⟨c', hc'⟩ : ∃ c', c' = c - D.length := ⟨_, rfl⟩
            rw [← hc'] at d4
            have hc1 : 1 ≤ c' := by omega
            have hN : c' ≤ 9223372036854775807 := by omega
            have call := from11 l L Y J B HJA.out hBL N HY.out q.1 q.2 c' hc1 hN (pre ++ D) wr.drew d4 r3
              (HJA.out _ wr wr.drew none d3 ⟨rfl, rfl, rfl, Nat.le_refl _, fun k _ _ => rfl⟩ (fun r e => by cases e)) (by rw [List.length_append]; omega)
            have kwn : ∀ W2, KeepT (wr.drew.setCell ⟨L, 0, none⟩ (.int .i64 (c' - 1 : Nat))) W2 → KeepW W W2 := fun W2 hK => (d5.trans (KeepW.setInt (W := wr.drew) d4 _)).trans hK.keepW
            have KWN := Lib.hid kwn
            have D1 := Lib.hid d1
            have HU := Lib.hid hu
            have HUM := Lib.hid hum
            have HUP := Lib.hid hup
            have HDL := Lib.hid hdl
            have HC := Lib.hid hc'
            clear kwn hrs d1 d2 d3 d4 d5 r1 r2 r3 e2 hq hu hum hup hdl hc' HAT
            by_cases hcc : 1 < c'
            · rw [show decide (1 < c') = true by simpa using hcc] at call
              have CALL := Lib.hid call
              clear call
              go_wp2_with fail
              go_still_tail 17, (by kernel_rfl)
              change wpList _ _ _ _ _ wr.drew
              go_wp2_with fail
              refine CALL.out.mono ?_
              rintro e W2 ⟨rfl, h2, h3, h4⟩
              have K2 : KeepW W W2 := KWN.out W2 h4
              have r1 : Rec W2 x.p (.slice (some ⟨g, 0, none⟩) ps.length ca) (.slice (some ⟨gK, 0, none⟩) ks.length cK) x.l.length := (K2.2 x.p _ 68 HR.out (by decide) (by decide) (by decide) (by decide) (by decide)).trans HR.out
              have r2 : KRow W2 (.slice (some ⟨gK, 0, none⟩) ks.length cK) ks := ownsRow_of_heap HK.out (K2.blockRow HK.out (by decide) (by decide) (by decide) (by decide) (by decide))
              have r3 : W2.heap[Y]? = some (.cells #[.func (.yield l) #[] #[]] 86 (0, 0)) := (K2.2 Y _ 86 HCY.out (by decide) (by decide) (by decide) (by decide) (by decide)).trans HCY.out
              have x1 := r1.c1
              have kc : W2.cell? ⟨gK, j + 1, none⟩ = some (.pointer (some ⟨u.p, 0, none⟩)) := r2.cell (j + 1) u HU.out
              have call2 := IH.out u (c' - 1) (pre ++ D ++ [(q.1, q.2)]) W2 (by omega) (by omega) (K2.isT (HZ.out u HUM.out).1) (Q5.out u HUM.out).1 (by have := (Q5.out u HUM.out).2; omega) h3 r3 h2
                (by have := HDL.out; simp only [List.length_append, List.length_cons, List.length_nil]; omega)
              rw [HUP.out, List.drop_zero] at call2
              have CALL2 := Lib.hid call2
              have HK2 := Lib.hid K2
              clear call2 K2 r1 r2 r3 h2 h3 h4 CALL c0 k1 k2
              go_wp2_with fail
              refine (leaf_no x.p _ cK _ _ x1 hks).mono ?_
              rintro e w2 ⟨rfl, rfl⟩
              go_wp2_with fail
              refine CALL2.out.mono ?_
              rintro e W3 ⟨rfl, g1, g2, g3⟩
              by_cases hd : u.l.length < c' - 1
              · rw [show decide (u.l.length < c' - 1) = true by simpa using hd]
                have FIN : Hid (WalkAt J pre res ks ps c L W (j + 1) W3) := Lib.hid ⟨D ++ (q.1, q.2) :: u.l, by rw [D1.out]; simp, by have := HC.out; simp only [List.length_append, List.length_cons]; omega,
                  by rw [List.take_of_length_le (by omega)] at g1; simpa using g1,
                  by have h := g2 hd; have := HC.out; rw [show c - (D ++ (q.1, q.2) :: u.l).length = c' - 1 - u.l.length by simp only [List.length_append, List.length_cons]; omega]; exact h, HK2.out.trans g3⟩
                clear g1 g2 g3 hd
                go_wp2_with fail
                go_roundw
                case rel => exact ⟨j + 1, by go_num, by omega, by omega, FIN⟩
                case measure => simp [intOf]; omega
              · rw [show decide (u.l.length < c' - 1) = false by simpa using hd]
                have FIN : Hid (c ≤ res.length ∧ J (pre ++ res.take c) W3 ∧ KeepW W W3) := Lib.hid ⟨by have := HDL.out; have := HC.out; omega, by
                  have e : c = D.length + (c' - 1 + 1) := by have := HC.out; omega
                  rw [D1.out, e, List.take_append, List.take_of_length_le (by omega), show D.length + (c' - 1 + 1) - D.length = c' - 1 + 1 by omega, List.take_succ_cons, List.take_append_of_le_length (by omega)]
                  simpa using g1, HK2.out.trans g3⟩
                clear g1 g2 g3 hd
                go_wp2_with fail
                go_ret
                obtain ⟨f1, f2, f3⟩ := FIN.out
                refine ⟨?_, f2, fun h => absurd h (by omega), f3⟩
                rw [show decide (res.length < c) = false by simp only [decide_eq_false_iff_not]; omega]; rfl
            · rw [show decide (1 < c') = false by simpa using hcc] at call
              have CALL := Lib.hid call
              clear call
              go_wp2_with fail
              go_still_tail 17, (by kernel_rfl)
              change wpList _ _ _ _ _ wr.drew
              go_wp2_with fail
              refine CALL.out.mono ?_
              rintro e W2 ⟨rfl, h2, h3, h4⟩
              have FIN : Hid (res.length ≥ c ∧ J (pre ++ res.take c) W2 ∧ KeepW W W2) := Lib.hid ⟨by have := HDL.out; have := HC.out; omega, by
                have e : c = D.length + 1 := by have := HC.out; omega
                rw [D1.out, e, List.take_append, List.take_of_length_le (by omega), show D.length + 1 - D.length = 1 by omega, ← List.append_assoc]; exact h2, KWN.out W2 h4⟩
              clear h2 h3 h4 c0 k1 k2
              go_wp2_with fail
              go_ret
              obtain ⟨f1, f2, f3⟩ := FIN.out
              refine ⟨?_, f2, fun h => absurd h (by omega), f3⟩
              rw [show decide (res.length < c) = false by simp only [decide_eq_false_iff_not]; omega]; rfl
          · have hj : j = ps.length := by omega
            have FIN : Hid (res = D ∧ J (pre ++ D) wr ∧ wr.heap[L]? = some (.cells #[.int .i64 (c - D.length : Nat)] 3 (0, 0)) ∧ KeepW W wr) := Lib.hid ⟨by rw [d1, hj, rest_end]; simp, d3, d4, d5⟩
            clear d1 d3 d4 d5 r1 r2 r3 HAT hj
            go_wp2_with fail
            go_ret
            obtain ⟨rfl, f2, f3, f4⟩ := FIN.out
            refine ⟨?_, by rw [List.take_of_length_le (by omega)]; exact f2, fun _ => f3, f4⟩
            rw [show decide (res.length < c) = true by simpa using d2]; rfl
end Go.Proofs.Ytcboakmfabdeoaa

/- Keys and Things of a map of any height. -/
namespace Go.Proofs.Ytcboakmfabdeoaa
open Go.RowKit Go.Shelf

theorem TreeM.walks {t m : Nat} {w : World} {l : List Pr} {rp : Option Addr} {fp : List Nat} (h : TreeM t m w l rp fp) (k : Int) (hn : l.length ≤ 1000) : Walks (.pointer rp) k (l.drop (pos l k)) 1000 w := by
  rcases h.root with ⟨rfl, rfl, _⟩ | ⟨hh, x, rfl, hx, rfl, rfl⟩
  · exact walks_nil k 1000 w
  · intro l' L Y J B hJa hBL hY c hc hc2 W hb hL hYb h0
    have hxW : IsT t W hh x := hx.frame fun b hbx => hb.block b (hx.lt b hbx)
    refine (walk_any t l' L Y J B hJa hBL 1000 hY k hh x c [] W hc hc2 hxW h.rising (by omega) hL hYb h0 (by simpa using hn)).mono ?_
    rintro e W' ⟨h1, h2, _⟩
    exact ⟨⟨_, h1⟩, by simpa using h2⟩

theorem TreeM.keys {t m : Nat} {w : World} {l : List Pr} {rp : Option Addr} {fp : List Nat} (h : TreeM t m w l rp fp) (k : Int) (most : Nat) (hm : most ≤ 9223372036854775807) (hn : l.length ≤ 1000) :
    Calls Try.prog 20 #[.pointer (some ⟨m, 0, none⟩), .int .i64 k, .int .i64 most] w fun e w' => ∃ v, e = .returned v ∧ w'.ownsRow w.heap.size 2 1 v ((l.drop (pos l k)).take most).length (keysOf ((l.drop (pos l k)).take most)) ∧ Below w.heap.size w w' := by
  refine callsIn_wide.1 (keys_in (some ⟨m, 0, none⟩) k most ((l.drop (pos l k)).take most) w (by simp; omega) ?_)
  intro W hb A B C hA hB hC n l' J W2 hb2 hJa hY h0
  have h2 := h.below hb
  refine callsIn_wide.2 ((from1_some (.pointer (some ⟨m, 0, none⟩)) (.pointer rp) k most (l.drop (pos l k)) W A B C hm hA hB hC ?_ 1000 (h2.walks k hn) ⟨_, rfl⟩ ⟨_, rfl⟩ l' J W2 hb2 hJa (fun m' pre x W1 hj hl => YieldAt.anyDepth rfl m' (hY pre x W1 hj hl)) h0).mono ?_)
  · intro W3 hb3
    exact top_any m _ W3 (cell_of_row W3 m 1 _ _ _ (h2.below hb3).cell)
  · rintro e W' ⟨h1, h2⟩
    exact ⟨h1, _, rfl, h2⟩

theorem TreeM.things {t m : Nat} {w : World} {l : List Pr} {rp : Option Addr} {fp : List Nat} (h : TreeM t m w l rp fp) (k : Int) (most : Nat) (hm : most ≤ 9223372036854775807) (hn : l.length ≤ 1000) :
    Calls Try.prog 21 #[.pointer (some ⟨m, 0, none⟩), .int .i64 k, .int .i64 most] w fun e w' => ∃ v, e = .returned v ∧ w'.ownsRow w.heap.size 9 1 v ((l.drop (pos l k)).take most).length (thingsOf ((l.drop (pos l k)).take most)) ∧ Below w.heap.size w w' := by
  refine callsIn_wide.1 (things_in (some ⟨m, 0, none⟩) k most ((l.drop (pos l k)).take most) w (by simp; omega) ?_)
  intro W hb A B C hA hB hC n l' J W2 hb2 hJa hY h0
  have h2 := h.below hb
  refine callsIn_wide.2 ((from1_some (.pointer (some ⟨m, 0, none⟩)) (.pointer rp) k most (l.drop (pos l k)) W A B C hm hA hB hC ?_ 1000 (h2.walks k hn) ⟨_, rfl⟩ ⟨_, rfl⟩ l' J W2 hb2 hJa (fun m' pre x W1 hj hl => YieldAt.anyDepth rfl m' (hY pre x W1 hj hl)) h0).mono ?_)
  · intro W3 hb3
    exact top_any m _ W3 (cell_of_row W3 m 1 _ _ _ (h2.below hb3).cell)
  · rintro e W' ⟨h1, h2⟩
    exact ⟨h1, _, rfl, h2⟩
end Go.Proofs.Ytcboakmfabdeoaa
