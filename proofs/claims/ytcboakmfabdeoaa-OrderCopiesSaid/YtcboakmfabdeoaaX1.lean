/- at: the pair with so many below it; in any tree. -/
import Derived.Test.YtcboakmfabdeoaaW8
import Derived.WalkSmall
import Derived.Laws.Rows
import Derived.Deep.QuietTactic
import Derived.BigQuiet
namespace Go.Proofs.Ytcboakmfabdeoaa
open Go.RowKit

theorem world_gen {F : World → Prop} {W : World} (P : World → Prop) (hP : P W) (h : ∀ W', P W' → F W') : F W := h W hP

theorem pair_gives {fn : Func} {p : Tmp} (h : fn.results = #[.cell p 61]) (tmps : Array Value) (w : World) (g : Nat) (k : Int) (s : ByteArray)
    (hp : tmps.getD p undef = .pointer (some ⟨g, 0, none⟩)) (hg : w.heap[g]? = some (.cells #[.int .i64 k, .string s] 61 (0, 0))) :
    (results fn tmps).run Try.prog w = .ok (.agg #[.int .i64 k, .string s]) w :=
  results_cell_row h tmps w g 61 _ (0, 0) _ hp hg Try.underlying61 rfl (by kernel_rfl)

set_option maxRecDepth 100000 in
theorem at_leaf (t : Nat) (x : Kid) (i : Nat) (q : Pr) (w : World) (hx : IsT t w 0 x) (hq : x.l[i]? = some q) (hn : x.l.length ≤ 1000000) :
    Calls Try.prog 30 #[.pointer (some ⟨x.p, 0, none⟩), .int .i64 i] w fun e w' => e = .returned (.agg #[.int .i64 q.1, .string q.2]) ∧ Below w.heap.size w w' := by
  obtain ⟨vl, r1, r2, r3, r4⟩ := hx
  have hi : i < x.l.length := (List.getElem?_eq_some_iff.1 hq).1
  obtain ⟨g, cap, rfl, hcap⟩ := r2.own (by intro e; rw [e] at hi; simp at hi)
  obtain ⟨q', hq', k0, k1⟩ := r2.row.getAt i hi
  obtain rfl : q' = q := by rw [hq'] at hq; exact Option.some.inj hq
  have c0 := r1.c0
  have c1 := r1.c1
  have hlt := World.block_lt_of_cell? w _ c0
  have hgt := World.block_lt_of_cell? w _ k0
  have hi' : (i : Int) < (x.l.length : Int) := by omega
  clear r1 r2 r3 r4 hq hq' hi
  go_enter Try.func30, Try.ntmps30
  go_wp2_with fail
  refine (leaf_yes x.p 0 none _ (by have := ((Below.refl w.heap.size w).alloc (Nat.le_refl _) (.cells #[.int .i64 0, .string ByteArray.empty] 61)).cell (p := ⟨x.p, 1, none⟩) hlt; exact this.trans c1)).mono ?_
  rintro e w' ⟨rfl, rfl⟩
  go_wp2
  exact bodyPost_ret (v := .agg #[.int .i64 q'.1, .string q'.2]) (pair_gives Try.results30 _ _ w.heap.size _ _ rfl (heap_alloc_new w _)) rfl ⟨rfl, (Below.refl _ _).alloc (Nat.le_refl _) _⟩

/-- the parts of a node about kid j: what stands ahead, and behind. -/
theorem kid_split {ks : List Kid} {ps : List Pr} (hlen : ks.length = ps.length + 1) (j : Nat) (hj : j < ks.length) :
    ∃ z, ks[j]? = some z ∧ join (ks.map Kid.l) ps = joinL ((ks.take j).map Kid.l) (ps.take j) ++ z.l ++ joinR (ps.drop j) ((ks.drop (j + 1)).map Kid.l) := by
  refine ⟨ks[j], List.getElem?_eq_getElem hj, ?_⟩
  have h1 : ks = ks.take j ++ ks[j] :: ks.drop (j + 1) := by rw [List.getElem_cons_drop, List.take_append_drop]
  have h2 : ps = ps.take j ++ ps.drop j := (List.take_append_drop j ps).symm
  have h3 : (ks.map Kid.l) = (ks.take j).map Kid.l ++ ks[j].l :: (ks.drop (j + 1)).map Kid.l := by
    have := congrArg (List.map Kid.l) h1; rwa [List.map_append, List.map_cons] at this
  rw [h3]
  have h4 := join_split ((ks.take j).map Kid.l) (ps.take j) ks[j].l ((ks.drop (j + 1)).map Kid.l) (ps.drop j) (by simp; omega)
  rwa [List.take_append_drop] at h4
/-- how much stands ahead of kid j. -/
def ahead (ks : List Kid) (ps : List Pr) (j : Nat) : Nat := (joinL ((ks.take j).map Kid.l) (ps.take j)).length
theorem ahead_zero (ks : List Kid) (ps : List Pr) : ahead ks ps 0 = 0 := by simp [ahead, joinL]
theorem ahead_succ {ks : List Kid} {ps : List Pr} (j : Nat) (z : Kid) (hz : ks[j]? = some z) (hj : j < ps.length) (hk : j < ks.length) : ahead ks ps (j + 1) = ahead ks ps j + z.l.length + 1 := by
  unfold ahead
  have hz' : ks[j] = z := by rw [List.getElem?_eq_getElem hk] at hz; exact Option.some.inj hz
  rw [List.take_succ_eq_append_getElem hk, List.take_succ_eq_append_getElem hj, hz', List.map_append, List.map_cons, List.map_nil, joinL_snoc _ _ _ _ (by simp; omega)]
  simp; omega
theorem at_kid {ks : List Kid} {ps : List Pr} (hlen : ks.length = ps.length + 1) (j : Nat) (hj : j < ks.length) (z : Kid) (hz : ks[j]? = some z) (m : Nat) (hm : m < z.l.length) : (join (ks.map Kid.l) ps)[ahead ks ps j + m]? = z.l[m]? := by
  obtain ⟨z', hz', e⟩ := kid_split hlen j hj
  obtain rfl : z' = z := by rw [hz'] at hz; exact Option.some.inj hz
  rw [e, List.getElem?_append_left (by simp [ahead]; omega), List.getElem?_append_right (by simp [ahead])]
  simp [ahead]
theorem at_pair {ks : List Kid} {ps : List Pr} (hlen : ks.length = ps.length + 1) (j : Nat) (hj : j < ps.length) (z : Kid) (hz : ks[j]? = some z) : (join (ks.map Kid.l) ps)[ahead ks ps j + z.l.length]? = ps[j]? := by
  obtain ⟨z', hz', e⟩ := kid_split hlen j (by omega)
  obtain rfl : z' = z := by rw [hz'] at hz; exact Option.some.inj hz
  rw [e, List.getElem?_append_right (by simp [ahead])]
  have h1 : ps.drop j = ps[j] :: ps.drop (j + 1) := (List.getElem_cons_drop hj).symm
  have h2 : ∃ u r, (ks.drop (j + 1)).map Kid.l = u :: r := by
    cases hq : (ks.drop (j + 1)).map Kid.l with
    | nil => have := congrArg List.length hq; simp at this; omega
    | cons u r => exact ⟨u, r, rfl⟩
  obtain ⟨u, r, h2⟩ := h2
  rw [h1, h2, joinR]
  have h3 : ahead ks ps j + z'.l.length - (joinL ((ks.take j).map Kid.l) (ps.take j) ++ z'.l).length = 0 := by simp [ahead]
  rw [h3]
  simp [List.getElem?_eq_getElem hj]
theorem at_last {ks : List Kid} {ps : List Pr} (hlen : ks.length = ps.length + 1) (z : Kid) (hz : ks[ps.length]? = some z) : (join (ks.map Kid.l) ps).length = ahead ks ps ps.length + z.l.length := by
  obtain ⟨z', hz', e⟩ := kid_split hlen ps.length (by omega)
  obtain rfl : z' = z := by rw [hz'] at hz; exact Option.some.inj hz
  rw [e]
  simp [ahead, joinR]

theorem two_cells {W : World} {b : Nat} {x y : Value} {t : TypeId} (h : W.heap[b]? = some (.cells #[x, y] t (0, 0))) (u v : Value) : ((W.setCell ⟨b, 0, none⟩ u).setCell ⟨b, 1, none⟩ v).heap[b]? = some (.cells #[u, v] t (0, 0)) := by
  have h1 := heap_setCell_same W b 0 _ t u h
  have h2 := heap_setCell_same _ b 1 _ t v h1
  simpa using h2
theorem IsT.size {t : Nat} {w : World} : ∀ {h : Nat} {x : Kid}, IsT t w h x → w.cell? ⟨x.p, 2, none⟩ = some (.int .i64 x.l.length)
  | 0, _, ⟨_, h1, _⟩ => h1.c2
  | _ + 1, _, ⟨_, _, _, _, h1, _⟩ => h1.c2

set_option maxRecDepth 100000 in
set_option maxHeartbeats 1000000 in
theorem at_any (t : Nat) : ∀ (h : Nat) (x : Kid) (i : Nat) (q : Pr) (w : World), IsT t w h x → Rising x.l → x.l[i]? = some q → x.l.length ≤ 1000000 →
    Calls Try.prog 30 #[.pointer (some ⟨x.p, 0, none⟩), .int .i64 i] w fun e w' => e = .returned (.agg #[.int .i64 q.1, .string q.2]) ∧ Below w.heap.size w w'
  | 0, x, i, q, w, hx, _, hq, hn => at_leaf t x i q w hx hq hn
  | h + 1, x, i, q, w, hx, hs, hq, hn => by
    have IH := Lib.hid (at_any t h)
    obtain ⟨vp, vk, ps, ks, r1, r2, r3, r4, r5, r6, r7, r8⟩ := hx
    have hi : i < x.l.length := (List.getElem?_eq_some_iff.1 hq).1
    obtain ⟨gk, ck, rfl, hck⟩ := r3.own (by intro e; rw [e] at r4; simp at r4)
    have B0 := (Below.refl w.heap.size w).alloc (Nat.le_refl _) (.cells #[.int .i64 0, .string ByteArray.empty] 61)
    have hpl : ps.length ≤ x.l.length := by
      have hsub : ps.Sublist x.l := by
        cases ks with
        | nil => simp at r4
        | cons a r => rw [r5]; simpa using join_sub a.l (r.map Kid.l) ps (by simp at r4 ⊢; omega)
      exact hsub.length_le
    have HS := Lib.hid hs
    have HQ := Lib.hid hq
    have R1 : Hid (Rec (w.alloc (.cells #[.int .i64 0, .string ByteArray.empty] 61)) x.p vp (.slice (some ⟨gk, 0, none⟩) ks.length ck) x.l.length) := Lib.hid (Rec.touch r1 (Touch.of_below B0 []) (by simp))
    have R2 : Hid (PRow (w.alloc (.cells #[.int .i64 0, .string ByteArray.empty] 61)) vp ps) := Lib.hid (PRow.touch r2 (Touch.of_below B0 []) (by simp))
    have R3 : Hid (KRow (w.alloc (.cells #[.int .i64 0, .string ByteArray.empty] 61)) (.slice (some ⟨gk, 0, none⟩) ks.length ck) ks) := Lib.hid (KRow.touch r3 (Touch.of_below B0 []) (by simp))
    have R8 : Hid (∀ y ∈ ks, IsT t (w.alloc (.cells #[.int .i64 0, .string ByteArray.empty] 61)) h y) := Lib.hid (fun y hy => (r8 y hy).1.touch (Touch.of_below B0 []) (by simp))
    have R4 := Lib.hid r4
    have R5 := Lib.hid r5
    have BB := Lib.hid B0
    have hkl : 0 < ks.length := by omega
    have hkb : ks.length ≤ 1000001 := by omega
    clear r1 r2 r3 r4 r5 r6 r7 r8 hs hq B0
    have c1 := R1.out.c1
    have AN : Hid ((w.alloc (.cells #[.int .i64 0, .string ByteArray.empty] 61)).heap[w.heap.size]? = some (.cells #[.int .i64 0, .string ByteArray.empty] 61 (0, 0))) := Lib.hid (heap_alloc_new w _)
    go_enter Try.func30, Try.ntmps30
    go_wp2_with fail
    refine (leaf_no x.p _ _ _ _ c1 hkl).mono ?_
    rintro e w' ⟨rfl, rfl⟩
    go_wp2_with fail
    have W1S : (w.alloc (.cells #[.int .i64 0, .string ByteArray.empty] 61)).heap.size = w.heap.size + 1 := by simp
    have WS := Lib.hid W1S
    clear W1S
    generalize w.alloc (.cells #[.int .i64 0, .string ByteArray.empty] 61) = W at *
    generalize hT : w.heap.size = T at *
    have HT := Lib.hid hT
    clear hT
    go_loop [1, 21] (fun s1 s21 => ∃ (j m : Nat), j ≤ ps.length ∧ m ≤ 1000000 ∧ s21 = .int .i64 j ∧ s1 = .int .i64 m ∧ Hid (ahead ks ps j + m = i)) (fun _ s21 => ks.length - (intOf s21).toNat)
    case atStart => exact ⟨0, i, Nat.zero_le _, by omega, rfl, rfl, Lib.hid (by rw [ahead_zero]; omega)⟩
    case round =>
      obtain ⟨j, m, hj, hmb, rfl, rfl, HM⟩ := hrel
      have hjk : j < ks.length := by have := R4.out; omega
      have hjk' : (j : Int) < (ks.length : Int) := by omega
      obtain ⟨z, hz⟩ : ∃ z, ks[j]? = some z := ⟨ks[j], List.getElem?_eq_getElem hjk⟩
      have hzm : z ∈ ks := List.mem_of_getElem? hz
      have kc := R3.out.cell j z hz
      have zs := (R8.out z hzm).size
      have HZ := Lib.hid hz
      have ZT := Lib.hid (R8.out z hzm)
      obtain ⟨e1, e2, e3⟩ : Rising z.l ∧ z.l.length ≤ 1000000 ∧ (j = ps.length → m < z.l.length) := by
        obtain ⟨z', hz', e⟩ := kid_split R4.out j hjk
        obtain rfl : z' = z := by rw [hz'] at hz; exact Option.some.inj hz
        have hr := HS.out
        have hl := congrArg List.length R5.out
        rw [R5.out, e] at hr
        rw [e] at hl
        refine ⟨(rising_append.1 (rising_append.1 hr).1).2.1, by simp at hl; omega, fun hje => ?_⟩
        subst hje
        have h5 := at_last R4.out z' hz
        rw [← R5.out] at h5
        have := HM.out
        omega
      have E1 := Lib.hid e1
      have ZL : (z.l.length : Int) ≤ 1000000 := by omega
      clear e1 hz hzm
      by_cases hm : m < z.l.length
      · have hm' : (m : Int) < (z.l.length : Int) := by omega
        have ZQ : Hid (z.l[m]? = some q) := Lib.hid (by
          have h6 := at_kid R4.out j hjk z HZ.out m hm
          rw [← R5.out, HM.out, HQ.out] at h6
          exact h6.symm)
        go_wp2_with fail
        refine (IH.out z m q W ZT.out E1.out ZQ.out e2).mono ?_
        rintro e w2 ⟨rfl, hb⟩
        have AN2 : w2.heap[T]? = some (.cells #[.int .i64 0, .string ByteArray.empty] 61 (0, 0)) := (hb.block T (by have := WS.out; omega)).trans AN.out
        have t0 := cell_of_row w2 T 0 _ _ _ AN2
        have t1 := cell_of_row w2 T 1 _ _ _ AN2
        have tf : ∀ o, w2.frozen? ⟨T, o, none⟩ = false := fun o => by simp [World.frozen?, AN2]
        simp only [List.getElem?_toArray, List.getElem?_cons_zero, List.getElem?_cons_succ] at t0 t1
        have HB := Lib.hid hb
        have AN2' := Lib.hid AN2
        clear hb AN2 c1 kc zs
        go_wp2
        refine bodyPost_ret (v := .agg #[.int .i64 q.1, .string q.2]) (pair_gives Try.results30 _ _ T _ _ rfl (two_cells AN2'.out _ _)) rfl ⟨rfl, ?_⟩
        rw [HT.out]
        exact (((BB.out).trans (HB.out.mono (by have := WS.out; omega))).setCell (Nat.le_refl _) _).setCell (Nat.le_refl _) _
      · have hm2 : ¬ (m : Int) < (z.l.length : Int) := by omega
        have hjp : j < ps.length := by
          have := e3
          omega
        by_cases h0 : m = z.l.length
        · have hz0 : (m : Int) - (z.l.length : Int) = 0 := by omega
          have PQ : Hid (ps[j]? = some q) := Lib.hid (by
            have h6 := at_pair R4.out j hjp z HZ.out
            rw [← R5.out, ← h0, HM.out, HQ.out] at h6
            exact h6.symm)
          obtain ⟨gp, cp, hvp, hcp⟩ := R2.out.own (by intro e; rw [e] at hjp; simp at hjp)
          subst hvp
          obtain ⟨q', hq', p0, p1⟩ := R2.out.row.getAt j hjp
          obtain rfl : q' = q := by rw [PQ.out] at hq'; exact (Option.some.inj hq').symm
          have x0 := R1.out.c0
          have hjp' : (j : Int) < (ps.length : Int) := by omega
          have t0 := cell_of_row W T 0 _ _ _ AN.out
          have t1 := cell_of_row W T 1 _ _ _ AN.out
          have tf : ∀ o, W.frozen? ⟨T, o, none⟩ = false := fun o => by simp [World.frozen?, AN.out]
          simp only [List.getElem?_toArray, List.getElem?_cons_zero, List.getElem?_cons_succ] at t0 t1
          have H0 := Lib.hid h0
          clear hq' h0 c1 hm e3
          go_wp2
          refine bodyPost_ret (v := .agg #[.int .i64 q'.1, .string q'.2]) (pair_gives Try.results30 _ _ T _ _ rfl (two_cells AN.out _ _)) rfl ⟨rfl, ?_⟩
          rw [HT.out]
          exact (BB.out.setCell (Nat.le_refl _) _).setCell (Nat.le_refl _) _
        · have hz0 : ¬ (m : Int) - (z.l.length : Int) = 0 := by omega
          have hz1 : 0 < (m : Int) - (z.l.length : Int) := by omega
          have AS := Lib.hid (ahead_succ j z HZ.out hjp hjk)
          clear e3 h0
          go_wp2
          go_round
          case rel => exact ⟨j + 1, m - z.l.length - 1, by omega, by omega, by go_num, by rw [show ((m - z.l.length - 1 : Nat) : Int) = (m : Int) - z.l.length - 1 by omega], Lib.hid (by rw [AS.out]; have := HM.out; omega)⟩
          case measure => simp [intOf]; omega
end Go.Proofs.Ytcboakmfabdeoaa
