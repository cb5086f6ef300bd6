/- slices.Insert at pairs. -/
import Derived.Test.YtcboakmfabdeoaaW3
import Derived.Lib.Overlaps
import Derived.Lib.AppendZerosOnto
import Derived.Laws.CopyRow
import Derived.Deep.RegionLaw
namespace Go.Proofs.Ytcboakmfabdeoaa
open Go.RowKit

theorem Try.info61 : (Try.prog.info? 61).map (fun i => (i.zero, i.size, i.bytes)) = some (some (.agg #[.int .i64 0, .string ByteArray.empty]), 2, 24) := by kernel_rfl

/-- copy, at elements of k cells. -/
theorem run_copy_rowk {P : Program} (k : Nat) (w : World) (dT sT ty elem : TypeId) (g o dLen dCap : Nat) (a : Addr) (sLen sCap : Nat) (cur : Array Value) (t : TypeId) (cs : List Value)
    (hu : P.underlying dT = some (.slice elem)) (hs : (P.info? elem).map (·.size) = some k)
    (hg : w.heap[g]? = some (.cells cur t (0, 0))) (hn : cs.length = Nat.min sLen dLen * k)
    (hsrc : ∀ j v, cs[j]? = some v → w.cell? (a.add j) = some v) (hfit : o + cs.length ≤ cur.size) (h1 : ∀ v ∈ cs, v.oneCell' = true) :
    (Builtin.copy_ #[dT, sT] ty #[.slice (some ⟨g, o, none⟩) dLen dCap, .slice (some a) sLen sCap]).run P w =
      .ok (goInt (Nat.min sLen dLen)) (w.setRow g (cur.toList.take o ++ cs ++ cur.toList.drop (o + cs.length)).toArray) := by
  have hl := run_loadCells_list (P := P) w a cs hsrc
  have hst := run_storeCells_at P g o t cs 0 cur w hg (by simpa using hfit) h1
  cases hq : P.info? elem with
  | none => simp [hq] at hs
  | some i =>
    have hi : i.size = k := by simpa [hq] using hs
    simp [Builtin.copy_, run_underlying hu, Builtin.lenOf, Builtin.firstCells, sizeOf, typeInfo, hq, hi, ← hn, hl, hst]

theorem wp_copy_runI {P : Program} (w : World) {o : Oper} {a : Act} {K : Act → World → Prop} {Q : Exit → Act → World → Prop} (d s : Operand) (t t' : TypeId)
    (ho : o.op = .call { callee := .builtin .copy, args := #[d, s], argTypes := #[t, t'] }) (v u : Value) (hd : a.eval d = v) (hs : a.eval s = u) {v' : Value} {w' : World}
    (hr : (Builtin.copy_ #[t, t'] o.type #[v, u]).run P w = .ok v' w') (h : K (a.put o.dst v') w') : o.wp P a w K Q := by
  unfold Oper.wp execOp
  simp only [ho, resolve, invoke, builtin, Sem.run_bind, Sem.run_pure, Result.andThen_ok, List.map_toArray, List.map_cons, List.map_nil, hd, hs, hr]
  exact h

theorem wpList_copy_runI {P : Program} (w : World) {ops : Array Oper} {rest : List Oper} {o : Oper} {a : Act} {Q : Exit → Act → World → Prop} (hgd : o.guard = none) (d s : Operand) (t t' : TypeId)
    (ho : o.op = .call { callee := .builtin .copy, args := #[d, s], argTypes := #[t, t'] }) (v u : Value) (hd : a.eval d = v) (hs : a.eval s = u) {v' : Value} {w' : World}
    (hr : (Builtin.copy_ #[t, t'] o.type #[v, u]).run P w = .ok v' w') (h : wpList P ops Q rest (a.put o.dst v') w') : wpList P ops Q (o :: rest) a w :=
  wpList_plain hgd fun _ hK => wp_copy_runI w d s t t' ho v u hd hs hr (hK _ _ h)

theorem step_copy_runI {P : Program} {ops : Array Oper} {o : Oper} {a : Act} {w : World} {K : Act → World → Prop} {Q : Exit → Act → World → Prop} {E : Prop}
    (hg : o.guard = none) (d x : Operand) (dT sT : TypeId) (hop : o.op = Op.call { callee := Callee.builtin Builtin.copy, args := #[d, x], argTypes := #[dT, sT] })
    (v u : Value) (hd : a.eval d = v) (hx : a.eval x = u) {v' : Value} {w' : World} (hr : (Builtin.copy_ #[dT, sT] o.type #[v, u]).run P w = .ok v' w') (hK : K (a.put o.dst v') w') :
    if Region.wanted o (yielded ops a.tmps) = true then Oper.wp P o a w K Q else E := by
  have hw : Region.wanted o (yielded ops a.tmps) = true := by simp [Region.wanted, hg]
  rw [if_pos hw]
  unfold Oper.wp
  simp [execOp, hop, resolve, invoke, builtin, hd, hx, hr, Result.andThen]
  exact hK

def encP (l : List (Int × ByteArray)) : List Value := l.flatMap fun p => [.int .i64 p.1, .string p.2]

theorem encP_length (l : List (Int × ByteArray)) : (encP l).length = l.length * 2 := by
  induction l with
  | nil => rfl
  | cons p r ih => simp only [encP, List.flatMap_cons, List.length_append, List.length_cons] at ih ⊢; rw [show (List.flatMap (fun p : Int × ByteArray => [Value.int .i64 p.1, Value.string p.2]) r).length = r.length * 2 from ih]; simp; omega

theorem encP_append (l r : List (Int × ByteArray)) : encP (l ++ r) = encP l ++ encP r := by simp [encP]

theorem encP_one (l : List (Int × ByteArray)) : ∀ v ∈ encP l, v.oneCell' = true := by
  intro v hv
  simp only [encP, List.mem_flatMap] at hv
  obtain ⟨p, _, hp⟩ := hv
  simp at hp
  rcases hp with rfl | rfl <;> rfl

/-- A row of pairs in memory that belongs to it alone. -/
def PRow (w : World) (v : Value) (l : List (Int × ByteArray)) : Prop := w.ownsRow 0 61 2 v l.length (encP l)

theorem encP_take (l : List (Int × ByteArray)) (i : Nat) : (encP l).take (i * 2) = encP (l.take i) := by
  have h := encP_append (l.take i) (l.drop i)
  rw [List.take_append_drop] at h
  by_cases hi : i ≤ l.length
  · rw [h, List.take_left' (by rw [encP_length, List.length_take]; omega)]
  · rw [List.take_of_length_le (by rw [encP_length]; omega), List.take_of_length_le (by omega)]

theorem encP_drop (l : List (Int × ByteArray)) (i : Nat) : (encP l).drop (i * 2) = encP (l.drop i) := by
  have h := encP_append (l.take i) (l.drop i)
  rw [List.take_append_drop] at h
  by_cases hi : i ≤ l.length
  · rw [h, List.drop_left' (by rw [encP_length, List.length_take]; omega)]
  · rw [List.drop_eq_nil_of_le (by rw [encP_length]; omega), List.drop_eq_nil_of_le (by omega)]; rfl

/-- the block of the row that comes back: the old one, or a new one. -/
def OwnNew (w : World) (v v' : Value) : Prop := ∀ g, v'.ownBlock = some g → v.ownBlock = some g ∨ w.heap.size ≤ g

theorem append_own2 {P : Program} (w : World) (t ty e : TypeId) (i : TypeInfo) (z : Value) (size bytes : Nat) (ht : P.underlying t = some (.slice e)) (hi : P.info? e = some i) (hz : i.zero = some z)
    (hsize : i.size = size) (hby : i.bytes = bytes) (hzs : z.cells.size = size) (hsz : 0 < size)
    (v : Value) (n : Nat) (xs : List Value) (hown : w.ownsRow 0 e size v n xs)
    (a : Addr) (m c : Nat) (news : List Value) (hl : news.length = m * size) (hnews : ∀ j u, news[j]? = some u → w.cell? (a.add j) = some u) (h1 : ∀ u ∈ news, u.oneCell' = true)
    (h63 : n + m ≤ 1000001) (hbytes : bytes ≤ 64) (hcapb : ∀ g k cap, v = .slice (some g) k cap → k ≤ cap) :
    ∃ v' w', (Builtin.append_ #[t, t] ty #[v, .slice (some a) m c]).run P w = .ok v' w' ∧ w'.ownsRow 0 e size v' (n + m) (xs ++ news) ∧ w.grownBy w' v.ownBlock ∧ OwnNew w v v' := by
  have hb2 : (n + m) * bytes ≤ 140737488355328 := by
    have : (n + m) * bytes ≤ 1000001 * 64 := Nat.mul_le_mul h63 hbytes
    omega
  obtain ⟨v', w', r1, r2, r3, _⟩ := run_append_own (P := P) w 0 t ty e i z size bytes ht hi hz hsize hby hzs hsz v n xs hown a m c news hl hnews h1 (by unfold maxLen; omega) hb2 (Nat.zero_le _)
  refine ⟨v', w', r1, r2, r3, ?_⟩
  intro g hg
  rcases hown.2 with ⟨rfl, rfl⟩ | ⟨g0, cap, cur, rfl, _, hh, hnc, hcm, hcs, htk⟩
  · have hx : xs = [] := List.eq_nil_of_length_eq_zero (by simpa using hown.1)
    subst hx
    obtain ⟨v2, w2, q1, q2, _, _⟩ := run_append_own (P := P) w w.heap.size t ty e i z size bytes ht hi hz hsize hby hzs hsz (.slice none 0 0) 0 [] (World.ownsRow_nil _ _ _ _) a m c news hl hnews h1 (by unfold maxLen; omega) hb2 (Nat.le_refl _)
    rw [r1] at q1
    injection q1 with q1 q1'
    subst q1; subst q1'
    exact .inr (q2.lt g hg).1
  · by_cases hroom : n + m ≤ cap
    · have q1 := run_append_room (P := P) w t ty e i ht hi g0 n cap cur hh a m c news (by rw [hl, hsize]) hnews h1 hroom (by rw [hl, hcs, hsize, ← Nat.add_mul]; exact Nat.mul_le_mul_right _ hroom)
      rw [r1] at q1
      injection q1 with q1 q1'
      subst q1
      exact .inl hg
    · have hcl := hown.cells (g := g0) rfl
      have q1 := run_append_grow (P := P) w t ty e i z ht hi hz ⟨g0, 0, none⟩ n cap xs (by rw [hown.1, hsize]) hcl a m c news (by rw [hl, hsize]) hnews (by omega) (by omega) (growslice_fits (by omega) (by rw [hby]; exact hb2))
      rw [r1] at q1
      injection q1 with q1 q1'
      subst q1
      have : w.heap.size = g := by simpa [Value.ownBlock] using hg
      exact .inr (by omega)

/-- append(s[:i], make(S, z)...) where there is no room. -/
theorem append_zeros_P (g n cap i z : Nat) (l : List (Int × ByteArray)) (w : World) (hl : l.length = n) (hi : i ≤ n) (hnc : n ≤ cap) (hz : 0 < z) (hc : cap < i + z) (hn : i + z ≤ 1000001) (hcap : cap ≤ 1000001) (hr : PRow w (.slice (some ⟨g, 0, none⟩) n cap) l) :
    ∃ (C : Nat) (cur : Array Value), i + z ≤ C ∧ C ≤ maxLen ∧ cur.size = C * 2 ∧ cur.toList.take (i * 2) = encP (l.take i) ∧
      ∀ ty, (Builtin.append_ #[65, 3] ty #[.slice (some ⟨g, 0, none⟩) i cap, .int .i64 z]).run Try.prog w = .ok (.slice (some ⟨w.heap.size, 0, none⟩) (i + z) C) (w.drew.alloc (.cells cur 61)) := by
  obtain ⟨i0, hi0, hz0, hzs, hzb⟩ := info_parts Try.info61
  have hcl := hr.cells (g := g) rfl
  have hold : (Builtin.firstCells i0.size i (.slice (some ⟨g, 0, none⟩) i cap)).run Try.prog w.drew = .ok (encP (l.take i)).toArray w.drew := by
    rw [hzs]
    have hle : (encP (l.take i)).length = i * 2 := by rw [encP_length, List.length_take]; omega
    have := run_loadCells_list (P := Try.prog) w.drew ⟨g, 0, none⟩ (encP (l.take i)) (fun j v hj => by
      rw [World.cell?_drew]
      refine hcl j v ?_
      rw [← encP_take] at hj
      rw [List.getElem?_take] at hj
      split at hj
      · exact hj
      · cases hj)
    rw [hle] at this
    exact this
  have hrun := fun ty => Lib.run_append_grow_zeros (P := Try.prog) w 65 3 ty 61 i0 (.agg #[.int .i64 0, .string ByteArray.empty]) .i64 .i64 Try.underlying65 Try.underlying3 hi0 hz0 (some ⟨g, 0, none⟩) i cap (encP (l.take i)) hold z hz (by omega) hc (by omega) (by rw [hzb]; omega) (growslice_fits (by omega) (by rw [hzb]; omega))
  have hge := grownCap_ge w (i + z) cap 61
  refine ⟨grownCap w (i + z) cap 61, _, hge, grownCap_le_maxLen w _ _ _ (by unfold maxLen; omega), ?_, ?_, hrun⟩
  · simp only [Array.size_append, List.size_toArray, encP_length, List.length_take, Builtin.zeroCells, Array.size_map, Array.size_range]
    have : (Value.agg #[Value.int IntKind.i64 0, Value.string ByteArray.empty]).cells.size = 2 := rfl
    rw [this]
    omega
  · simp only [Array.toList_append]
    rw [List.append_assoc, List.take_left' (by rw [encP_length, List.length_take]; omega)]

set_option maxHeartbeats 400000 in
set_option maxRecDepth 100000 in
theorem insertP_grow (g n cap i vb : Nat) (l : List (Int × ByteArray)) (x : Int × ByteArray) (w : World) (hl : l.length = n) (hi : i < n) (hnc : n ≤ cap) (hc : cap < n + 1) (hn : n ≤ 1000000) (hr : PRow w (.slice (some ⟨g, 0, none⟩) n cap) l)
   (hv : w.heap[vb]? = some (.cells #[.int .i64 x.1, .string x.2] 61 (0, 0))) (hne : vb ≠ g) :
    Calls Try.prog 47 #[.slice (some ⟨g, 0, none⟩) n cap, .int .i64 i, .slice (some ⟨vb, 0, none⟩) 1 1] w fun e w' =>
      ∃ cap', e = .returned (.slice (some ⟨w.heap.size, 0, none⟩) (n + 1) cap') ∧ PRow w' (.slice (some ⟨w.heap.size, 0, none⟩) (n + 1) cap') (l.take i ++ x :: l.drop i) ∧ Below w.heap.size w w' := by
  have h1 : ¬ ((i : Int) = (n : Int)) := by omega
  obtain ⟨C, cur, hC, hCm, hcs, htk, hap⟩ := append_zeros_P g n cap i (n + 1 - i) l w hl (by omega) hnc (by omega) (by omega) (by omega) (by omega) hr
  have hz : ((n + 1 - i : Nat) : Int) = (n : Int) + 1 - i := by omega
  rw [hz, show i + (n + 1 - i) = n + 1 by omega] at hap
  rw [show i + (n + 1 - i) = n + 1 by omega] at hC
  clear hz
  have HAP := Lib.hid hap
  have HR := Lib.hid hr
  have HV := Lib.hid hv
  have HL := Lib.hid hl
  have HTK := Lib.hid htk
  have HCS := Lib.hid hcs
  clear hr hv hl hap htk hcs
  obtain ⟨W0, hW0⟩ : ∃ W0, W0 = (w.alloc (.cells cur 61)).drew := ⟨_, rfl⟩
  have g0 : W0.heap[w.heap.size]? = some (.cells cur 61 (0, 0)) := by rw [hW0]; exact heap_alloc_new w _
  have b0 : Below w.heap.size w W0 := by rw [hW0]; exact ((Below.refl _ w).alloc (Nat.le_refl _) _).drew
  have vlt : vb < w.heap.size := (Array.getElem?_eq_some_iff.1 HV.out).1
  have glt : g < w.heap.size := (World.ownsRow.lt HR.out g rfl).2
  have cp1 := run_copy_rowk (P := Try.prog) 2 W0 65 65 3 61 w.heap.size (i * 2) (n + 1 - i) (C - i) ⟨vb, 0, none⟩ 1 1 cur 61 (encP [x]) Try.underlying65 (by obtain ⟨i0, h0, _, h2, _⟩ := info_parts Try.info61; rw [h0]; simp [h2]) g0
    (by rw [encP_length, show Nat.min 1 (n + 1 - i) = 1 from Nat.min_eq_left (by omega)]; rfl)
    (fun j v hj => by
      rw [b0.cell (p := (⟨vb, 0, none⟩ : Addr).add j) (by rw [Addr.add_lit]; exact vlt), Addr.add_lit, Nat.zero_add, cell_of_row w vb j _ _ _ HV.out]
      simpa [encP] using hj) (by rw [encP_length, HCS.out]; simp; omega) (encP_one _)
  obtain ⟨cur1, hcur1⟩ : ∃ cur1, cur1 = (cur.toList.take (i * 2) ++ encP [x] ++ cur.toList.drop (i * 2 + (encP [x]).length)).toArray := ⟨_, rfl⟩
  rw [← hcur1] at cp1
  have s1 : cur1.size = C * 2 := by rw [hcur1]; simp [encP_length, HCS.out]; omega
  have t1 : cur1.toList.take ((i + 1) * 2) = encP (l.take i ++ [x]) := by
    rw [hcur1, encP_append, ← HTK.out]
    have hlen : (cur.toList.take (i * 2) ++ encP [x]).length = (i + 1) * 2 := by simp [encP_length, HCS.out]; omega
    show List.take _ (List.toArray _).toList = _
    rw [← hlen]; exact List.take_left
  obtain ⟨W1, hW1⟩ : ∃ W1, W1 = W0.setRow w.heap.size cur1 := ⟨_, rfl⟩
  rw [← hW1] at cp1
  have g1 : W1.heap[w.heap.size]? = some (.cells cur1 61 (0, 0)) := by rw [hW1]; exact setRow_heap W0 _ cur _ _ _ g0
  have b1 : Below w.heap.size w W1 := by rw [hW1]; exact b0.trans ⟨rfl, rfl, rfl, by simp, fun k hk => setRow_other _ _ _ _ (by omega)⟩
  have cp2 := run_copy_rowk (P := Try.prog) 2 W1.drew 65 65 3 61 w.heap.size ((i + 1) * 2) (n - i) (C - (i + 1)) ⟨g, i * 2, none⟩ (n - i) (cap - i) cur1 61 (encP (l.drop i)) Try.underlying65 (by obtain ⟨i0, h0, _, h2, _⟩ := info_parts Try.info61; rw [h0]; simp [h2]) g1
    (by rw [encP_length, List.length_drop, HL.out]; simp [Nat.min_def])
    (fun j v hj => by
      rw [World.cell?_drew, b1.cell (p := (⟨g, i * 2, none⟩ : Addr).add j) (by rw [Addr.add_lit]; exact glt), Addr.add_lit]
      have := World.ownsRow.cells HR.out (g := g) rfl (i * 2 + j) v (by rw [← encP_drop] at hj; rw [List.getElem?_drop] at hj; exact hj)
      rw [Addr.add_lit, Nat.zero_add] at this
      exact this) (by rw [encP_length, s1, List.length_drop, HL.out]; omega) (encP_one _)
  obtain ⟨cur2, hcur2⟩ : ∃ cur2, cur2 = (cur1.toList.take ((i + 1) * 2) ++ encP (l.drop i) ++ cur1.toList.drop ((i + 1) * 2 + (encP (l.drop i)).length)).toArray := ⟨_, rfl⟩
  rw [← hcur2] at cp2
  have s2 : cur2.size = C * 2 := by rw [hcur2]; simp [encP_length, s1, HL.out]; omega
  have t2 : cur2.toList.take ((n + 1) * 2) = encP (l.take i ++ x :: l.drop i) := by
    rw [hcur2, show l.take i ++ x :: l.drop i = (l.take i ++ [x]) ++ l.drop i by simp, encP_append _ (l.drop i), ← t1]
    have hlen : (cur1.toList.take ((i + 1) * 2) ++ encP (l.drop i)).length = (n + 1) * 2 := by simp [encP_length, s1, HL.out]; omega
    show List.take _ (List.toArray _).toList = _
    rw [← hlen]; exact List.take_left
  obtain ⟨W2, hW2⟩ : ∃ W2, W2 = W1.drew.setRow w.heap.size cur2 := ⟨_, rfl⟩
  rw [← hW2] at cp2
  have g2 : W2.heap[w.heap.size]? = some (.cells cur2 61 (0, 0)) := by rw [hW2]; exact setRow_heap W1.drew _ cur1 _ _ _ g1
  have b2 : Below w.heap.size w W2 := by rw [hW2]; exact b1.drew.trans ⟨rfl, rfl, rfl, by simp, fun k hk => setRow_other _ _ _ _ (by omega)⟩
  have hlen : (l.take i ++ x :: l.drop i).length = n + 1 := by have := HL.out; simp; omega
  have own : PRow W2 (.slice (some ⟨w.heap.size, 0, none⟩) (n + 1) C) (l.take i ++ x :: l.drop i) := by
    unfold PRow
    rw [hlen]
    exact ⟨by rw [encP_length, hlen], .inr ⟨w.heap.size, C, cur2, rfl, Nat.zero_le _, g2, hC, hCm, s2, t2⟩⟩
  rw [hW0] at cp1
  have FIN : Hid (PRow W2 (.slice (some ⟨w.heap.size, 0, none⟩) (n + 1) C) (l.take i ++ x :: l.drop i) ∧ Below w.heap.size w W2) := ⟨own, b2⟩
  clear own b2 g2 hW2 t2 s2 hcur2 b1 g1 hW1 t1 s1 hcur1 b0 g0 hW0 HCS HTK HL HV HR hlen
  have CP2 := Lib.hid cp2
  clear cp2
  have q1 : IntKind.i64.wrap ((i : Int) + 1) = (i : Int) + 1 := by rw [IntKind.wrap_i64]; omega
  have q2 : (0 : Int) ≤ (i : Int) + 1 := by omega
  have q3 : ((i : Int) + 1).toNat = i + 1 := by omega
  have q4 : ¬ (C = i + 1) := by omega
  have q5 : (i : Int) + 1 ≤ (n : Int) + 1 := by omega
  have q6 : ¬ (cap = i) := by omega
  have q7 : (i : Int) ≤ (n : Int) := by omega
  go_enter Try.func47, Try.ntmps47
  go_wp2_with (at_builtin; refine Lib.wpList_append_run _ rfl _ _ 65 3 rfl _ _ rfl rfl _ _ (HAP.out _) ?_)
  go_region_law (refine step_copy_runI rfl _ _ 65 65 rfl _ _ (by simp [Act.eval, Act.put]) (by simp [Act.eval, Act.put]) CP2.out ?_)
  go_wp2
  go_ret
  exact ⟨C, rfl, FIN.out⟩
theorem size61 : (Try.prog.info? 61).map (·.size) = some 2 := by obtain ⟨i0, h0, _, h2, _⟩ := info_parts Try.info61; rw [h0]; simp [h2]

theorem overlaps_no (g vb o la ca lb cb : Nat) (c1 c2 : Array Value) (w : World) (hv : w.heap[vb]? = some (.cells c1 61 (0, 0))) (hg : w.heap[g]? = some (.cells c2 61 (0, 0))) (h2 : c2.size ≠ 0) (hne : vb ≠ g) :
    (callFunc 63 #[.slice (some ⟨vb, 0, none⟩) la ca, .slice (some ⟨g, o, none⟩) lb cb]).run Try.prog w = .ok (.value (.bool false)) w := by
  rw [run_callFunc_extern Try.func63 (by kernel_rfl) (by kernel_rfl) (by kernel_rfl) (e := Extern.SlicesOverlaps.overlaps #[65, 65] #[4]) (by kernel_rfl),
    Lib.run_overlaps_apart w 65 4 61 Try.underlying65 2 Try.sizeOf61 ⟨vb, 0, none⟩ ⟨g, o, none⟩ la ca lb cb hne 61 61 c1.size c2.size (by simp [World.shape?, hv]) (by simp [World.shape?, hg]) h2 (by simp [World.frozen?, hv]) (by simp [World.frozen?, hv])]
  rfl

set_option maxHeartbeats 400000 in
set_option maxRecDepth 100000 in
theorem insertP_shift (g n cap i vb : Nat) (l : List (Int × ByteArray)) (x : Int × ByteArray) (w : World) (hl : l.length = n) (hi : i < n) (hc : n + 1 ≤ cap) (hn : n ≤ 1000000) (hr : PRow w (.slice (some ⟨g, 0, none⟩) n cap) l)
   (hv : w.heap[vb]? = some (.cells #[.int .i64 x.1, .string x.2] 61 (0, 0))) (hne : vb ≠ g) :
    Calls Try.prog 47 #[.slice (some ⟨g, 0, none⟩) n cap, .int .i64 i, .slice (some ⟨vb, 0, none⟩) 1 1] w fun e w' =>
      e = .returned (.slice (some ⟨g, 0, none⟩) (n + 1) cap) ∧ PRow w' (.slice (some ⟨g, 0, none⟩) (n + 1) cap) (l.take i ++ x :: l.drop i) ∧ w.grownBy w' (some g) := by
  have h1 : ¬ ((i : Int) = (n : Int)) := by omega
  obtain ⟨cur, hg, hcm, hcs, htk⟩ : ∃ cur, w.heap[g]? = some (.cells cur 61 (0, 0)) ∧ cap ≤ maxLen ∧ cur.size = cap * 2 ∧ cur.toList.take (n * 2) = encP l := by
    rcases hr.2 with ⟨h, _⟩ | ⟨g', cap', cur, h, _, h2, _, h4, h5, h6⟩
    · cases h
    · simp only [Value.slice.injEq, Option.some.injEq, Addr.mk.injEq] at h
      obtain ⟨⟨rfl, _⟩, _, rfl⟩ := h
      exact ⟨cur, h2, h4, h5, by rw [← h6, hl]⟩
  have hcl := hr.cells (g := g) rfl
  have hov := fun la ca lb cb o => overlaps_no g vb o la ca lb cb _ cur w hv hg (by omega) hne
  have cp1 := run_copy_rowk (P := Try.prog) 2 w.drew 65 65 3 61 g ((i + 1) * 2) (n - i) (cap - (i + 1)) ⟨g, i * 2, none⟩ (n + 1 - i) (cap - i) cur 61 (encP (l.drop i)) Try.underlying65 size61 hg
    (by rw [encP_length, List.length_drop, hl, show Nat.min (n + 1 - i) (n - i) = n - i from Nat.min_eq_right (by omega)])
    (fun j v hj => by
      rw [World.cell?_drew, Addr.add_lit]
      have := hcl (i * 2 + j) v (by rw [← encP_drop] at hj; rw [List.getElem?_drop] at hj; exact hj)
      rw [Addr.add_lit, Nat.zero_add] at this
      exact this) (by rw [encP_length, hcs, List.length_drop, hl]; omega) (encP_one _)
  obtain ⟨cur1, hcur1⟩ : ∃ cur1, cur1 = (cur.toList.take ((i + 1) * 2) ++ encP (l.drop i) ++ cur.toList.drop ((i + 1) * 2 + (encP (l.drop i)).length)).toArray := ⟨_, rfl⟩
  rw [← hcur1] at cp1
  have s1 : cur1.size = cap * 2 := by rw [hcur1]; simp [encP_length, hcs, hl]; omega
  have t0 : cur1.toList.take (i * 2) = encP (l.take i) := by
    rw [hcur1, ← encP_take, ← htk, List.take_take]
    show List.take _ (List.toArray _).toList = _
    rw [List.append_assoc, List.take_append_of_le_length (by simp [hcs]; omega), List.take_take]
    rw [Nat.min_eq_left (by omega), Nat.min_eq_left (by omega)]
  have d0 : cur1.toList.drop ((i + 1) * 2) = encP (l.drop i) ++ cur.toList.drop ((i + 1) * 2 + (encP (l.drop i)).length) := by
    rw [hcur1]
    show List.drop _ (List.toArray _).toList = _
    rw [List.append_assoc, List.drop_left' (by simp [hcs]; omega)]
  obtain ⟨W1, hW1⟩ : ∃ W1, W1 = w.drew.setRow g cur1 := ⟨_, rfl⟩
  rw [← hW1] at cp1
  have g1 : W1.heap[g]? = some (.cells cur1 61 (0, 0)) := by rw [hW1]; exact setRow_heap w.drew _ cur _ _ _ hg
  have b1 : w.grownBy W1 (some g) := by rw [hW1]; exact ⟨rfl, rfl, rfl, by simp, fun k _ hk => setRow_other _ _ _ _ (fun e => hk (by rw [e]))⟩
  have cp2 := run_copy_rowk (P := Try.prog) 2 W1 65 65 3 61 g (i * 2) (n + 1 - i) (cap - i) ⟨vb, 0, none⟩ 1 1 cur1 61 (encP [x]) Try.underlying65 size61 g1
    (by rw [encP_length, show Nat.min 1 (n + 1 - i) = 1 from Nat.min_eq_left (by omega)]; rfl)
    (fun j v hj => by
      have hvl : w.cell? ((⟨vb, 0, none⟩ : Addr).add j) = some v := by
        rw [Addr.add_lit, Nat.zero_add, cell_of_row w vb j _ _ _ hv]
        simpa [encP] using hj
      exact b1.cell hvl (by rw [Addr.add_lit]; simpa using hne)) (by rw [encP_length, s1]; simp; omega) (encP_one _)
  obtain ⟨cur2, hcur2⟩ : ∃ cur2, cur2 = (cur1.toList.take (i * 2) ++ encP [x] ++ cur1.toList.drop (i * 2 + (encP [x]).length)).toArray := ⟨_, rfl⟩
  rw [← hcur2] at cp2
  have s2 : cur2.size = cap * 2 := by rw [hcur2]; simp [encP_length, s1]; omega
  have t2 : cur2.toList.take ((n + 1) * 2) = encP (l.take i ++ x :: l.drop i) := by
    rw [hcur2, t0, show i * 2 + (encP [x]).length = (i + 1) * 2 by rw [encP_length]; simp; omega, d0, show l.take i ++ x :: l.drop i = (l.take i ++ [x]) ++ l.drop i by simp, encP_append _ (l.drop i), encP_append]
    show List.take _ (List.toArray _).toList = _
    rw [← List.append_assoc]
    exact List.take_left' (by simp [encP_length, hl]; omega)
  obtain ⟨W2, hW2⟩ : ∃ W2, W2 = W1.setRow g cur2 := ⟨_, rfl⟩
  rw [← hW2] at cp2
  have g2 : W2.heap[g]? = some (.cells cur2 61 (0, 0)) := by rw [hW2]; exact setRow_heap W1 _ cur1 _ _ _ g1
  have b2 : w.grownBy W2 (some g) := by
    rw [hW2]
    exact ⟨b1.os, b1.tape, b1.output, Nat.le_trans b1.size (by simp), fun k hk hne => (setRow_other _ _ _ _ (fun e => hne (by rw [e]))).trans (b1.block k hk hne)⟩
  have hlen : (l.take i ++ x :: l.drop i).length = n + 1 := by simp; omega
  have own : PRow W2 (.slice (some ⟨g, 0, none⟩) (n + 1) cap) (l.take i ++ x :: l.drop i) := by
    unfold PRow
    rw [hlen]
    exact ⟨by rw [encP_length, hlen], .inr ⟨g, cap, cur2, rfl, Nat.zero_le _, g2, hc, hcm, s2, t2⟩⟩
  have FIN : Hid (PRow W2 (.slice (some ⟨g, 0, none⟩) (n + 1) cap) (l.take i ++ x :: l.drop i) ∧ w.grownBy W2 (some g)) := ⟨own, b2⟩
  clear own b2 g2 hW2 t2 s2 hcur2 b1 g1 hW1 t0 d0 s1 hcur1 hcl hg hcs htk hcm hlen hv hr hl
  have CP1 := Lib.hid cp1
  clear cp1
  have q1 : IntKind.i64.wrap ((i : Int) + 1) = (i : Int) + 1 := by rw [IntKind.wrap_i64]; omega
  have q2 : (0 : Int) ≤ (i : Int) + 1 := by omega
  have q3 : ((i : Int) + 1).toNat = i + 1 := by omega
  have q4 : ¬ (cap = i + 1) := by omega
  have q5 : (i : Int) + 1 ≤ (n : Int) + 1 := by omega
  have q6 : ¬ (cap = i) := by omega
  have q8 : (i : Int) ≤ (n : Int) + 1 := by omega
  have q7 : (i : Int) ≤ (n : Int) := by omega
  go_enter Try.func47, Try.ntmps47
  go_wp2_with (simp only [hov])
  go_region_law (refine step_copy_runI rfl _ _ 65 65 rfl _ _ (by simp [Act.eval, Act.put]) (by simp [Act.eval, Act.put]) CP1.out ?_)
  go_wp2
  go_ret
  exact ⟨rfl, FIN.out⟩

set_option maxHeartbeats 400000 in
set_option maxRecDepth 100000 in
theorem insertP_end (v : Value) (n cap vb : Nat) (l : List (Int × ByteArray)) (x : Int × ByteArray) (w : World) (a : Option Addr) (hva : v = .slice a n cap) (hl : l.length = n) (hn : n ≤ 1000000) (hr : PRow w v l)
   (hv : w.heap[vb]? = some (.cells #[.int .i64 x.1, .string x.2] 61 (0, 0))) :
    Calls Try.prog 47 #[v, .int .i64 n, .slice (some ⟨vb, 0, none⟩) 1 1] w fun e w' =>
      ∃ v', e = .returned v' ∧ PRow w' v' (l ++ [x]) ∧ w.grownBy w' v.ownBlock ∧ OwnNew w v v' := by
  obtain ⟨i0, hi0, hz0, hzs, hzb⟩ := info_parts Try.info61
  have hnews : ∀ j u, (encP [x])[j]? = some u → w.cell? ((⟨vb, 0, none⟩ : Addr).add j) = some u := fun j u hj => by
    rw [Addr.add_lit, Nat.zero_add, cell_of_row w vb j _ _ _ hv]
    simpa [encP] using hj
  obtain ⟨v', w', r1, r2, r3, r4⟩ := append_own2 (P := Try.prog) w 65 65 61 i0 (.agg #[.int .i64 0, .string ByteArray.empty]) 2 24 Try.underlying65 hi0 hz0 hzs hzb rfl (by decide) v l.length (encP l) hr ⟨vb, 0, none⟩ 1 1 (encP [x]) rfl hnews (encP_one _) (by omega) (by omega) (by
    intro g k cp e
    rcases hr.2 with ⟨h, _⟩ | ⟨g', cap', cur, h, _, _, h3, _⟩
    · rw [h] at e; cases e
    · rw [h] at e; simp only [Value.slice.injEq] at e; omega)
  have FIN : Hid (PRow w' v' (l ++ [x]) ∧ w.grownBy w' v.ownBlock ∧ OwnNew w v v') := ⟨by unfold PRow; rw [encP_append, List.length_append]; exact r2, r3, r4⟩
  have R1 := Lib.hid r1
  clear hr hv hl hnews r1 r2 r3 r4
  subst hva
  by_cases hcn : cap = n
  · subst hcn
    go_enter Try.func47, Try.ntmps47
    go_wp2_with (at_builtin; refine Lib.wpList_append_run _ rfl _ _ 65 65 rfl _ _ rfl rfl _ _ R1.out ?_)
    all_goals go_ret
    all_goals exact ⟨v', rfl, FIN.out⟩
  · go_enter Try.func47, Try.ntmps47
    go_wp2_with (at_builtin; refine Lib.wpList_append_run _ rfl _ _ 65 65 rfl _ _ rfl rfl _ _ R1.out ?_)
    all_goals go_ret
    all_goals exact ⟨v', rfl, FIN.out⟩
end Go.Proofs.Ytcboakmfabdeoaa
