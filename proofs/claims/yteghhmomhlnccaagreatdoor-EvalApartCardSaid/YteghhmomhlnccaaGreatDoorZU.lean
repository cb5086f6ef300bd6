import Derived.Test.YteghhmomhlnccaaGreatDoorZQ
import Derived.Test.YteghhmomhlnccaaGreatDoorZHMB
import Derived.Test.YteghhmomhlnccaaGreatDoorZKT
import Derived.Test.YteghhmomhlnccaaGreatDoorZHQ

/- eval's laws: one value of a row is set. -/
namespace Go.Proofs.YteghhmomhlnccaaGreatDoor
open Go.RowKit Go.Lib
set_option linter.unusedVariables false
set_option linter.unusedSimpArgs false
set_option maxRecDepth 100000
open Ex (Tree)
open Ev (V R Pl)
theorem evnames_few (T : Tree) : (Ex.names T).length ≤ Ex.count T := by
  have h1 := namesOf_len (Ex.seq 1 T)
  rw [namesOf_seq, Ex.seq_length] at h1
  exact h1
/-- a row of values in a block of its own. -/
def TurnAt (w : World) (g : Nat) (U : List V) : Prop := ∃ cur : Array Value, w.heap[g]? = some (.cells cur 23 (0, 0)) ∧ U.length * 3 ≤ cur.size ∧ cur.toList.take (U.length * 3) = valCells U
theorem TurnAt.lt {w : World} {g : Nat} {U : List V} (h : TurnAt w g U) : g < w.heap.size := by
  obtain ⟨cur, h1, -, -⟩ := h
  exact (Array.getElem?_eq_some_iff.1 h1).1
theorem TurnAt.below {w w' : World} {g : Nat} {U : List V} (h : TurnAt w g U) (hb : Below w.heap.size w w') : TurnAt w' g U := by
  have hl := h.lt
  obtain ⟨cur, h1, h2, h3⟩ := h
  exact ⟨cur, (hb.block g hl).trans h1, h2, h3⟩
theorem TurnAt.vals {w : World} {g : Nat} {U : List V} (h : TurnAt w g U) : ValsAt w (some ⟨g, 0, none⟩) U := by
  have hl := h.lt
  obtain ⟨cur, h1, h2, h3⟩ := h
  exact ValsAt.of_cells hl fun j u hu => by
    have hj : j < U.length * 3 := by rw [← valCells_len]; exact (List.getElem?_eq_some_iff.1 hu).1
    rw [Nat.zero_add, cell_of_row w g j cur 23 (0, 0) h1, ← hu, ← h3, List.getElem?_take, if_pos (by omega)]
    simp
theorem TurnAt.frozen {w : World} {g : Nat} {U : List V} (h : TurnAt w g U) (i : Nat) : w.frozen? ⟨g, i, none⟩ = false := by
  obtain ⟨cur, h1, -, -⟩ := h
  simp [World.frozen?, h1]
theorem valCells_set : ∀ (U : List V) (k : Nat) (x : V), (((valCells U).set (k * 3) (.int .i64 x.k)).set (k * 3 + 1) (.int .i64 x.n)).set (k * 3 + 2) (.string (tx x.s)) = valCells (U.set k x)
  | [], k, x => by simp [valCells]
  | u :: U, 0, x => rfl
  | u :: U, k + 1, x => by
    have := valCells_set U k x
    rw [show (u :: U).set (k + 1) x = u :: U.set k x from rfl, show valCells (u :: U.set k x) = .int .i64 u.k :: .int .i64 u.n :: .string (tx u.s) :: valCells (U.set k x) from rfl, ← this, show valCells (u :: U) = .int .i64 u.k :: .int .i64 u.n :: .string (tx u.s) :: valCells U from rfl, show (k + 1) * 3 = k * 3 + 1 + 1 + 1 by omega]
    rfl
theorem TurnAt.set {w : World} {g : Nat} {U : List V} (h : TurnAt w g U) {k : Nat} (hk : k < U.length) (x : V) : TurnAt (((w.setCell ⟨g, k * 3, none⟩ (.int .i64 x.k)).setCell ⟨g, k * 3 + 1, none⟩ (.int .i64 x.n)).setCell ⟨g, k * 3 + 2, none⟩ (.string (tx x.s))) g (U.set k x) := by
  obtain ⟨cur, h1, h2, h3⟩ := h
  have e0 := heap_setCell_same w g (k * 3) _ _ (.int .i64 x.k) h1
  have e1 := heap_setCell_same _ g (k * 3 + 1) _ _ (.int .i64 x.n) e0
  have e2 := heap_setCell_same _ g (k * 3 + 2) _ _ (.string (tx x.s)) e1
  refine ⟨_, e2, by simpa using h2, ?_⟩
  rw [List.length_set, ← valCells_set, ← h3]
  simp [List.take_set]
/-- every value that a name's column has is taken over from L. -/
def Ev.turnR (C : List Col) (L : List V) : List V → List (List UInt8) → List V
  | U, [] => U
  | U, t :: ts => Ev.turnR C L (match Kd.ix C t with | none => U | some k => U.set k (L.getD k Ev.z)) ts
def Ev.turn1 (C : List Col) (L U : List V) (t : List UInt8) : List V := match Kd.ix C t with | none => U | some k => U.set k (L.getD k Ev.z)
theorem Ev.turn_keep {C : List Col} {L : List V} {k : Nat} : ∀ (ts : List (List UInt8)) (U : List V), U.length = L.length → U.getD k Ev.z = L.getD k Ev.z → (Ev.turnR C L U ts).getD k Ev.z = L.getD k Ev.z
  | [], U, _, h => h
  | t :: ts, U, hl, h => by
    rw [Ev.turnR]
    refine Ev.turn_keep ts _ (by cases Kd.ix C t <;> simp [hl]) ?_
    cases Kd.ix C t with
    | none => exact h
    | some j =>
      show (U.set j (L.getD j Ev.z)).getD k Ev.z = L.getD k Ev.z
      by_cases e : j = k
      · subst e
        by_cases hj : j < U.length
        · rw [List.getD_eq_getElem?_getD, List.getElem?_set_self hj]; rfl
        · rw [List.set_eq_of_length_le (by omega)]; exact h
      · rw [List.getD_eq_getElem?_getD, List.getElem?_set_ne e, ← List.getD_eq_getElem?_getD]; exact h
theorem Ev.turn_at {C : List Col} {L : List V} {k : Nat} {t : List UInt8} (hx : Kd.ix C t = some k) : ∀ (ts : List (List UInt8)) (U : List V), U.length = L.length → L.length = C.length → t ∈ ts → (Ev.turnR C L U ts).getD k Ev.z = L.getD k Ev.z
  | [], U, _, _, h => by cases h
  | s :: ts, U, hl, hc, h => by
    rw [Ev.turnR]
    have hl2 : (match Kd.ix C s with | none => U | some k => U.set k (L.getD k Ev.z)).length = L.length := by cases Kd.ix C s <;> simp [hl]
    rcases List.mem_cons.1 h with rfl | h
    · refine Ev.turn_keep ts _ hl2 ?_
      obtain ⟨hk, -, -⟩ := Kd.ix_spec hx
      rw [hx]
      show (U.set k (L.getD k Ev.z)).getD k Ev.z = L.getD k Ev.z
      rw [List.getD_eq_getElem?_getD, List.getElem?_set_self (by omega)]; rfl
    · exact Ev.turn_at hx ts _ hl2 hc h
/-- a row, value by value. -/
theorem Ev.rowB_iff {C : List Col} {U : List V} : Ev.rowB C U = true ↔ Kd.goodB C = true ∧ U.length = C.length ∧ ∀ i (h : i < U.length) (h2 : i < C.length), plainB U[i].k U[i].n (tx U[i].s) = true ∧ (U[i].k = C[i].2 ∨ U[i].k = 0) := by
  rw [Ev.rowB, Bool.and_eq_true, Bool.and_eq_true, List.all_eq_true, Ev.areB_iff]
  constructor
  · rintro ⟨h1, h2, h3, h4⟩
    refine ⟨h1, by simpa using h3, fun i hi hi2 => ⟨h2 _ (List.getElem_mem hi), ?_⟩⟩
    have := h4 i hi (by simpa using hi2)
    rwa [List.getElem_map] at this
  · rintro ⟨h1, h2, h3⟩
    refine ⟨h1, fun v hv => ?_, by simpa using h2, fun i hi hi2 => ?_⟩
    · obtain ⟨i, hi, rfl⟩ := List.getElem_of_mem hv
      exact (h3 i hi (by omega)).1
    · rw [List.getElem_map]; exact (h3 i hi (by simpa using hi2)).2
theorem Ev.row_set {C : List Col} {U : List V} {k : Nat} {x : V} (h : Ev.rowB C U = true) (hk : k < C.length) (hp : plainB x.k x.n (tx x.s) = true) (hx : x.k = C[k].2 ∨ x.k = 0) : Ev.rowB C (U.set k x) = true := by
  rw [Ev.rowB_iff] at h ⊢
  obtain ⟨h1, h2, h3⟩ := h
  refine ⟨h1, by simpa using h2, fun i hi hi2 => ?_⟩
  rw [List.getElem_set]
  split
  · rename_i e; subst e; exact ⟨hp, hx⟩
  · exact h3 i (by simpa using hi) hi2
theorem Ev.row_turn {C : List Col} {L U : List V} (hU : Ev.rowB C U = true) (hL : Ev.rowB C L = true) (t : List UInt8) : Ev.rowB C (Ev.turn1 C L U t) = true := by
  unfold Ev.turn1
  cases hx : Kd.ix C t with
  | none => exact hU
  | some k =>
    obtain ⟨hk, -, -⟩ := Kd.ix_spec hx
    obtain ⟨-, l2, l3⟩ := Ev.rowB_iff.1 hL
    have hkl : k < L.length := by omega
    have e : L.getD k Ev.z = L[k] := by rw [List.getD_eq_getElem?_getD, List.getElem?_eq_getElem hkl]; rfl
    show Ev.rowB C (U.set k (L.getD k Ev.z)) = true
    rw [e]
    exact Ev.row_set hU hk (l3 k hkl hk).1 (l3 k hkl hk).2
/-- a row of values of the law's own. -/
def TurnV (w : World) (base : Nat) (v : Value) (U : List V) : Prop := (v = .slice none 0 0 ∧ U = []) ∨ ∃ g cap, v = .slice (some ⟨g, 0, none⟩) U.length cap ∧ base ≤ g ∧ TurnAt w g U
theorem TurnV.of_row {w : World} {base : Nat} {v : Value} {U : List V} (h : RowV w base v U) : TurnV w base v U := by
  rcases h.2 with ⟨rfl, h0⟩ | ⟨g, cap, cur, rfl, hb, hh, hn, hm, hs, ht⟩
  · exact .inl ⟨rfl, List.eq_nil_of_length_eq_zero h0⟩
  · exact .inr ⟨g, cap, rfl, hb, cur, hh, by rw [hs]; omega, ht⟩
theorem TurnV.below {w w' : World} {base : Nat} {v : Value} {U : List V} (h : TurnV w base v U) (hb : Below w.heap.size w w') : TurnV w' base v U := by
  rcases h with h | ⟨g, cap, h1, h2, h3⟩
  · exact .inl h
  · exact .inr ⟨g, cap, h1, h2, h3.below hb⟩
theorem TurnV.shape {w : World} {base : Nat} {v : Value} {U : List V} (h : TurnV w base v U) : ∃ A c, v = .slice A U.length c ∧ ValsAt w A U := by
  rcases h with ⟨rfl, rfl⟩ | ⟨g, cap, rfl, -, h⟩
  · exact ⟨none, 0, rfl, ValsAt.nil _ _⟩
  · exact ⟨_, cap, rfl, h.vals⟩
theorem TurnV.place {w : World} {base : Nat} {v : Value} {U : List V} (h : TurnV w base v U) {k : Nat} (hk : k < U.length) : ∃ g cap, v = .slice (some ⟨g, 0, none⟩) U.length cap ∧ base ≤ g ∧ TurnAt w g U := by
  rcases h with ⟨-, rfl⟩ | h
  · simp at hk
  · exact h
end Go.Proofs.YteghhmomhlnccaaGreatDoor

/- EvalApart. -/
namespace Go.Proofs.YteghhmomhlnccaaGreatDoor
open Go.RowKit Go.Lib
set_option linter.unusedVariables false
set_option linter.unusedSimpArgs false
set_option maxRecDepth 100000
attribute [local go_sem ↓] eqVal neqVal
open Ex (Tree)
open Ev (V R Pl)
theorem fitV_set {U : List V} {k : Nat} {x : V} (h : fitV U) (hx : x.s.length ≤ maxLen ∧ Fits x.n) : fitV (U.set k x) := fun v hv => by
  rcases List.mem_or_eq_of_mem_set hv with h1 | rfl
  · exact h v h1
  · exact hx
set_option maxHeartbeats 4000000 in
theorem apart16_any (X : Tree) (C : List Col) (L M : List V) (vx : Value) (Ac Al Am : Option Addr) (cc cl cm : Nat) (w : World) (hx : NodeV w vx X) (hfx : fitT X) (hgx : Ex.ones rngN X = true) (hA : ColsAt w Ac C) (hFC : fitC C) (hV : ValsAt w Al L) (hFV : fitV L) (hVM : ValsAt w Am M) (hFM : fitV M) (a : Addr) (m : Int) (hv : Env w a m) :
    Calls Tryz.prog 7 #[vx, .slice Ac C.length cc, .slice Al L.length cl, .slice Am M.length cm] w fun e w' => e = .returned (.bool true) ∧ Below w.heap.size w w' := by
  obtain ⟨xop, xt, xvk, xvn, xvs, xn, xA, xc, rfl⟩ : ∃ op t vk vn vs n A c, vx = .agg (ncells op t vk vn vs A n c) := by
    cases X with
    | node op t vk vn vs ks => obtain ⟨A, c, h1, -⟩ := hx; exact ⟨_, _, _, _, _, _, _, _, h1⟩
  have b0 := (Below.refl w.heap.size w).alloc (Nat.le_refl _) (.cells (ncells xop xt xvk xvn xvs xA xn xc) 26)
  have LS : LawS w (w.alloc (.cells (ncells xop xt xvk xvn xvs xA xn xc) 26)) (ncells xop xt xvk xvn xvs xA xn xc) X C Ac L Al a m := ⟨b0, Whole.new w 26 _, hx.below b0, hA.below b0, hV.below b0, hv.below b0⟩
  have HM0 := Lib.hid hVM
  obtain ⟨W1, hW1⟩ : ∃ W1, w.alloc (.cells (ncells xop xt xvk xvn xvs xA xn xc) 26) = W1 := ⟨_, rfl⟩
  rw [hW1] at LS
  have HFX := Lib.hid hfx
  have HGX := Lib.hid hgx
  have HFC := Lib.hid hFC
  have HFV := Lib.hid hFV
  have HFM := Lib.hid hFM
  obtain ⟨cn, hcn⟩ : ∃ cn, C.length = cn := ⟨_, rfl⟩
  obtain ⟨ln, hln⟩ : ∃ ln, L.length = ln := ⟨_, rfl⟩
  obtain ⟨mn, hmn⟩ : ∃ mn, M.length = mn := ⟨_, rfl⟩
  have HCN := Lib.hid hcn
  have HLN := Lib.hid hln
  have HMN := Lib.hid hmn
  rw [hcn, hln, hmn]
  have L1 := Lib.hid LS
  clear hx hfx hgx hA hFC hV hFV hVM hFM hv b0 hcn hln hmn LS
  unfold ncells at *
  go_enter Tryz.func7, Tryz.ntmps7
  have AW := Lib.hid (awake16_any W1 a m L1.out.env)
  go_wp2_with fail
  refine AW.out.mono ?_
  rintro e W2 ⟨rfl, hb⟩
  have L2 := Lib.hid (L1.out.call hb)
  have WX := Lib.hid (Wide_any X _ W2 L2.out.nx)
  obtain ⟨c0, c1, c2, c3, c4, c5⟩ := six_of L2.out.k
  clear AW hb L1
  go_wp2_with fail
  refine WX.out.mono ?_
  rintro e W3 (⟨rfl, hb, hcx, hsx⟩ | ⟨rfl, hb⟩)
  case inr =>
    have L3 := Lib.hid (L2.out.call hb)
    clear hb
    go_wp2_with fail
    go_ret
    exact ⟨rfl, L3.out.b⟩
  have L3 := Lib.hid (L2.out.call hb)
  have MN := Lib.hid (many_any C Ac cc W3 L3.out.ca HFC.out)
  rw [HCN.out] at MN
  have HCX := Lib.hid hcx
  clear hb WX L2 c0 c1 c2 c3 c4 c5 hsx hcx
  go_wp2_with fail
  refine MN.out.mono ?_
  rintro e W4 (⟨rfl, hw4, hc50, hcs⟩ | ⟨rfl, hw4⟩)
  case inr =>
    subst hw4
    go_wp2_with fail
    go_ret
    exact ⟨rfl, L3.out.b⟩
  subst hw4
  have LO := Lib.hid (long_any L Al cl W4 L3.out.va HFV.out)
  rw [HLN.out] at LO
  have HC5 := Lib.hid hc50
  clear MN hcs hc50
  go_wp2_with fail
  refine LO.out.mono ?_
  rintro e W5 (⟨rfl, hw5, hls⟩ | ⟨rfl, hw5⟩)
  case inr =>
    subst hw5
    go_wp2_with fail
    go_ret
    exact ⟨rfl, L3.out.b⟩
  subst hw5
  have HLS := Lib.hid hls.1
  have LM := Lib.hid (long_any M Am cm W5 (HM0.out.below L3.out.b) HFM.out)
  rw [HMN.out] at LM
  clear LO hls
  go_wp2_with fail
  refine LM.out.mono ?_
  rintro e W5b (⟨rfl, hw5, hls⟩ | ⟨rfl, hw5⟩)
  case inr =>
    subst hw5
    go_wp2_with fail
    go_ret
    exact ⟨rfl, L3.out.b⟩
  subst hw5
  have HMS := Lib.hid hls.1
  have RO := Lib.hid (row_any2 C L Ac Al cc cl W5b L3.out.ca HFC.out L3.out.va HFV.out (by have := HC5.out; have := HCN.out; omega) (by have := HLS.out; omega) a m L3.out.env)
  rw [HCN.out, HLN.out] at RO
  clear LM hls
  go_wp2_with fail
  refine RO.out.mono ?_
  rintro e W6 ⟨rfl, hb⟩
  have L6 := Lib.hid (L3.out.call hb)
  clear hb RO L3
  cases hrow : Ev.rowB C L
  case false =>
    clear hrow
    go_wp2_with fail
    go_ret
    exact ⟨rfl, L6.out.b⟩
  have HROW := Lib.hid hrow
  clear hrow
  have RM := Lib.hid (row_any2 C M Ac Am cc cm W6 L6.out.ca HFC.out (HM0.out.below L6.out.b) HFM.out (by have := HC5.out; have := HCN.out; omega) (by have := HMS.out; omega) a m L6.out.env)
  rw [HCN.out, HMN.out] at RM
  go_wp2_with fail
  refine RM.out.mono ?_
  rintro e W7 ⟨rfl, hb⟩
  have L7 := Lib.hid (L6.out.call hb)
  clear hb RM L6
  cases hrow : Ev.rowB C M
  case false =>
    clear hrow
    go_wp2_with fail
    go_ret
    exact ⟨rfl, L7.out.b⟩
  have HROWM := Lib.hid hrow
  clear hrow
  have NM := Lib.hid (refNames_any X _ W7 L7.out.nx (by have := HCX.out; omega))
  obtain ⟨c0, c1, c2, c3, c4, c5⟩ := six_of L7.out.k
  go_wp2_with fail
  refine NM.out.mono ?_
  rintro e W9 ⟨u, rfl, hu, hb⟩
  have L9 := Lib.hid (L7.out.call hb)
  have HU := Lib.hid hu
  obtain ⟨An, cnm, hue, -, -⟩ := hu.shape
  subst hue
  obtain ⟨N, hN⟩ : ∃ N, Ex.names X = N := ⟨_, rfl⟩
  have HNN := Lib.hid hN
  rw [hN] at HU hu ⊢
  obtain ⟨nn, hnn⟩ : ∃ nn, (N.map tx).length = nn := ⟨_, rfl⟩
  have HNL := Lib.hid hnn
  have HNL2 : Hid (N.length = nn) := Lib.hid (by rw [← hnn]; simp)
  rw [hnn] at HU hu ⊢
  obtain ⟨v10, W10, hrun, hr10, ht10, -⟩ := append_vals (RowV.new W9) (m := M) (A := Am) (c := cm) ((HM0.out.below L9.out.b).below ((Below.refl _ _).alloc (Nat.le_refl _) _)) (by have := HMS.out; simp; omega) (by simp)
  rw [HMN.out] at hrun
  have HRUN := Lib.hid hrun
  have HB10 : Hid (Below W9.heap.size W9 W10) := Lib.hid (ht10.fresh ((Below.refl _ _).alloc (Nat.le_refl _) _) (fun k hk => by simp [Value.ownBlock] at hk; omega))
  have HT10 : Hid (TurnV W10 W9.heap.size v10 M) := Lib.hid (TurnV.of_row (by simpa using hr10))
  clear hb hu hnn hN NM L7 hrun hr10 ht10 c0 c1 c2 c3 c4 c5
  go_wp2_with (at_builtin; refine Lib.wpList_append_run _ rfl (.tmp 47) (.tmp 48) 28 28 rfl _ _ rfl rfl _ _ HRUN.out ?_)
  have hnn9 : (nn : Int) ≤ 500 := by have h1 := evnames_few X; have h2 := HCX.out; have h3 := HNN.out; have h4 := HNL2.out; rw [h3] at h1; omega
  have HCML : Hid (M.length = C.length) := Lib.hid (Ev.rowB_iff.1 HROWM.out).2.1
  have HCLL : Hid (L.length = C.length) := Lib.hid (Ev.rowB_iff.1 HROW.out).2.1
  obtain ⟨A10, c10, rfl, -⟩ := HT10.out.shape
  rw [HMN.out] at HT10 ⊢
  go_loopg [11, 12] (nn + 1) (fun j s11 s12 wr => ∃ (i : Nat) (U : List V), i ≤ nn ∧ nn < i + j ∧ s11 = .int .i64 (i : Nat) ∧ Hid (U.length = mn) ∧ Hid (TurnV wr W9.heap.size (.slice A10 mn c10) U) ∧ Hid (Ev.turnR C L U (N.drop i) = Ev.turnR C L M N) ∧ Hid (Ev.rowB C U = true) ∧ Hid (fitV U) ∧ Hid (Below W9.heap.size W9 wr))
  case atStart => exact ⟨0, M, by omega, by omega, rfl, HMN, HT10, Lib.hid rfl, HROWM, HFM, HB10⟩
  case round =>
    obtain ⟨i, U, hi, hj, rfl, HUL, HT, HE, HRU, HFU, HB⟩ := hrel
    clear HT10 HB10
    have LR := Lib.hid (L9.out.call (w' := wr) HB.out)
    by_cases hlt : i < nn
    · have hlt' : (i : Int) < (nn : Int) := by omega
      obtain ⟨An', cnm', hue, -, hcells⟩ := (HU.out.below HB.out).shape
      rw [HNL.out] at hue
      cases hue
      have hin : i < (N.map tx).length := by rw [HNL.out]; exact hlt
      have hiN : i < N.length := by rw [HNL2.out]; exact hlt
      obtain ⟨gn, hgn, -, -, hcell⟩ := hcells i hin
      subst hgn
      rw [List.getElem_map] at hcell
      have HDR : Hid (N.drop i = N[i] :: N.drop (i + 1)) := Lib.hid (List.drop_eq_getElem_cons hiN)
      obtain ⟨t, ht⟩ : ∃ t, N[i] = t := ⟨_, rfl⟩
      rw [ht] at hcell HDR
      have HTU : Hid (Ev.turnR C L (Ev.turn1 C L U t) (N.drop (i + 1)) = Ev.turnR C L M N) := Lib.hid (by rw [← HE.out, HDR.out, Ev.turnR]; rfl)
      have FI := Lib.hid (refFind_any C t Ac cc wr LR.out.ca (by have := HC5.out; have := HCN.out; omega))
      rw [HCN.out] at FI
      have HROW2 := Lib.hid (Ev.row_turn HRU.out HROW.out t)
      have HIX := Lib.hid (fun k => @Kd.ix_spec C t k)
      clear ht hin hiN hcells HDR HE
      cases hix : Kd.ix C t with
      | none =>
        have HT1 : Hid (Ev.turn1 C L U t = U) := Lib.hid (by rw [Ev.turn1, hix])
        rw [hix, show Kd.ixV none = -1 from rfl] at FI
        rw [HT1.out] at HTU
        clear hix
        go_wp2_with fail
        refine FI.out.mono ?_
        rintro e V ⟨rfl, hV⟩
        subst hV
        go_wp2_with fail
        go_roundg (nn - i)
        case measure => omega
        case rel => exact ⟨i + 1, U, by omega, by omega, by go_num, HUL, HT, HTU, HRU, HFU, HB⟩
      | some k =>
        obtain ⟨hk, -, -⟩ := HIX.out k hix
        have hkL : k < L.length := by rw [HCLL.out]; exact hk
        have hkU : k < U.length := by rw [HUL.out, ← HMN.out, HCML.out]; exact hk
        have hkl9 : (k : Int) < (ln : Int) := by have := HLN.out; omega
        have hkm9 : (k : Int) < (mn : Int) := by have := HUL.out; omega
        obtain ⟨x, hx⟩ : ∃ x, L[k] = x := ⟨_, rfl⟩
        have HT1 : Hid (Ev.turn1 C L U t = U.set k x) := Lib.hid (by
          rw [Ev.turn1, hix]
          show U.set k (L.getD k Ev.z) = _
          rw [List.getD_eq_getElem?_getD, List.getElem?_eq_getElem hkL, ← hx]; rfl)
        rw [hix, show Kd.ixV (some k) = (k : Nat) from rfl] at FI
        rw [HT1.out] at HTU HROW2
        have HFU2 := Lib.hid (fitV_set (k := k) HFU.out (HFV.out x (by rw [← hx]; exact List.getElem_mem hkL)))
        obtain ⟨bl, ol, rfl, hbl, y0, y1, y2⟩ := LR.out.va k hkL
        rw [hx] at y0 y1 y2
        obtain ⟨g, cap, he, hbg, htg⟩ := HT.out.place hkU
        obtain ⟨hA, hcap⟩ : A10 = some ⟨g, 0, none⟩ ∧ c10 = cap := by injection he with h1 h2 h3; exact ⟨h1, h3⟩
        subst hA hcap
        clear he
        obtain ⟨b', o', e', -, z0, z1, z2⟩ := htg.vals k hkU
        cases e'
        simp only [Nat.zero_add] at z0 z1 z2
        have f0 := htg.frozen (k * 3)
        have f1 := htg.frozen (k * 3 + 1)
        have f2 := htg.frozen (k * 3 + 2)
        have HTS := Lib.hid (htg.set hkU x)
        have HUL2 : Hid ((U.set k x).length = mn) := Lib.hid (by rw [List.length_set, HUL.out])
        have HB2 : Hid (Below W9.heap.size W9 (((wr.setCell ⟨g, k * 3, none⟩ (.int .i64 x.k)).setCell ⟨g, k * 3 + 1, none⟩ (.int .i64 x.n)).setCell ⟨g, k * 3 + 2, none⟩ (.string (tx x.s)))) := Lib.hid (((HB.out.setCell (p := ⟨g, k * 3, none⟩) hbg _).setCell (p := ⟨g, k * 3 + 1, none⟩) hbg _).setCell (p := ⟨g, k * 3 + 2, none⟩) hbg _)
        have HBG := Lib.hid hbg
        clear hix hx htg
        go_wp2_with fail
        refine FI.out.mono ?_
        rintro e V ⟨rfl, hV⟩
        subst hV
        go_wp2_with fail
        go_roundg (nn - i)
        case measure => omega
        case rel => exact ⟨i + 1, U.set k x, by omega, by omega, by go_num, HUL2, Lib.hid (.inr ⟨g, _, by rw [HUL2.out], HBG.out, HTS.out⟩), HTU, HROW2, HFU2, HB2⟩
    · have hlt' : ¬ (i : Int) < (nn : Int) := by omega
      have hdr : N.drop i = [] := List.drop_of_length_le (by rw [HNL2.out]; omega)
      have HFIN : Hid (U = Ev.turnR C L M N) := Lib.hid (by rw [← HE.out, hdr]; rfl)
      have HSAME : Hid (Ev.evalR C U X = Ev.evalR C L X) := Lib.hid (by
        by_cases hr : Ex.rightB nodeB X = true
        · rw [Ev.evalR, Ev.evalR, if_pos ⟨hr, HRU.out⟩, if_pos ⟨hr, HROW.out⟩]
          refine Ev.ev_apart X (fun t ht k hk => ?_)
          rw [HFIN.out]
          exact Ev.turn_at hk N M (by rw [HCML.out, HCLL.out]) HCLL.out (by rw [← HNN.out]; exact (Ex.names_mem _ _).2 ht)
        · rw [Ev.evalR, Ev.evalR, if_neg (fun h => hr h.1), if_neg (fun h => hr h.1)])
      have EV := Lib.hid (eval_any C L Ac Al cc cl X _ wr LR.out.ca HFC.out LR.out.va HFV.out (by have := HC5.out; have := HCN.out; omega) (by have := HLS.out; omega) a m LR.out.env LR.out.nx HFX.out (by have := HCX.out; omega) HGX.out)
      rw [HCN.out, HLN.out] at EV
      have EW := Lib.hid (fun V (hV : Below wr.heap.size wr V) => eval_any C U Ac A10 cc c10 X _ V (LR.out.call hV).ca HFC.out (by
          obtain ⟨A', c', he, hv'⟩ := (HT.out.below hV).shape
          cases he
          exact hv') HFU.out (by have := HC5.out; have := HCN.out; omega) (by have := HUL.out; have := HMN.out; have := HMS.out; omega) a m (LR.out.call hV).env (LR.out.call hV).nx HFX.out (by have := HCX.out; omega) HGX.out)
      rw [HSAME.out, HCN.out, HUL.out] at EW
      obtain ⟨r, hr⟩ : ∃ r, Ev.evalR C L X = r := ⟨_, rfl⟩
      rw [hr] at EV EW
      obtain ⟨⟨rk, rn, rs⟩, re_⟩ := r
      unfold outR vv vcells at EV EW
      dsimp only at EV EW
      obtain ⟨c0, c1, c2, c3, c4, c5⟩ := six_of LR.out.k
      clear hr hdr HE HFIN HSAME
      go_wp2_with fail
      refine EV.out.mono ?_
      rintro e V8 ⟨rfl, hb⟩
      have hbb := hb.alloc (Nat.le_trans (Nat.le_refl _) hb.size) (.cells #[.int .i64 rk, .int .i64 rn, .string (tx rs)] 23)
      have q8 := Row3.new V8 rk rn (tx rs)
      have LV := Lib.hid (LR.out.call hbb)
      have EW2 := Lib.hid (EW.out _ hbb)
      have Q8 := Lib.hid q8
      clear c0 c1 c2 c3 c4 c5
      obtain ⟨c0, c1, c2, c3, c4, c5⟩ := six_of LV.out.k
      have hsm : same rk rn (tx rs) rk rn (tx rs) = true := by rw [same_iff]; exact ⟨rfl, rfl, rfl⟩
      clear hb hbb q8 EV EW LR
      go_wp2_with fail
      refine EW2.out.mono ?_
      rintro e V9 ⟨rfl, hb⟩
      have q9 := (Q8.out.below hb Q8.out.lt).alloc (.cells #[.int .i64 rk, .int .i64 rn, .string (tx rs)] 23)
      have LF := Lib.hid ((LV.out.call hb).alloc (.cells #[.int .i64 rk, .int .i64 rn, .string (tx rs)] 23))
      obtain ⟨s0, s1, s2⟩ := q9.holds
      obtain ⟨r0, r1, r2⟩ := (Row3.new V9 rk rn (tx rs)).holds
      clear hb q9 c0 c1 c2 c3 c4 c5 EW2
      go_wp2_with fail
      go_ret
      exact ⟨rfl, LF.out.b⟩
end Go.Proofs.YteghhmomhlnccaaGreatDoor
