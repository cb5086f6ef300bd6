import Derived.Test.YtbpknainmefidaaGreatDoorHMD
import Derived.Test.YtbpknainmefidaaGreatDoorWN
import Derived.Test.YtbpknainmefidaaGreatDoorHB
import Derived.Test.YtbpknainmefidaaGreatDoorHMB
import Derived.Test.YtbpknainmefidaaGreatDoorRD
import Derived.Laws.ResultCell

/- A parser in memory; word, next, sign. -/
namespace Go.Proofs.YtbpknainmefidaaGreatDoor
open Go.RowKit Go.Lib
set_option linter.unusedVariables false
set_option linter.unusedSimpArgs false
set_option maxRecDepth 100000
open Ex (Tree)

abbrev tokV (t : Lx.Tk) : Value := .agg #[.int .i64 (t.kind : Nat), .string (tx t.text), .int .i64 (t.at_ : Nat)]
structure PAt (w0 w : World) (P : Nat) (A : Option Addr) (c : Nat) (L : List Lx.Tk) (i d : Nat) : Prop where
  old : Below w0.heap.size w0 w
  le : w0.heap.size ≤ P
  cells : Whole w P 73 #[.slice A L.length c, .int .i64 (i : Nat), .int .i64 (d : Nat), .int .i64 0, .int .i64 0]
  words : TAt w A L
  far : ∀ b o, A = some ⟨b, o, none⟩ → b ≠ P
theorem PAt.below {w0 w w' : World} {P : Nat} {A : Option Addr} {c : Nat} {L : List Lx.Tk} {i d : Nat} (h : PAt w0 w P A c L i d) (hb : Below w.heap.size w w') : PAt w0 w' P A c L i d :=
  ⟨h.old.trans (hb.mono h.old.size), h.le, h.cells.below hb h.cells.lt, h.words.below hb, h.far⟩
def tk (L : List Lx.Tk) (i : Nat) : Lx.Tk := L.getD i ⟨0, [], 0⟩
theorem tk_lt {L : List Lx.Tk} {i : Nat} (h : i < L.length) : tk L i = L[i] := by simp [tk, h]
theorem tk_ge {L : List Lx.Tk} {i : Nat} (h : ¬ i < L.length) : tk L i = ⟨0, [], 0⟩ := by simp [tk, Nat.not_lt.1 h]
def sgn (t : Lx.Tk) : List UInt8 := if t.kind = 5 ∨ t.kind = 2 then t.text else []

theorem sizeTok : (Tryz.prog.info? 60).map (·.size) = some 3 := by kernel_rfl
set_option maxHeartbeats 1000000 in
theorem word_any {w0 w : World} {P : Nat} {A : Option Addr} {c : Nat} {L : List Lx.Tk} {i d : Nat} (h : PAt w0 w P A c L i d) (k : Nat) (hk : k ≤ 1000000) (hL : L.length ≤ 1000000) :
    Calls Tryz.prog 57 #[.pointer (some ⟨P, 0, none⟩), .int .i64 (k : Nat)] w fun e w' => e = .returned (tokV (tk L k)) ∧ Below w.heap.size w w' := by
  have b0 : Below w.heap.size w (w.alloc (.cells #[.int .i64 0, .string (tx []), .int .i64 0] 60)) := (Below.refl _ _).alloc (Nat.le_refl _) _
  have k0 := Whole.new w 60 #[.int .i64 0, .string (tx []), .int .i64 0]
  have h1 := h.below b0
  have p0 : (w.alloc (.cells #[.int .i64 0, .string (tx []), .int .i64 0] 60)).cell? ⟨P, 0, none⟩ = some (.slice A L.length c) := h1.cells.cell 0
  have hL' : (L.length : Int) ≤ 1000000 := by omega
  have hk0 : ¬ ((k : Int) < 0) := by omega
  by_cases hlt : k < L.length
  · have hlt' : (k : Int) < (L.length : Int) := by omega
    obtain ⟨b, o, rfl, -, q0, q1, q2⟩ := h1.words k hlt
    rw [tk_lt hlt]
    have hc0 := k0.cell 0
    have hc1 := k0.cell 1
    have hc2 := k0.cell 2
    have hf0 := k0.frozen 0
    have hf1 := k0.frozen 1
    have hf2 := k0.frozen 2
    generalize L[k] = t at *
    clear h h1 hlt
    go_enter Tryz.func57, Tryz.ntmps57
    go_wp2_with fail
    exact bodyPost_ret (results_cell_row rfl _ _ w.heap.size _ _ _ _ rfl (Whole.new w 60 _) Tryz.underlying60 rfl sizeTok) rfl ⟨rfl, (Below.refl _ _).alloc (Nat.le_refl _) _⟩
  · have hlt' : ¬ (k : Int) < (L.length : Int) := by omega
    rw [tk_ge hlt]
    go_enter Tryz.func57, Tryz.ntmps57
    go_wp2_with fail
    exact bodyPost_ret (results_cell_row rfl _ _ w.heap.size _ _ _ _ rfl (Whole.new w 60 _) Tryz.underlying60 rfl sizeTok) rfl ⟨rfl, (Below.refl _ _).alloc (Nat.le_refl _) _⟩

set_option maxHeartbeats 1000000 in
theorem next_any {w0 w : World} {P : Nat} {A : Option Addr} {c : Nat} {L : List Lx.Tk} {i d : Nat} (h : PAt w0 w P A c L i d) (hk : i ≤ 1000000) (hL : L.length ≤ 1000000) :
    Calls Tryz.prog 43 #[.pointer (some ⟨P, 0, none⟩)] w fun e w' => e = .returned (tokV (tk L i)) ∧ Below w.heap.size w w' := by
  have b0 : Below w.heap.size w (w.alloc (.cells #[.int .i64 0, .string (tx []), .int .i64 0] 60)) := (Below.refl _ _).alloc (Nat.le_refl _) _
  have k0 := Whole.new w 60 #[.int .i64 0, .string (tx []), .int .i64 0]
  have h1 := h.below b0
  have p0 := h1.cells.cell 1
  obtain ⟨W1, hW1⟩ : ∃ W1, w.alloc (.cells #[.int .i64 0, .string (tx []), .int .i64 0] 60) = W1 := ⟨_, rfl⟩
  rw [hW1] at b0 k0 h1 p0
  have p0' : W1.cell? ⟨P, 1, none⟩ = some (.int .i64 (i : Nat)) := p0
  have WC := Lib.hid (word_any h1 i hk hL)
  obtain ⟨t, ht⟩ : ∃ t, tk L i = t := ⟨_, rfl⟩
  rw [ht] at WC ⊢
  clear ht
  have B0 := Lib.hid b0
  have K0 := Lib.hid k0
  clear h h1 b0 k0 p0
  go_enter Tryz.func43, Tryz.ntmps43
  go_wp2_with fail
  refine WC.out.mono ?_
  rintro e W2 ⟨rfl, hb⟩
  have k2 := K0.out.below hb K0.out.lt
  have B2 := Lib.hid (B0.out.trans (hb.mono B0.out.size))
  have c0 := k2.cell 0
  have c1 := k2.cell 1
  have c2 := k2.cell 2
  have f0 := k2.frozen 0
  have f1 := k2.frozen 1
  have f2 := k2.frozen 2
  have FIN := Lib.hid (((k2.set_ 0 (.int .i64 (t.kind : Nat))).set_ 1 (.string (tx t.text))).set_ 2 (.int .i64 (t.at_ : Nat)))
  have FB := Lib.hid (((B2.out.setCell (p := ⟨w.heap.size, 0, none⟩) (Nat.le_refl _) (.int .i64 (t.kind : Nat))).setCell (p := ⟨w.heap.size, 1, none⟩) (Nat.le_refl _) (.string (tx t.text))).setCell (p := ⟨w.heap.size, 2, none⟩) (Nat.le_refl _) (.int .i64 (t.at_ : Nat)))
  clear k2 hb hW1 p0'
  go_wp2_with fail
  exact bodyPost_ret (results_cell_row rfl _ _ w.heap.size _ _ _ _ rfl FIN.out Tryz.underlying60 rfl sizeTok) rfl ⟨rfl, FB.out⟩
set_option maxHeartbeats 1000000 in
theorem sign_any (t : Lx.Tk) (w : World) :
    Calls Tryz.prog 76 #[tokV t] w fun e w' => e = .returned (.string (tx (sgn t))) ∧ Below w.heap.size w w' := by
  by_cases h5 : t.kind = 5
  · have e : sgn t = t.text := by rw [sgn, if_pos (.inl h5)]
    have h5' : (t.kind : Int) = 5 := by omega
    rw [e, tokV, h5']
    go_enter Tryz.func76, Tryz.ntmps76
    go_wp2_with fail
    go_ret
    exact ⟨rfl, (Below.refl _ _).alloc (Nat.le_refl _) _⟩
  · by_cases h2 : t.kind = 2
    · have e : sgn t = t.text := by rw [sgn, if_pos (.inr h2)]
      have h5' : (t.kind : Int) = 2 := by omega
      rw [e, tokV, h5']
      go_enter Tryz.func76, Tryz.ntmps76
      go_wp2_with fail
      go_ret
      exact ⟨rfl, (Below.refl _ _).alloc (Nat.le_refl _) _⟩
    · have e : sgn t = [] := by rw [sgn, if_neg (by omega)]
      have h5' : ((t.kind : Int) == 5) = false := by simp; omega
      have h2' : ((t.kind : Int) == 2) = false := by simp; omega
      rw [e, tokV]
      go_enter Tryz.func76, Tryz.ntmps76
      go_wp2_with fail
      go_ret
      exact ⟨rfl, (Below.refl _ _).alloc (Nat.le_refl _) _⟩
end Go.Proofs.YtbpknainmefidaaGreatDoor

/- A leaf. -/
namespace Go.Proofs.YtbpknainmefidaaGreatDoor
open Go.RowKit Go.Lib
set_option linter.unusedVariables false
set_option linter.unusedSimpArgs false
set_option maxRecDepth 100000
open Ex (Tree)

/-- the node that a word is by itself. -/
def leafT (t : Lx.Tk) : Tree :=
  if t.kind = 1 then .node 2 t.text 0 0 [] [] else
  if t.kind = 4 then .node 1 [] 2 0 t.text [] else
  if t.kind = 3 ∨ t.kind = 2 then (if (told t.text).e = 0 then .node 1 [] (told t.text).k (told t.text).n (told t.text).s [] else .node 0 [] 0 0 [] []) else
  .node 0 [] 0 0 [] []
/-- a node without kids, as a value. -/
def bareV : Tree → Value
  | .node op t vk vn vs _ => .agg (ncells op t vk vn vs none 0 0)
set_option maxHeartbeats 2000000 in
theorem leaf_any (t : Lx.Tk) (w : World) (a : Addr) (m : Int) (hv : Env w a m) (hs : t.text.length ≤ 6000) (hok : (t.kind = 3 ∨ t.kind = 2) → (told t.text).e = 0) (hk : t.kind = 1 ∨ t.kind = 2 ∨ t.kind = 3 ∨ t.kind = 4) :
    Calls Tryz.prog 154 #[tokV t] w fun e w' => e = .returned (bareV (leafT t)) ∧ Below w.heap.size w w' := by
  have b0 : Below w.heap.size w ((w.alloc (.cells #[.int .i64 (t.kind : Nat), .string (tx t.text), .int .i64 (t.at_ : Nat)] 60)).alloc (.cells (ncells 0 [] 0 0 [] none 0 0) 26)) := ((Below.refl _ _).alloc (Nat.le_refl _) _).alloc (by simp) _
  have k0 := (Whole.new w 60 #[.int .i64 (t.kind : Nat), .string (tx t.text), .int .i64 (t.at_ : Nat)]).alloc (.cells (ncells 0 [] 0 0 [] none 0 0) 26)
  have k1 := Whole.new (w.alloc (.cells #[.int .i64 (t.kind : Nat), .string (tx t.text), .int .i64 (t.at_ : Nat)] 60)) 26 (ncells 0 [] 0 0 [] none 0 0)
  simp only [World.size_alloc] at k1
  obtain ⟨W1, hW1⟩ : ∃ W1, (w.alloc (.cells #[.int .i64 (t.kind : Nat), .string (tx t.text), .int .i64 (t.at_ : Nat)] 60)).alloc (.cells (ncells 0 [] 0 0 [] none 0 0) 26) = W1 := ⟨_, rfl⟩
  rw [hW1] at b0 k0 k1
  have RD := Lib.hid (vread_any (tx t.text) W1 a m (hv.below b0) (by simp [ByteArray.size]; exact hs))
  unfold ncells at *
  have B0 := Lib.hid b0
  have K1 := Lib.hid k1
  have c0 := k0.cell 0
  have c1 := k0.cell 1
  simp only [List.getElem?_toArray, List.getElem?_cons_zero, List.getElem?_cons_succ] at c0 c1
  obtain ⟨x0, x1, x2, x3, x4, x5⟩ := six_of k1
  obtain ⟨y0, y1, y2, y3, y4, y5⟩ := frozen6 k1
  have FINS : Hid (∀ (W : World), Whole W (w.heap.size + 1) 26 #[.int .i64 0, .string (tx []), .int .i64 0, .int .i64 0, .string (tx []), .slice none 0 0] → Below w.heap.size w W → ∀ (op : Int) (tt : List UInt8) (vk vn : Int) (vs : List UInt8),
      Whole (set6Z W (w.heap.size + 1) (.int .i64 op) (.string (tx tt)) (.int .i64 vk) (.int .i64 vn) (.string (tx vs)) (.slice none 0 0)) (w.heap.size + 1) 26 #[.int .i64 op, .string (tx tt), .int .i64 vk, .int .i64 vn, .string (tx vs), .slice none 0 0] ∧
      Below w.heap.size w (set6Z W (w.heap.size + 1) (.int .i64 op) (.string (tx tt)) (.int .i64 vk) (.int .i64 vn) (.string (tx vs)) (.slice none 0 0))) := Lib.hid (fun W k1 b0 op tt vk vn vs =>
    ⟨set6Z_whole k1 _ _ _ _ _ _, b0.trans ((set6Z_touch W (w.heap.size + 1) _ _ _ _ _ _).below1 (B := w.heap.size) (by omega) b0.size)⟩)
  clear k0 k1 b0 hv
  by_cases h1 : t.kind = 1
  · have e : bareV (leafT t) = .agg #[.int .i64 2, .string (tx t.text), .int .i64 0, .int .i64 0, .string (tx []), .slice none 0 0] := by rw [leafT, if_pos h1]; rfl
    have h' : (t.kind : Int) = 1 := by omega
    obtain ⟨F1, F2⟩ := FINS.out W1 K1.out B0.out 2 t.text 0 0 []
    have F1 := Lib.hid F1
    have F2 := Lib.hid F2
    rw [e, tokV]
    rw [h'] at c0 ⊢
    rw [h'] at hW1
    go_enter Tryz.func154, Tryz.ntmps154
    go_wp2_with fail
    exact bodyPost_ret (results_cell_row rfl _ _ (w.heap.size + 1) _ _ _ _ rfl F1.out Tryz.underlying26 rfl sizeExpr) rfl ⟨rfl, F2.out⟩
  · have g1 : ((t.kind : Int) == 1) = false := by simp; omega
    by_cases h4 : t.kind = 4
    · have e : bareV (leafT t) = .agg #[.int .i64 1, .string (tx []), .int .i64 2, .int .i64 0, .string (tx t.text), .slice none 0 0] := by rw [leafT, if_neg h1, if_pos h4]; rfl
      have h' : (t.kind : Int) = 4 := by omega
      obtain ⟨F1, F2⟩ := FINS.out W1 K1.out B0.out 1 [] 2 0 t.text
      have F1 := Lib.hid F1
      have F2 := Lib.hid F2
      rw [e, tokV]
      clear g1
      rw [h'] at c0 ⊢
      rw [h'] at hW1
      go_enter Tryz.func154, Tryz.ntmps154
      go_wp2_with fail
      exact bodyPost_ret (results_cell_row rfl _ _ (w.heap.size + 1) _ _ _ _ rfl F1.out Tryz.underlying26 rfl sizeExpr) rfl ⟨rfl, F2.out⟩
    · have g4 : ((t.kind : Int) == 4) = false := by simp; omega
      by_cases h32 : t.kind = 3 ∨ t.kind = 2
      · have e0 : leafT t = (if (told t.text).e = 0 then .node 1 [] (told t.text).k (told t.text).n (told t.text).s [] else .node 0 [] 0 0 [] []) := by rw [leafT, if_neg h1, if_neg h4, if_pos h32]
        have rd2 : Hid (Calls Tryz.prog 73 #[.string (tx t.text)] W1 fun e w' => e = .returned (.tuple #[val (told t.text).k (told t.text).n (tx (told t.text).s), .int .i64 (told t.text).e]) ∧ Below W1.heap.size W1 w') := RD
        have hok2 := hok h32
        generalize told t.text = r at rd2 e0 hok2
        have HOK := Lib.hid hok2
        obtain ⟨k, n, s, e⟩ := r
        simp only at rd2 e0 HOK
        clear hok2
        by_cases h3 : t.kind = 3
        · rw [tokV, e0]
          have h' : (t.kind : Int) = 3 := by omega
          clear g1 g4 RD e0
          rw [h'] at c0 hW1 ⊢
          go_enter Tryz.func154, Tryz.ntmps154
          go_wp2_with fail
          refine rd2.out.mono ?_
          rintro e W2 ⟨rfl, hb⟩
          have k2 := K1.out.below hb K1.out.lt
          have B2 := B0.out.trans (hb.mono B0.out.size)
          have b3 : Below w.heap.size w (W2.alloc (.cells #[.int .i64 k, .int .i64 n, .string (tx s)] 23)) := B2.alloc B2.size _
          have k3 := k2.alloc (.cells #[.int .i64 k, .int .i64 n, .string (tx s)] 23)
          have v3 := Whole.new W2 23 #[.int .i64 k, .int .i64 n, .string (tx s)]
          obtain ⟨z0, z1, z2, z3, z4, z5⟩ := six_of k3
          obtain ⟨u0, u1, u2, u3, u4, u5⟩ := frozen6 k3
          clear x0 x1 x2 x3 x4 x5 y0 y1 y2 y3 y4 y5 hb c0 c1
          · have he : e = 0 := HOK.out
            subst he
            obtain ⟨F1, F2⟩ := FINS.out _ k3 b3 1 [] k n s
            have F1 := Lib.hid F1
            have F2 := Lib.hid F2
            go_wp2_with fail
            refine bodyPost_ret (results_cell_row rfl _ _ (w.heap.size + 1) _ _ _ _ rfl F1.out Tryz.underlying26 rfl sizeExpr) rfl ⟨?_, F2.out⟩
            rfl
        · have h2 : t.kind = 2 := by omega
          rw [tokV, e0]
          have h' : (t.kind : Int) = 2 := by omega
          clear g1 g4 RD e0
          rw [h'] at c0 hW1 ⊢
          go_enter Tryz.func154, Tryz.ntmps154
          go_wp2_with fail
          refine rd2.out.mono ?_
          rintro e W2 ⟨rfl, hb⟩
          have k2 := K1.out.below hb K1.out.lt
          have B2 := B0.out.trans (hb.mono B0.out.size)
          have b3 : Below w.heap.size w (W2.alloc (.cells #[.int .i64 k, .int .i64 n, .string (tx s)] 23)) := B2.alloc B2.size _
          have k3 := k2.alloc (.cells #[.int .i64 k, .int .i64 n, .string (tx s)] 23)
          have v3 := Whole.new W2 23 #[.int .i64 k, .int .i64 n, .string (tx s)]
          obtain ⟨z0, z1, z2, z3, z4, z5⟩ := six_of k3
          obtain ⟨u0, u1, u2, u3, u4, u5⟩ := frozen6 k3
          clear x0 x1 x2 x3 x4 x5 y0 y1 y2 y3 y4 y5 hb c0 c1
          · have he : e = 0 := HOK.out
            subst he
            obtain ⟨F1, F2⟩ := FINS.out _ k3 b3 1 [] k n s
            have F1 := Lib.hid F1
            have F2 := Lib.hid F2
            go_wp2_with fail
            refine bodyPost_ret (results_cell_row rfl _ _ (w.heap.size + 1) _ _ _ _ rfl F1.out Tryz.underlying26 rfl sizeExpr) rfl ⟨?_, F2.out⟩
            rfl
      · exact absurd hk (by omega)
end Go.Proofs.YtbpknainmefidaaGreatDoor

/- single at a leaf. -/
namespace Go.Proofs.YtbpknainmefidaaGreatDoor
open Go.RowKit Go.Lib
set_option linter.unusedVariables false
set_option linter.unusedSimpArgs false
set_option maxRecDepth 100000
open Ex (Tree)

theorem results_two {P : Program} {fn : Func} {p u : Tmp} {ty : TypeId} (h : fn.results = #[.cell p ty, .tmp u]) (tmps : Array Value) (w : World) (g : Nat) (t : TypeId) (cs : Array Value) (fr : Nat × Nat) (d : TypeDesc)
    (hp : tmps.getD p undef = .pointer (some ⟨g, 0, none⟩)) (hg : w.heap[g]? = some (.cells cs t fr))
    (hu : P.underlying ty = some d) (hd : (match d with | .struct _ | .array _ _ => true | _ => false) = true) (hi : (P.info? ty).map (·.size) = some cs.size) (x : Value) (hx : tmps.getD u undef = x) :
    (results fn tmps).run P w = .ok (.tuple #[.agg cs, x]) w := by
  rw [results_cell_tmp h, hp, hx]
  simp [asAddr, run_loadVar_row w g t ty cs fr d hg hu hd hi, Result.andThen]
/-- what a rule that went well leaves. -/
def Got (w0 : World) (P : Nat) (A : Option Addr) (c : Nat) (L : List Lx.Tk) (T : Tree) (i d : Nat) (w : World) (e : Ending) (w' : World) : Prop :=
  ∃ u, e = .returned (.tuple #[u, .bool true]) ∧ NodeNew w.heap.size w' u T ∧ PAt w0 w' P A c L i d ∧ Touch [P] w w'
/-- a rule reads a tree, from a word on, behind so many that are open. -/
def Rule (w0 : World) (P : Nat) (A : Option Addr) (c : Nat) (L : List Lx.Tk) (N : FuncId) (args : Array Value) (i d : Nat) (T : Tree) (i' : Nat) : Prop :=
  ∀ w, PAt w0 w P A c L i d → Calls Tryz.prog N args w (Got w0 P A c L T i' d w)
theorem PAt.set_at {w0 w : World} {P : Nat} {A : Option Addr} {c : Nat} {L : List Lx.Tk} {i d : Nat} (h : PAt w0 w P A c L i d) (k : Nat) : PAt w0 (w.setCell ⟨P, 1, none⟩ (.int .i64 (k : Nat))) P A c L k d :=
  ⟨h.old.setCell (p := ⟨P, 1, none⟩) h.le _, h.le, h.cells.set_ 1 _, h.words.setCell _ _ _ h.far, h.far⟩
theorem PAt.touch {w0 w w' : World} {P : Nat} {A : Option Addr} {c : Nat} {L : List Lx.Tk} {i d : Nat} (h : PAt w0 w P A c L i d) {H : List Nat} (ht : Touch H w w') (hH : ∀ k ∈ H, w0.heap.size ≤ k ∧ k ≠ P ∧ ∀ b o, A = some ⟨b, o, none⟩ → b ≠ k) : PAt w0 w' P A c L i d := by
  refine ⟨ht.fresh h.old fun k hk => (hH k hk).1, h.le, (ht.block _ h.cells.lt fun hm => (hH _ hm).2.1 rfl).trans h.cells, fun j hj => ?_, h.far⟩
  obtain ⟨b, o, e, hb, q0, q1, q2⟩ := h.words j hj
  have hh := ht.block b hb (fun hm => (hH b hm).2.2 b o e rfl)
  have cc : ∀ k, w'.cell? ⟨b, k, none⟩ = w.cell? ⟨b, k, none⟩ := fun k => by simp only [World.cell?, hh]
  exact ⟨b, o, e, Nat.lt_of_lt_of_le hb ht.size, (cc _).trans q0, (cc _).trans q1, (cc _).trans q2⟩
theorem PAt.far6 {w0 w w' : World} {P g : Nat} {A : Option Addr} {c : Nat} {L : List Lx.Tk} {i d : Nat} (h : PAt w0 w P A c L i d) (ht : Touch [g] w w') (hg : w0.heap.size ≤ g ∧ g ≠ P) (hA : ∀ b o, A = some ⟨b, o, none⟩ → b ≠ g) : PAt w0 w' P A c L i d :=
  h.touch ht fun k hk => by have : k = g := by simpa using hk
                            subst this; exact ⟨hg.1, hg.2, hA⟩
theorem PAt.lower {w0 w : World} {P : Nat} {A : Option Addr} {c : Nat} {L : List Lx.Tk} {i d : Nat} (h : PAt w0 w P A c L i d) (hL : L ≠ []) : ∀ b o, A = some ⟨b, o, none⟩ → b < w.heap.size := fun b o e => by
  obtain ⟨b', o', e', hb, -⟩ := h.words 0 (List.length_pos_iff.2 hL)
  rw [e] at e'; cases e'; exact hb
/-- what stands below a world, of a parser. -/
structure Base (w0 w : World) (P : Nat) (A : Option Addr) : Prop where
  w0 : w0.heap.size ≤ w.heap.size
  P : P < w.heap.size
  A : ∀ b o, A = some ⟨b, o, none⟩ → b < w.heap.size
theorem PAt.base {w0 w : World} {P : Nat} {A : Option Addr} {c : Nat} {L : List Lx.Tk} {i d : Nat} (h : PAt w0 w P A c L i d) (hL : L ≠ []) : Base w0 w P A := ⟨h.old.size, h.cells.lt, h.lower hL⟩
theorem PAt.new {w0 w W w' : World} {P g : Nat} {A : Option Addr} {c : Nat} {L : List Lx.Tk} {i d : Nat} (h : PAt w0 W P A c L i d) (hb : Base w0 w P A) (ht : Touch [g] W w') (hg : w.heap.size ≤ g) : PAt w0 w' P A c L i d :=
  h.far6 ht ⟨Nat.le_trans hb.w0 hg, by have := hb.P; omega⟩ (fun b o e => by have := hb.A b o e; omega)
theorem kindI (t : Lx.Tk) (n : Nat) : ((t.kind : Int) == (n : Int)) = decide (t.kind = n) := by rw [Bool.eq_iff_iff]; simp; omega
/-- a word that is a leaf. -/
structure Leaf (L : List Lx.Tk) (i : Nat) : Prop where
  kind : (tk L i).kind = 1 ∨ (tk L i).kind = 2 ∨ (tk L i).kind = 3 ∨ (tk L i).kind = 4
  open_ : sgn (tk L i) ≠ [40]
  call : (tk L i).kind = 1 → sgn (tk L (i + 1)) ≠ [40]
  size : (tk L i).text.length ≤ 6000
  told : ((tk L i).kind = 3 ∨ (tk L i).kind = 2) → (told (tk L i).text).e = 0
  fits : fitT (leafT (tk L i))
  right : Ex.rightB nodeB (leafT (tk L i)) = true
theorem leafT_bare (t : Lx.Tk) : ∃ op tt vk vn vs, leafT t = .node op tt vk vn vs [] := by
  unfold leafT
  split
  · exact ⟨_, _, _, _, _, rfl⟩
  · split
    · exact ⟨_, _, _, _, _, rfl⟩
    · split
      · split
        · exact ⟨_, _, _, _, _, rfl⟩
        · exact ⟨_, _, _, _, _, rfl⟩
      · exact ⟨_, _, _, _, _, rfl⟩

set_option maxHeartbeats 2000000 in
theorem single_leaf {w0 : World} {P : Nat} {A : Option Addr} {c : Nat} {L : List Lx.Tk} {i d : Nat} {a : Addr} {m : Int} (hv : Env w0 a m) (hl : Leaf L i) (hi : i + 1 ≤ 1000000) (hL : L.length ≤ 1000000) :
    Rule w0 P A c L 139 #[.pointer (some ⟨P, 0, none⟩)] i d (leafT (tk L i)) (i + 1) := by
  intro w h
  have b0 : Below w.heap.size w ((w.alloc (.cells #[.pointer (some ⟨P, 0, none⟩)] 71)).alloc (.cells (ncells 0 [] 0 0 [] none 0 0) 26)) := ((Below.refl _ _).alloc (Nat.le_refl _) _).alloc (by simp) _
  have k0 := (Whole.new w 71 #[.pointer (some ⟨P, 0, none⟩)]).alloc (.cells (ncells 0 [] 0 0 [] none 0 0) 26)
  have k1 := Whole.new (w.alloc (.cells #[.pointer (some ⟨P, 0, none⟩)] 71)) 26 (ncells 0 [] 0 0 [] none 0 0)
  simp only [World.size_alloc] at k1
  have h1 := h.below b0
  obtain ⟨W1, hW1⟩ : ∃ W1, (w.alloc (.cells #[.pointer (some ⟨P, 0, none⟩)] 71)).alloc (.cells (ncells 0 [] 0 0 [] none 0 0) 26) = W1 := ⟨_, rfl⟩
  rw [hW1] at b0 k0 k1 h1
  unfold ncells at *
  have NX := Lib.hid (next_any h1 (by omega) hL)
  have c0 := k0.cell 0
  simp only [List.getElem?_toArray, List.getElem?_cons_zero, List.getElem?_cons_succ] at c0
  have B0 := Lib.hid b0
  have K0 := Lib.hid k0
  have K1 := Lib.hid k1
  have H1 := Lib.hid h1
  have HA0 : Hid (∀ b o, A = some ⟨b, o, none⟩ → b < w.heap.size) := Lib.hid (h.lower (by rintro rfl; have := hl.kind; simp [tk] at this))
  have HW0 : Hid (w0.heap.size ≤ w.heap.size) := Lib.hid h.old.size
  have HP0 : Hid (P < w.heap.size) := Lib.hid h.cells.lt
  have HLF := Lib.hid hl
  have HV := Lib.hid hv
  obtain ⟨t, ht⟩ : ∃ t, tk L i = t := ⟨_, rfl⟩
  have HT := Lib.hid ht
  rw [ht] at NX ⊢
  obtain ⟨op, tt, vk, vn, vs, hT⟩ := leafT_bare t
  rw [hT]
  have HTT := Lib.hid hT
  clear hT
  have hop : sgn t ≠ [40] := by rw [← ht]; exact hl.open_
  have b0' : ∀ {W2 : World}, Below W1.heap.size W1 W2 → Below W1.heap.size W1 (W2.alloc (.cells #[.int .i64 (t.kind : Nat), .string (tx t.text), .int .i64 (t.at_ : Nat)] 60)) := fun hb => hb.alloc hb.size _
  clear b0 k0 k1 h1 hl hv h ht
  go_enter Tryz.func139, Tryz.ntmps139
  go_wp2_with fail
  refine NX.out.mono ?_
  rintro e W2 ⟨rfl, hb2⟩
  have b3 := b0' hb2
  have k3 := Whole.new W2 60 #[.int .i64 (t.kind : Nat), .string (tx t.text), .int .i64 (t.at_ : Nat)]
  obtain ⟨W3, hW3⟩ : ∃ W3, W2.alloc (.cells #[.int .i64 (t.kind : Nat), .string (tx t.text), .int .i64 (t.at_ : Nat)] 60) = W3 := ⟨_, rfl⟩
  rw [hW3] at b3 k3
  have B3 := Lib.hid b3
  have KT := Lib.hid k3
  have SG := Lib.hid (sign_any t W3)
  have t0 := k3.cell 0
  have t1 := k3.cell 1
  have t2 := k3.cell 2
  simp only [List.getElem?_toArray, List.getElem?_cons_zero, List.getElem?_cons_succ] at t0 t1 t2
  have c3 := (b3.cell (p := ⟨w.heap.size, 0, none⟩) K0.out.lt).trans c0
  have hne : ((tx (sgn t)).toList == [40]) = false := by rw [ByteArray.toList_eq]; simpa using hop
  have hne2 : (sgn t == [40]) = false := by simpa using hop
  clear hb2 k3 b3 b0' NX
  go_wp2_with fail
  refine SG.out.mono ?_
  rintro e W4 ⟨rfl, hb4⟩
  have c4 := (hb4.cell (p := ⟨w.heap.size, 0, none⟩) (by have := B3.out.size; have := K0.out.lt; show w.heap.size < _; omega)).trans c3
  have t0 := (hb4.cell (p := ⟨W2.heap.size, 0, none⟩) KT.out.lt).trans t0
  have t1 := (hb4.cell (p := ⟨W2.heap.size, 1, none⟩) KT.out.lt).trans t1
  have t2 := (hb4.cell (p := ⟨W2.heap.size, 2, none⟩) KT.out.lt).trans t2
  have B4 : Hid (Below W1.heap.size W1 W4) := Lib.hid (B3.out.trans (hb4.mono B3.out.size))
  have KT4 := Lib.hid (KT.out.below hb4 KT.out.lt)
  have H4 := Lib.hid (H1.out.below B4.out)
  clear hb4 c3 SG
  have p4 : W4.cell? ⟨P, 1, none⟩ = some (.int .i64 (i : Nat)) := H4.out.cells.cell 1
  have hi' : (i : Int) + 1 ≤ 1000000 := by omega
  go_upto_region 4 with fail
  go_cut [17] from 18 to 31 (fun s17 wc => s17 = .bool false ∧ Hid (Below W4.heap.size W4 wc))
  case first =>
    by_cases hk : t.kind = 1
    · have hk' : (t.kind : Int) = 1 := by omega
      have hcall : sgn (tk L (i + 1)) ≠ [40] := HLF.out.call (by rw [HT.out]; exact hk)
      have hne' : ((tx (sgn (tk L (i + 1)))).toList == [40]) = false := by rw [ByteArray.toList_eq]; simpa using hcall
      have hne2' : (sgn (tk L (i + 1)) == [40]) = false := by simpa using hcall
      have WC : Hid (∀ W, Below W4.heap.size W4 W → Calls Tryz.prog 57 #[.pointer (some ⟨P, 0, none⟩), .int .i64 ((i : Int) + 1)] W fun e w' => e = .returned (tokV (tk L (i + 1))) ∧ Below W.heap.size W w') := Lib.hid (fun W hW => by
        have := word_any (H4.out.below hW) (i + 1) (by omega) hL
        simpa using this)
      generalize tk L (i + 1) = t' at *
      rw [hk'] at t0
      clear hk' hk
      have hwr : IntKind.i64.wrap ((i : Int) + 1) = (i : Int) + 1 := by rw [IntKind.wrap_i64]; omega
      have K4 : Hid (∀ w', Below W4.heap.size W4 w' → Below W4.heap.size W4 w' ∧ w'.cell? ⟨P, 1, none⟩ = some (.int .i64 (i : Nat)) ∧ w'.cell? ⟨w.heap.size, 0, none⟩ = some (.pointer (some ⟨P, 0, none⟩)) ∧ w'.cell? ⟨W2.heap.size, 0, none⟩ = some (.int .i64 1)) := Lib.hid (fun w' hw => ⟨hw, (hw.cell (p := ⟨P, 1, none⟩) H4.out.cells.lt).trans p4, (hw.cell (p := ⟨w.heap.size, 0, none⟩) (by have := B4.out.size; have := K0.out.lt; show w.heap.size < _; omega)).trans c4, (hw.cell (p := ⟨W2.heap.size, 0, none⟩) KT4.out.lt).trans t0⟩)
      go_region_held3 (fun w' => Below W4.heap.size W4 w' ∧ w'.cell? ⟨P, 1, none⟩ = some (.int .i64 (i : Nat)) ∧ w'.cell? ⟨w.heap.size, 0, none⟩ = some (.pointer (some ⟨P, 0, none⟩)) ∧ w'.cell? ⟨W2.heap.size, 0, none⟩ = some (.int .i64 1)) (first | (exact K4.out _ (Below.refl _ _).drew) | (go_split_ands; exact K4.out _ (bstep (by assumption) hb3)) | (go_split_ands; exact K4.out _ (bstep (by assumption) hb2)) | go_keep)
        (first
          | (go_at_call 57; (with_reducible refine (WC.out _ ?_).mono ?_); (go_split_ands; assumption); rintro e w2 ⟨rfl, hb2⟩)
          | (go_at_call 76; (with_reducible refine (sign_any t' _).mono ?_); rintro e w3 ⟨rfl, hb3⟩))
      all_goals
        go_wp2_with fail
        go_meet
        case rel => exact ⟨rfl, Lib.hid (by (go_split_ands; first | assumption | exact bstep (by assumption) hb3))⟩
    · have hk' : ((t.kind : Int) == 1) = false := by rw [show (1 : Int) = ((1 : Nat) : Int) from rfl, kindI]; simpa using hk
      go_quiet (fail)
      go_wp2_with fail
      go_meet
      case rel => exact ⟨rfl, Lib.hid (below_drewN (Below.refl _ _) _)⟩
  case rest =>
    obtain ⟨rfl, HB5⟩ := hcut
    obtain ⟨wd, rfl⟩ : ∃ wd, wd = wc := ⟨wc, rfl⟩
    clear t0 t1 t2 c4 p4 hW1 hW3 c0 hne hne2 hop
    have B5 : Hid (Below W1.heap.size W1 wd) := Lib.hid (B4.out.trans (HB5.out.mono B4.out.size))
    have KT5 := Lib.hid (KT4.out.below HB5.out KT4.out.lt)
    have H5 := Lib.hid (H1.out.below B5.out)
    have K05 := Lib.hid (K0.out.below B5.out K0.out.lt)
    have K15 := Lib.hid (K1.out.below B5.out K1.out.lt)
    have t0 := KT5.out.cell 0
    have t1 := KT5.out.cell 1
    have t2 := KT5.out.cell 2
    have c5 := K05.out.cell 0
    simp only [List.getElem?_toArray, List.getElem?_cons_zero, List.getElem?_cons_succ] at t0 t1 t2 c5
    have LF := Lib.hid (leaf_any t wd a m (HV.out.below H5.out.old) (by rw [← HT.out]; exact HLF.out.size) (by rw [← HT.out]; exact HLF.out.told) (by rw [← HT.out]; exact HLF.out.kind))
    have HF : Hid (fitT (leafT t)) := Lib.hid (by rw [← HT.out]; exact HLF.out.fits)
    have HR : Hid (Ex.rightB nodeB (leafT t) = true) := Lib.hid (by rw [← HT.out]; exact HLF.out.right)
    rw [HTT.out] at LF HF HR
    have LF2 : Hid (Calls Tryz.prog 154 #[tokV t] wd fun e w' => e = .returned (.agg (ncells op tt vk vn vs none 0 0)) ∧ Below wd.heap.size wd w') := LF
    unfold ncells at LF2
    clear LF
    go_wp2_with fail
    refine LF2.out.mono ?_
    rintro e W6 ⟨rfl, hb6⟩
    have C5 := Lib.hid c5
    clear t0 t1 t2 c5 LF2
    go_wp2_with fail
    have b7 : Below wd.heap.size wd (W6.alloc (.cells (ncells op tt vk vn vs none 0 0) 26)) := hb6.alloc hb6.size _
    have k7 := Whole.new W6 26 (ncells op tt vk vn vs none 0 0)
    unfold ncells at *
    obtain ⟨W7, hW7⟩ : ∃ W7, W6.alloc (.cells #[.int .i64 op, .string (tx tt), .int .i64 vk, .int .i64 vn, .string (tx vs), .slice none 0 0] 26) = W7 := ⟨_, rfl⟩
    rw [hW7] at b7 k7 ⊢
    have B7 := Lib.hid b7
    have K7S : Hid (wd.heap.size ≤ W6.heap.size) := Lib.hid hb6.size
    have K7 := Lib.hid k7
    have H7 := Lib.hid (H5.out.below b7)
    have RR := Lib.hid (callsIn_wide.1 (right_in (.node op tt vk vn vs []) _ W7 ⟨none, 0, rfl, Nat.le_refl _, by rw [TreesAt]; trivial⟩ HF.out (by rw [Ex.depth, Ex.depths]; omega) a m (HV.out.below H7.out.old)))
    unfold ncells at RR
    obtain ⟨m0, m1, m2, m3, m4, m5⟩ := six_of k7
    have c7 := (b7.cell (p := ⟨w.heap.size, 0, none⟩) K05.out.lt).trans C5.out
    clear b7 k7 hb6
    refine RR.out.mono ?_
    rintro e W8 ⟨rfl, hb8⟩
    rw [HR.out]
    have B8 := Lib.hid hb8
    have H8 := Lib.hid (H7.out.below hb8)
    have K08 := Lib.hid (K05.out.below B7.out K05.out.lt)
    have K08 := Lib.hid (K08.out.below hb8 K08.out.lt)
    have K18 := Lib.hid (K15.out.below B7.out K15.out.lt)
    have K18 := Lib.hid (K18.out.below hb8 K18.out.lt)
    have K78 := Lib.hid (K7.out.below hb8 K7.out.lt)
    clear m0 m1 m2 m3 m4 m5 c7 hb8 RR hW7 C5
    have p8 : W8.cell? ⟨P, 1, none⟩ = some (.int .i64 (i : Nat)) := H8.out.cells.cell 1
    have pf : W8.frozen? ⟨P, 1, none⟩ = false := H8.out.cells.frozen 1
    have c8 := K08.out.cell 0
    simp only [List.getElem?_toArray, List.getElem?_cons_zero, List.getElem?_cons_succ] at c8
    have hPlt : P < w.heap.size := HP0.out
    have H9 := Lib.hid (H8.out.set_at (i + 1))
    have T9 : Hid (Touch [P] w (W8.setCell ⟨P, 1, none⟩ (.int .i64 ((i + 1 : Nat) : Int)))) := Lib.hid ((Touch.of_below (B0.out.trans ((B5.out.trans (B7.out.mono B5.out.size)).trans (B8.out.mono (Nat.le_trans B5.out.size B7.out.size)) |>.mono B0.out.size)) [P]).setCell (.inl (by simp)) _)
    have K79 := Lib.hid (K78.out.far (p := ⟨P, 1, none⟩) (by have := H5.out.cells.lt; have := K7S.out; simp; omega) (.int .i64 ((i + 1 : Nat) : Int)))
    have K19 := Lib.hid (K18.out.far (p := ⟨P, 1, none⟩) (by simp; omega) (.int .i64 ((i + 1 : Nat) : Int)))
    clear K7 K78 K18 K08 K15 K05 K1 K0
    obtain ⟨W9, hW9⟩ : ∃ W9, W8.setCell ⟨P, 1, none⟩ (.int .i64 ((i + 1 : Nat) : Int)) = W9 := ⟨_, rfl⟩
    rw [hW9] at H9 T9 K79 K19
    have hcast : ((i + 1 : Nat) : Int) = (i : Int) + 1 := by omega
    rw [hcast] at hW9
    obtain ⟨m0, m1, m2, m3, m4, m5⟩ := six_of K79.out
    obtain ⟨x0, x1, x2, x3, x4, x5⟩ := six_of K19.out
    obtain ⟨y0, y1, y2, y3, y4, y5⟩ := frozen6 K19.out
    have FIN := Lib.hid (set6Z_whole K19.out (.int .i64 op) (.string (tx tt)) (.int .i64 vk) (.int .i64 vn) (.string (tx vs)) (.slice none 0 0))
    have FT := set6Z_touch W9 (w.heap.size + 1) (.int .i64 op) (.string (tx tt)) (.int .i64 vk) (.int .i64 vn) (.string (tx vs)) (.slice none 0 0)
    have FIN2 : Hid (PAt w0 (set6Z W9 (w.heap.size + 1) (.int .i64 op) (.string (tx tt)) (.int .i64 vk) (.int .i64 vn) (.string (tx vs)) (.slice none 0 0)) P A c L (i + 1) d ∧ Touch [P] w (set6Z W9 (w.heap.size + 1) (.int .i64 op) (.string (tx tt)) (.int .i64 vk) (.int .i64 vn) (.string (tx vs)) (.slice none 0 0))) :=
      Lib.hid ⟨H9.out.far6 FT (by have := HW0.out; omega) (fun b o e => by have := HA0.out b o e; omega), T9.out.trans FT (fun x hx => .inr (by simp at hx; omega))⟩
    clear FT
    go_wp2_with fail
    exact bodyPost_ret (results_two rfl _ _ (w.heap.size + 1) _ _ _ _ rfl FIN.out Tryz.underlying26 rfl sizeExpr _ rfl) rfl ⟨_, rfl, ⟨none, 0, rfl, Nat.le_refl _, by rw [TreesIn]; trivial⟩, FIN2.out.1, FIN2.out.2⟩
end Go.Proofs.YtbpknainmefidaaGreatDoor

/- The rules that only call another (gen_h4.py); ahead where no sign stands. -/
namespace Go.Proofs.YtbpknainmefidaaGreatDoor
open Go.RowKit Go.Lib
set_option linter.unusedVariables false
set_option linter.unusedSimpArgs false
set_option maxRecDepth 100000
open Ex (Tree)


set_option maxHeartbeats 1000000 in
theorem or_ok {w0 : World} {P : Nat} {A : Option Addr} {c : Nat} {L : List Lx.Tk} {i d : Nat} {T : Tree} {i' : Nat} (hL : L ≠ [])
    (HC : Rule w0 P A c L 58 #[.pointer (some ⟨P, 0, none⟩), .int .i64 1, .func (.func 59) #[.pointer (some ⟨P, 0, none⟩)] #[]] i d T i') : Rule w0 P A c L 44 #[.pointer (some ⟨P, 0, none⟩)] i d T i' := by
  intro w h
  have b0 : Below w.heap.size w (w.alloc (.cells (ncells 0 [] 0 0 [] none 0 0) 26)) := (Below.refl _ _).alloc (Nat.le_refl _) _
  have k0 := Whole.new w 26 (ncells 0 [] 0 0 [] none 0 0)
  have CC := Lib.hid (HC _ (h.below b0))
  have HB := Lib.hid (h.base hL)
  have hz : (w.alloc (.cells (ncells 0 [] 0 0 [] none 0 0) 26)).heap.size = w.heap.size + 1 := by simp
  unfold ncells at *
  have B0 := Lib.hid b0
  have K0 := Lib.hid k0
  have HZ := Lib.hid hz
  clear b0 k0 hz h HC hL
  go_enter Tryz.func44, Tryz.ntmps44
  go_wp2_with fail
  refine CC.out.mono ?_
  generalize w.alloc (.cells #[.int .i64 0, .string (tx []), .int .i64 0, .int .i64 0, .string (tx []), .slice none 0 0] 26) = W1 at *
  rintro e W2 ⟨u, rfl, hu, hp, ht⟩
  cases T with
  | node op t vk vn vs ks =>
  obtain ⟨A2, c2, rfl, hc2, hk2⟩ := hu
  have k2 : Whole W2 w.heap.size 26 #[.int .i64 0, .string (tx []), .int .i64 0, .int .i64 0, .string (tx []), .slice none 0 0] := (ht.block _ K0.out.lt (by have := HB.out.P; simp; omega)).trans K0.out
  obtain ⟨x0, x1, x2, x3, x4, x5⟩ := six_of k2
  obtain ⟨y0, y1, y2, y3, y4, y5⟩ := frozen6 k2
  have FIN := Lib.hid (set6Z_whole k2 (.int .i64 op) (.string (tx t)) (.int .i64 vk) (.int .i64 vn) (.string (tx vs)) (.slice A2 ks.length c2))
  have FT := set6Z_touch W2 w.heap.size (.int .i64 op) (.string (tx t)) (.int .i64 vk) (.int .i64 vn) (.string (tx vs)) (.slice A2 ks.length c2)
  have F1 := Lib.hid (hp.new HB.out FT (Nat.le_refl _))
  have F2 : Hid (Touch [P] w (set6Z W2 w.heap.size (.int .i64 op) (.string (tx t)) (.int .i64 vk) (.int .i64 vn) (.string (tx vs)) (.slice A2 ks.length c2))) := Lib.hid (((Touch.of_below B0.out [P]).trans ht (fun x hx => .inl hx)).trans FT (fun x hx => .inr (by simp at hx; omega)))
  have F3 := Lib.hid (hk2.moved (S' := (w.heap.size ≤ ·)) fun k hk hlt => ⟨FT.block k hlt (by have := HZ.out; simp; omega), by have := HZ.out; omega⟩)
  have F4 := Lib.hid hc2
  clear FT hk2 hc2 hp ht k2
  go_wp2_with fail
  exact bodyPost_ret (results_two rfl _ _ w.heap.size _ _ _ _ rfl FIN.out Tryz.underlying26 rfl sizeExpr _ rfl) rfl ⟨_, rfl, ⟨A2, c2, rfl, F4.out, F3.out⟩, F1.out, F2.out⟩

set_option maxHeartbeats 1000000 in
theorem and_ok {w0 : World} {P : Nat} {A : Option Addr} {c : Nat} {L : List Lx.Tk} {i d : Nat} {T : Tree} {i' : Nat} (hL : L ≠ [])
    (HC : Rule w0 P A c L 58 #[.pointer (some ⟨P, 0, none⟩), .int .i64 2, .func (.func 78) #[.pointer (some ⟨P, 0, none⟩)] #[]] i d T i') : Rule w0 P A c L 59 #[.pointer (some ⟨P, 0, none⟩)] i d T i' := by
  intro w h
  have b0 : Below w.heap.size w (w.alloc (.cells (ncells 0 [] 0 0 [] none 0 0) 26)) := (Below.refl _ _).alloc (Nat.le_refl _) _
  have k0 := Whole.new w 26 (ncells 0 [] 0 0 [] none 0 0)
  have CC := Lib.hid (HC _ (h.below b0))
  have HB := Lib.hid (h.base hL)
  have hz : (w.alloc (.cells (ncells 0 [] 0 0 [] none 0 0) 26)).heap.size = w.heap.size + 1 := by simp
  unfold ncells at *
  have B0 := Lib.hid b0
  have K0 := Lib.hid k0
  have HZ := Lib.hid hz
  clear b0 k0 hz h HC hL
  go_enter Tryz.func59, Tryz.ntmps59
  go_wp2_with fail
  refine CC.out.mono ?_
  generalize w.alloc (.cells #[.int .i64 0, .string (tx []), .int .i64 0, .int .i64 0, .string (tx []), .slice none 0 0] 26) = W1 at *
  rintro e W2 ⟨u, rfl, hu, hp, ht⟩
  cases T with
  | node op t vk vn vs ks =>
  obtain ⟨A2, c2, rfl, hc2, hk2⟩ := hu
  have k2 : Whole W2 w.heap.size 26 #[.int .i64 0, .string (tx []), .int .i64 0, .int .i64 0, .string (tx []), .slice none 0 0] := (ht.block _ K0.out.lt (by have := HB.out.P; simp; omega)).trans K0.out
  obtain ⟨x0, x1, x2, x3, x4, x5⟩ := six_of k2
  obtain ⟨y0, y1, y2, y3, y4, y5⟩ := frozen6 k2
  have FIN := Lib.hid (set6Z_whole k2 (.int .i64 op) (.string (tx t)) (.int .i64 vk) (.int .i64 vn) (.string (tx vs)) (.slice A2 ks.length c2))
  have FT := set6Z_touch W2 w.heap.size (.int .i64 op) (.string (tx t)) (.int .i64 vk) (.int .i64 vn) (.string (tx vs)) (.slice A2 ks.length c2)
  have F1 := Lib.hid (hp.new HB.out FT (Nat.le_refl _))
  have F2 : Hid (Touch [P] w (set6Z W2 w.heap.size (.int .i64 op) (.string (tx t)) (.int .i64 vk) (.int .i64 vn) (.string (tx vs)) (.slice A2 ks.length c2))) := Lib.hid (((Touch.of_below B0.out [P]).trans ht (fun x hx => .inl hx)).trans FT (fun x hx => .inr (by simp at hx; omega)))
  have F3 := Lib.hid (hk2.moved (S' := (w.heap.size ≤ ·)) fun k hk hlt => ⟨FT.block k hlt (by have := HZ.out; simp; omega), by have := HZ.out; omega⟩)
  have F4 := Lib.hid hc2
  clear FT hk2 hc2 hp ht k2
  go_wp2_with fail
  exact bodyPost_ret (results_two rfl _ _ w.heap.size _ _ _ _ rfl FIN.out Tryz.underlying26 rfl sizeExpr _ rfl) rfl ⟨_, rfl, ⟨A2, c2, rfl, F4.out, F3.out⟩, F1.out, F2.out⟩

set_option maxHeartbeats 1000000 in
theorem sum_ok {w0 : World} {P : Nat} {A : Option Addr} {c : Nat} {L : List Lx.Tk} {i d : Nat} {T : Tree} {i' : Nat} (hL : L ≠ [])
    (HC : Rule w0 P A c L 58 #[.pointer (some ⟨P, 0, none⟩), .int .i64 4, .func (.func 113) #[.pointer (some ⟨P, 0, none⟩)] #[]] i d T i') : Rule w0 P A c L 101 #[.pointer (some ⟨P, 0, none⟩)] i d T i' := by
  intro w h
  have b0 : Below w.heap.size w (w.alloc (.cells (ncells 0 [] 0 0 [] none 0 0) 26)) := (Below.refl _ _).alloc (Nat.le_refl _) _
  have k0 := Whole.new w 26 (ncells 0 [] 0 0 [] none 0 0)
  have CC := Lib.hid (HC _ (h.below b0))
  have HB := Lib.hid (h.base hL)
  have hz : (w.alloc (.cells (ncells 0 [] 0 0 [] none 0 0) 26)).heap.size = w.heap.size + 1 := by simp
  unfold ncells at *
  have B0 := Lib.hid b0
  have K0 := Lib.hid k0
  have HZ := Lib.hid hz
  clear b0 k0 hz h HC hL
  go_enter Tryz.func101, Tryz.ntmps101
  go_wp2_with fail
  refine CC.out.mono ?_
  generalize w.alloc (.cells #[.int .i64 0, .string (tx []), .int .i64 0, .int .i64 0, .string (tx []), .slice none 0 0] 26) = W1 at *
  rintro e W2 ⟨u, rfl, hu, hp, ht⟩
  cases T with
  | node op t vk vn vs ks =>
  obtain ⟨A2, c2, rfl, hc2, hk2⟩ := hu
  have k2 : Whole W2 w.heap.size 26 #[.int .i64 0, .string (tx []), .int .i64 0, .int .i64 0, .string (tx []), .slice none 0 0] := (ht.block _ K0.out.lt (by have := HB.out.P; simp; omega)).trans K0.out
  obtain ⟨x0, x1, x2, x3, x4, x5⟩ := six_of k2
  obtain ⟨y0, y1, y2, y3, y4, y5⟩ := frozen6 k2
  have FIN := Lib.hid (set6Z_whole k2 (.int .i64 op) (.string (tx t)) (.int .i64 vk) (.int .i64 vn) (.string (tx vs)) (.slice A2 ks.length c2))
  have FT := set6Z_touch W2 w.heap.size (.int .i64 op) (.string (tx t)) (.int .i64 vk) (.int .i64 vn) (.string (tx vs)) (.slice A2 ks.length c2)
  have F1 := Lib.hid (hp.new HB.out FT (Nat.le_refl _))
  have F2 : Hid (Touch [P] w (set6Z W2 w.heap.size (.int .i64 op) (.string (tx t)) (.int .i64 vk) (.int .i64 vn) (.string (tx vs)) (.slice A2 ks.length c2))) := Lib.hid (((Touch.of_below B0.out [P]).trans ht (fun x hx => .inl hx)).trans FT (fun x hx => .inr (by simp at hx; omega)))
  have F3 := Lib.hid (hk2.moved (S' := (w.heap.size ≤ ·)) fun k hk hlt => ⟨FT.block k hlt (by have := HZ.out; simp; omega), by have := HZ.out; omega⟩)
  have F4 := Lib.hid hc2
  clear FT hk2 hc2 hp ht k2
  go_wp2_with fail
  exact bodyPost_ret (results_two rfl _ _ w.heap.size _ _ _ _ rfl FIN.out Tryz.underlying26 rfl sizeExpr _ rfl) rfl ⟨_, rfl, ⟨A2, c2, rfl, F4.out, F3.out⟩, F1.out, F2.out⟩

set_option maxHeartbeats 1000000 in
theorem product_ok {w0 : World} {P : Nat} {A : Option Addr} {c : Nat} {L : List Lx.Tk} {i d : Nat} {T : Tree} {i' : Nat} (hL : L ≠ [])
    (HC : Rule w0 P A c L 58 #[.pointer (some ⟨P, 0, none⟩), .int .i64 5, .func (.func 127) #[.pointer (some ⟨P, 0, none⟩)] #[]] i d T i') : Rule w0 P A c L 113 #[.pointer (some ⟨P, 0, none⟩)] i d T i' := by
  intro w h
  have b0 : Below w.heap.size w (w.alloc (.cells (ncells 0 [] 0 0 [] none 0 0) 26)) := (Below.refl _ _).alloc (Nat.le_refl _) _
  have k0 := Whole.new w 26 (ncells 0 [] 0 0 [] none 0 0)
  have CC := Lib.hid (HC _ (h.below b0))
  have HB := Lib.hid (h.base hL)
  have hz : (w.alloc (.cells (ncells 0 [] 0 0 [] none 0 0) 26)).heap.size = w.heap.size + 1 := by simp
  unfold ncells at *
  have B0 := Lib.hid b0
  have K0 := Lib.hid k0
  have HZ := Lib.hid hz
  clear b0 k0 hz h HC hL
  go_enter Tryz.func113, Tryz.ntmps113
  go_wp2_with fail
  refine CC.out.mono ?_
  generalize w.alloc (.cells #[.int .i64 0, .string (tx []), .int .i64 0, .int .i64 0, .string (tx []), .slice none 0 0] 26) = W1 at *
  rintro e W2 ⟨u, rfl, hu, hp, ht⟩
  cases T with
  | node op t vk vn vs ks =>
  obtain ⟨A2, c2, rfl, hc2, hk2⟩ := hu
  have k2 : Whole W2 w.heap.size 26 #[.int .i64 0, .string (tx []), .int .i64 0, .int .i64 0, .string (tx []), .slice none 0 0] := (ht.block _ K0.out.lt (by have := HB.out.P; simp; omega)).trans K0.out
  obtain ⟨x0, x1, x2, x3, x4, x5⟩ := six_of k2
  obtain ⟨y0, y1, y2, y3, y4, y5⟩ := frozen6 k2
  have FIN := Lib.hid (set6Z_whole k2 (.int .i64 op) (.string (tx t)) (.int .i64 vk) (.int .i64 vn) (.string (tx vs)) (.slice A2 ks.length c2))
  have FT := set6Z_touch W2 w.heap.size (.int .i64 op) (.string (tx t)) (.int .i64 vk) (.int .i64 vn) (.string (tx vs)) (.slice A2 ks.length c2)
  have F1 := Lib.hid (hp.new HB.out FT (Nat.le_refl _))
  have F2 : Hid (Touch [P] w (set6Z W2 w.heap.size (.int .i64 op) (.string (tx t)) (.int .i64 vk) (.int .i64 vn) (.string (tx vs)) (.slice A2 ks.length c2))) := Lib.hid (((Touch.of_below B0.out [P]).trans ht (fun x hx => .inl hx)).trans FT (fun x hx => .inr (by simp at hx; omega)))
  have F3 := Lib.hid (hk2.moved (S' := (w.heap.size ≤ ·)) fun k hk hlt => ⟨FT.block k hlt (by have := HZ.out; simp; omega), by have := HZ.out; omega⟩)
  have F4 := Lib.hid hc2
  clear FT hk2 hc2 hp ht k2
  go_wp2_with fail
  exact bodyPost_ret (results_two rfl _ _ w.heap.size _ _ _ _ rfl FIN.out Tryz.underlying26 rfl sizeExpr _ rfl) rfl ⟨_, rfl, ⟨A2, c2, rfl, F4.out, F3.out⟩, F1.out, F2.out⟩

set_option maxHeartbeats 1000000 in
theorem not_ok {w0 : World} {P : Nat} {A : Option Addr} {c : Nat} {L : List Lx.Tk} {i d : Nat} {T : Tree} {i' : Nat} (hL : L ≠ [])
    (HC : Rule w0 P A c L 86 #[.pointer (some ⟨P, 0, none⟩), .string ⟨#[110, 111, 116]⟩, .int .i64 4, .func (.func 87) #[.pointer (some ⟨P, 0, none⟩)] #[]] i d T i') : Rule w0 P A c L 78 #[.pointer (some ⟨P, 0, none⟩)] i d T i' := by
  intro w h
  have b0 : Below w.heap.size w (w.alloc (.cells (ncells 0 [] 0 0 [] none 0 0) 26)) := (Below.refl _ _).alloc (Nat.le_refl _) _
  have k0 := Whole.new w 26 (ncells 0 [] 0 0 [] none 0 0)
  have CC := Lib.hid (HC _ (h.below b0))
  have HB := Lib.hid (h.base hL)
  have hz : (w.alloc (.cells (ncells 0 [] 0 0 [] none 0 0) 26)).heap.size = w.heap.size + 1 := by simp
  unfold ncells at *
  have B0 := Lib.hid b0
  have K0 := Lib.hid k0
  have HZ := Lib.hid hz
  clear b0 k0 hz h HC hL
  go_enter Tryz.func78, Tryz.ntmps78
  go_wp2_with fail
  refine CC.out.mono ?_
  generalize w.alloc (.cells #[.int .i64 0, .string (tx []), .int .i64 0, .int .i64 0, .string (tx []), .slice none 0 0] 26) = W1 at *
  rintro e W2 ⟨u, rfl, hu, hp, ht⟩
  cases T with
  | node op t vk vn vs ks =>
  obtain ⟨A2, c2, rfl, hc2, hk2⟩ := hu
  have k2 : Whole W2 w.heap.size 26 #[.int .i64 0, .string (tx []), .int .i64 0, .int .i64 0, .string (tx []), .slice none 0 0] := (ht.block _ K0.out.lt (by have := HB.out.P; simp; omega)).trans K0.out
  obtain ⟨x0, x1, x2, x3, x4, x5⟩ := six_of k2
  obtain ⟨y0, y1, y2, y3, y4, y5⟩ := frozen6 k2
  have FIN := Lib.hid (set6Z_whole k2 (.int .i64 op) (.string (tx t)) (.int .i64 vk) (.int .i64 vn) (.string (tx vs)) (.slice A2 ks.length c2))
  have FT := set6Z_touch W2 w.heap.size (.int .i64 op) (.string (tx t)) (.int .i64 vk) (.int .i64 vn) (.string (tx vs)) (.slice A2 ks.length c2)
  have F1 := Lib.hid (hp.new HB.out FT (Nat.le_refl _))
  have F2 : Hid (Touch [P] w (set6Z W2 w.heap.size (.int .i64 op) (.string (tx t)) (.int .i64 vk) (.int .i64 vn) (.string (tx vs)) (.slice A2 ks.length c2))) := Lib.hid (((Touch.of_below B0.out [P]).trans ht (fun x hx => .inl hx)).trans FT (fun x hx => .inr (by simp at hx; omega)))
  have F3 := Lib.hid (hk2.moved (S' := (w.heap.size ≤ ·)) fun k hk hlt => ⟨FT.block k hlt (by have := HZ.out; simp; omega), by have := HZ.out; omega⟩)
  have F4 := Lib.hid hc2
  clear FT hk2 hc2 hp ht k2
  go_wp2_with fail
  exact bodyPost_ret (results_two rfl _ _ w.heap.size _ _ _ _ rfl FIN.out Tryz.underlying26 rfl sizeExpr _ rfl) rfl ⟨_, rfl, ⟨A2, c2, rfl, F4.out, F3.out⟩, F1.out, F2.out⟩

set_option maxHeartbeats 1000000 in
theorem negative_ok {w0 : World} {P : Nat} {A : Option Addr} {c : Nat} {L : List Lx.Tk} {i d : Nat} {T : Tree} {i' : Nat} (hL : L ≠ [])
    (HC : Rule w0 P A c L 86 #[.pointer (some ⟨P, 0, none⟩), .string ⟨#[45]⟩, .int .i64 3, .func (.func 139) #[.pointer (some ⟨P, 0, none⟩)] #[]] i d T i') : Rule w0 P A c L 127 #[.pointer (some ⟨P, 0, none⟩)] i d T i' := by
  intro w h
  have b0 : Below w.heap.size w (w.alloc (.cells (ncells 0 [] 0 0 [] none 0 0) 26)) := (Below.refl _ _).alloc (Nat.le_refl _) _
  have k0 := Whole.new w 26 (ncells 0 [] 0 0 [] none 0 0)
  have CC := Lib.hid (HC _ (h.below b0))
  have HB := Lib.hid (h.base hL)
  have hz : (w.alloc (.cells (ncells 0 [] 0 0 [] none 0 0) 26)).heap.size = w.heap.size + 1 := by simp
  unfold ncells at *
  have B0 := Lib.hid b0
  have K0 := Lib.hid k0
  have HZ := Lib.hid hz
  clear b0 k0 hz h HC hL
  go_enter Tryz.func127, Tryz.ntmps127
  go_wp2_with fail
  refine CC.out.mono ?_
  generalize w.alloc (.cells #[.int .i64 0, .string (tx []), .int .i64 0, .int .i64 0, .string (tx []), .slice none 0 0] 26) = W1 at *
  rintro e W2 ⟨u, rfl, hu, hp, ht⟩
  cases T with
  | node op t vk vn vs ks =>
  obtain ⟨A2, c2, rfl, hc2, hk2⟩ := hu
  have k2 : Whole W2 w.heap.size 26 #[.int .i64 0, .string (tx []), .int .i64 0, .int .i64 0, .string (tx []), .slice none 0 0] := (ht.block _ K0.out.lt (by have := HB.out.P; simp; omega)).trans K0.out
  obtain ⟨x0, x1, x2, x3, x4, x5⟩ := six_of k2
  obtain ⟨y0, y1, y2, y3, y4, y5⟩ := frozen6 k2
  have FIN := Lib.hid (set6Z_whole k2 (.int .i64 op) (.string (tx t)) (.int .i64 vk) (.int .i64 vn) (.string (tx vs)) (.slice A2 ks.length c2))
  have FT := set6Z_touch W2 w.heap.size (.int .i64 op) (.string (tx t)) (.int .i64 vk) (.int .i64 vn) (.string (tx vs)) (.slice A2 ks.length c2)
  have F1 := Lib.hid (hp.new HB.out FT (Nat.le_refl _))
  have F2 : Hid (Touch [P] w (set6Z W2 w.heap.size (.int .i64 op) (.string (tx t)) (.int .i64 vk) (.int .i64 vn) (.string (tx vs)) (.slice A2 ks.length c2))) := Lib.hid (((Touch.of_below B0.out [P]).trans ht (fun x hx => .inl hx)).trans FT (fun x hx => .inr (by simp at hx; omega)))
  have F3 := Lib.hid (hk2.moved (S' := (w.heap.size ≤ ·)) fun k hk hlt => ⟨FT.block k hlt (by have := HZ.out; simp; omega), by have := HZ.out; omega⟩)
  have F4 := Lib.hid hc2
  clear FT hk2 hc2 hp ht k2
  go_wp2_with fail
  exact bodyPost_ret (results_two rfl _ _ w.heap.size _ _ _ _ rfl FIN.out Tryz.underlying26 rfl sizeExpr _ rfl) rfl ⟨_, rfl, ⟨A2, c2, rfl, F4.out, F3.out⟩, F1.out, F2.out⟩
end Go.Proofs.YtbpknainmefidaaGreatDoor

/- ahead, where no sign stands. -/
namespace Go.Proofs.YtbpknainmefidaaGreatDoor
open Go.RowKit Go.Lib
set_option linter.unusedVariables false
set_option linter.unusedSimpArgs false
set_option maxRecDepth 100000
open Ex (Tree)

set_option maxHeartbeats 2000000 in
theorem ahead_no {w0 : World} {P : Nat} {A : Option Addr} {c : Nat} {L : List Lx.Tk} {i d : Nat} {T : Tree} {i' : Nat} (hL : L ≠ []) (hLn : L.length ≤ 1000000) (hi : i ≤ 1000000) (want : List UInt8) (o : Int) (N : FuncId) (hw : sgn (tk L i) ≠ want) (hN : ∀ W, Sem.run Tryz.prog (callFunc N #[.pointer (some ⟨P, 0, none⟩)]) W = .ok (.enter N #[.pointer (some ⟨P, 0, none⟩)]) W)
    (HC : Rule w0 P A c L N #[.pointer (some ⟨P, 0, none⟩)] i d T i') : Rule w0 P A c L 86 #[.pointer (some ⟨P, 0, none⟩), .string (tx want), .int .i64 o, .func (.func N) #[.pointer (some ⟨P, 0, none⟩)] #[]] i d T i' := by
  intro w h
  have b0 : Below w.heap.size w (((((w.alloc (.cells #[.pointer (some ⟨P, 0, none⟩)] 71)).alloc (.cells #[.string (tx want)] 9)).alloc (.cells #[.int .i64 o] 3)).alloc (.cells #[.func (.func N) #[.pointer (some ⟨P, 0, none⟩)] #[]] 98)).alloc (.cells (ncells 0 [] 0 0 [] none 0 0) 26)) :=
    (((((Below.refl _ _).alloc (Nat.le_refl _) _).alloc (by simp) _).alloc (by simp; omega) _).alloc (by simp; omega) _).alloc (by simp; omega) _
  have k0 := ((((Whole.new w 71 #[.pointer (some ⟨P, 0, none⟩)]).alloc (.cells #[.string (tx want)] 9)).alloc (.cells #[.int .i64 o] 3)).alloc (.cells #[.func (.func N) #[.pointer (some ⟨P, 0, none⟩)] #[]] 98)).alloc (.cells (ncells 0 [] 0 0 [] none 0 0) 26)
  have k1 := (((Whole.new (w.alloc (.cells #[.pointer (some ⟨P, 0, none⟩)] 71)) 9 #[.string (tx want)]).alloc (.cells #[.int .i64 o] 3)).alloc (.cells #[.func (.func N) #[.pointer (some ⟨P, 0, none⟩)] #[]] 98)).alloc (.cells (ncells 0 [] 0 0 [] none 0 0) 26)
  have k3 := (Whole.new (((w.alloc (.cells #[.pointer (some ⟨P, 0, none⟩)] 71)).alloc (.cells #[.string (tx want)] 9)).alloc (.cells #[.int .i64 o] 3)) 98 #[.func (.func N) #[.pointer (some ⟨P, 0, none⟩)] #[]]).alloc (.cells (ncells 0 [] 0 0 [] none 0 0) 26)
  have k4 := Whole.new ((((w.alloc (.cells #[.pointer (some ⟨P, 0, none⟩)] 71)).alloc (.cells #[.string (tx want)] 9)).alloc (.cells #[.int .i64 o] 3)).alloc (.cells #[.func (.func N) #[.pointer (some ⟨P, 0, none⟩)] #[]] 98)) 26 (ncells 0 [] 0 0 [] none 0 0)
  simp only [World.size_alloc] at k1 k3 k4
  have h1 := h.below b0
  have hz : (((((w.alloc (.cells #[.pointer (some ⟨P, 0, none⟩)] 71)).alloc (.cells #[.string (tx want)] 9)).alloc (.cells #[.int .i64 o] 3)).alloc (.cells #[.func (.func N) #[.pointer (some ⟨P, 0, none⟩)] #[]] 98)).alloc (.cells (ncells 0 [] 0 0 [] none 0 0) 26)).heap.size = w.heap.size + 5 := by simp
  have HB := Lib.hid (h.base hL)
  unfold ncells at *
  go_enter Tryz.func86, Tryz.ntmps86
  go_wp2_with fail
  generalize ((((w.alloc (.cells #[.pointer (some ⟨P, 0, none⟩)] 71)).alloc (.cells #[.string (tx want)] 9)).alloc (.cells #[.int .i64 o] 3)).alloc (.cells #[.func (.func N) #[.pointer (some ⟨P, 0, none⟩)] #[]] 98)).alloc (.cells #[.int .i64 0, .string (tx []), .int .i64 0, .int .i64 0, .string (tx []), .slice none 0 0] 26) = W1 at *
  have c0 := k0.cell 0
  have c1 := k1.cell 0
  have c3 := k3.cell 0
  simp only [List.getElem?_toArray, List.getElem?_cons_zero, List.getElem?_cons_succ] at c0 c1 c3
  have B0 := Lib.hid b0
  have K0 := Lib.hid k0
  have K1 := Lib.hid k1
  have K3 := Lib.hid k3
  have K4 := Lib.hid k4
  have H1 := Lib.hid h1
  have HZ := Lib.hid hz
  have NX : Hid (∀ W, Below W1.heap.size W1 W → Calls Tryz.prog 43 #[.pointer (some ⟨P, 0, none⟩)] W fun e w' => e = .returned (tokV (tk L i)) ∧ Below W.heap.size W w') := Lib.hid (fun W hW => next_any (H1.out.below hW) hi hLn)
  have hne : ((tx (sgn (tk L i))).toList != (tx want).toList) = true := by rw [ByteArray.toList_eq, ByteArray.toList_eq]; simpa using hw
  have hne2 : (sgn (tk L i) != want) = true := by simpa using hw
  have hne3 : (sgn (tk L i) == want) = false := by simpa using hw
  generalize tk L i = t at *
  have KK : Hid (∀ w', Below W1.heap.size W1 w' → Below W1.heap.size W1 w' ∧ w'.cell? ⟨w.heap.size, 0, none⟩ = some (.pointer (some ⟨P, 0, none⟩)) ∧ w'.cell? ⟨w.heap.size + 1, 0, none⟩ = some (.string (tx want))) := Lib.hid (fun w' hw => ⟨hw, (hw.cell (p := ⟨w.heap.size, 0, none⟩) K0.out.lt).trans c0, (hw.cell (p := ⟨w.heap.size + 1, 0, none⟩) K1.out.lt).trans c1⟩)
  clear b0 k0 k1 k3 k4 h1 hz h hw hL
  go_cut [14] from 10 to 14 (fun s14 wc => s14 = .bool true ∧ Hid (Below W1.heap.size W1 wc))
  case first =>
    go_region_held3 (fun w' => Below W1.heap.size W1 w' ∧ w'.cell? ⟨w.heap.size, 0, none⟩ = some (.pointer (some ⟨P, 0, none⟩)) ∧ w'.cell? ⟨w.heap.size + 1, 0, none⟩ = some (.string (tx want))) (first | (exact KK.out _ (Below.refl _ _).drew) | (go_split_ands; exact KK.out _ (bstep (by assumption) hb3)) | (go_split_ands; exact KK.out _ (bstep (by assumption) hb2)) | go_keep)
      (first
        | (go_at_call 43; (with_reducible refine (NX.out _ ?_).mono ?_); (go_split_ands; assumption); rintro e w2 ⟨rfl, hb2⟩)
        | (go_at_call 76; (with_reducible refine (sign_any t _).mono ?_); rintro e w3 ⟨rfl, hb3⟩))
    all_goals
      go_wp2_with fail
      go_meet
      case rel => exact ⟨rfl, Lib.hid (by (go_split_ands; first | assumption | exact bstep (by assumption) hb3))⟩
  case rest =>
    obtain ⟨rfl, HB1⟩ := hcut
    obtain ⟨wd, rfl⟩ : ∃ wd, wd = wc := ⟨wc, rfl⟩
    have CC := Lib.hid (HC wd (H1.out.below HB1.out))
    have K3' := Lib.hid (K3.out.below HB1.out K3.out.lt)
    have K4' := Lib.hid (K4.out.below HB1.out K4.out.lt)
    have c3' := K3'.out.cell 0
    simp only [List.getElem?_toArray, List.getElem?_cons_zero, List.getElem?_cons_succ] at c3'
    have HZ1 : Hid (w.heap.size + 5 ≤ wd.heap.size) := Lib.hid (by have := HZ.out; have := HB1.out.size; omega)
    have B1 : Hid (Below w.heap.size w wd) := Lib.hid (B0.out.trans (HB1.out.mono B0.out.size))
    clear c0 c1 c3 hne hne2 hne3 HC
    go_wp2_with fail
    refine CC.out.mono ?_
    rintro e W2 ⟨u, rfl, hu, hp, ht⟩
    cases T with
    | node op t vk vn vs ks =>
    obtain ⟨A2, c2, rfl, hc2, hk2⟩ := hu
    have k2 : Whole W2 (w.heap.size + 1 + 1 + 1 + 1) 26 #[.int .i64 0, .string (tx []), .int .i64 0, .int .i64 0, .string (tx []), .slice none 0 0] := (ht.block _ K4'.out.lt (by have := HB.out.P; simp; omega)).trans K4'.out
    obtain ⟨x0, x1, x2, x3, x4, x5⟩ := six_of k2
    obtain ⟨y0, y1, y2, y3, y4, y5⟩ := frozen6 k2
    have FIN := Lib.hid (set6Z_whole k2 (.int .i64 op) (.string (tx t)) (.int .i64 vk) (.int .i64 vn) (.string (tx vs)) (.slice A2 ks.length c2))
    have FT := set6Z_touch W2 (w.heap.size + 1 + 1 + 1 + 1) (.int .i64 op) (.string (tx t)) (.int .i64 vk) (.int .i64 vn) (.string (tx vs)) (.slice A2 ks.length c2)
    have F1 := Lib.hid (hp.new HB.out FT (by omega))
    have F2 : Hid (Touch [P] w (set6Z W2 (w.heap.size + 1 + 1 + 1 + 1) (.int .i64 op) (.string (tx t)) (.int .i64 vk) (.int .i64 vn) (.string (tx vs)) (.slice A2 ks.length c2))) := Lib.hid (((Touch.of_below B1.out [P]).trans ht (fun x hx => .inl hx)).trans FT (fun x hx => .inr (by simp at hx; omega)))
    have F3 := Lib.hid (hk2.moved (S' := (w.heap.size ≤ ·)) fun k hk hlt => ⟨FT.block k hlt (by have := HZ1.out; simp; omega), by have := HZ1.out; omega⟩)
    have F4 := Lib.hid hc2
    clear FT hk2 hc2 hp ht k2 c3'
    go_wp2_with fail
    exact bodyPost_ret (results_two rfl _ _ (w.heap.size + 1 + 1 + 1 + 1) _ _ _ _ rfl FIN.out Tryz.underlying26 rfl sizeExpr _ rfl) rfl ⟨_, rfl, ⟨A2, c2, rfl, F4.out, F3.out⟩, F1.out, F2.out⟩
theorem callSingle (P : Nat) (W : World) : Sem.run Tryz.prog (callFunc 139 #[.pointer (some ⟨P, 0, none⟩)]) W = .ok (.enter 139 #[.pointer (some ⟨P, 0, none⟩)]) W := by kernel_rfl
end Go.Proofs.YtbpknainmefidaaGreatDoor

/- binary. -/
namespace Go.Proofs.YtbpknainmefidaaGreatDoor
open Go.RowKit Go.Lib
set_option linter.unusedVariables false
set_option linter.unusedSimpArgs false
set_option maxRecDepth 100000
open Ex (Tree)

theorem fieldTok1 (x y : Int) (s : ByteArray) (W : World) : Sem.run Tryz.prog (Instr.field 60 (.agg #[.int .i64 x, .string s, .int .i64 y]) 1) W = .ok (.string s) W := by kernel_rfl
theorem fieldTok2 (x y : Int) (s : ByteArray) (W : World) : Sem.run Tryz.prog (Instr.field 60 (.agg #[.int .i64 x, .string s, .int .i64 y]) 2) W = .ok (.int .i64 y) W := by kernel_rfl
/-- the kids of a node with two sides, in a block of their own. -/
theorem two_trees {S : Nat → Prop} {w : World} {op t vk vn vs ks A c} {op' t' vk' vn' vs' ks' A' c'} (hc : List.length ks ≤ c) (hk : TreesIn S w A 0 ks) (hc' : List.length ks' ≤ c') (hk' : TreesIn S w A' 0 ks') (hS : ∀ k, S k → k < w.heap.size) :
    TreesIn (fun k => S k ∨ k = w.heap.size) (w.alloc (.cells #[.int .i64 op, .string (tx t), .int .i64 vk, .int .i64 vn, .string (tx vs), .slice A ks.length c, .int .i64 op', .string (tx t'), .int .i64 vk', .int .i64 vn', .string (tx vs'), .slice A' ks'.length c'] 26)) (some ⟨w.heap.size, 0, none⟩) 0 [.node op t vk vn vs ks, .node op' t' vk' vn' vs' ks'] := by
  have b4 : Below w.heap.size w (w.alloc (.cells #[.int .i64 op, .string (tx t), .int .i64 vk, .int .i64 vn, .string (tx vs), .slice A ks.length c, .int .i64 op', .string (tx t'), .int .i64 vk', .int .i64 vn', .string (tx vs'), .slice A' ks'.length c'] 26)) := (Below.refl _ _).alloc (Nat.le_refl _) _
  have k4 := Whole.new w 26 #[.int .i64 op, .string (tx t), .int .i64 vk, .int .i64 vn, .string (tx vs), .slice A ks.length c, .int .i64 op', .string (tx t'), .int .i64 vk', .int .i64 vn', .string (tx vs'), .slice A' ks'.length c']
  have h : CellsT S (w.alloc (.cells #[.int .i64 op, .string (tx t), .int .i64 vk, .int .i64 vn, .string (tx vs), .slice A ks.length c, .int .i64 op', .string (tx t'), .int .i64 vk', .int .i64 vn', .string (tx vs'), .slice A' ks'.length c'] 26)) [.int .i64 op, .string (tx t), .int .i64 vk, .int .i64 vn, .string (tx vs), .slice A ks.length c, .int .i64 op', .string (tx t'), .int .i64 vk', .int .i64 vn', .string (tx vs'), .slice A' ks'.length c'] [.node op t vk vn vs ks, .node op' t' vk' vn' vs' ks'] :=
    ⟨A, c, _, rfl, hc, hk.moved fun k hk hlt => ⟨b4.block k hlt, hk⟩, A', c', [], rfl, hc', hk'.moved fun k hk hlt => ⟨b4.block k hlt, hk⟩, rfl⟩
  exact h.trees k4.lt 0 fun j u hu => by rw [Nat.zero_add, k4.cell, ← hu]; simp

set_option maxHeartbeats 2000000 in
theorem binary_ok {w0 : World} {P : Nat} {A : Option Addr} {c : Nat} {L : List Lx.Tk} {i d : Nat} {X Y : Tree} {i' : Nat} (hL : L ≠ []) (hLn : L.length ≤ 1000000) (hi : i + 1 ≤ 1000000) (N : FuncId) (hN : ∀ W, Sem.run Tryz.prog (callFunc N #[.pointer (some ⟨P, 0, none⟩)]) W = .ok (.enter N #[.pointer (some ⟨P, 0, none⟩)]) W)
    (HC : Rule w0 P A c L N #[.pointer (some ⟨P, 0, none⟩)] (i + 1) d Y i') (mk : List UInt8) (hm : (tk L i).text = mk) (S : Nat → Prop) (w : World) (h : PAt w0 w P A c L i d) (vx : Value) (hx : NodeS S w vx X) (hS : ∀ k, S k → k < w.heap.size ∧ k ≠ P) :
    Calls Tryz.prog 77 #[.pointer (some ⟨P, 0, none⟩), vx, .func (.func N) #[.pointer (some ⟨P, 0, none⟩)] #[]] w fun e w' => ∃ u, e = .returned (.tuple #[u, .bool true]) ∧ NodeS (fun k => S k ∨ w.heap.size ≤ k) w' u (.node 5 mk 0 0 [] [X, Y]) ∧ PAt w0 w' P A c L i' d ∧ Touch [P] w w' := by
  cases X with
  | node op t vk vn vs ks =>
  obtain ⟨AX, cX, rfl, hcX, hkX⟩ := hx
  have b0 : Below w.heap.size w ((w.alloc (.cells (ncells op t vk vn vs AX ks.length cX) 26)).alloc (.cells (ncells 0 [] 0 0 [] none 0 0) 26)) := ((Below.refl _ _).alloc (Nat.le_refl _) _).alloc (by simp) _
  have k0 := (Whole.new w 26 (ncells op t vk vn vs AX ks.length cX)).alloc (.cells (ncells 0 [] 0 0 [] none 0 0) 26)
  have k1 := Whole.new (w.alloc (.cells (ncells op t vk vn vs AX ks.length cX) 26)) 26 (ncells 0 [] 0 0 [] none 0 0)
  simp only [World.size_alloc] at k1
  have h1 := h.below b0
  have hz : ((w.alloc (.cells (ncells op t vk vn vs AX ks.length cX) 26)).alloc (.cells (ncells 0 [] 0 0 [] none 0 0) 26)).heap.size = w.heap.size + 2 := by simp
  have HB := Lib.hid (h.base hL)
  unfold ncells at *
  go_enter Tryz.func77, Tryz.ntmps77
  go_wp2_with fail
  generalize (w.alloc (.cells #[.int .i64 op, .string (tx t), .int .i64 vk, .int .i64 vn, .string (tx vs), .slice AX ks.length cX] 26)).alloc (.cells #[.int .i64 0, .string (tx []), .int .i64 0, .int .i64 0, .string (tx []), .slice none 0 0] 26) = W1 at *
  have NX := Lib.hid (next_any h1 (by omega) hLn)
  have B0 := Lib.hid b0
  have K0 := Lib.hid k0
  have K1 := Lib.hid k1
  have H1 := Lib.hid h1
  have HZ := Lib.hid hz
  have HX := Lib.hid hkX
  have HcX := Lib.hid hcX
  obtain ⟨tok, htok⟩ : ∃ tok, tk L i = tok := ⟨_, rfl⟩
  rw [htok] at NX hm
  obtain ⟨kd, tt, ta⟩ := tok
  have hm : tt = mk := hm
  subst hm
  have NX2 : Hid (Calls Tryz.prog 43 #[.pointer (some ⟨P, 0, none⟩)] W1 fun e w' => e = .returned (.agg #[.int .i64 (kd : Nat), .string (tx tt), .int .i64 (ta : Nat)]) ∧ Below W1.heap.size W1 w') := NX
  clear b0 k0 k1 h1 hz h hkX hcX htok NX
  refine NX2.out.mono ?_
  rintro e W2 ⟨rfl, hb2⟩
  have H2 := Lib.hid (H1.out.below hb2)
  have p2 : W2.cell? ⟨P, 1, none⟩ = some (.int .i64 (i : Nat)) := H2.out.cells.cell 1
  have pf : W2.frozen? ⟨P, 1, none⟩ = false := H2.out.cells.frozen 1
  have hi' : (i : Int) + 1 ≤ 1000000 := by omega
  have H3 := Lib.hid (H2.out.set_at (i + 1))
  have CC := Lib.hid (HC _ H3.out)
  have TT : Hid (Touch [P] W1 (W2.setCell ⟨P, 1, none⟩ (.int .i64 ((i + 1 : Nat) : Int)))) := Lib.hid ((Touch.of_below hb2 [P]).setCell (.inl (by simp)) _)
  have hcast : ((i + 1 : Nat) : Int) = (i : Int) + 1 := by omega
  obtain ⟨W3, hW3⟩ : ∃ W3, W2.setCell ⟨P, 1, none⟩ (.int .i64 ((i + 1 : Nat) : Int)) = W3 := ⟨_, rfl⟩
  rw [hW3] at H3 CC TT
  rw [hcast] at hW3
  clear hcast hb2 HC NX2
  have hF := fieldTok1 (kd : Nat) (ta : Nat) (tx tt) W2
  go_wp2_with fail
  refine CC.out.mono ?_
  rintro e W4 ⟨u, rfl, hu, hp, ht⟩
  cases Y with
  | node op' t' vk' vn' vs' ks' =>
  obtain ⟨AY, cY, rfl, hcY, hkY⟩ := hu
  have T4 := TT.out.trans ht (fun x hx => .inl hx)
  have hP := HB.out.P
  have hz1 := HZ.out
  have k04 : Whole W4 w.heap.size 26 #[.int .i64 op, .string (tx t), .int .i64 vk, .int .i64 vn, .string (tx vs), .slice AX ks.length cX] := (T4.block _ K0.out.lt (by simp; omega)).trans K0.out
  have k14 : Whole W4 (w.heap.size + 1) 26 #[.int .i64 0, .string (tx []), .int .i64 0, .int .i64 0, .string (tx []), .slice none 0 0] := (T4.block _ K1.out.lt (by simp; omega)).trans K1.out
  have b5 : Below W4.heap.size W4 (W4.alloc (.cells (ncells op' t' vk' vn' vs' AY ks'.length cY) 26)) := (Below.refl _ _).alloc (Nat.le_refl _) _
  have k5 := Whole.new W4 26 (ncells op' t' vk' vn' vs' AY ks'.length cY)
  have hz5 : (W4.alloc (.cells (ncells op' t' vk' vn' vs' AY ks'.length cY) 26)).heap.size = W4.heap.size + 1 := by simp
  unfold ncells at *
  have C04 := Lib.hid k04
  have C14 := Lib.hid k14
  have HKY := Lib.hid hkY
  have HCY := Lib.hid hcY
  have HT4 := Lib.hid T4
  have HP4 := Lib.hid hp
  clear k04 k14 hkY hcY T4 hp ht hW3 p2 pf CC hF hN
  obtain ⟨x0, x1, x2, x3, x4, x5⟩ := six_of (C04.out.below b5 C04.out.lt)
  obtain ⟨z0, z1, z2, z3, z4, z5⟩ := six_of k5
  have k16 := (C14.out.below b5 C14.out.lt).alloc (.cells #[.int .i64 op, .string (tx t), .int .i64 vk, .int .i64 vn, .string (tx vs), .slice AX ks.length cX, .int .i64 op', .string (tx t'), .int .i64 vk', .int .i64 vn', .string (tx vs'), .slice AY ks'.length cY] 26)
  obtain ⟨m0, m1, m2, m3, m4, m5⟩ := six_of k16
  obtain ⟨y0, y1, y2, y3, y4, y5⟩ := frozen6 k16
  have hsz4 := HT4.out.size
  have b6 : Below W4.heap.size W4 ((W4.alloc (.cells #[.int .i64 op', .string (tx t'), .int .i64 vk', .int .i64 vn', .string (tx vs'), .slice AY ks'.length cY] 26)).alloc (.cells #[.int .i64 op, .string (tx t), .int .i64 vk, .int .i64 vn, .string (tx vs), .slice AX ks.length cX, .int .i64 op', .string (tx t'), .int .i64 vk', .int .i64 vn', .string (tx vs'), .slice AY ks'.length cY] 26)) := b5.alloc b5.size _
  have hz6 : ((W4.alloc (.cells #[.int .i64 op', .string (tx t'), .int .i64 vk', .int .i64 vn', .string (tx vs'), .slice AY ks'.length cY] 26)).alloc (.cells #[.int .i64 op, .string (tx t), .int .i64 vk, .int .i64 vn, .string (tx vs), .slice AX ks.length cX, .int .i64 op', .string (tx t'), .int .i64 vk', .int .i64 vn', .string (tx vs'), .slice AY ks'.length cY] 26)).heap.size = W4.heap.size + 2 := by simp
  have tw := two_trees (S := fun k => (S k ∨ w.heap.size ≤ k) ∧ k < W4.heap.size ∧ k ≠ w.heap.size + 1) (w := W4.alloc (.cells #[.int .i64 op', .string (tx t'), .int .i64 vk', .int .i64 vn', .string (tx vs'), .slice AY ks'.length cY] 26)) (op := op) (t := t) (vk := vk) (vn := vn) (vs := vs) (op' := op') (t' := t') (vk' := vk') (vn' := vn') (vs' := vs')
    HcX.out (HX.out.moved fun k hk hlt => by
      have := hS k hk
      have h1 := B0.out.size
      refine ⟨(b5.block k (by omega)).trans ((HT4.out.block k (by omega) (by simp; exact this.2)).trans (B0.out.block k this.1)), .inl hk, by omega, by omega⟩)
    HCY.out (HKY.out.moved fun k hk hlt => ⟨b5.block k hlt, .inr (by have := TT.out.size; omega), hlt, by have := TT.out.size; omega⟩)
    (fun k hk => by rw [hz5]; omega)
  rw [hz5] at tw
  have FIN := Lib.hid (set6Z_whole k16 (.int .i64 5) (.string (tx tt)) (.int .i64 0) (.int .i64 0) (.string (tx [])) (.slice (some ⟨W4.heap.size + 1, 0, none⟩) 2 2))
  have FT := set6Z_touch ((W4.alloc (.cells #[.int .i64 op', .string (tx t'), .int .i64 vk', .int .i64 vn', .string (tx vs'), .slice AY ks'.length cY] 26)).alloc (.cells #[.int .i64 op, .string (tx t), .int .i64 vk, .int .i64 vn, .string (tx vs), .slice AX ks.length cX, .int .i64 op', .string (tx t'), .int .i64 vk', .int .i64 vn', .string (tx vs'), .slice AY ks'.length cY] 26)) (w.heap.size + 1) (.int .i64 5) (.string (tx tt)) (.int .i64 0) (.int .i64 0) (.string (tx [])) (.slice (some ⟨W4.heap.size + 1, 0, none⟩) 2 2)
  have F1 := Lib.hid ((HP4.out.below b6).new HB.out FT (by omega))
  have F2 : Hid (Touch [P] w (set6Z ((W4.alloc (.cells #[.int .i64 op', .string (tx t'), .int .i64 vk', .int .i64 vn', .string (tx vs'), .slice AY ks'.length cY] 26)).alloc (.cells #[.int .i64 op, .string (tx t), .int .i64 vk, .int .i64 vn, .string (tx vs), .slice AX ks.length cX, .int .i64 op', .string (tx t'), .int .i64 vk', .int .i64 vn', .string (tx vs'), .slice AY ks'.length cY] 26)) (w.heap.size + 1) (.int .i64 5) (.string (tx tt)) (.int .i64 0) (.int .i64 0) (.string (tx [])) (.slice (some ⟨W4.heap.size + 1, 0, none⟩) 2 2))) :=
    Lib.hid ((((Touch.of_below B0.out [P]).trans HT4.out (fun x hx => .inl hx)).belowTo b6).trans FT (fun x hx => .inr (by simp at hx; omega)))
  have F3 : Hid (TreesIn (fun k => S k ∨ w.heap.size ≤ k) (set6Z ((W4.alloc (.cells #[.int .i64 op', .string (tx t'), .int .i64 vk', .int .i64 vn', .string (tx vs'), .slice AY ks'.length cY] 26)).alloc (.cells #[.int .i64 op, .string (tx t), .int .i64 vk, .int .i64 vn, .string (tx vs), .slice AX ks.length cX, .int .i64 op', .string (tx t'), .int .i64 vk', .int .i64 vn', .string (tx vs'), .slice AY ks'.length cY] 26)) (w.heap.size + 1) (.int .i64 5) (.string (tx tt)) (.int .i64 0) (.int .i64 0) (.string (tx [])) (.slice (some ⟨W4.heap.size + 1, 0, none⟩) 2 2)) (some ⟨W4.heap.size + 1, 0, none⟩) 0 [.node op t vk vn vs ks, .node op' t' vk' vn' vs' ks']) :=
    Lib.hid (tw.moved fun k hk hlt => by
      rcases hk with hk | hk
      · exact ⟨FT.block k hlt (by simp; exact hk.2.2), hk.1⟩
      · exact ⟨FT.block k hlt (by simp; omega), .inr (by omega)⟩)
  clear FT tw b6 hz6 hz5 b5 k5 k16
  go_wp2_with fail
  exact bodyPost_ret (results_two rfl _ _ (w.heap.size + 1) _ _ _ _ rfl FIN.out Tryz.underlying26 rfl sizeExpr _ rfl) rfl ⟨_, rfl, ⟨_, 2, rfl, Nat.le_refl _, F3.out⟩, F1.out, F2.out⟩
end Go.Proofs.YtbpknainmefidaaGreatDoor
