import Derived.Test.YteghhmomhlnccaaGreatDoorZF

/- eval: a kid that lies in memory and comesTo of it. -/
namespace Go.Proofs.YteghhmomhlnccaaGreatDoor
open Go.RowKit Go.Lib
set_option linter.unusedVariables false
set_option linter.unusedSimpArgs false
set_option maxRecDepth 100000
open Ex (Tree)
open Ev (V R Pl)
variable {C : List Col} {Ac : Option Addr} {cc : Nat} {W : List V} {Ar : Option Addr} {cr : Nat} {w0 : World}
theorem kid_call {ks : List Tree} {i : Nat} (hi : i < ks.length) (hX : CT C Ac cc W Ar cr w0 ks[i]) {A : Option Addr} {w1 : World} (hb : Below w0.heap.size w0 w1) (hk : TreesAt w1 A 0 ks) :
    ∃ kb ko o1 t1 k1 n1 s1 m1 B1 c1, A = some ⟨kb, ko, none⟩ ∧ kb < w1.heap.size ∧
      (∀ U, Below w1.heap.size w1 U → (U.cell? ⟨kb, ko + i * 6, none⟩ = some (.int .i64 o1) ∧ U.cell? ⟨kb, ko + i * 6 + 1, none⟩ = some (.string (tx t1)) ∧ U.cell? ⟨kb, ko + i * 6 + 2, none⟩ = some (.int .i64 k1) ∧ U.cell? ⟨kb, ko + i * 6 + 3, none⟩ = some (.int .i64 n1) ∧ U.cell? ⟨kb, ko + i * 6 + 4, none⟩ = some (.string (tx s1)) ∧ U.cell? ⟨kb, ko + i * 6 + 5, none⟩ = some (.slice B1 m1 c1))) ∧
      (∀ U, Below w1.heap.size w1 U → NodeV U (.agg (ncells o1 t1 k1 n1 s1 B1 m1 c1)) ks[i]) ∧
      (∀ U, Below w1.heap.size w1 U → Calls Tryz.prog 27 #[ovV C Ac cc W Ar cr, .agg (ncells o1 t1 k1 n1 s1 B1 m1 c1)] U fun e w' => e = .returned (outR (Ev.ev C W ks[i])) ∧ Below U.heap.size U w') := by
  obtain ⟨kb, ko, e, hk1⟩ := hk.get i hi
  obtain ⟨op, t, vk, vn, vs, l, he⟩ : ∃ op t vk vn vs l, ks[i] = .node op t vk vn vs l := by
    cases hh : ks[i] with
    | node op t vk vn vs l => exact ⟨op, t, vk, vn, vs, l, rfl⟩
  rw [he] at hk1
  obtain ⟨h0, h1, h2, h3, h4, h5, B, n, h6, h7, h8⟩ := hk1.node
  have nv : ∀ U, Below w1.heap.size w1 U → NodeV U (.agg (ncells op t vk vn vs B l.length n)) ks[i] := fun U hU => by rw [he]; exact ⟨B, n, rfl, h7, h8.below hU⟩
  exact ⟨kb, ko, op, t, vk, vn, vs, l.length, B, n, e, h0, fun W hW => ⟨(hW.cell (p := ⟨kb, ko + i * 6, none⟩) h0).trans h1, (hW.cell (p := ⟨kb, ko + i * 6 + 1, none⟩) h0).trans h2, (hW.cell (p := ⟨kb, ko + i * 6 + 2, none⟩) h0).trans h3, (hW.cell (p := ⟨kb, ko + i * 6 + 3, none⟩) h0).trans h4, (hW.cell (p := ⟨kb, ko + i * 6 + 4, none⟩) h0).trans h5, (hW.cell (p := ⟨kb, ko + i * 6 + 5, none⟩) h0).trans h6⟩, nv, fun U hU => hX _ _ (bstep hb hU) (nv U hU)⟩
/-- worlds behind one in which a row over columns has been boxed first. -/
def OvS (w W : World) (cs : Array Value) : Prop := Below w.heap.size w W ∧ Whole W w.heap.size 60 cs
theorem OvS.drew {w W : World} {cs : Array Value} (h : OvS w W cs) : OvS w W.drew cs := ⟨h.1.drew, h.2⟩
theorem OvS.alloc {w W : World} {cs : Array Value} (h : OvS w W cs) (o : Obj) : OvS w (W.alloc o) cs := ⟨h.1.alloc h.1.size o, Whole.alloc h.2 o⟩
theorem OvS.call {w W W' : World} {cs : Array Value} (h : OvS w W cs) (hb : Below W.heap.size W W') : OvS w W' cs := ⟨bstep h.1 hb, h.2.below hb h.2.lt⟩
theorem OvS.set3 {w W : World} {cs : Array Value} (h : OvS w W cs) {g : Nat} (hg : w.heap.size + 1 ≤ g) (a b c : Value) : OvS w (((W.setCell ⟨g, 0, none⟩ a).setCell ⟨g, 1, none⟩ b).setCell ⟨g, 2, none⟩ c) cs :=
  ⟨((h.1.setCell (p := ⟨g, 0, none⟩) (by show _ ≤ g; omega) a).setCell (p := ⟨g, 1, none⟩) (by show _ ≤ g; omega) b).setCell (p := ⟨g, 2, none⟩) (by show _ ≤ g; omega) c,
   ((((Below.refl (w.heap.size + 1) W).setCell (p := ⟨g, 0, none⟩) hg a).setCell (p := ⟨g, 1, none⟩) hg b).setCell (p := ⟨g, 2, none⟩) hg c).block w.heap.size (Nat.lt_succ_self _) |>.trans h.2⟩
/-- likewise, and the result's block next to it. -/
def OvR (w W : World) (cs : Array Value) : Prop := OvS w W cs ∧ Row3 W (w.heap.size + 1) 0 0 ⟨#[]⟩
theorem OvR.drew {w W : World} {cs : Array Value} (h : OvR w W cs) : OvR w W.drew cs := ⟨h.1.drew, h.2⟩
theorem OvR.alloc {w W : World} {cs : Array Value} (h : OvR w W cs) (o : Obj) : OvR w (W.alloc o) cs := ⟨h.1.alloc o, h.2.alloc o⟩
theorem OvR.call {w W W' : World} {cs : Array Value} (h : OvR w W cs) (hb : Below W.heap.size W W') : OvR w W' cs := ⟨h.1.call hb, h.2.below hb h.2.lt⟩
theorem OvR.set3 {w W : World} {cs : Array Value} (h : OvR w W cs) {g : Nat} (hg : w.heap.size + 2 ≤ g) (a b c : Value) : OvR w (((W.setCell ⟨g, 0, none⟩ a).setCell ⟨g, 1, none⟩ b).setCell ⟨g, 2, none⟩ c) cs :=
  ⟨h.1.set3 (by omega) a b c, ((((Below.refl (w.heap.size + 2) W).setCell (p := ⟨g, 0, none⟩) hg a).setCell (p := ⟨g, 1, none⟩) hg b).setCell (p := ⟨g, 2, none⟩) hg c).block (w.heap.size + 1) (Nat.lt_succ_self _) |>.trans h.2⟩
theorem OvS.cells {w W : World} {a b : Value} (h : OvS w W #[a, b]) : W.cell? ⟨w.heap.size, 0, none⟩ = some a ∧ W.cell? ⟨w.heap.size, 1, none⟩ = some b := ⟨by rw [h.2.cell]; rfl, by rw [h.2.cell]; rfl⟩
/-- a value and an error are told that lie there. -/
theorem fin_R2 {fn : Func} {p u : Tmp} (h : fn.results = #[.cell p 23, .tmp u]) {a : Act} {w W : World} {g : Nat} {k n : Int} {s : ByteArray} {e : Int} (hp : a.tmps.getD p undef = .pointer (some ⟨g, 0, none⟩)) (hu : a.tmps.getD u undef = .int .i64 e) (hd : a.defers = []) (hr : Row3 W g k n s) (hb : Below w.heap.size w W) {r : R} (hR : outR r = .tuple #[val k n s, .int .i64 e]) :
    bodyPost Tryz.prog fn (fun e w' => e = .returned (outR r) ∧ Below w.heap.size w w') .ret a W :=
  bodyPost_ret (results_two h _ _ g _ _ _ _ hp hr Tryz.underlying23 rfl sizeVal _ hu) hd ⟨by rw [hR], hb⟩
end Go.Proofs.YteghhmomhlnccaaGreatDoor

/- eval: isNull (gen_ki.py). -/
namespace Go.Proofs.YteghhmomhlnccaaGreatDoor
open Go.RowKit Go.Lib
set_option linter.unusedVariables false
set_option linter.unusedSimpArgs false
set_option maxRecDepth 100000
attribute [local go_sem ↓] eqVal neqVal
open Ex (Tree)
open Ev (V R Pl)
variable {C : List Col} {Ac : Option Addr} {cc : Nat} {W : List V} {Ar : Option Addr} {cr : Nat} {w0 : World}
def Ev.isnR (r : R) : R := if r.e = 0 then Ev.ok (Ev.tru (decide (r.v.k = 0))) else Ev.err r.e
set_option maxHeartbeats 2000000 in
theorem isNull_of {X : Tree} (hX : CT C Ac cc W Ar cr w0 X) (hp : Pl (Ev.ev C W X).v) (v : Value) (w : World) (hb : Below w0.heap.size w0 w) (hv : NodeV w v X) :
    Calls Tryz.prog 55 #[ovV C Ac cc W Ar cr, v] w fun e w' => e = .returned (outR (Ev.isnR (Ev.ev C W X))) ∧ Below w.heap.size w w' := by
  cases X with
  | node op t vk vn vs ks =>
  obtain ⟨A, c, rfl, hcc, hk⟩ := hv
  have b0 := (Below.refl w.heap.size w).alloc (Nat.le_refl _) (.cells #[.slice Ac C.length cc, .slice Ar W.length cr] 60)
  have b1 := b0.alloc (by simp) (.cells (ncells op t vk vn vs A ks.length c) 26)
  have b2 := b1.alloc (by simp; omega) (.cells #[.int .i64 0, .int .i64 0, .string ⟨#[]⟩] 23)
  have k0 := ((Whole.new w 60 #[.slice Ac C.length cc, .slice Ar W.length cr]).alloc (.cells (ncells op t vk vn vs A ks.length c) 26)).alloc (.cells #[.int .i64 0, .int .i64 0, .string ⟨#[]⟩] 23)
  have k1 := (Whole.new (w.alloc (.cells #[.slice Ac C.length cc, .slice Ar W.length cr] 60)) 26 (ncells op t vk vn vs A ks.length c)).alloc (.cells #[.int .i64 0, .int .i64 0, .string ⟨#[]⟩] 23)
  have r0 := Row3.new ((w.alloc (.cells #[.slice Ac C.length cc, .slice Ar W.length cr] 60)).alloc (.cells (ncells op t vk vn vs A ks.length c) 26)) 0 0 ⟨#[]⟩
  simp only [World.size_alloc] at k1 r0
  have HC := Lib.hid (hX _ _ (bstep hb b2) ⟨A, c, rfl, hcc, hk.below b2⟩)
  have HP := Lib.hid hp
  obtain ⟨r, hr⟩ : ∃ r, Ev.ev C W (.node op t vk vn vs ks) = r := ⟨_, rfl⟩
  rw [hr] at HC HP ⊢
  clear hr hX hp hb hk hcc b0 b1
  unfold ovV ncells at *
  generalize ks.length = kn at *
  generalize C.length = cn at *
  generalize W.length = wn at *
  have B2 := Lib.hid b2
  have R0 := Lib.hid r0
  have x0 := k0.cell 0
  have x1 := k0.cell 1
  simp only [List.getElem?_toArray, List.getElem?_cons_zero, List.getElem?_cons_succ] at x0 x1
  obtain ⟨c0, c1, c2, c3, c4, c5⟩ := six_of k1
  clear b2 r0 k0 k1
  go_enter Tryz.func55, Tryz.ntmps55
  go_wp2_with fail
  refine HC.out.mono ?_
  rintro e w2 ⟨rfl, hb2⟩
  obtain ⟨⟨rk, rn, rs⟩, re_⟩ := r
  unfold outR vv vcells at *
  dsimp only at *
  have R2 := R0.out.below hb2 R0.out.lt
  have R3 := Lib.hid (R2.alloc (.cells #[.int .i64 rk, .int .i64 rn, .string (tx rs)] 23))
  have q0 := Row3.new w2 rk rn (tx rs)
  have hbb := bstep B2.out hb2
  have B3 := Lib.hid (hbb.alloc hbb.size (.cells #[.int .i64 rk, .int .i64 rn, .string (tx rs)] 23))
  clear c0 c1 c2 c3 c4 c5 x0 x1 R2 hbb R0 B2 HC hb2
  obtain ⟨q1, q2, q3⟩ := q0.holds
  have Q0 := Lib.hid q0
  clear q0
  by_cases h : re_ = 0
  · have h' : (re_ != 0) = false := by simpa using h
    have HR : Hid (Ev.isnR ⟨⟨rk, rn, rs⟩, re_⟩ = Ev.ok (Ev.tru (same rk rn (tx rs) 0 0 ⟨#[]⟩))) := Lib.hid (by rw [Ev.isnR, if_pos h, same_z HP.out])
    clear h
    obtain ⟨W3, hW3⟩ : ∃ W3, w2.alloc (.cells #[.int .i64 rk, .int .i64 rn, .string (tx rs)] 23) = W3 := ⟨_, rfl⟩
    rw [hW3] at R3 B3 Q0 q1 q2 q3
    have NU := Lib.hid (fun U (hU : Below W3.heap.size W3 U) => call_over hU (null_any U))
    have BO := Lib.hid (fun b U (hU : Below W3.heap.size W3 U) => (bool_any b U).mono (fun e w' h => (⟨h.1, bstep hU h.2⟩ : e = .returned (val 3 (bit b) ⟨#[]⟩) ∧ Below W3.heap.size W3 w')))
    have QQ : Hid (∀ U, Below W3.heap.size W3 U → Holds3 U w2.heap.size rk rn (tx rs)) := Lib.hid (fun U hU => (Q0.out.below hU Q0.out.lt).holds)
    go_upto_region 4 with fail
    go_region_with (first
      | (go_at_call 26; refine (NU.out _ (by first | exact below_drewN (Below.refl _ _) _ | exact (Below.refl _ _).drew | exact Below.refl _ _)).mono ?_; rintro e W4 ⟨rfl, hb4⟩; obtain ⟨z0, z1, z2⟩ := QQ.out W4 hb4)
      | (go_at_call 29; refine (BO.out _ _ (by first | exact hb4 | exact hb4.drew | exact below_drewN hb4 _)).mono ?_; rintro e W5 ⟨rfl, hb5⟩; have R5 := Lib.hid (R3.out.below hb5 R3.out.lt); obtain ⟨d1, d2, d3⟩ := R5.out.holds; have f0 := R5.out.frozen 0; have f1 := R5.out.frozen 1; have f2 := R5.out.frozen 2; have B5 := Lib.hid (B3.out.trans (hb5.mono B3.out.size))))
    all_goals
      go_wp2_with fail
      exact fin_R Tryz.results55 rfl rfl rfl R5.out B5.out (by omega) (by rw [HR.out, ← bit_tru]; rfl)
  · have h' : (re_ != 0) = true := by simpa using h
    have HR : Hid (Ev.isnR ⟨⟨rk, rn, rs⟩, re_⟩ = Ev.err re_) := Lib.hid (by rw [Ev.isnR, if_neg h])
    clear h
    go_wp2_with fail
    refine (efail_any _ _).mono ?_
    rintro e w4 ⟨rfl, hb4⟩
    have R4 := Lib.hid (R3.out.below hb4 R3.out.lt)
    have B4 := Lib.hid (bstep B3.out hb4)
    clear hb4
    obtain ⟨d1, d2, d3⟩ := R4.out.holds
    have f0 := R4.out.frozen 0
    have f1 := R4.out.frozen 1
    have f2 := R4.out.frozen 2
    unfold outR vv vcells Ev.err Ev.z
    go_wp2_with fail
    exact fin_R Tryz.results55 rfl rfl rfl R4.out B4.out (by omega) (by rw [HR.out]; rfl)
end Go.Proofs.YteghhmomhlnccaaGreatDoor
