import Derived.Test.YtjoenmmjpmnkfaaMD2
import Derived.Test.YtjoenmmjpmnkfaaMP2
import Derived.Test.YtjoenmmjpmnkfaaMS2

/- Superblocks: plain; Fits, own, record, Next. -/
namespace Go.Proofs.Ytjoenmmjpmnkfaa
open Go.RowKit

/-- a superblock as it comes in: its epoch, its area, what is used. -/
abbrev sup (e a u : Int) : Value := .agg #[.int .u32 e, .int .i64 a, .int .i64 u]
structure Sup where
  e : Nat
  a : Nat
  u : Nat
abbrev Sup.v (s : Sup) : Value := sup (s.e : Nat) (s.a : Nat) (s.u : Nat)
structure Sup.Ok (s : Sup) : Prop where
  e : s.e ≤ 2147483648
  a : s.a ≤ 1
  u : s.u ≤ 600
def fitsB (e a u : Int) : Bool := decide (e ≤ 2147483648 ∧ 0 ≤ a ∧ a ≤ 1 ∧ 0 ≤ u ∧ u ≤ 600)
theorem fits_sup {e a u : Int} (h0 : 0 ≤ e) (h : fitsB e a u = true) : ∃ s : Sup, s.Ok ∧ e = (s.e : Nat) ∧ a = (s.a : Nat) ∧ u = (s.u : Nat) := by
  simp only [fitsB, decide_eq_true_eq] at h
  exact ⟨⟨e.toNat, a.toNat, u.toNat⟩, ⟨by simp only; omega, by simp only; omega, by simp only; omega⟩, by simp only; omega, by simp only; omega, by simp only; omega⟩
theorem Sup.Ok.fits {s : Sup} (h : s.Ok) : fitsB (s.e : Nat) (s.a : Nat) (s.u : Nat) = true := by
  have h1 := h.e; have h2 := h.a; have h3 := h.u
  simp only [fitsB, decide_eq_true_eq]
  omega

theorem ret_fits {b c : Bool} (h : b = c) : Ending.returned (.bool b) = .returned (.bool c) := by rw [h]
set_option maxRecDepth 100000 in
theorem fits_any (e a u : Int) (w : World) : Calls Try.prog 11 #[sup e a u] w fun r w' => r = .returned (.bool (fitsB e a u)) ∧ Below w.heap.size w w' := by
  go_enter Try.func11, Try.ntmps11
  go_wp2_with fail
  all_goals go_ret
  all_goals (refine ⟨ret_fits ?_, (Below.refl _ _).alloc (Nat.le_refl _) _⟩; simp only [fitsB]; first | (rw [eq_comm, decide_eq_false_iff_not]; omega) | (rw [decide_eq_decide]; omega))
set_option maxRecDepth 100000 in
theorem refFits_any (e a u : Int) (w : World) : Calls Try.prog 9 #[sup e a u] w fun r w' => r = .returned (.bool (fitsB e a u)) ∧ Below w.heap.size w w' := by
  go_enter Try.func9, Try.ntmps9
  go_wp2_with fail
  all_goals go_ret
  all_goals (refine ⟨ret_fits ?_, (Below.refl _ _).alloc (Nat.le_refl _) _⟩; simp only [fitsB]; first | (rw [eq_comm, decide_eq_false_iff_not]; omega) | (rw [decide_eq_decide]; omega))
theorem own_any (e : Nat) (a u : Int) (w : World) : Calls Try.prog 23 #[sup (e : Nat) a u] w fun r w' => r = .returned (.int .i64 ((e % 2 : Nat) : Int)) ∧ Below w.heap.size w w' := by
  go_enter Try.func23, Try.ntmps23
  go_wp2_with fail
  go_ret
  exact ⟨rfl, (Below.refl _ _).alloc (Nat.le_refl _) _⟩
/-- a superblock's record. -/
def Sup.body (s : Sup) : List UInt8 := UInt8.ofNat s.a :: grp s.u
def Sup.bytes (s : Sup) : List UInt8 := sealed s.e s.body
theorem grp_two {n : Nat} (h : n < 16384) : (grp n).length ≤ 2 := grp_length 1 n (by omega)
theorem Sup.Ok.body_len {s : Sup} (h : s.Ok) : s.body.length ≤ 3 := by
  have := h.u
  have h2 := grp_two (n := s.u) (by omega)
  simp only [Sup.body, List.length_cons]
  omega
theorem Sup.Ok.len {s : Sup} (h : s.Ok) : s.bytes.length = s.body.length + 12 ∧ s.bytes.length ≤ 15 := by
  have := h.body_len
  unfold Sup.bytes
  rw [sealed_length]
  omega
/-- a superblock in a block of its own. -/
def Sup3 (w : World) (g : Nat) (e a u : Int) (W : World) : Prop := W.cell? ⟨g, 0, none⟩ = some (.int .u32 e) ∧ W.cell? ⟨g, 1, none⟩ = some (.int .i64 a) ∧ W.cell? ⟨g, 2, none⟩ = some (.int .i64 u) ∧ g < W.heap.size ∧ Below w.heap.size w W
theorem Sup3.new (w : World) (e a u : Int) (t : TypeId) : Sup3 w w.heap.size e a u (w.alloc (.cells #[.int .u32 e, .int .i64 a, .int .i64 u] t)) := by
  have h := heap_alloc_new w (.cells #[.int .u32 e, .int .i64 a, .int .i64 u] t)
  refine ⟨?_, ?_, ?_, by simp, (Below.refl _ _).alloc (Nat.le_refl _) _⟩ <;> rw [cell_of_row _ _ _ _ _ _ h] <;> rfl
theorem Sup3.next {w W W' : World} {g : Nat} {e a u : Int} (h : Sup3 w g e a u W) (hb : Below W.heap.size W W') (hw : w.heap.size ≤ W.heap.size) : Sup3 w g e a u W' :=
  ⟨(hb.cell (p := ⟨g, 0, none⟩) h.2.2.2.1).trans h.1, (hb.cell (p := ⟨g, 1, none⟩) h.2.2.2.1).trans h.2.1, (hb.cell (p := ⟨g, 2, none⟩) h.2.2.2.1).trans h.2.2.1, Nat.lt_of_lt_of_le h.2.2.2.1 hb.size, h.2.2.2.2.trans (hb.mono hw)⟩
theorem Sup3.on {w W W' : World} {g : Nat} {e a u : Int} (h : Sup3 w g e a u W) (hb : Below W.heap.size W W') : Sup3 w g e a u W' := h.next hb h.2.2.2.2.size
theorem Sup3.alloc {w W : World} {g : Nat} {e a u : Int} (h : Sup3 w g e a u W) (o : Obj) : Sup3 w g e a u (W.alloc o) := h.on ((Below.refl _ _).alloc (Nat.le_refl _) _)
theorem Sup3.drew {w W : World} {g : Nat} {e a u : Int} (h : Sup3 w g e a u W) : Sup3 w g e a u W.drew := h.on (Below.refl _ _).drew
theorem byte_of {a : Nat} (h : a ≤ 1) : Value.int .u8 ((a : Int) % 256) = .int .u8 ((UInt8.ofNat a).toNat : Nat) := by
  have : (UInt8.ofNat a).toNat = a := byte_toNat a (by omega)
  rw [this]
  congr 1
  omega
theorem byte_holds {a : Nat} (w : World) (h : a ≤ 1) (g : Nat) (hg : g = w.heap.size) : Holds (w.alloc (.cells #[.int .u8 (a : Nat)] 5)).drew (some ⟨g, 0, none⟩) [UInt8.ofNat a] := by
  subst hg
  have hb := pk_one_byte w (UInt8.ofNat a)
  rw [byte_toNat a (by omega)] at hb
  exact hb
set_option maxRecDepth 100000 in
set_option maxHeartbeats 1000000 in
theorem record_any (s : Sup) (h : s.Ok) (w : World) : Calls Try.prog 24 #[s.v] w fun r w' => ∃ g, r = .returned (.slice (some ⟨g, 0, none⟩) s.bytes.length s.bytes.length) ∧ w.heap.size ≤ g ∧ BB w' g s.bytes ∧ Below w.heap.size w w' := by
  have h1 := h.e; have h2 := h.a; have h3 := h.u
  have hbyte := byte_of h2
  have S0 : Hid (Sup3 w w.heap.size s.e s.a s.u (w.alloc (.cells #[.int .u32 (s.e : Nat), .int .i64 (s.a : Nat), .int .i64 (s.u : Nat)] 30)).drew) := Lib.hid (Sup3.drew (Sup3.new w s.e s.a s.u _))
  have hwrap : IntKind.u8.wrap (s.a : Int) = (s.a : Int) := by simp only [IntKind.wrap_u8]; omega
  have hwrap2 : IntKind.u64.wrap (s.u : Int) = (s.u : Int) := by simp only [IntKind.wrap_u64]; omega
  have hbl := h.body_len
  have UB := Uint_any (some ⟨w.heap.size + 1, 0, none⟩) 1 s.u (by omega) [UInt8.ofNat s.a] ((w.alloc (.cells #[.int .u32 (s.e : Nat), .int .i64 (s.a : Nat), .int .i64 (s.u : Nat)] 30)).alloc (.cells #[.int .u8 (s.a : Nat)] 5)).drew (byte_holds _ h2 _ (by simp)) (by simp) (by simp)
  have SL := fun (A : Option Addr) (c : Nat) (W : World) (hh : Hid (Holds W A s.body)) => seal_any s.e (by omega) A c s.body W hh.out (by omega)
  obtain ⟨n, hn⟩ : ∃ n, n = s.body.length := ⟨_, rfl⟩
  have UB1 : Hid (Calls Try.prog 36 #[.slice (some ⟨w.heap.size + 1, 0, none⟩) 1 1, .int .u64 (s.u : Nat)] ((w.alloc (.cells #[.int .u32 (s.e : Nat), .int .i64 (s.a : Nat), .int .i64 (s.u : Nat)] 30)).alloc (.cells #[.int .u8 (s.a : Nat)] 5)).drew fun r w' => ∃ A c, r = .returned (.slice A n c) ∧ Hid (Holds w' A s.body) ∧ Below _ _ w') :=
    Lib.hid (UB.mono fun r w' ⟨v, hv, hr, hb⟩ => by
      obtain ⟨A, c, e, h1, _⟩ := hr.shape
      exact ⟨A, c, by rw [hv, e, hn]; rfl, Lib.hid h1, hb⟩)
  have e12 : s.bytes.length = n + 12 := by rw [hn]; exact h.len.1
  have SL1 : Hid (∀ (A : Option Addr) (c : Nat) (W : World) (hh : Hid (Holds W A s.body)), Calls Try.prog 35 #[.int .u32 (s.e : Nat), .slice A n c] W fun r w' => ∃ g, r = .returned (.slice (some ⟨g, 0, none⟩) s.bytes.length s.bytes.length) ∧ W.heap.size ≤ g ∧ Hid (BB w' g s.bytes) ∧ Below W.heap.size W w') :=
    Lib.hid (fun A c W hh => by
      rw [hn]
      refine (SL A c W hh).mono ?_
      rintro r w' ⟨g, rfl, k1, k2, k3⟩
      exact ⟨g, by rw [h.len.1], k1, Lib.hid k2, k3⟩)
  clear UB SL hn e12
  clear hbyte
  go_enter Try.func24, Try.ntmps24
  go_wp2_with fail
  go_region_held3 (fun W => W.cell? ⟨w.heap.size, 0, none⟩ = some (.int .u32 (s.e : Nat)) ∧ W.cell? ⟨w.heap.size, 1, none⟩ = some (.int .i64 (s.a : Nat)) ∧ W.cell? ⟨w.heap.size, 2, none⟩ = some (.int .i64 (s.u : Nat)) ∧ w.heap.size < W.heap.size ∧ Below w.heap.size w W)
    (first | exact S0.out | exact Sup3.alloc (by assumption) _ | exact Sup3.on (by assumption) hb1 | exact Sup3.on (by assumption) hb2)
    (first
      | (go_at_call 36; refine UB1.out.mono ?_; rintro r W1 ⟨A1, c1, rfl, hh1, hb1⟩)
      | (go_at_call 35; refine (SL1.out _ _ _ hh1).mono ?_; rintro r W2 ⟨g, rfl, hg, hbb, hb2⟩))
  rename_i hHeld
  have H5 := Lib.hid hHeld.2.2.2.2
  have hz : w.heap.size ≤ g := by have := hb1.size; simp at this; omega
  clear hHeld hb1 hb2
  go_wp2_with fail
  go_ret
  exact ⟨g, rfl, hz, hbb.out, H5.out⟩
end Go.Proofs.Ytjoenmmjpmnkfaa

/- Next. -/
namespace Go.Proofs.Ytjoenmmjpmnkfaa
open Go.RowKit
theorem sizeSup : (Try.prog.info? 30).map (·.size) = some 3 := by kernel_rfl
theorem results_s2 {fn : Func} {p u : Tmp} (h : fn.results = #[.cell p 30, .tmp u]) (tmps : Array Value) (w : World) (g : Nat) (cs : Array Value)
    (hp : tmps.getD p undef = .pointer (some ⟨g, 0, none⟩)) (hg : w.heap[g]? = some (.cells cs 30)) (hi : cs.size = 3) :
    (results fn tmps).run Try.prog w = .ok (.tuple #[.agg cs, tmps.getD u undef]) w := by
  have hp' : tmps[p]?.getD undef = .pointer (some ⟨g, 0, none⟩) := by simpa using hp
  have hs : (Try.prog.info? 30).map (·.size) = some cs.size := by rw [hi]; exact sizeSup
  simp [results, h, hp', asAddr, run_loadVar_row w g 30 30 cs (0, 0) _ hg Try.underlying30 rfl hs]
theorem Whole.three {W : World} {g : Nat} {t : TypeId} {a b c : Value} (h : Whole W g t #[a, b, c]) (u v x : Value) : Whole (((W.setCell ⟨g, 0, none⟩ u).setCell ⟨g, 1, none⟩ v).setCell ⟨g, 2, none⟩ x) g t #[u, v, x] := ((h.set_ 0 u).set_ 1 v).set_ 2 x
theorem below_three {B : Nat} {w0 W : World} {q : Nat} (h : Below B w0 W) (hq : B ≤ q) (u v x : Value) : Below B w0 (((W.setCell ⟨q, 0, none⟩ u).setCell ⟨q, 1, none⟩ v).setCell ⟨q, 2, none⟩ x) :=
  ((h.setCell (p := ⟨q, 0, none⟩) hq u).setCell (p := ⟨q, 1, none⟩) hq v).setCell (p := ⟨q, 2, none⟩) hq x
theorem two_new (w : World) (a b c : Value) (t : TypeId) (x y z : Value) (t' : TypeId) : Whole ((w.alloc (.cells #[a, b, c] t)).alloc (.cells #[x, y, z] t')) (w.heap.size + 1) t' #[x, y, z] := by
  have h := Whole.new (w.alloc (.cells #[a, b, c] t)) t' #[x, y, z]
  rw [World.size_alloc] at h
  exact h
set_option maxRecDepth 100000 in
set_option maxHeartbeats 1000000 in
theorem next_bad (e a u used : Int) (hf : fitsB e a u = false) (w : World) : Calls Try.prog 16 #[sup e a u, .int .i64 used] w fun r w' => r = .returned (.tuple #[sup 0 0 0, .int .i64 1]) ∧ Below w.heap.size w w' := by
  have S0 := Sup3.new w e a u 30
  have FA := fits_any e a u
  rw [hf] at FA
  have FA1 := Lib.hid FA
  clear hf FA
  go_enter Try.func16, Try.ntmps16
  go_wp2_with fail
  refine (FA1.out _).mono ?_
  rintro r w1 ⟨rfl, hb1⟩
  have T0 := two_new w (.int .u32 (e)) (.int .i64 (a)) (.int .i64 (u)) 30 (.int .u32 0) (.int .i64 0) (.int .i64 0) 30
  have T1 := T0.below hb1 (by simp)
  have t0 := T1.cell 0
  have t1 := T1.cell 1
  have t2 := T1.cell 2
  have f0 := T1.frozen 0
  have f1 := T1.frozen 1
  have f2 := T1.frozen 2
  simp only [List.getElem?_toArray, List.getElem?_cons_zero, List.getElem?_cons_succ] at t0 t1 t2
  have HT := Lib.hid T1
  clear T0 T1
  obtain ⟨c0, c1, c2, hlt, hB⟩ := (S0.alloc (.cells #[.int .u32 0, .int .i64 0, .int .i64 0] 30)).on hb1
  have HB := Lib.hid hB
  clear S0 c0 c1 c2 hb1 hB
  go_wp2_with fail
  exact bodyPost_ret (results_s2 rfl _ _ (w.heap.size + 1) #[.int .u32 0, .int .i64 0, .int .i64 0] rfl (HT.out.three _ _ _) rfl) rfl ⟨rfl, below_three HB.out (by omega) _ _ _⟩
set_option maxRecDepth 100000 in
set_option maxHeartbeats 1000000 in
theorem next_no (s : Sup) (h : s.Ok) (used : Int) (w : World) (hf : fitsB ((s.e : Int) + 1) (1 - s.a) used = false) : Calls Try.prog 16 #[s.v, .int .i64 used] w fun r w' => r = .returned (.tuple #[sup 0 0 0, .int .i64 1]) ∧ Below w.heap.size w w' := by
  have S0 := Sup3.new w s.e s.a s.u 30
  have FA := fits_any s.e s.a s.u
  rw [h.fits] at FA
  have FA1 := Lib.hid FA
  have h1 := h.e; have h2 := h.a; have h3 := h.u
  clear FA
  go_enter Try.func16, Try.ntmps16
  go_wp2_with fail
  refine (FA1.out _).mono ?_
  rintro r w1 ⟨rfl, hb1⟩
  have T0 := two_new w (.int .u32 (s.e : Nat)) (.int .i64 (s.a : Nat)) (.int .i64 (s.u : Nat)) 30 (.int .u32 0) (.int .i64 0) (.int .i64 0) 30
  have T1 := T0.below hb1 (by simp)
  have q1 : w.heap.size + 1 < w1.heap.size := T1.lt
  obtain ⟨c0, c1, c2, hlt, hB⟩ := (S0.alloc (.cells #[.int .u32 0, .int .i64 0, .int .i64 0] 30)).on hb1
  have HB := Lib.hid hB
  have HT := Lib.hid T1
  clear S0 hb1 hB T0 T1
  have FB0 := fits_any ((s.e : Int) + 1) (1 - s.a) used
  rw [hf] at FB0
  have FB := Lib.hid FB0
  clear FB0 hf
  have N0 := Whole.new w1 30 #[.int .u32 ((s.e : Int) + 1), .int .i64 (1 - (s.a : Int)), .int .i64 used]
  have b1 : Below w1.heap.size w1 (w1.alloc (.cells #[.int .u32 ((s.e : Int) + 1), .int .i64 (1 - (s.a : Int)), .int .i64 used] 30)) := (Below.refl _ _).alloc (Nat.le_refl _) _
  have B1 := Lib.hid b1
  have NW := Lib.hid N0
  clear b1 N0
  go_wp2_with fail
  refine (FB.out _).mono ?_
  rintro r w2 ⟨rfl, hb2⟩
  have n0 := NW.out.below hb2 (by simp)
  have n1 := n0.cell 0
  have n2 := n0.cell 1
  have n3 := n0.cell 2
  have HT2 := Lib.hid ((HT.out.below B1.out q1).below hb2 (by simp; omega))
  have HB2 := Lib.hid (below_next (below_next HB.out B1.out) hb2)
  have t0 := HT2.out.cell 0
  have t1 := HT2.out.cell 1
  have t2 := HT2.out.cell 2
  have f0 := HT2.out.frozen 0
  have f1 := HT2.out.frozen 1
  have f2 := HT2.out.frozen 2
  simp only [List.getElem?_toArray, List.getElem?_cons_zero, List.getElem?_cons_succ] at t0 t1 t2 n1 n2 n3
  have q2 : w.heap.size + 1 < w2.heap.size := HT2.out.lt
  clear n0 hb2 c0 c1 c2 hlt q1 h1 h2 h3 h
  go_wp2_with fail
  exact bodyPost_ret (results_s2 rfl _ _ (w.heap.size + 1) #[.int .u32 0, .int .i64 0, .int .i64 0] rfl (HT2.out.three _ _ _) rfl) rfl ⟨rfl, below_three HB2.out (by omega) _ _ _⟩
set_option maxRecDepth 100000 in
set_option maxHeartbeats 1000000 in
theorem next_yes (s : Sup) (h : s.Ok) (used : Int) (w : World) (hf : fitsB ((s.e : Int) + 1) (1 - s.a) used = true) : Calls Try.prog 16 #[s.v, .int .i64 used] w fun r w' => r = .returned (.tuple #[sup ((s.e : Int) + 1) (1 - s.a) used, .int .i64 0]) ∧ Below w.heap.size w w' := by
  have S0 := Sup3.new w s.e s.a s.u 30
  have FA := fits_any s.e s.a s.u
  rw [h.fits] at FA
  have FA1 := Lib.hid FA
  have h1 := h.e; have h2 := h.a; have h3 := h.u
  clear FA
  go_enter Try.func16, Try.ntmps16
  go_wp2_with fail
  refine (FA1.out _).mono ?_
  rintro r w1 ⟨rfl, hb1⟩
  have T0 := two_new w (.int .u32 (s.e : Nat)) (.int .i64 (s.a : Nat)) (.int .i64 (s.u : Nat)) 30 (.int .u32 0) (.int .i64 0) (.int .i64 0) 30
  have T1 := T0.below hb1 (by simp)
  have q1 : w.heap.size + 1 < w1.heap.size := T1.lt
  obtain ⟨c0, c1, c2, hlt, hB⟩ := (S0.alloc (.cells #[.int .u32 0, .int .i64 0, .int .i64 0] 30)).on hb1
  have HB := Lib.hid hB
  have HT := Lib.hid T1
  clear S0 hb1 hB T0 T1
  have FB0 := fits_any ((s.e : Int) + 1) (1 - s.a) used
  rw [hf] at FB0
  have FB := Lib.hid FB0
  clear FB0 hf
  have N0 := Whole.new w1 30 #[.int .u32 ((s.e : Int) + 1), .int .i64 (1 - (s.a : Int)), .int .i64 used]
  have b1 : Below w1.heap.size w1 (w1.alloc (.cells #[.int .u32 ((s.e : Int) + 1), .int .i64 (1 - (s.a : Int)), .int .i64 used] 30)) := (Below.refl _ _).alloc (Nat.le_refl _) _
  have B1 := Lib.hid b1
  have NW := Lib.hid N0
  clear b1 N0
  go_wp2_with fail
  refine (FB.out _).mono ?_
  rintro r w2 ⟨rfl, hb2⟩
  have n0 := NW.out.below hb2 (by simp)
  have n1 := n0.cell 0
  have n2 := n0.cell 1
  have n3 := n0.cell 2
  have HT2 := Lib.hid ((HT.out.below B1.out q1).below hb2 (by simp; omega))
  have HB2 := Lib.hid (below_next (below_next HB.out B1.out) hb2)
  have t0 := HT2.out.cell 0
  have t1 := HT2.out.cell 1
  have t2 := HT2.out.cell 2
  have f0 := HT2.out.frozen 0
  have f1 := HT2.out.frozen 1
  have f2 := HT2.out.frozen 2
  simp only [List.getElem?_toArray, List.getElem?_cons_zero, List.getElem?_cons_succ] at t0 t1 t2 n1 n2 n3
  have q2 : w.heap.size + 1 < w2.heap.size := HT2.out.lt
  clear n0 hb2 c0 c1 c2 hlt q1 h1 h2 h3 h
  go_wp2_with fail
  exact bodyPost_ret (results_s2 rfl _ _ (w.heap.size + 1) #[.int .u32 ((s.e : Int) + 1), .int .i64 (1 - (s.a : Int)), .int .i64 used] rfl (HT2.out.three _ _ _) rfl) rfl ⟨rfl, below_three HB2.out (by omega) _ _ _⟩
end Go.Proofs.Ytjoenmmjpmnkfaa

/- What a call on the disk leaves of all else (as stage 7's Ki, without its rows of strings). -/
namespace Go.Proofs.Ytjoenmmjpmnkfaa
open Go.RowKit

/-- blocks of other kinds than the disk's own stand as they stood. -/
structure Still (w w' : World) : Prop where
  size : w.heap.size ≤ w'.heap.size
  block : ∀ (k : Nat) (cs : Array Value) (t : TypeId) (z : Nat × Nat), w.heap[k]? = some (.cells cs t z) → t ≠ 53 → t ≠ 79 → t ≠ 85 → w'.heap[k]? = w.heap[k]?
theorem Still.refl (w : World) : Still w w := ⟨Nat.le_refl _, fun _ _ _ _ _ _ _ _ => rfl⟩
theorem Still.trans {a b c : World} (h : Still a b) (k : Still b c) : Still a c :=
  ⟨Nat.le_trans h.size k.size, fun x cs t z e h1 h2 h3 => (k.block x cs t z ((h.block x cs t z e h1 h2 h3).trans e) h1 h2 h3).trans (h.block x cs t z e h1 h2 h3)⟩
theorem Still.of_below {w w' : World} (h : Below w.heap.size w w') : Still w w' := ⟨h.size, fun k _ _ _ e _ _ _ => h.block k (Array.getElem?_eq_some_iff.1 e).1⟩
theorem DiskAt.kinds {w : World} {d : Dsk} (h : DiskAt w d) {k : Nat} (hk : k ∈ foot d) : ∃ cs t, w.heap[k]? = some (.cells cs t (0, 0)) ∧ (t = 53 ∨ t = 79 ∨ t = 85) := by
  rcases foot_cases hk with rfl | rfl | ⟨s, hs, e⟩
  · exact ⟨_, _, h.top, .inl rfl⟩
  · exact ⟨_, _, h.sec, .inr (.inl rfl)⟩
  · obtain ⟨cur, hc⟩ := row_kind (h.ok s hs).wrow e
    exact ⟨_, _, hc, .inr (.inr rfl)⟩
theorem IsD.not_kind {w : World} {p : Nat} {F : List Nat} {m : Mod} (h : IsD w p F m) {k : Nat} {cs : Array Value} {t : TypeId} {z : Nat × Nat} (e : w.heap[k]? = some (.cells cs t z)) (h1 : t ≠ 53) (h2 : t ≠ 79) (h3 : t ≠ 85) : k ∉ F := by
  obtain ⟨d, hd, _, _, rfl⟩ := h
  intro hk
  obtain ⟨cs', t', e', ht⟩ := hd.kinds hk
  rw [e] at e'
  simp at e'
  rcases ht with h | h | h
  · exact h1 (e'.2.1.trans h)
  · exact h2 (e'.2.1.trans h)
  · exact h3 (e'.2.1.trans h)
theorem GoesM.still {w w' : World} {p : Nat} {F : List Nat} {m m' : Mod} (hd : IsD w p F m) (hg : GoesM w w' p F m') : Still w w' := by
  obtain ⟨F', _, _, ht⟩ := hg
  exact ⟨ht.size, fun k cs t z e h1 h2 h3 => ht.block k (Array.getElem?_eq_some_iff.1 e).1 (hd.not_kind e h1 h2 h3)⟩
theorem Whole.still {w w' : World} {g : Nat} {t : TypeId} {cs : Array Value} (h : Whole w g t cs) (hs : Still w w') (h1 : t ≠ 53) (h2 : t ≠ 79) (h3 : t ≠ 85) : Whole w' g t cs := (hs.block g cs t _ h h1 h2 h3).trans h
section
variable {w0 w : World} {p : Nat} {m : Mod}
theorem OwnD.writeS (h : OwnD w0 w p m) (hl : m.Low) (i : Int) (A : Option Addr) (c : Nat) (b : List UInt8) (hA : Holds w A b) (hf : b = [] ∨ Far w0 w A) : Calls Try.prog 33 #[.pointer (some ⟨p, 0, none⟩), .int .i64 i, .slice A b.length c] w fun e w' => e = .returned (.int .i64 (m.writeR i b.length)) ∧ OwnD w0 w' p (m.write i b) ∧ Still w w' := by
  have h' := h
  obtain ⟨F, h1, h2, h3⟩ := h
  refine (h1.write hl i A c b hA (hf.imp id (fun f => f.off h1 h2))).mono ?_
  rintro e w' ⟨rfl, hg⟩
  exact ⟨rfl, h'.of_goes h2 hg, hg.still h1⟩
theorem OwnD.flushS (h : OwnD w0 w p m) (hl : m.Low) : Calls Try.prog 34 #[.pointer (some ⟨p, 0, none⟩)] w fun e w' => e = .returned (.int .i64 m.flushR) ∧ OwnD w0 w' p m.flush ∧ Still w w' := by
  have h' := h
  obtain ⟨F, h1, h2, h3⟩ := h
  refine (h1.flush hl).mono ?_
  rintro e w' ⟨rfl, hg⟩
  exact ⟨rfl, h'.of_goes h2 hg, hg.still h1⟩
theorem OwnD.crashS (h : OwnD w0 w p m) (hw : m.waits ≤ 1000000) (x : Nat) (hx : x < 18446744073709551616) : Calls Try.prog 18 #[.pointer (some ⟨p, 0, none⟩), .int .u64 (x : Nat)] w fun e w' => (∃ v, e = .returned v) ∧ OwnD w0 w' p (m.crash x) ∧ Still w w' := by
  have h' := h
  obtain ⟨F, h1, h2, h3⟩ := h
  refine (h1.crash hw x hx).mono ?_
  rintro e w' ⟨hv, hg⟩
  exact ⟨hv, h'.of_goes h2 hg, hg.still h1⟩
theorem OwnD.fuseS (h : OwnD w0 w p m) (n : Int) : Calls Try.prog 17 #[.pointer (some ⟨p, 0, none⟩), .int .i64 n] w fun e w' => (∃ v, e = .returned v) ∧ OwnD w0 w' p (m.fuseTo n) ∧ Still w w' := by
  have h' := h
  obtain ⟨F, h1, h2, h3⟩ := h
  refine (h1.fuse n).mono ?_
  rintro e w' ⟨hv, hg⟩
  exact ⟨hv, h'.of_goes h2 hg, hg.still h1⟩
/-- a store elsewhere. -/
theorem OwnD.poke (h : OwnD w0 w p m) {g : Nat} {cs : Array Value} {t : TypeId} {z : Nat × Nat} (e : w.heap[g]? = some (.cells cs t z)) (h1 : t ≠ 53) (h2 : t ≠ 79) (h3 : t ≠ 85) (h5 : t ≠ 5) (hg : w0.heap.size ≤ g) (i : Nat) (u : Value) : OwnD w0 (w.setCell ⟨g, i, none⟩ u) p m := by
  obtain ⟨F, k1, k2, k3⟩ := h
  have ht : Touch [g] w (w.setCell ⟨g, i, none⟩ u) := Touch.one (by simp)
  refine ⟨F, k1.touch ht (fun k hk hm => ?_) (fun k hb hm => ?_), k2, Touch.fresh k3 ht (by simpa using hg)⟩
  · simp at hm
    subst hm
    exact k1.not_kind e h1 h2 h3 hk
  · simp at hm
    subst hm
    obtain ⟨cs', z', e'⟩ := hb
    rw [e] at e'
    simp at e'
    exact h5 e'.2.1
end
end Go.Proofs.Ytjoenmmjpmnkfaa

/- holds, keep, Put, Format over the model of a disk. -/
namespace Go.Proofs.Ytjoenmmjpmnkfaa
open Go.RowKit
def Mod.keepR (m : Mod) (i : Int) (b : List UInt8) : Int := if m.writeR i b.length = 0 then (m.write i b).flushR else m.writeR i b.length
def Mod.keep (m : Mod) (i : Int) (b : List UInt8) : Mod := if m.writeR i b.length = 0 then (m.write i b).flush else m.write i b
section
variable {w0 w : World} {p : Nat} {m : Mod}
theorem OwnD.sectors (h : OwnD w0 w p m) : Calls Try.prog 32 #[.pointer (some ⟨p, 0, none⟩)] w fun e w' => e = .returned (.int .i64 (m.n : Nat)) ∧ w' = w := by
  obtain ⟨F, h1, _⟩ := h
  exact h1.sectors
theorem OwnD.waits (h : OwnD w0 w p m) : Calls Try.prog 15 #[.pointer (some ⟨p, 0, none⟩)] w fun e w' => e = .returned (.int .i64 (m.waits : Nat)) ∧ w' = w := by
  obtain ⟨F, h1, _⟩ := h
  exact h1.waits
set_option maxRecDepth 100000 in
theorem holds_any (h : OwnD w0 w p m) (hn : 2 ≤ m.n) : Calls Try.prog 21 #[.pointer (some ⟨p, 0, none⟩)] w fun e w' => e = .returned (.int .i64 0) ∧ w' = w := by
  have S := Lib.hid h.sectors
  have hn' : (2 : Int) ≤ (m.n : Int) := by omega
  clear h
  go_enter Try.func21, Try.ntmps21
  go_wp2_with fail
  refine S.out.mono ?_
  rintro r w1 ⟨rfl, rfl⟩
  go_wp2_with fail
  go_ret
  exact ⟨rfl, rfl⟩
set_option maxRecDepth 100000 in
theorem keep_any (h : OwnD w0 w p m) (hl : m.Low) (i : Int) (A : Option Addr) (c : Nat) (b : List UInt8) (hA : Holds w A b) (hf : b = [] ∨ Far w0 w A) (hl2 : (m.write i b).Low) :
    Calls Try.prog 22 #[.pointer (some ⟨p, 0, none⟩), .int .i64 i, .slice A b.length c] w fun e w' => e = .returned (.int .i64 (m.keepR i b)) ∧ OwnD w0 w' p (m.keep i b) ∧ Still w w' := by
  have W1 := Lib.hid (h.writeS hl i A c b hA hf)
  clear h hA hf
  unfold Mod.keepR Mod.keep
  by_cases hr : m.writeR i b.length = 0
  · rw [if_pos hr, if_pos hr]
    rw [hr] at W1
    clear hr
    generalize b.length = n at *
    go_enter Try.func22, Try.ntmps22
    go_wp2_with fail
    refine W1.out.mono ?_
    rintro r w1 ⟨rfl, o1, s1⟩
    have F1 := Lib.hid (o1.flushS hl2)
    have ST1 := Lib.hid s1
    clear o1 s1
    go_wp2_with fail
    refine F1.out.mono ?_
    rintro r w2 ⟨rfl, o2, s2⟩
    have O2 := Lib.hid (And.intro o2 (ST1.out.trans s2))
    clear o2 s2
    go_wp2_with fail
    go_ret
    exact ⟨rfl, O2.out⟩
  · rw [if_neg hr, if_neg hr]
    generalize m.writeR i b.length = q at *
    generalize b.length = n at *
    go_enter Try.func22, Try.ntmps22
    go_wp2_with fail
    refine W1.out.mono ?_
    rintro r w1 ⟨rfl, o1, s1⟩
    have O1 := Lib.hid (And.intro o1 s1)
    clear o1 s1 W1
    have hq : (q == 0) = false := by simpa using hr
    go_wp2_with fail
    go_ret
    exact ⟨rfl, O1.out⟩
theorem BB.far {g : Nat} {l : List UInt8} (w0 : World) (h : BB w g l) : Far w0 w (some ⟨g, 0, none⟩) := fun p e => by
  cases e
  exact .inr ⟨_, _, h⟩
set_option maxRecDepth 100000 in
set_option maxHeartbeats 1000000 in
theorem put_any (h : OwnD w0 w p m) (hn : 2 ≤ m.n) (hl : m.Low) (s : Sup) (hs : s.Ok) (hl2 : (m.write ((s.e % 2 : Nat) : Int) s.bytes).Low) :
    Calls Try.prog 10 #[.pointer (some ⟨p, 0, none⟩), s.v] w fun e w' => e = .returned (.int .i64 (m.keepR ((s.e % 2 : Nat) : Int) s.bytes)) ∧ OwnD w0 w' p (m.keep ((s.e % 2 : Nat) : Int) s.bytes) ∧ Still w w' := by
  have H := fun (W : World) (o : Hid (OwnD w0 W p m)) => holds_any o.out hn
  have FA := fits_any s.e s.a s.u
  rw [hs.fits] at FA
  have FA1 := Lib.hid FA
  have KP := fun (W : World) (o : Hid (OwnD w0 W p m)) (g : Nat) (hb : Hid (BB W g s.bytes)) => keep_any o.out hl ((s.e % 2 : Nat) : Int) (some ⟨g, 0, none⟩) s.bytes.length s.bytes hb.out.holds0 (.inr (hb.out.far w0)) hl2
  have KP1 := Lib.hid KP
  have RC := Lib.hid (record_any s hs)
  have OW := Lib.hid (own_any s.e s.a s.u)
  have O := Lib.hid h
  clear FA KP h hl2 hl
  go_enter Try.func10, Try.ntmps10
  go_wp2_with fail
  have O1 := Lib.hid (O.out.below ((Below.refl _ _).alloc (Nat.le_refl _) (.cells #[.int .u32 (s.e : Nat), .int .i64 (s.a : Nat), .int .i64 (s.u : Nat)] 30)))
  have S1 := Lib.hid (Sup3.new w s.e s.a s.u 30)
  refine (H _ O1).mono ?_
  rintro r w1 ⟨rfl, hw1⟩
  rw [← hw1] at O1 S1
  obtain ⟨c0, c1, c2, hlt, hB⟩ := S1.out
  clear hw1 H O hB
  go_wp2_with fail
  refine (FA1.out _).mono ?_
  rintro r w2 ⟨rfl, hb2⟩
  have O2 := Lib.hid (O1.out.below hb2)
  obtain ⟨c0, c1, c2, hlt, hB⟩ := S1.out.on hb2
  have S2 := Lib.hid (S1.out.on hb2)
  clear FA1 hb2 hB S1 O1
  go_wp2_with fail
  have O2d := Lib.hid (O2.out.below (Below.refl _ _).drew)
  have S2d := Lib.hid S2.out.drew
  have T2d := Lib.hid (Still.of_below S2d.out.2.2.2.2)
  go_region_with (first
    | (go_at_call 23; refine (OW.out _).mono ?_; rintro r w3 ⟨rfl, hb3⟩; have O3 := Lib.hid (O2d.out.below hb3); have T3 := Lib.hid (T2d.out.trans (Still.of_below hb3)); obtain ⟨d0, d1, d2, hlt3, hB3⟩ := S2d.out.on hb3; clear hb3 hB3)
    | (go_at_call 24; refine (RC.out _).mono ?_; rintro r w4 ⟨g, rfl, hg, hbb, hb4⟩; have O4 := Lib.hid (O3.out.below hb4); have T4 := Lib.hid (T3.out.trans (Still.of_below hb4)); have BB4 := Lib.hid hbb; clear hbb hb4)
    | (go_at_call 22; refine (KP1.out _ O4 _ BB4).mono ?_; rintro r w5 ⟨rfl, o5, s5⟩; have O5 := Lib.hid (And.intro o5 (T4.out.trans s5)); clear o5 s5))
  all_goals
    clear S2d O2d S2 O2 d0 d1 d2 c0 c1 c2 hlt3 hlt
    go_wp2_with fail
    go_ret
    exact ⟨by first | rfl | simp [Act.put], O5.out⟩
theorem ret_err {a b : Int} (h : a = b) : Ending.returned (.int .i64 a) = .returned (.int .i64 b) := by rw [h]
set_option maxRecDepth 100000 in
set_option maxHeartbeats 1000000 in
theorem put_bad (h : OwnD w0 w p m) (hn : 2 ≤ m.n) (e a u : Int) (hf : fitsB e a u = false) :
    Calls Try.prog 10 #[.pointer (some ⟨p, 0, none⟩), sup e a u] w fun r w' => r = .returned (.int .i64 1) ∧ OwnD w0 w' p m ∧ Below w.heap.size w w' := by
  have H := fun (W : World) (o : Hid (OwnD w0 W p m)) => holds_any o.out hn
  have FA := fits_any e a u
  rw [hf] at FA
  have FA1 := Lib.hid FA
  have O := Lib.hid h
  clear FA h hf
  go_enter Try.func10, Try.ntmps10
  go_wp2_with fail
  have O1 := Lib.hid (O.out.below ((Below.refl _ _).alloc (Nat.le_refl _) (.cells #[.int .u32 e, .int .i64 a, .int .i64 u] 30)))
  have S1 := Lib.hid (Sup3.new w e a u 30)
  refine (H _ O1).mono ?_
  rintro r w1 ⟨rfl, hw1⟩
  rw [← hw1] at O1 S1
  obtain ⟨c0, c1, c2, hlt, hB⟩ := S1.out
  clear hw1 H O hB
  go_wp2_with fail
  refine (FA1.out _).mono ?_
  rintro r w2 ⟨rfl, hb2⟩
  have O2 := Lib.hid (And.intro (O1.out.below hb2) (S1.out.on hb2).2.2.2.2)
  clear FA1 hb2 S1 O1 c0 c1 c2 hlt
  go_wp2_with fail
  go_ret
  exact ⟨rfl, O2.out⟩
end
end Go.Proofs.Ytjoenmmjpmnkfaa

/- Format. -/
namespace Go.Proofs.Ytjoenmmjpmnkfaa
open Go.RowKit
section
variable {w0 w : World} {p : Nat} {m : Mod}
def first : List UInt8 := Sup.bytes ⟨0, 0, 0⟩
set_option maxRecDepth 100000 in
set_option maxHeartbeats 1000000 in
theorem format_any (h : OwnD w0 w p m) (hn : 2 ≤ m.n) (hl : m.Low) (hl2 : (m.write 0 first).Low) (h0 : m.keepR 0 first = 0) (hl3 : (m.keep 0 first).Low) (hl4 : ((m.keep 0 first).write 1 []).Low) :
    Calls Try.prog 19 #[.pointer (some ⟨p, 0, none⟩)] w fun e w' => e = .returned (.int .i64 ((m.keep 0 first).keepR 1 [])) ∧ OwnD w0 w' p ((m.keep 0 first).keep 1 []) ∧ Still w w' := by
  have PA1 : Hid (∀ (W : World) (o : Hid (OwnD w0 W p m)), Calls Try.prog 10 #[.pointer (some ⟨p, 0, none⟩), sup 0 0 0] W fun e w' => e = .returned (.int .i64 0) ∧ OwnD w0 w' p (m.keep 0 first) ∧ Still W w') :=
    Lib.hid (fun W o => (put_any o.out hn hl ⟨0, 0, 0⟩ ⟨by decide, by decide, by decide⟩ hl2).mono fun e w' hh => ⟨hh.1.trans (congrArg (fun x => Ending.returned (.int .i64 x)) h0), hh.2⟩)
  have O := Lib.hid h
  have OW := Lib.hid (own_any 0 0 0)
  have KP1 : Hid (∀ (W : World) (o : Hid (OwnD w0 W p (m.keep 0 first))), Calls Try.prog 22 #[.pointer (some ⟨p, 0, none⟩), .int .i64 1, .slice none 0 0] W fun e w' => e = .returned (.int .i64 ((m.keep 0 first).keepR 1 [])) ∧ OwnD w0 w' p ((m.keep 0 first).keep 1 []) ∧ Still W w') :=
    Lib.hid (fun W o => (keep_any o.out hl3 1 none 0 [] (Holds.nil _ _) (.inl rfl) hl4))
  clear h hl hl2 hl3 hl4 h0
  generalize (m.keep 0 first) = m1 at *
  go_enter Try.func19, Try.ntmps19
  go_wp2_with fail
  have al : Below w.heap.size w (w.alloc (.cells #[.int .u32 0, .int .i64 0, .int .i64 0] 30)) := (Below.refl _ _).alloc (Nat.le_refl _) _
  have N0 := Whole.new w 30 #[.int .u32 0, .int .i64 0, .int .i64 0]
  refine (PA1.out _ (Lib.hid (O.out.below al))).mono ?_
  rintro r w1 ⟨rfl, o1, s1⟩
  have O1 := Lib.hid o1
  have N1 := N0.still s1 (by decide) (by decide) (by decide)
  have n0 := N1.cell 0
  have n1 := N1.cell 1
  have n2 := N1.cell 2
  simp only [List.getElem?_toArray, List.getElem?_cons_zero, List.getElem?_cons_succ] at n0 n1 n2
  have T1 := Lib.hid ((Still.of_below al).trans s1)
  clear o1 s1 al N0 N1 PA1 O
  go_wp2_with fail
  refine (OW.out _).mono ?_
  rintro r w2 ⟨rfl, hb2⟩
  have O2 := Lib.hid (O1.out.below hb2)
  have T2 := Lib.hid (T1.out.trans (Still.of_below hb2))
  clear hb2 n0 n1 n2 O1 T1
  go_wp2_with fail
  refine (KP1.out _ O2).mono ?_
  rintro r w3 ⟨rfl, o3, s3⟩
  have O3 := Lib.hid (And.intro o3 (T2.out.trans s3))
  clear o3 s3
  go_wp2_with fail
  go_ret
  exact ⟨rfl, O3.out⟩
end
end Go.Proofs.Ytjoenmmjpmnkfaa

/- epochOf, read: the superblock that stands at the front of a sector's bytes. -/
namespace Go.Proofs.Ytjoenmmjpmnkfaa
open Go.RowKit
/-- the superblock at the front of bytes. -/
def supOf (l : List UInt8) : Option Sup :=
  if openE (num4 (l.drop 8)) l = 0 then
    match openB (num4 (l.drop 8)) l with
    | [] => none
    | x :: r => match numOf r with
      | some (n, []) => if fitsB (num4 (l.drop 8) : Nat) (x.toNat : Nat) (n : Nat) = true then some ⟨num4 (l.drop 8), x.toNat, n⟩ else none
      | _ => none
  else none
theorem or_step (b acc k : Nat) (hb : b < 256) (ha : acc < 2 ^ k) (hk : k ≤ 24) : bits .or .u32 (acc : Int) ((b * 2 ^ k : Nat) : Int) = ((acc + b * 2 ^ k : Nat) : Int) := by
  have h1 : acc < 4294967296 := Nat.lt_of_lt_of_le ha (by calc 2 ^ k ≤ 2 ^ 24 := Nat.pow_le_pow_right (by omega) hk
    _ ≤ 4294967296 := by decide)
  have h2 : b * 2 ^ k < 4294967296 := by
    calc b * 2 ^ k ≤ 255 * 2 ^ k := Nat.mul_le_mul_right _ (by omega)
      _ ≤ 255 * 2 ^ 24 := Nat.mul_le_mul_left _ (Nat.pow_le_pow_right (by omega) hk)
      _ < 4294967296 := by decide
  rw [u32_or_nat acc (b * 2 ^ k) h1 h2]
  congr 1
  rw [Nat.or_comm, Nat.mul_comm, ← Nat.two_pow_add_eq_or_of_lt ha]
  omega
set_option maxRecDepth 100000 in
set_option maxHeartbeats 1000000 in
theorem epochOf_any (A : Option Addr) (c : Nat) (l : List UInt8) (w : World) (h : Holds w A l) (hl : 12 ≤ l.length) (hn : l.length ≤ 100000) :
    Calls Try.prog 44 #[.slice A l.length c] w fun e w' => e = .returned (.int .u32 (num4 (l.drop 8) : Nat)) ∧ w' = w := by
  obtain ⟨b8, o8, e8, lt8, c8⟩ := h 8 (by omega)
  obtain ⟨b9, o9, e9, lt9, c9⟩ := h 9 (by omega)
  obtain ⟨ba, oa, ea, lta, ca⟩ := h 10 (by omega)
  obtain ⟨bb, ob, eb, ltb, cb⟩ := h 11 (by omega)
  subst e8
  cases e9; cases ea; cases eb
  have x0 := l[8].toNat_lt; have x1 := l[9].toNat_lt; have x2 := l[10].toNat_lt; have x3 := l[11].toNat_lt
  have HN : Hid (num4 (l.drop 8) = l[8].toNat + 256 * l[9].toNat + 65536 * l[10].toNat + 16777216 * l[11].toNat) := by
    refine Lib.hid ?_
    simp only [num4, List.getD_eq_getElem?_getD, List.getElem?_drop]
    rw [List.getElem?_eq_getElem (by omega), List.getElem?_eq_getElem (by omega), List.getElem?_eq_getElem (by omega), List.getElem?_eq_getElem (by omega)]
    rfl
  generalize l[8].toNat = y0 at *
  generalize l[9].toNat = y1 at *
  generalize l[10].toNat = y2 at *
  generalize l[11].toNat = y3 at *
  clear h
  go_enter Try.func44, Try.ntmps44
  go_wp2_with fail
  refine wp_loop_rounds 5 ?_
  rw [rounds_succ]
  go_wp2_with fail
  rw [rounds_succ]
  go_wp2_with fail
  rw [rounds_succ]
  go_wp2_with fail
  rw [rounds_succ]
  go_wp2_with fail
  rw [rounds_succ]
  go_wp2_with fail
  go_ret
  refine ⟨ret_u32 ?_, rfl⟩
  have e0 : bits .or .u32 0 (y0 : Int) = (y0 : Int) := by
    have := or_step y0 0 0 x0 (by omega) (by omega)
    rw [Nat.pow_zero, Nat.mul_one, Nat.zero_add] at this
    exact this
  have e1 : bits .or .u32 (y0 : Int) ((y1 : Int) * 256) = ((y0 + y1 * 2 ^ 8 : Nat) : Int) := by
    rw [show ((y1 : Int) * 256) = ((y1 * 2 ^ 8 : Nat) : Int) by simp]
    exact or_step y1 y0 8 x1 (by omega) (by omega)
  have e2 : bits .or .u32 ((y0 + y1 * 2 ^ 8 : Nat) : Int) ((y2 : Int) * 65536) = ((y0 + y1 * 2 ^ 8 + y2 * 2 ^ 16 : Nat) : Int) := by
    rw [show ((y2 : Int) * 65536) = ((y2 * 2 ^ 16 : Nat) : Int) by simp]
    exact or_step y2 _ 16 x2 (by omega) (by omega)
  have e3 : bits .or .u32 ((y0 + y1 * 2 ^ 8 + y2 * 2 ^ 16 : Nat) : Int) ((y3 : Int) * 16777216) = ((y0 + y1 * 2 ^ 8 + y2 * 2 ^ 16 + y3 * 2 ^ 24 : Nat) : Int) := by
    rw [show ((y3 : Int) * 16777216) = ((y3 * 2 ^ 24 : Nat) : Int) by simp]
    exact or_step y3 _ 24 x3 (by omega) (by omega)
  rw [e0, e1, e2, e3, HN.out]
  congr 1
  omega
theorem openB_len (e : Nat) (l : List UInt8) : (openB e l).length ≤ l.length := by
  unfold openB
  split
  · simp only [List.length_take, List.length_drop]
    omega
  · simp
end Go.Proofs.Ytjoenmmjpmnkfaa
