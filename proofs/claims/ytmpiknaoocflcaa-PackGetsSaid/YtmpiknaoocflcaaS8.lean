/- The reference's Row; Size; Value. -/
import Derived.Test.YtmpiknaoocflcaaS7
namespace Go.Proofs.Ytmpiknaoocflcaa
open Go.RowKit

theorem vb_pos (x : Tri) : vb x ≠ [] := by
  unfold vb
  split
  · simp
  · split
    · simp
    · split <;> simp

set_option maxRecDepth 100000 in
set_option maxHeartbeats 1000000 in
theorem refRow_any (A : Option Addr) (c : Nat) (xs : List Tri) (w : World) (hV : VIn w A xs) (hx : xs.length ≤ 1000) :
    Calls Try.prog 24 #[.slice A xs.length c] w fun r w' => ∃ v, r = .returned v ∧ Row w' w.heap.size v (rowB xs) ∧ Below w.heap.size w w' := by
  have AU := Lib.hid (refUint xs.length (by omega) w)
  have hg10 : (grp xs.length).length ≤ 10 := grp_ten (by omega)
  have hpl := Lib.hid (packs_length xs (fun i hi => (hV.fits i hi).1))
  have HV := Lib.hid hV
  clear hV
  go_enter Try.func24, Try.ntmps24
  go_wp2_with fail
  refine AU.out.mono ?_
  rintro e w1 ⟨v1, rfl, hr1, hb1⟩
  have R1 := Lib.hid hr1
  have B1 := Lib.hid hb1
  clear hr1 hb1 AU
  go_wp2_with fail
  go_loopg [3, 4] (xs.length + 1) (fun j s3 s4 wr => ∃ i : Nat, i ≤ xs.length ∧ xs.length < i + j ∧ s4 = .int .i64 (i : Nat) ∧ Row wr w.heap.size s3 (grp xs.length ++ packs (xs.take i)) ∧ Below w.heap.size w wr)
  case atStart => exact ⟨0, by omega, by omega, rfl, by simpa [packs] using R1.out, B1.out⟩
  case round =>
    obtain ⟨i, hi, hj, rfl, hr, hb⟩ := hrel
    clear R1 B1
    have HR := Lib.hid hr
    have HB := Lib.hid hb
    clear hr hb
    by_cases hend : i = xs.length
    · subst hend
      have hno : ¬ (xs.length : Int) < (xs.length : Int) := by omega
      go_wp2_with fail
      go_ret
      exact ⟨_, rfl, by have := HR.out; rw [List.take_length] at this; exact this, HB.out⟩
    · have hlt : i < xs.length := by omega
      have hlt' : (i : Int) < (xs.length : Int) := by omega
      obtain ⟨b, off, hA, hbl, c0, c1, c2⟩ := (HV.out.below HB.out).cell i hlt
      subst hA
      have hlen : (grp xs.length ++ packs (xs.take i)).length ≤ 800000 := by
        have := hpl.out i hi
        rw [List.length_append]
        omega
      have hvb := vb_length xs[i] (HV.out.fits i hlt).1
      have hin := (HV.out.fits i hlt).1
      generalize hv : xs[i] = x at c0 c1 c2 hvb hin
      have AV := refValue_any x wr hin
      obtain ⟨k, n, s⟩ := x
      dsimp only at c0 c1 c2
      dsimp only [tval, Val.val] at AV
      replace AV := Lib.hid AV
      replace hv := Lib.hid hv
      clear hin
      go_wp2_with fail
      refine AV.out.mono ?_
      rintro e w2 ⟨v2, rfl, hr2, hb2⟩
      obtain ⟨R, cr, rfl, hR, hcr, hmr⟩ := hr2.shape
      obtain ⟨v4, w4, ha, ro, bo⟩ := append_ready ((Ready.of_row HR.out HB.out).below hb2) R cr _ hR (vb_pos _) (by omega)
      have HA := Lib.hid ha
      have R2 := Lib.hid ro
      have B2 := Lib.hid bo
      clear hr2 hb2 AV HR HB ha ro bo hR
      go_wp2_with (at_builtin; refine Lib.wpList_append_run _ rfl (.tmp 15) (.tmp 20) 23 23 rfl _ _ rfl rfl _ _ HA.out ?_)
      go_roundg (xs.length - i)
      case measure => omega
      case rel => exact ⟨i + 1, by omega, by omega, rfl, by rw [packs_take xs i hlt, hv.out]; simpa using R2.out, B2.out⟩

set_option maxRecDepth 100000 in
theorem size_any (A : Option Addr) (c : Nat) (xs : List Tri) (w : World) (hV : VIn w A xs) (hx : xs.length ≤ 1000) (hs : ∀ i (h : i < xs.length), xs[i].2.2.size ≤ 9000000) :
    Calls Try.prog 25 #[.slice A xs.length c] w fun r w' => r = .returned (.int .i64 ((rowB xs).length : Nat)) ∧ Below w.heap.size w w' := by
  have AR := Lib.hid (Row_any none 0 [] A c xs w (Holds.nil _ _) (Nat.le_refl _) (by simp) hV hx hs)
  clear hV hs
  go_enter Try.func25, Try.ntmps25
  go_wp2_with fail
  refine AR.out.mono ?_
  rintro e w2 ⟨v2, rfl, hr2, hb2⟩
  rw [List.nil_append] at hr2
  obtain ⟨R, cr, rfl, hR, hcr, hmr⟩ := hr2.shape
  have B2 := Lib.hid hb2
  clear hr2 hb2 AR hR
  go_wp2_with fail
  go_ret
  exact ⟨rfl, B2.out⟩

set_option maxRecDepth 100000 in
set_option maxHeartbeats 1000000 in
theorem Value_any (x : Tri) (w : World) (hn : InRange x.2.1) (hs : x.2.2.size ≤ 9000000) :
    Calls Try.prog 19 #[.slice none 0 0, tval x] w fun r w' => ∃ v, r = .returned v ∧ Row w' w.heap.size v (vb (norm x)) ∧ Below w.heap.size w w' := by
  obtain ⟨k, n, s⟩ := x
  show Calls Try.prog 19 #[.slice none 0 0, Val.val k n s] w _
  have bal : Below w.heap.size w (w.alloc (.cells #[.int .i64 k, .int .i64 n, .string s] 42)) := (Below.refl _ _).alloc (Nat.le_refl _) _
  have HW : Whole (w.alloc (.cells #[.int .i64 k, .int .i64 n, .string s] 42)) w.heap.size 42 #[.int .i64 k, .int .i64 n, .string s] := Whole.new _ _ _
  generalize hW' : w.alloc (.cells #[.int .i64 k, .int .i64 n, .string s] 42) = W' at *
  have a0 := HW.cell 0
  have a1 := HW.cell 1
  have a2 := HW.cell 2
  simp only [List.getElem?_toArray, List.getElem?_cons_zero, List.getElem?_cons_succ] at a0 a1 a2
  have RD : Ready w W' (.slice none 0 0) [] := ⟨bal, .inl (Row.nil _ _)⟩
  have AV := fun (W : World) (hW : Below W'.heap.size W' W) => addValue_any (w0 := w) (k, n, s) (RD.below hW) (by simp) hn hs
  dsimp only [tval, Val.val] at AV
  replace AV := Lib.hid AV
  clear RD bal HW
  go_enter Try.func19, Try.ntmps19
  go_wp2_with fail
  try simp only [hW']
  clear hW'
  go_region_with (first
    | (go_at_call 34; (with_reducible refine (clip_any none 0 0 _ (Nat.le_refl _)).mono ?_); rintro r w5 ⟨rfl, rfl⟩)
    | (go_at_call 44; (with_reducible refine (AV.out _ ((Below.refl _ _).drew)).mono ?_); rintro r w6 ⟨v6, rfl, hr6, hb6⟩))
  all_goals
    go_wp2_with fail
    go_ret
    rw [List.nil_append] at hr6
    exact ⟨_, rfl, hr6, hb6⟩
end Go.Proofs.Ytmpiknaoocflcaa
