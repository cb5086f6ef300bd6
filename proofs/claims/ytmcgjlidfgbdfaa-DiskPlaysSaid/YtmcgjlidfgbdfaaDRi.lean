/- does walked. -/
import Derived.Test.YtmcgjlidfgbdfaaDRh
import Derived.Deep.RegionHeld3
namespace Go.Proofs.Ytmcgjlidfgbdfaa
open Go.RowKit

section
variable {w0 w : World} {p q : Nat} {F : List Nat} {m : Mod} {r : Rf}
theorem Both.boxed (h : Both w0 w p q F m r) (x : ActG) : Both w0 (w.alloc (.cells (actC x) 33)) p q F m r := h.below ((Below.refl _ _).alloc (Nat.le_refl _) _)
set_option maxRecDepth 100000 in
set_option maxHeartbeats 4000000 in
theorem does_flush (h : Both w0 w p q F m r) (ho : Okay m) (x : ActG) (hk : x.k = 2) :
    Calls Try.prog 11 #[.pointer (some ⟨p, 0, none⟩), .pointer (some ⟨q, 0, none⟩), actV x] w fun e w' => e = .returned (.bool true) ∧ ∃ F' r', Both w0 w' p q F' (stepM m x) r' := by
  have e0 : stepM m x = m.flush := by unfold stepM; rw [if_neg (by omega), if_pos hk]
  rw [e0]
  have h2 := h.boxed x
  have C := Lib.hid (h2.two (h2.d.flush ho.low) (fun w' _ hr _ => (h.q ▸ rflush_any hr h.same ho)))
  obtain ⟨k, i, A, c, b, pp⟩ := x
  simp only at hk
  subst hk
  unfold actV
  unfold actC at C
  simp only at C
  clear h e0 h2
  go_enter Try.func11, Try.ntmps11
  go_wp2_with fail
  refine C.out.mono ?_
  rintro e w1 ⟨rfl, -, D⟩
  go_wp2_with fail
  refine D.out.mono ?_
  rintro e w2 ⟨rfl, -, -, E⟩
  go_wp2_with fail
  go_ret
  exact ⟨by simp, E.out⟩
theorem does_crash (h : Both w0 w p q F m r) (ho : Okay m) (x : ActG) (hk : x.k = 4) (hp : x.p < 18446744073709551616) :
    Calls Try.prog 11 #[.pointer (some ⟨p, 0, none⟩), .pointer (some ⟨q, 0, none⟩), actV x] w fun e w' => e = .returned (.bool true) ∧ ∃ F' r', Both w0 w' p q F' (stepM m x) r' := by
  have e0 : stepM m x = m.crash x.p := by unfold stepM; rw [if_neg (by omega), if_neg (by omega), if_neg (by omega), if_pos hk]
  rw [e0]
  have h2 := h.boxed x
  have C := Lib.hid (h2.two (h2.d.crash (by have := ho.waits; omega) x.p hp) (fun w' _ hr _ => (h.q ▸ rcrash_any hr h.same ho x.p hp)))
  obtain ⟨k, i, A, c, b, pp⟩ := x
  simp only at hk
  subst hk
  have bd := (Below.refl w.heap.size w).alloc (Nat.le_refl _) (.cells #[.int .i64 4, .int .i64 i, .slice A b.length c, .int .u64 (pp : Nat)] 33)
  have t : Whole (w.alloc (.cells #[.int .i64 4, .int .i64 i, .slice A b.length c, .int .u64 (pp : Nat)] 33)) w.heap.size 33 #[.int .i64 4, .int .i64 i, .slice A b.length c, .int .u64 (pp : Nat)] := Whole.new _ _ _
  have T := Lib.hid t
  unfold actV
  unfold actC at C
  simp only at C
  clear h e0 h2 t bd
  go_enter Try.func11, Try.ntmps11
  go_wp2_with fail
  refine C.out.mono ?_
  rintro e w1 ⟨⟨v, rfl⟩, s1, D⟩
  have T1 := T.out.still s1 (by decide) (by decide) (by decide)
  have c3 := Whole.cell T1 3
  simp only [List.getElem?_toArray, List.getElem?_cons_zero, List.getElem?_cons_succ] at c3
  go_wp2_with fail
  refine D.out.mono ?_
  rintro e w2 ⟨⟨v, rfl⟩, -, -, E⟩
  go_wp2_with fail
  go_ret
  exact ⟨rfl, E.out⟩
theorem does_else (h : Both w0 w p q F m r) (x : ActG) (h1 : ¬ x.k = 1) (h2 : ¬ x.k = 2) (h3 : ¬ x.k = 3) (h4 : ¬ x.k = 4) (h5 : ¬ x.k = 5) :
    Calls Try.prog 11 #[.pointer (some ⟨p, 0, none⟩), .pointer (some ⟨q, 0, none⟩), actV x] w fun e w' => e = .returned (.bool true) ∧ ∃ F' r', Both w0 w' p q F' (stepM m x) r' := by
  have e0 : stepM m x = m := by unfold stepM; rw [if_neg h1, if_neg h2, if_neg h3, if_neg h4]
  rw [e0]
  have B := Lib.hid (h.boxed x)
  obtain ⟨k, i, A, c, b, pp⟩ := x
  simp only at h1 h2 h3 h4 h5
  have g1 : ((k : Int) == 1) = false := by simpa using h1
  have g2 : ((k : Int) == 2) = false := by simpa using h2
  have g3 : ((k : Int) == 3) = false := by simpa using h3
  have g4 : ((k : Int) == 4) = false := by simpa using h4
  have g5 : ((k : Int) == 5) = false := by simpa using h5
  unfold actV
  unfold actC at B
  simp only at B
  clear h e0 h1 h2 h3 h4 h5
  go_enter Try.func11, Try.ntmps11
  go_wp2_with fail
  go_ret
  exact ⟨rfl, _, _, B.out⟩
set_option maxRecDepth 100000 in
set_option maxHeartbeats 4000000 in
theorem does_fuse (h : Both w0 w p q F m r) (x : ActG) (hk : x.k = 3) (hr : Rng x.i) :
    Calls Try.prog 11 #[.pointer (some ⟨p, 0, none⟩), .pointer (some ⟨q, 0, none⟩), actV x] w fun e w' => e = .returned (.bool true) ∧ ∃ F' r', Both w0 w' p q F' (stepM m x) r' := by
  have e0 : stepM m x = m.fuseTo x.i := by unfold stepM; rw [if_neg (by omega), if_neg (by omega), if_pos hk]
  rw [e0]
  have h2 := h.boxed x
  have hplt := h.rf.plt
  have eq := h.q
  subst eq
  obtain ⟨k, i, A, c, b, pp⟩ := x
  simp only at hk hr
  subst hk
  have t : Whole (w.alloc (.cells #[.int .i64 3, .int .i64 i, .slice A b.length c, .int .u64 (pp : Nat)] 33)) w.heap.size 33 #[.int .i64 3, .int .i64 i, .slice A b.length c, .int .u64 (pp : Nat)] := Whole.new _ _ _
  have T := Lib.hid t
  have H2 := Lib.hid h2
  have C := Lib.hid (h2.d.fuse i)
  unfold actV
  unfold actC at C H2
  simp only at C H2
  clear h e0 h2 t
  go_enter Try.func11, Try.ntmps11
  go_wp2_with fail
  refine C.out.mono ?_
  rintro e w1 ⟨⟨v, rfl⟩, hg⟩
  have s1 := hg.still H2.out.d
  obtain ⟨F', hh⟩ := H2.out.half hg
  have T1 := T.out.still s1 (by decide) (by decide) (by decide)
  have c1 := Whole.cell T1 1
  simp only [List.getElem?_toArray, List.getElem?_cons_zero, List.getElem?_cons_succ] at c1
  have d3 := Whole.cell hh.rf.top 3
  have f3 := Whole.frozen hh.rf.top 3
  simp only [rcells, List.getElem?_toArray, List.getElem?_cons_zero, List.getElem?_cons_succ] at d3
  have SF := Lib.hid (Same.fuseTo H2.out.same i)
  have HH := Lib.hid hh
  clear hg s1 hh C T T1 H2
  by_cases hi : i < 0
  · rw [if_pos hi] at SF
    go_wp2_with fail
    go_ret
    obtain ⟨t1, t2⟩ := HH.out.rf.turn (w' := (w1.setCell ⟨r.p, 3, none⟩ (.int .i64 i)).setCell ⟨r.p, 3, none⟩ (.int .i64 (-1))) (r' := { r with fuse := -1 }) ((HH.out.rf.top.set_ 3 _).set_ 3 _) (fun k hk => (heap_set_other _ _ _ _ _ hk).trans (heap_set_other _ _ _ _ _ hk)) ⟨rfl, rfl, rfl, rfl, rfl⟩
    exact ⟨rfl, _, _, HH.out.both ⟨t1, rfl, fun k hk => .inl (t2 ▸ hk), (Touch.one footR_p).setCell (.inl footR_p) _⟩ SF.out⟩
  · rw [if_neg hi] at SF
    go_wp2_with fail
    go_ret
    obtain ⟨t1, t2⟩ := HH.out.rf.turn (w' := w1.setCell ⟨r.p, 3, none⟩ (.int .i64 i)) (r' := { r with fuse := i }) (HH.out.rf.top.set_ 3 _) (fun k hk => heap_set_other _ _ _ _ _ hk) ⟨rfl, rfl, rfl, rfl, rfl⟩
    exact ⟨rfl, _, _, HH.out.both ⟨t1, rfl, fun k hk => .inl (t2 ▸ hk), Touch.one footR_p⟩ SF.out⟩
set_option maxRecDepth 100000 in
set_option maxHeartbeats 4000000 in
theorem does_write (h : Both w0 w p q F m r) (ho : Okay m) (x : ActG) (hk : x.k = 1) (hA : Holds w x.A x.b) (hf : x.b = [] ∨ Far w0 w x.A) :
    Calls Try.prog 11 #[.pointer (some ⟨p, 0, none⟩), .pointer (some ⟨q, 0, none⟩), actV x] w fun e w' => e = .returned (.bool true) ∧ ∃ F' r', Both w0 w' p q F' (stepM m x) r' := by
  have e0 : stepM m x = m.write x.i x.b := by unfold stepM; rw [if_pos hk]
  rw [e0]
  obtain ⟨k, i, A, c, b, pp⟩ := x
  simp only at hk hA hf
  subst hk
  have eq := h.q
  subst eq
  have bd := ((Below.refl w.heap.size w).alloc (Nat.le_refl _) (.cells #[.int .i64 1, .int .i64 i, .slice A b.length c, .int .u64 (pp : Nat)] 33)).drew
  have t : Whole (w.alloc (.cells #[.int .i64 1, .int .i64 i, .slice A b.length c, .int .u64 (pp : Nat)] 33)).drew w.heap.size 33 #[.int .i64 1, .int .i64 i, .slice A b.length c, .int .u64 (pp : Nat)] := Whole.new _ _ _
  have h2 := h.below bd
  have hA2 := hA.below bd
  have hoF : b = [] ∨ Off A F := hf.imp id (fun f => f.off h.d h.fd)
  have hoR : b = [] ∨ Off A (footR r) := hf.imp id (fun f => f.offR h.rf h.fr)
  generalize hW : (w.alloc (.cells #[.int .i64 1, .int .i64 i, .slice A b.length c, .int .u64 (pp : Nat)] 33)).drew = W at *
  have cells : ∀ w', Whole w' w.heap.size 33 #[.int .i64 1, .int .i64 i, .slice A b.length c, .int .u64 (pp : Nat)] → w'.cell? ⟨w.heap.size, 1, none⟩ = some (.int .i64 i) ∧ w'.cell? ⟨w.heap.size, 2, none⟩ = some (.slice A b.length c) := fun w' h => ⟨Whole.cell h 1, Whole.cell h 2⟩
  have call : Calls Try.prog 19 #[.pointer (some ⟨p, 0, none⟩), .int .i64 i, .slice A b.length c] W fun e w4 => e = .returned (.int .i64 (m.writeR i b.length)) ∧
      Hid (w4.cell? ⟨w.heap.size, 1, none⟩ = some (.int .i64 i) ∧ w4.cell? ⟨w.heap.size, 2, none⟩ = some (.slice A b.length c)) ∧
      Hid (Calls Try.prog 25 #[.pointer (some ⟨r.p, 0, none⟩), .int .i64 i, .slice A b.length c] w4 fun e w5 => e = .returned (.int .i64 (m.writeR i b.length)) ∧
        Hid (w5.cell? ⟨w.heap.size, 1, none⟩ = some (.int .i64 i) ∧ w5.cell? ⟨w.heap.size, 2, none⟩ = some (.slice A b.length c)) ∧
        Hid (∃ F' r', Both w0 w5 p r.p F' (m.write i b) r')) := by
    refine (h2.d.write ho.low i A c b hA2 hoF).mono ?_
    rintro e w4 ⟨rfl, hg⟩
    have hA4 : Holds w4 A b := by
      rcases hoF with rfl | ho4
      · intro i hi; simp at hi
      · exact hA2.touch hg.choose_spec.2.2 ho4
    have s4 := hg.still h2.d
    obtain ⟨F', hh⟩ := h2.half hg
    have t4 := t.still s4 (by decide) (by decide) (by decide)
    refine ⟨rfl, Lib.hid (cells _ t4), Lib.hid ?_⟩
    refine (rwrite_any hh.rf h.same ho i A c b hA4 hoR).mono ?_
    rintro e w5 ⟨rfl, r', hg2, hs2⟩
    refine ⟨rfl, Lib.hid (cells _ ((hg2.2.2.2.block _ t4.lt (fun hk => ?_)).trans t4)), Lib.hid ⟨F', r', hh.both hg2 hs2⟩⟩
    obtain ⟨cs', t', e', ht⟩ := hh.rf.kinds hk
    unfold Whole at t4
    rw [t4] at e'
    simp at e'
    rcases ht with rfl | rfl
    · exact absurd e'.2 (by decide)
    · exact absurd e'.2 (by decide)
  subst hW
  have S0 := Lib.hid (cells _ t)
  have C1 := Lib.hid call
  unfold actV
  simp only
  generalize m.writeR i b.length = rr at *
  clear h e0 h2 t bd hA hf hA2 hoF hoR cells call
  go_enter Try.func11, Try.ntmps11
  go_wp2_with fail
  go_region_held3 (fun W' => W'.cell? ⟨w.heap.size, 1, none⟩ = some (.int .i64 i) ∧ W'.cell? ⟨w.heap.size, 2, none⟩ = some (.slice A b.length c)) (first | exact S0.out | exact S1.out | exact S2.out)
    (first
      | (go_at_call 19; (with_reducible refine C1.out.mono ?_); rintro e w4 ⟨rfl, S1, C2⟩)
      | (go_at_call 25; (with_reducible refine C2.out.mono ?_); rintro e w5 ⟨rfl, S2, FIN⟩))
  go_wp2_with fail
  go_ret
  exact ⟨by simp, FIN.out⟩
end
end Go.Proofs.Ytmcgjlidfgbdfaa
