/- Add, Commit, Room, Used. -/
import Derived.Test.YthoihlebplmcoaaJF
namespace Go.Proofs.Ythoihlebplmcoaa
open Go.RowKit
set_option linter.unusedVariables false
section
variable {w0 w w1 : World} {J : Jd} {m : Mod}
theorem JP.turn {J' : Jd} (h : JP w0 w J m) (ht : Touch [J.p] w w1) (hw : JIs w1 J') (e : J'.p = J.p ∧ J'.dp = J.dp ∧ J'.A = J.A ∧ J'.c = J.c ∧ J'.row = J.row) (ok : J'.Ok m.n m.size) : JP w0 w1 J' m ∧ ∀ a, Stay a w w1 := by
  obtain ⟨e1, e2, e3, e4, e5⟩ := e
  have hv : J'.v = J.v := by unfold Jd.v; rw [e3, e4, e5]
  refine ⟨⟨?_, hw, e1 ▸ h.new, fun k hk => h.rowNew k (hv ▸ hk), ?_, ok⟩, fun a => ⟨ht.size, fun k cs t z e h1 h2 h3 h4 h5 => ht.block k (Array.getElem?_eq_some_iff.1 e).1 fun hm => ?_⟩⟩
  · rw [e2]
    have := h.own.touch ht fun k hk => by
      have : k = J.p := by simpa using hk
      subst this
      exact ⟨h.new, .inr ⟨_, _, _, h.is, by decide, by decide, by decide, by decide⟩⟩
    rw [hv]
    exact this
  · rw [e3, e4, e5]
    exact h.row.of_heap (fun k hk => ht.block k hk.lt fun hm => by
      have : k = J.p := by simpa using hm
      subst this
      exact h.p_bytes hk) ht.size
  · have : k = J.p := by simpa using hm
    subst this
    have := h.is
    unfold JIs Whole at this
    rw [this] at e
    simp at e
    exact h4 e.2.1.symm
/-- the row with a record more. -/
def addRow (J : Jd) (b : List UInt8) : List UInt8 := J.row ++ zeros (beg J.f J.row.length - J.row.length) ++ sealed J.e b
theorem addRow_length (J : Jd) (b : List UInt8) (hf : 60 ≤ J.f) : (addRow J b).length = beg J.f J.row.length + (b.length + 12) := by
  have := beg_bounds J.f J.row.length (by omega)
  simp only [addRow, List.length_append, sealed_length, zeros, List.length_replicate]
  omega
set_option maxRecDepth 100000 in
theorem add_nil (A : Option Addr) (n c : Nat) (w : World) : Calls Try.prog 12 #[.pointer none, .slice A n c] w fun e w' => e = .returned (.int .i64 2) ∧ w' = w := by
  have T := there_nil w
  go_enter Try.func12, Try.ntmps12
  go_wp2_with fail
  refine T.mono ?_
  rintro e w1 ⟨rfl, rfl⟩
  go_wp2_with fail
  go_ret
  exact ⟨rfl, rfl⟩
set_option maxRecDepth 100000 in
/-- there is no room. -/
theorem add_full (h : JP w0 w J m) (q : Nat) (hq : ((J.tt : Int) - (J.fr : Int)) * (J.f : Int) = (q : Nat)) (hq1 : q ≤ 1000000) (A : Option Addr) (c n : Nat) (hn : n ≤ 9223372036854775795) (hfull : q < beg J.f J.row.length + (n + 12)) :
    Calls Try.prog 12 #[J.ptr, .slice A n c] w fun e w' => e = .returned (.int .i64 12) ∧ ∃ k, w' = w.drewN k := by
  have hok := h.ok
  have hbb := beg_bounds J.f J.row.length (by have := hok.f1; omega)
  have hlen := hok.len
  have T := there_any J.p J.dp w h.is.c0
  have LN := length_any (n : Int) w (by omega) (by omega)
  rw [if_neg (by omega)] at LN
  have LF := left_q J.p J.fr J.tt J.f J.row.length J.c q J.A w h.is.c1 h.is.c2 h.is.c3 h.is.c5 hok.f1 hok.f2 (by omega) (Nat.le_of_lt hok.lo) (Nat.le_trans hok.hi hok.n) hq hq1
  have hfi : (q : Int) - (beg J.f J.row.length : Nat) < (n : Int) + 12 := by omega
  replace LF := Lib.hid LF
  replace LN := Lib.hid LN
  replace T := Lib.hid T
  generalize beg J.f J.row.length = z at *
  clear h hok hq
  go_enter Try.func12, Try.ntmps12
  go_wp2_with fail
  with_reducible refine T.out.mono ?_
  rintro e w1 ⟨rfl, rfl⟩
  go_wp2_with fail
  with_reducible refine LN.out.mono ?_
  rintro e w2 ⟨rfl, rfl⟩
  go_wp2_with fail
  with_reducible refine LF.out.mono ?_
  rintro e w3 ⟨rfl, k3, rfl⟩
  go_wp2_with fail
  go_ret
  exact ⟨rfl, _, rfl⟩
theorem zeros_any {w : World} {A : Option Addr} {c : Nat} {l : List UInt8} (h : JRow w A c l) (k : Nat) (hk : k = 0 ∨ 0 < l.length) (hn : l.length + k ≤ 1000000) :
    ∃ A' c' w', Sem.run Try.prog (Builtin.append_ #[35, 3] 35 #[.slice A l.length c, .int .i64 (k : Nat)]) w = .ok (.slice A' (l.length + k) c') w' ∧ JRow w' A' c' (l ++ zeros k) ∧ Touch (ob A).toList w w' ∧ (ob A' = ob A ∨ ∃ g, ob A' = some g ∧ w.heap.size ≤ g) := by
  by_cases h0 : k = 0
  · subst h0
    exact ⟨A, c, w, zeros_none A l.length c w h.le, by simpa [zeros] using h, Touch.refl _ _, .inl rfl⟩
  · obtain ⟨A', c', w', hr, hl⟩ := zeros_J h k (by omega) (by omega) hn
    exact ⟨A', c', w', hr, hl.jrow, Touch.of_grown hl.grown, hl.block⟩
theorem beg_gap (f n : Nat) (hf : 12 ≤ f) : beg f n - n = 0 ∨ 0 < n := by
  unfold beg
  split
  · by_cases h : n = 0
    · subst h
      simp at *
      omega
    · right; omega
  · left; omega
set_option maxRecDepth 100000 in
set_option maxHeartbeats 1000000 in
/-- there is room. -/
theorem add_ok2 (h : JP w0 w J m) (q : Nat) (hq : ((J.tt : Int) - (J.fr : Int)) * (J.f : Int) = (q : Nat)) (hq1 : q ≤ 700000) (A : Option Addr) (c : Nat) (b : List UInt8) (hA : Holds w A b) (hAo : b = [] ∨ ∀ x : Addr, A = some x → ob J.A ≠ some x.block ∧ J.p ≠ x.block) (hroom : beg J.f J.row.length + (b.length + 12) ≤ q) (hb : b.length ≤ 10000) (hpend : J.pend ≤ 1000000) :
    Calls Try.prog 12 #[J.ptr, .slice A b.length c] w fun e w' => e = .returned (.int .i64 0) ∧ ∃ A' c', JP w0 w' { J with A := A', c := c', row := addRow J b, pend := J.pend + 1 } m ∧ Stay (ob J.A) w w' ∧ (ob A' = ob J.A ∨ ∃ g, ob A' = some g ∧ w.heap.size ≤ g) := by
  have hok := h.ok
  have hf1 := hok.f1
  have hf2 := hok.f2
  have hbb := beg_bounds J.f J.row.length (by omega)
  have hlen := hok.len
  have T := Lib.hid ((there_any J.p J.dp w h.is.c0).mono fun _ _ hh => And.intro hh.1 hh.2.symm)
  have LN := length_any (b.length : Int) w (by omega) (by omega)
  rw [if_neg (by omega)] at LN
  replace LN := Lib.hid LN
  have LF := Lib.hid (left_q J.p J.fr J.tt J.f J.row.length J.c q J.A w h.is.c1 h.is.c2 h.is.c3 h.is.c5 hf1 hf2 (by omega) (Nat.le_of_lt hok.lo) (Nat.le_trans hok.hi hok.n) hq (by omega))
  have hfi : ¬ ((q : Int) - (beg J.f J.row.length : Nat) < (b.length : Int) + 12) := by omega
  have BG := Lib.hid fun (W : World) (o : Hid (JP w0 W J m)) => begin_q J.p J.f J.row.length W o.out.is.c3 hf1 hf2 (by omega)
  have H := Lib.hid h
  have HA := Lib.hid hA
  clear h hA hq
  go_enter Try.func12, Try.ntmps12
  go_wp2_with fail
  with_reducible refine T.out.mono ?_
  rintro e w1 ⟨rfl, rfl⟩
  go_wp2_with fail
  with_reducible refine LN.out.mono ?_
  rintro e w2 ⟨rfl, rfl⟩
  go_wp2_with fail
  with_reducible refine LF.out.mono ?_
  rintro e w3 ⟨rfl, k3, hk3⟩
  obtain ⟨p3, s3⟩ := H.out.rd hk3
  have P3 := Lib.hid p3
  have S3 := Lib.hid s3
  have HA3 : Hid (Holds w3 A b) := Lib.hid (HA.out.below (by rw [hk3]; exact below_drewN (Below.refl _ _) _))
  have c5 := P3.out.is.c5
  clear p3 s3 hk3 H HA T LN LF
  go_wp2_with fail
  go_quiet ((go_at_call 36; exact Calls.quiet_of (BG.out _ (Lib.hid (P3.out.below (below_drewN (Below.refl _ _) _))))))
  obtain ⟨p4, s4⟩ := P3.out.rd (w' := w3.drewN nq) rfl
  have HA4 : Hid (Holds (w3.drewN nq) A b) := Lib.hid (HA3.out.below (below_drewN (Below.refl _ _) _))
  generalize w3.drewN nq = w4 at *
  have P4 := Lib.hid p4
  have S4 := Lib.hid (S3.out.trans s4)
  clear p4 s4 P3 S3 HA3 c5
  obtain ⟨k, hk⟩ : ∃ k, beg J.f J.row.length - J.row.length = k := ⟨_, rfl⟩
  have hki : ((beg J.f J.row.length : Nat) : Int) - (J.row.length : Nat) = (k : Nat) := by omega
  obtain ⟨A5, c5, w5, hr5, j5, t5, b5⟩ := zeros_any P4.out.row k (hk ▸ beg_gap _ _ (by omega)) (by omega)
  have hz : (J.row ++ zeros k).length = J.row.length + k := by simp [zeros]
  obtain ⟨g1, g2, g3, g4, g5⟩ := P4.out.grow t5 j5 b5 (by rw [hz]; omega)
  rw [hz] at g4 g5
  have HR5 := Lib.hid hr5
  have G4 := Lib.hid g4
  have G5 := Lib.hid (And.intro (b5.imp id fun ⟨g, e, hg⟩ => (⟨g, e, Nat.le_trans S4.out.size hg⟩ : ∃ g, ob A5 = some g ∧ w.heap.size ≤ g)) (Stay.trans (S4.out.stay (ob J.A)) g5 (.inl rfl)))
  have HA5 : Hid (Holds (w5.setCell ⟨J.p, 5, none⟩ (.slice A5 (J.row.length + k) c5)) A b) := Lib.hid (by
    rcases hAo with hb0 | hAo
    · subst hb0
      exact Holds.nil _ _
    · exact HA4.out.touch ((t5.mono (G := J.p :: (ob J.A).toList) (fun x hx => .inl (List.mem_cons_of_mem J.p hx))).setCell (q := ⟨J.p, 5, none⟩) (.inl List.mem_cons_self) _) fun x hx hm => by
          rcases List.mem_cons.1 hm with e | hm
          · exact (hAo x hx).2 e.symm
          · exact (hAo x hx).1 (by simpa using hm))
  have c45 := P4.out.is.c5
  rw [hki]
  clear hki hr5 j5 t5 b5 g3 g4 g5 P4 S4 HA4 BG
  go_wp2_with (at_builtin; refine Lib.wpList_append_run _ rfl _ _ 35 3 rfl _ _ rfl rfl _ _ HR5.out ?_)
  have hlk : (J.row ++ zeros k).length = J.row.length + k := hz
  generalize w5.setCell ⟨J.p, 5, none⟩ (.slice A5 (J.row.length + k) c5) = W5 at *
  have hrow : addRow J b = J.row ++ zeros k ++ sealed J.e b := by unfold addRow; rw [hk]
  have hrl : (addRow J b).length = J.row.length + k + (b.length + 12) := by rw [hrow, List.length_append, hz, sealed_length]
  have CALL : Hid (Calls Try.prog 37 #[.int .u32 (J.e : Nat), .slice A b.length c] W5.drew fun e w6 => ∃ g, e = .returned (.slice (some ⟨g, 0, none⟩) (b.length + 12) (b.length + 12)) ∧ w6.cell? ⟨J.p, 5, none⟩ = some (.slice A5 (J.row.length + k) c5) ∧
      ∃ A7 c7 w7, Sem.run Try.prog (Builtin.append_ #[35, 35] 35 #[.slice A5 (J.row.length + k) c5, .slice (some ⟨g, 0, none⟩) (b.length + 12) (b.length + 12)]) w6 = .ok (.slice A7 (J.row.length + k + (b.length + 12)) c7) w7 ∧
      w7.cell? ⟨J.p, 5, none⟩ = some (.slice A5 (J.row.length + k) c5) ∧ w7.frozen? ⟨J.p, 5, none⟩ = false ∧
      Hid (JP w0 (w7.setCell ⟨J.p, 5, none⟩ (.slice A7 (J.row.length + k + (b.length + 12)) c7)) { J with A := A7, c := c7, row := addRow J b } m ∧ Stay (ob J.A) w (w7.setCell ⟨J.p, 5, none⟩ (.slice A7 (J.row.length + k + (b.length + 12)) c7)) ∧ (ob A7 = ob J.A ∨ ∃ g, ob A7 = some g ∧ w.heap.size ≤ g))) := by
    have hd : Below W5.heap.size W5 W5.drew := (Below.refl _ _).drew
    refine Lib.hid ((seal_any J.e hok.e A c b W5.drew (HA5.out.below hd) hb).mono ?_)
    rintro e w6 ⟨g, rfl, hg, hbb, hb6⟩
    have hb6' : Below W5.heap.size W5 w6 := below_next hd hb6
    have P6 := G4.out.below hb6'
    obtain ⟨A7, c7, w7, hr, hl7⟩ := append_J P6.row (some ⟨g, 0, none⟩) (b.length + 12) (sealed J.e b) hbb.holds0 (by rw [sealed_length]; omega) (by rw [hlk, sealed_length]; omega)
    obtain ⟨g1, g2, g3, g4, g5⟩ := P6.grow (Touch.of_grown hl7.grown) hl7.jrow hl7.block (by rw [List.length_append, hlk, sealed_length]; omega)
    rw [hlk, sealed_length] at hr
    rw [List.length_append, hlk, sealed_length] at g4 g5
    dsimp only at hr g1 g2 g4 g5
    rw [← hrow] at g4
    refine ⟨g, rfl, ?_, A7, c7, w7, hr, ?_, g2, Lib.hid ⟨g4, ?_, ?_⟩⟩
    · have := P6.is.c5
      unfold Jd.v at this
      rw [hlk] at this
      exact this
    · unfold Jd.v at g1
      rw [hlk] at g1
      exact g1
    · exact (G5.out.2.trans ((Still.of_below hb6').stay (ob J.A)) (.inl rfl)).trans g5 G5.out.1
    · rcases hl7.block with e | ⟨x, e, hx⟩
      · rw [e]; exact G5.out.1
      · exact .inr ⟨x, e, by have := G5.out.2.size; have := hb6'.size; omega⟩
  have c5W := G4.out.is.c5
  unfold Jd.v at c5W
  rw [hlk] at c5W
  have c4W := G4.out.is.c4
  dsimp only at c5W c4W
  have FINAL : Hid (∀ (w8 : World) (A7 : Option Addr) (c7 : Nat), (Hid (JP w0 w8 { J with A := A7, c := c7, row := addRow J b } m ∧ Stay (ob J.A) w w8 ∧ (ob A7 = ob J.A ∨ ∃ g, ob A7 = some g ∧ w.heap.size ≤ g))) →
      w8.cell? ⟨J.p, 7, none⟩ = some (.int .i64 (J.pend : Nat)) ∧ w8.frozen? ⟨J.p, 7, none⟩ = false ∧ Hid (JP w0 (w8.setCell ⟨J.p, 7, none⟩ (.int .i64 ((J.pend : Nat) + 1))) { J with A := A7, c := c7, row := addRow J b, pend := J.pend + 1 } m ∧ Stay (ob J.A) w (w8.setCell ⟨J.p, 7, none⟩ (.int .i64 ((J.pend : Nat) + 1))))) := by
    refine Lib.hid fun w8 A7 c7 F => ?_
    obtain ⟨f1, f2, f3⟩ := F.out
    have ht : Touch [J.p] w8 (w8.setCell ⟨J.p, 7, none⟩ (.int .i64 ((J.pend : Nat) + 1))) := Touch.one (by simp)
    obtain ⟨t1, t2⟩ := f1.turn (J' := { J with A := A7, c := c7, row := addRow J b, pend := J.pend + 1 }) ht (Whole.set_ f1.is 7 (.int .i64 ((J.pend : Nat) + 1))) ⟨rfl, rfl, rfl, rfl, rfl⟩ (by have := f1.ok; exact ⟨this.lo, this.hi, this.n, this.size, this.f1, this.f2, this.e, this.len⟩)
    refine ⟨f1.is.c7, f1.is.fz 7, Lib.hid ⟨t1, f2.trans (t2 (ob J.A)) (.inl rfl)⟩⟩
  clear G4 G5 HR5 HA5 c45 hlk hz hrow hrl g1 g2 hok hbb hroom hfi hk hAo
  go_wp2_with fail
  go_region_law (first
    | (refine step_append_runI rfl _ _ 35 35 rfl _ _ ?h3 ?h4 s1 ?_; (case h3 => rfl); (case h4 => rfl))
    | (refine step_call_any (o := ⟨some 47, _, _, _, _, _⟩) rfl 37 #[.int .u32 (J.e : Nat), .slice A b.length c] ?h1 CALL.out ?_; (case h1 => kernel_rfl); rintro e w6 ⟨g, rfl, q1, A7, c7, w7, s1, s2, s3, FIN⟩; refine ⟨_, rfl, ?_⟩))
  all_goals
    have FI2 := Lib.hid FIN.out.2.2
    obtain ⟨d7, z7, E7⟩ := FINAL.out _ _ _ FIN
    clear FINAL FIN CALL s1 s2 s3 q1 c5W c4W
    generalize w7.setCell ⟨J.p, 5, none⟩ (.slice A7 (J.row.length + k + (b.length + 12)) c7) = w8 at *
    have hp1 : (J.pend : Int) ≤ 1000000 := by omega
    go_wp2_with fail
    go_ret
    exact ⟨rfl, A7, c7, E7.out.1, E7.out.2, FI2.out⟩
theorem add_ok (h : JP w0 w J m) (q : Nat) (hq : ((J.tt : Int) - (J.fr : Int)) * (J.f : Int) = (q : Nat)) (hq1 : q ≤ 700000) (A : Option Addr) (c : Nat) (b : List UInt8) (hA : Holds w A b) (hAo : ∀ x : Addr, A = some x → ob J.A ≠ some x.block ∧ J.p ≠ x.block) (hroom : beg J.f J.row.length + (b.length + 12) ≤ q) (hb : b.length ≤ 10000) (hpend : J.pend ≤ 1000000) :
    Calls Try.prog 12 #[J.ptr, .slice A b.length c] w fun e w' => e = .returned (.int .i64 0) ∧ ∃ A' c', JP w0 w' { J with A := A', c := c', row := addRow J b, pend := J.pend + 1 } m ∧ Stay (ob J.A) w w' ∧ (ob A' = ob J.A ∨ ∃ g, ob A' = some g ∧ w.heap.size ≤ g) :=
  add_ok2 h q hq hq1 A c b hA (.inr hAo) hroom hb hpend
end
end Go.Proofs.Ythoihlebplmcoaa
