/- Words of a source, walked: Lex. -/
import Derived.Test.YtbpknainmefidaaGreatDoorWH
namespace Go.Proofs.YtbpknainmefidaaGreatDoor
open Go.RowKit Go.Lib
set_option linter.unusedVariables false

def LexPost (w : World) (o : Lx.Out) (e : Ending) (w' : World) : Prop := match o with
  | .ok T => LexOk w T e w'
  | .bad c p => LexBad w (c : Nat) (p : Nat) e w'
theorem LexPost.ok {w : World} {o : Lx.Out} {T : List Lx.Tk} {e : Ending} {w' : World} (h : o = .ok T) (k : LexOk w T e w') : LexPost w o e w' := by rw [h]; exact k
theorem LexPost.bad {w : World} {o : Lx.Out} {c p : Nat} {e : Ending} {w' : World} (h : o = .bad c p) (k : LexBad w (c : Nat) (p : Nat) e w') : LexPost w o e w' := by rw [h]; exact k
theorem drop_str (s : ByteArray) (n : Nat) : (s.extract n s.size).data.toList = s.data.toList.drop n := by
  simp
  rw [List.take_of_length_le]; simp
theorem drop_size (s : ByteArray) (n : Nat) : (s.extract n s.size).size = s.size - n := by simp
/-- the fault's block, as it is set at the end. -/
theorem fault_end {w W : World} {g : Nat} {c0 p0 : Int} (h : Whole W g 41 #[.int .i64 c0, .int .i64 p0]) (hb : Below w.heap.size w W) (hg : w.heap.size ≤ g) (c p : Int) :
    ∃ W', W' = (W.setCell ⟨g, 0, none⟩ (.int .i64 c)).setCell ⟨g, 1, none⟩ (.int .i64 p) ∧ Below w.heap.size w W' ∧ W'.cell? ⟨g, 0, none⟩ = some (.int .i64 c) ∧ W'.cell? ⟨g, 1, none⟩ = some (.int .i64 p) := by
  have h2 := (h.set_ 0 (.int .i64 c)).set_ 1 (.int .i64 p)
  exact ⟨_, rfl, (hb.setCell (p := ⟨g, 0, none⟩) hg _).setCell (p := ⟨g, 1, none⟩) hg _, by rw [h2.cell 0]; rfl, by rw [h2.cell 1]; rfl⟩

set_option maxRecDepth 100000 in
theorem lex_long (s : ByteArray) (w : World) (hs : 4000 < s.size) :
    Calls Tryz.prog 32 #[.string s] w fun e w' => LexBad w 3 0 e w' := by
  have hs2 : (4000 : Int) < (s.size : Int) := by omega
  go_enter Tryz.func32, Tryz.ntmps32
  go_wp2
  exact bodyPost_ret (v := .tuple #[.slice none 0 0, flt 3 0]) (by simp [results, Tryz.results32, go_sem]) rfl ⟨rfl, (Below.refl _ _).alloc (Nat.le_refl _) _⟩

set_option maxRecDepth 100000 in
set_option maxHeartbeats 1000000 in
theorem lex_short (s : ByteArray) (w : World) (a : Addr) (m : Int) (hv : Env w a m) (hs : s.size ≤ 4000) :
    Calls Tryz.prog 32 #[.string s] w fun e w' => LexPost w (Lx.lx s.data.toList) e w' := by
  have hs2 : ¬ (4000 : Int) < (s.size : Int) := by omega
  have HV := Lib.hid hv
  have b0 : Below w.heap.size w (w.alloc (.cells #[.int .i64 0, .int .i64 0] 41)) := (Below.refl _ _).alloc (Nat.le_refl _) _
  have BT := Lib.hid (between_any s m _ (hv.below b0).max (by omega))
  have W0 : Hid (Whole (w.alloc (.cells #[.int .i64 0, .int .i64 0] 41)) w.heap.size 41 #[.int .i64 0, .int .i64 0]) := Lib.hid (Whole.new _ _ _)
  have B0 := Lib.hid b0
  have A0 : Hid (Lx.At s.data.toList [] (Lx.btw s.data.toList)) := Lib.hid (Lx.At.start (by rw [list_size]; exact hs))
  have hbt : Lx.btw s.data.toList ≤ s.size := by have := Lx.btw_le s.data.toList; rwa [list_size] at this
  clear hv b0
  generalize Lx.btw s.data.toList = p0 at *
  go_enter Tryz.func32, Tryz.ntmps32
  go_wp2_with fail
  refine (BT.out).mono ?_
  rintro e w1 ⟨rfl, hb1⟩
  have B1 := Lib.hid (bstep B0.out hb1)
  have W1 := Lib.hid (W0.out.below hb1 W0.out.lt)
  clear hb1 B0 W0 BT
  go_wp2_with fail
  go_loopg [4, 5] (s.size + 1) (fun j s4 s5 wr => ∃ (p : Nat) (A : List Lx.Tk), p ≤ s.size ∧ s.size < p + j ∧ s5 = .int .i64 (p : Nat) ∧ Hid (Lx.At s.data.toList A p) ∧ Hid (TRow wr (w.heap.size + 1) s4 A) ∧ Hid (Below w.heap.size w wr) ∧ Hid (Whole wr w.heap.size 41 #[.int .i64 0, .int .i64 0]))
  case atStart => exact ⟨p0, [], hbt, by omega, rfl, A0, Lib.hid (TRow.nil _ _), B1, W1⟩
  case round =>
    clear A0 B1 W1 hbt
    obtain ⟨p, A, hp, hj, rfl, HA, HT, HB, HW⟩ := hrel
    by_cases hlt : p < s.size
    · have hlt' : (p : Int) < (s.size : Int) := by omega
      have hp9 : (p : Int) < 4001 := by omega
      obtain ⟨c, r, hd⟩ : ∃ c r, s.data.toList.drop p = c :: r := ⟨_, _, drop_at s p hlt⟩
      have FA := first_any (s.extract p s.size) wr a m (HV.out.below HB.out) (by rw [drop_size]; omega) c r (by rw [drop_str, hd])
      have HN := Lib.hid (HA.out.next hd)
      by_cases he : (Lx.word (c :: r)).err = 0
      · rw [outW_ok he] at FA
        obtain ⟨n1, n2, n3⟩ := HN.out.2 he
        rw [list_size] at n2
        clear he HN
        generalize Lx.word (c :: r) = x at *
        obtain ⟨K, N, X, E⟩ := x
        dsimp only at FA n1 n2 n3
        have FF := Lib.hid FA
        have hbl := Lx.btw_le (s.data.toList.drop (p + N))
        rw [List.length_drop, list_size] at hbl
        have N3 := Lib.hid n3
        have ht1 : A.length ≤ 10000 := by have := HA.out.2.2.2; omega
        have hN9 : (N : Int) < 4001 := by omega
        have hpn : ((p : Int) + (N : Int)) ≤ (s.size : Int) := by omega
        clear FA n3 hd HA
        go_wp2_with fail
        refine (FF.out).mono ?_
        rintro e w2 ⟨rfl, hb2⟩
        have bw : Below w2.heap.size w2 (w2.alloc (.cells #[.int .i64 (K : Nat), .string (str X), .int .i64 (N : Nat)] 68)) := (Below.refl _ _).alloc (Nat.le_refl _) _
        have B2 := Lib.hid (bstep HB.out hb2)
        have B3 := Lib.hid (bstep B2.out bw)
        have W3 := Lib.hid ((HW.out.below hb2 HW.out.lt).below bw (Nat.lt_of_lt_of_le HW.out.lt hb2.size))
        have hT3 := (HT.out.below hb2).below bw
        have hown := HT.out.block
        have hw3 : RowW (w2.alloc (.cells #[.int .i64 (K : Nat), .string (str X), .int .i64 (N : Nat)] 68)) w2.heap.size 68 (K : Nat) (str X) (N : Nat) := RowW.new _ _ _ _ _
        obtain ⟨v5, u4, hap, hvr, hgr⟩ := append_tok hT3 ⟨K, X, p⟩ ht1 (by have := B3.out.size; have := bw.size; have := HW.out.lt; have := hb2.size; simp at *; omega)
        have B4 := Lib.hid (below_grown (bstep B3.out ((Below.refl _ _).alloc (Nat.le_refl _) (tokObj ⟨K, X, p⟩))) hgr (fun k hk => by have := (hown k hk).1; omega))
        have hw4 : RowW u4 w2.heap.size 68 (K : Nat) (str X) (N : Nat) := by
          have h1 := hw3.alloc (tokObj ⟨K, X, p⟩)
          unfold RowW at *
          rw [hgr.block w2.heap.size (Array.getElem?_eq_some_iff.1 h1).1 (fun e => by have := (hown _ e.symm).2; have := hb2.size; omega)]
          exact h1
        have hW4 : Whole u4 w.heap.size 41 #[.int .i64 0, .int .i64 0] := by
          have h1 := Whole.alloc W3.out (tokObj ⟨K, X, p⟩)
          unfold Whole at *
          rw [hgr.block w.heap.size (Array.getElem?_eq_some_iff.1 h1).1 (fun e => by have := (hown _ e.symm).1; omega)]
          exact h1
        obtain ⟨e0, e1, e2⟩ := hw4.cells
        rw [World.size_alloc] at hap
        have BT := Lib.hid (between_any (s.extract (p + N) s.size) m u4 (HV.out.below B4.out).max (by rw [drop_size]; omega))
        have HAP := Lib.hid hap
        have HV4 := Lib.hid hvr
        have HW4 := Lib.hid hW4
        rw [drop_str] at BT
        clear hap hvr hW4 hw4 hw3 hgr hT3 hown bw hb2 B2 B3 W3 HT HB HW
        go_wp2_with (at_builtin; refine Lib.wpList_append_run _ rfl (.tmp 36) (.tmp 43) 54 54 rfl _ _ rfl rfl _ _ HAP.out ?_)
        refine (BT.out).mono ?_
        rintro e w5 ⟨rfl, hb5⟩
        have B5 := Lib.hid (bstep B4.out hb5)
        have HV5 := Lib.hid (HV4.out.below hb5)
        have HW5 := Lib.hid (Whole.below HW4.out hb5 (Whole.lt HW4.out))
        clear hb5 B4 HV4 HW4 HAP BT FF e0 e1 e2
        generalize Lx.btw (s.data.toList.drop (p + N)) = q at *
        have hq9 : (q : Int) < 4001 := by omega
        have hpn2 : ((p : Int) + (N : Int) + (q : Int)) ≤ (s.size : Int) := by omega
        go_wp2_with fail
        go_roundg (s.size - p)
        case measure => omega
        case rel => exact ⟨p + N + q, A ++ [⟨K, X, p⟩], by omega, by omega, by go_num, N3, HV5, B5, HW5⟩
      · rw [outW_bad he] at FA
        have HBAD := Lib.hid (HN.out.1 he)
        clear HN
        generalize Lx.word (c :: r) = x at *
        obtain ⟨K, N, X, E⟩ := x
        dsimp only at FA he HBAD
        have FF := Lib.hid FA
        have hE1 : ((E : Int) == 0) = false := by rw [beq_eq_false_iff_ne]; omega
        have hE2 : ((E : Int) != 0) = true := by rw [bne_iff_ne]; omega
        clear FA hd HA he
        go_wp2_with fail
        refine (FF.out).mono ?_
        rintro e w2 ⟨rfl, hb2⟩
        have bw : Below w2.heap.size w2 (w2.alloc (.cells #[.int .i64 0, .string ⟨#[]⟩, .int .i64 0] 68)) := (Below.refl _ _).alloc (Nat.le_refl _) _
        have B3 := Lib.hid (bstep (bstep HB.out hb2) bw)
        have W3 := Lib.hid (Whole.below (Whole.below HW.out hb2 (Whole.lt HW.out)) bw (Nat.lt_of_lt_of_le (Whole.lt HW.out) hb2.size))
        have d0 := Whole.cell W3.out 0
        have d1 := Whole.cell W3.out 1
        simp only [List.getElem?_toArray, List.getElem?_cons_zero, List.getElem?_cons_succ] at d0 d1
        have f0 := Whole.frozen W3.out 0
        have f1 := Whole.frozen W3.out 1
        clear bw hb2 HB HW FF
        go_wp2
        obtain ⟨W, hW, hb, q1, q2⟩ := fault_end W3.out B3.out (Nat.le_refl _) (E : Nat) (p : Nat)
        rw [← hW]
        exact bodyPost_ret (v := .tuple #[.slice none 0 0, flt (E : Nat) (p : Nat)]) (by simp [results, Tryz.results32, go_sem, q1, q2]) rfl (LexPost.bad HBAD.out ⟨rfl, hb⟩)
    · have hlt' : ¬ (p : Int) < (s.size : Int) := by omega
      have hpe : p = s.size := by omega
      have HD := Lib.hid (HA.out.done (by rw [list_size]; exact hpe))
      have ht1 : A.length ≤ 10000 := by have := HA.out.2.2.2; omega
      have hown := HT.out.block
      obtain ⟨v5, u4, hap, hvr, hgr⟩ := append_tok HT.out ⟨0, [], s.size⟩ ht1 HW.out.lt
      have B4 := Lib.hid (below_grown (bstep HB.out ((Below.refl _ _).alloc (Nat.le_refl _) (tokObj ⟨0, [], s.size⟩))) hgr (fun k hk => by have := (hown k hk).1; omega))
      have hW4 : Whole u4 w.heap.size 41 #[.int .i64 0, .int .i64 0] := by
        have h1 := Whole.alloc HW.out (tokObj ⟨0, [], s.size⟩)
        unfold Whole at *
        rw [hgr.block w.heap.size (Array.getElem?_eq_some_iff.1 h1).1 (fun e => by have := (hown _ e.symm).1; omega)]
        exact h1
      have hap2 : Sem.run Tryz.prog (Builtin.append_ #[54, 54] 54 #[_, .slice (some ⟨wr.heap.size, 0, none⟩) 1 1]) (wr.alloc (.cells #[.int .i64 0, .string ⟨#[]⟩, .int .i64 (s.size : Nat)] 60)) = .ok v5 u4 := hap
      have HAP := Lib.hid hap2
      have HV4 := Lib.hid hvr
      have W3 := Lib.hid hW4
      have d0 := Whole.cell W3.out 0
      have d1 := Whole.cell W3.out 1
      simp only [List.getElem?_toArray, List.getElem?_cons_zero, List.getElem?_cons_succ] at d0 d1
      have f0 := Whole.frozen W3.out 0
      have f1 := Whole.frozen W3.out 1
      clear hap hap2 hvr hgr hW4 hown HT HB HW HA hpe
      go_wp2_with (at_builtin; refine Lib.wpList_append_run _ rfl (.tmp 49) (.tmp 53) 54 54 rfl _ _ rfl rfl _ _ HAP.out ?_)
      obtain ⟨W, hW, hb, q1, q2⟩ := fault_end W3.out B4.out (Nat.le_refl _) 0 0
      have hrow : TRow W (w.heap.size + 1) v5 (A ++ [⟨0, [], s.size⟩]) := ownsRow_of_heap HV4.out fun b hb => by
        have := (HV4.out.block b hb).1
        rw [hW, Below.heap_setCell _ _ _ _ (by show b ≠ w.heap.size; omega), Below.heap_setCell _ _ _ _ (by show b ≠ w.heap.size; omega)]
      rw [← hW]
      clear hW
      obtain ⟨A', c', rfl, hc, hT, hbase⟩ := hrow.shape
      have hpost : LexPost w (Lx.lx s.data.toList) (.returned (.tuple #[.slice A' (A ++ [(⟨0, [], s.size⟩ : Lx.Tk)]).length c', flt 0 0])) W := LexPost.ok (by rw [HD.out, list_size]) ⟨A', c', rfl, hc, hT, hb, fun b o e => by have := hbase b o e; omega⟩
      exact bodyPost_ret (v := .tuple #[.slice A' (A ++ [(⟨0, [], s.size⟩ : Lx.Tk)]).length c', flt 0 0]) (by simp [results, Tryz.results32, go_sem, q1, q2]) rfl hpost

/-- Lex. -/
theorem lex_any (s : ByteArray) (w : World) (a : Addr) (m : Int) (hv : Env w a m) :
    Calls Tryz.prog 32 #[.string s] w fun e w' => LexPost w (Lx.lx s.data.toList) e w' := by
  by_cases h : 4000 < s.size
  · exact (lex_long s w h).mono fun e w' k => LexPost.bad (c := 3) (p := 0) (by rw [Lx.lx, if_pos (by rw [list_size]; exact h)]) k
  · exact lex_short s w a m hv (by omega)
end Go.Proofs.YtbpknainmefidaaGreatDoor
