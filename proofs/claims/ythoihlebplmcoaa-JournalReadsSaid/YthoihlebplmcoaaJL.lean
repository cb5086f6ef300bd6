/- cut; find: the records that stand in the fields that were read. -/
import Derived.Test.YthoihlebplmcoaaJK
namespace Go.Proofs.Ythoihlebplmcoaa
open Go.RowKit Go.Shelf
set_option linter.unusedVariables false
attribute [local go_sem] Oper.semAt_some
set_option maxRecDepth 100000 in
theorem cut_any (w : World) (p : Nat) (cs : Array Value) (hp : Whole w p 57 cs) (a5 a6 a7 : Value) (h5 : cs[5]? = some a5) (h6 : cs[6]? = some a6) (h7 : cs[7]? = some a7) (A : Option Addr) (n c k : Nat) (hk : k ≤ c) :
    Calls Try.prog 48 #[.pointer (some ⟨p, 0, none⟩), .slice A n c, .int .i64 (k : Nat)] w fun e w' => (∃ v, e = .returned v) ∧ w' = ((w.setCell ⟨p, 5, none⟩ (.slice A k k)).setCell ⟨p, 6, none⟩ (.int .i64 (k : Nat))).setCell ⟨p, 7, none⟩ (.int .i64 0) := by
  have c5 := hp.cell 5
  have c6 := hp.cell 6
  have c7 := hp.cell 7
  rw [h5] at c5
  rw [h6] at c6
  rw [h7] at c7
  have f5 := hp.frozen 5
  have f6 := hp.frozen 6
  have f7 := hp.frozen 7
  clear hp h5 h6 h7
  have hki : (k : Int) ≤ (c : Int) := by omega
  go_enter Try.func48, Try.ntmps48
  go_wp2_with fail
  go_end0
  exact ⟨⟨_, rfl⟩, rfl⟩
/-- a field that was read: none, where the sector is of another epoch. -/
abbrev Fld := Option (Nat × List UInt8)
def FV : Fld → Value
  | none => .slice none 0 0
  | some (g, b) => .slice (some ⟨g, 4, none⟩) b.length b.length
/-- the fields, in a slice of its own. -/
structure FAt (w : World) (q : Nat) (l : List Fld) : Prop where
  whole : Whole w q 35 (l.map FV).toArray
  each : ∀ g b, some (g, b) ∈ l → Holds w (some ⟨g, 4, none⟩) b ∧ Bytes w g ∧ 0 < b.length ∧ b.length ≤ 1020
theorem FAt.still {w w' : World} {q : Nat} {l : List Fld} (h : FAt w q l) (hs : Still w w') : FAt w' q l :=
  ⟨h.whole.still hs (by decide) (by decide) (by decide), fun g b hm => by
    obtain ⟨h1, h2, h3⟩ := h.each g b hm
    exact ⟨h1.still (fun a e => by cases e; exact h2) hs, h2.still hs, h3⟩⟩
theorem FAt.below {w w' : World} {q : Nat} {l : List Fld} (h : FAt w q l) (hb : Below w.heap.size w w') : FAt w' q l := h.still (Still.of_below hb)
/-- the row of the fields, as long as they are of the epoch. -/
def rowF : List Fld → List UInt8
  | [] => []
  | none :: _ => []
  | some (_, b) :: l => b ++ rowF l
theorem rowF_snoc : ∀ (l : List Fld) (g : Nat) (b : List UInt8), (∀ x ∈ l, x ≠ none) → rowF (l ++ [some (g, b)]) = rowF l ++ b
  | [], g, b, _ => by simp [rowF]
  | none :: l, g, b, h => absurd rfl (h none List.mem_cons_self)
  | some (g', b') :: l, g, b, h => by
    simp only [List.cons_append, rowF]
    rw [rowF_snoc l g b fun x hx => h x (List.mem_cons_of_mem _ hx), List.append_assoc]
theorem rowF_stop : ∀ (l r : List Fld), (∀ x ∈ l, x ≠ none) → rowF (l ++ none :: r) = rowF l
  | [], r, _ => rfl
  | none :: l, r, h => absurd rfl (h none List.mem_cons_self)
  | some (g', b') :: l, r, h => by
    simp only [List.cons_append, rowF]
    rw [rowF_stop l r fun x hx => h x (List.mem_cons_of_mem _ hx)]
theorem rowF_len : ∀ (l : List Fld), (∀ g b, some (g, b) ∈ l → b.length ≤ 1020) → (rowF l).length ≤ l.length * 1020
  | [], _ => Nat.zero_le _
  | none :: l, _ => Nat.zero_le _
  | some (g, b) :: l, h => by
    have := rowF_len l fun g b hm => h g b (List.mem_cons_of_mem _ hm)
    have := h g b List.mem_cons_self
    simp only [rowF, List.length_append, List.length_cons]
    omega
/-- where the last record ends. -/
def lastEnd (l : List (List UInt8 × Nat)) : Nat := match l.getLast? with | none => 0 | some x => x.2
theorem lastEnd_snoc (l : List (List UInt8 × Nat)) (x : List UInt8 × Nat) : lastEnd (l ++ [x]) = x.2 := by simp [lastEnd]
/-- what the rounds of find keep. -/
def EndI (w : World) (E : Nat) (pre : List Rc) (W : World) : Prop :=
  W.heap[E]? = some (.cells #[.int .i64 (lastEnd (pre.map fun x => (x.b, x.n)) : Nat)] 3 (0, 0)) ∧ Below w.heap.size w W
theorem endI_own (w : World) (E B : Nat) (hB : w.heap.size ≤ B) : OwnFrom B (EndI w E) := by
  rintro pre W W' row ⟨h1, h4⟩ hg hr
  refine ⟨(hg.block _ (Array.getElem?_eq_some_iff.1 h1).1 fun e => ?_).trans h1, h4.grown hg h4.size (fun k e => Nat.le_trans hB (hr k e).1)⟩
  obtain ⟨_, o, ho, h⟩ := hr E e.symm
  rw [h1] at ho
  cases ho
  simp [Obj.isCells] at h
theorem standA_le (e f : Nat) (row : List UInt8) : ∀ (k at_ : Nat) (x : List UInt8 × Nat), x ∈ standA e f row k at_ → x.2 ≤ row.length
  | 0, _, x, h => absurd h (by simp [standA])
  | k + 1, at_, x, h => by
    unfold standA at h
    split at h
    · rename_i hh
      rcases List.mem_cons.1 h with rfl | h
      · have := (openN_pos hh.2).2
        rw [List.length_drop] at this
        show at_ + openN e (row.drop at_) ≤ _
        omega
      · exact standA_le e f row k _ x h
    · cases h
theorem lastEnd_le (e f : Nat) (row : List UInt8) : lastEnd (standR e f row) ≤ row.length := by
  unfold lastEnd
  cases h : (standR e f row).getLast? with
  | none => exact Nat.zero_le _
  | some x => exact standA_le e f row _ _ x (List.mem_of_getLast? h)
theorem Touch.putObj {F : List Nat} {a w : World} (h : Touch F a w) (D : Nat) (o : Obj) (hD : a.heap.size ≤ D) : Touch F a (w.putObj D o) :=
  ⟨h.os, h.tape, h.output, by simpa [World.putObj] using h.size, fun k hk hn => (World.putObj_heap_other (by omega)).trans (h.block k hk hn)⟩
set_option maxRecDepth 100000 in
set_option maxHeartbeats 2000000 in
theorem find_in {w : World} {J : Jd} (hJ : JIs w J) (he : J.e < 4294967296) (hf1 : 60 ≤ J.f) (hf2 : J.f ≤ 1020) (q : Nat) (l : List Fld) (hF : FAt w q l) (hl : (rowF l).length ≤ 100000) (hn : l.length ≤ 600) :
    CallsIn Fence.wide 5 Try.prog 31 #[J.ptr, .slice (some ⟨q, 0, none⟩) l.length l.length] w fun e w' => (∃ v, e = .returned v) ∧ ∃ A, 
      JIs w' { J with A := A, c := lastEnd (standR J.e J.f (rowF l)), row := (rowF l).take (lastEnd (standR J.e J.f (rowF l))), kept := lastEnd (standR J.e J.f (rowF l)), pend := 0 } ∧
      JRow w' A (lastEnd (standR J.e J.f (rowF l))) ((rowF l).take (lastEnd (standR J.e J.f (rowF l)))) ∧ (∀ k, ob A = some k → w.heap.size ≤ k) ∧ Touch [J.p] w w' := by
  have HJ := Lib.hid hJ
  have HF := Lib.hid hF
  clear hJ hF
  refine callsIn_of_wp_marks Try.func31 rfl trivial ?_ rfl
  simp only [Try.ntmps31, List.size_toArray, List.length_cons, List.length_nil, Nat.reduceAdd, Nat.reduceSub, Array.replicate_succ, Array.replicate_zero, List.push_toArray, List.append_toArray, List.nil_append, List.cons_append]
  gi_wp2
  rename_i K hK
  have REST : ∀ (s4 s6 s12 s13 s14 s15 s16 s17 s18 s19 s20 s21 : Value) (W : World), Row W w.heap.size s4 (rowF l) → Below w.heap.size w W →
      K { tmps := #[J.ptr, .slice (some ⟨q, 0, none⟩) l.length l.length, undef, undef, s4, undef, s6, undef, undef, undef, .slice (some ⟨q, 0, none⟩) l.length l.length, .int .i64 (l.length : Nat), s12, s13, s14, s15, s16, s17, s18, s19, s20, s21, undef, undef, undef, undef, undef, undef, undef, undef, undef, undef], defers := [] } W := by
    intro s4 s6 s12 s13 s14 s15 s16 s17 s18 s19 s20 s21 W hrow hb
    refine hK _ _ ?_
    clear hK
    obtain ⟨A, c, rfl, hh, hc, hm⟩ := hrow.shape
    have HROW := Lib.hid hrow
    have HB := Lib.hid hb
    clear hrow hb
    gi_wp2_with ((try refine ⟨trivial, ?_⟩); gi_at_call 41; refine (standing_in Fence.wide _ trivial rfl _ _ _ _ _).mono ?_; rintro e w' ⟨rfl, rfl⟩)
    obtain ⟨W0, hW0⟩ : ∃ W0, W0 = ((W.alloc (.cells #[.int .i64 0] 3)).alloc (.cells #[.pointer (some ⟨J.p, 0, none⟩)] 30)).alloc (.cells #[.slice A (rowF l).length c] 35) := ⟨_, rfl⟩
    rw [← hW0]
    have b0 : Below W.heap.size W W0 := by rw [hW0]; exact (((Below.refl _ W).alloc (Nat.le_refl _) _).alloc (by simp) _).alloc (by simp; omega) _
    have sz0 : W0.heap.size = W.heap.size + 3 := by rw [hW0]; simp
    have l0 : W0.heap[W.heap.size]? = some (.cells #[.int .i64 0] 3 (0, 0)) := by
      rw [hW0, Below.heap_alloc _ _ _ (by simp; omega), Below.heap_alloc _ _ _ (by simp)]; exact heap_alloc_new W _
    have m0 : W0.heap[W.heap.size + 1]? = some (.cells #[.pointer (some ⟨J.p, 0, none⟩)] 30 (0, 0)) := by
      rw [hW0, Below.heap_alloc _ _ _ (by simp)]
      have := heap_alloc_new (W.alloc (.cells #[.int .i64 0] 3)) (.cells #[.pointer (some ⟨J.p, 0, none⟩)] 30)
      rwa [World.size_alloc] at this
    have k0 : W0.heap[W.heap.size + 1 + 1]? = some (.cells #[.slice A (rowF l).length c] 35 (0, 0)) := by
      rw [hW0]
      have := heap_alloc_new ((W.alloc (.cells #[.int .i64 0] 3)).alloc (.cells #[.pointer (some ⟨J.p, 0, none⟩)] 30)) (.cells #[.slice A (rowF l).length c] 35)
      rwa [World.size_alloc, World.size_alloc] at this
    clear hW0
    have HJW := Lib.hid (HJ.out.below HB.out)
    refine wpIn_rangeFunc_F rfl (by omega) (gf := 57) rfl trivial (enters_of Try.func57 (by kernel_rfl) rfl)
      (standing_seq 4 (by omega) (W.heap.size + 1) W W0 J.p J.e J.f A c (rowF l) he hf1 hf2 hl hc HJW.out.lt HJW.out.c3 HJW.out.c4 hh b0 m0 k0) (rcIn_put W.heap.size) KpC.trans (kpC_b (by omega) (by omega)) (Below.refl _ _) (fun _ => rfl)
      (EndI W W.heap.size) (endI_own W W.heap.size _ (by omega)) ⟨l0, b0⟩
      (fun x => { tmps := #[J.ptr, .slice (some ⟨q, 0, none⟩) l.length l.length, undef, undef, .slice A (rowF l).length c, undef, s6, .pointer (some ⟨W.heap.size, 0, none⟩), undef, .int .i64 (x.n : Nat), .slice (some ⟨q, 0, none⟩) l.length l.length, .int .i64 (l.length : Nat), s12, s13, s14, s15, s16, s17, s18, s19, s20, s21, J.ptr, .slice A (rowF l).length c, .func (.func 57) #[] #[.pointer (some ⟨W.heap.size + 1 + 1, 0, none⟩), .pointer (some ⟨W.heap.size + 1, 0, none⟩)], x.v, .int .i64 (x.n : Nat), undef, undef, undef, undef, undef], defers := [] }) ?assign ?body ?done
    case assign =>
      intro l x W K hK
      gi_wp2
      exact hK
    case body =>
      rintro l' pre x X ⟨h1, h4⟩ hx hlen3
      have lc : X.cell? ⟨W.heap.size, 0, none⟩ = some (.int .i64 (lastEnd (pre.map fun x => (x.b, x.n)) : Nat)) := cell_of_row X _ 0 _ _ _ h1
      have lf : X.frozen? ⟨W.heap.size, 0, none⟩ = false := by simp [World.frozen?, h1]
      have H1 := Lib.hid h1
      have H4 := Lib.hid h4
      have hsz := h4.size
      clear h1 h4 hx
      gi_wp2
      have h2 : Whole (X.setCell ⟨W.heap.size, 0, none⟩ (.int .i64 (x.n : Nat))) W.heap.size 3 #[.int .i64 (x.n : Nat)] := Whole.set_ H1.out 0 (.int .i64 (x.n : Nat))
      have hb2 : Below W.heap.size X (X.setCell ⟨W.heap.size, 0, none⟩ (.int .i64 (x.n : Nat))) := (Below.refl _ _).setCell (p := ⟨W.heap.size, 0, none⟩) (Nat.le_refl _) _
      refine ⟨(KeepsOthers.setCell _ _ _).from _, ⟨hb2, Below.heap_setCell _ _ _ _ (by simp), Below.heap_setCell _ _ _ _ (by simp; omega)⟩, ?_, H4.out.trans hb2⟩
      rw [List.map_append, List.map_singleton, lastEnd_snoc]
      exact h2
    case done =>
      rintro D ys X hys ⟨h1, h4⟩ hD hle
      rw [hys] at h1
      have hk := lastEnd_le J.e J.f (rowF l)
      have lc : X.cell? ⟨W.heap.size, 0, none⟩ = some (.int .i64 (lastEnd (standR J.e J.f (rowF l)) : Nat)) := cell_of_row X _ 0 _ _ _ h1
      have HX := Lib.hid (HJW.out.below h4)
      have CU := Lib.hid (cut_any X J.p (jcells J) HX.out _ _ _ rfl rfl rfl A (rowF l).length c (lastEnd (standR J.e J.f (rowF l))) (by omega))
      have H4 := Lib.hid h4
      have HD := Lib.hid hD
      have HK : Hid (∃ k, lastEnd (standR J.e J.f (rowF l)) = k) := Lib.hid ⟨_, rfl⟩
      obtain ⟨k, hkk⟩ := HK.out
      rw [hkk] at hk lc CU
      replace HK := Lib.hid hkk
      clear hkk
      clear h1 h4 hD hys
      gi_wp2
      refine ⟨trivial, ?_⟩
      refine (callsIn_wide.2 CU.out).mono ?_
      rintro r X2 ⟨⟨v, rfl⟩, hX2⟩
      have HX2 := Lib.hid hX2
      clear hX2
      have hDp : D ≠ J.p := by have := HJW.out.lt; have := b0.size; omega
      have HD2 : Hid (X2.heap[D]? = some (.deferred (some []))) := Lib.hid (by
        rw [HX2.out, Below.heap_setCell _ _ _ _ hDp, Below.heap_setCell _ _ _ _ hDp, Below.heap_setCell _ _ _ _ hDp]
        exact HD.out)
      have hWX : Touch [J.p] w X := (Touch.of_below HB.out [J.p]).belowTo H4.out
      have FIN : Hid (JIs (X2.putObj D (.deferred none)) { J with A := A, c := k, row := (rowF l).take k, kept := k, pend := 0 } ∧ JRow (X2.putObj D (.deferred none)) A k ((rowF l).take k) ∧ (∀ k, ob A = some k → w.heap.size ≤ k) ∧ Touch [J.p] w (X2.putObj D (.deferred none))) := by
        have hkl : ((rowF l).take k).length = k := by rw [List.length_take]; omega
        have hbs : ∀ x, Bytes X x → (X2.putObj D (.deferred none)).heap[x]? = X.heap[x]? := fun x hx => by
          have hxp : x ≠ J.p := fun e => by subst e; exact not_bytes HX.out (by decide) hx
          have hxD : D ≠ x := fun e => by
            subst e
            obtain ⟨cs, z, e'⟩ := hx
            rw [HD.out] at e'
            cases e'
          rw [World.putObj_heap_other hxD.symm, HX2.out, Below.heap_setCell _ _ _ _ hxp, Below.heap_setCell _ _ _ _ hxp, Below.heap_setCell _ _ _ _ hxp]
        have hRX := HROW.out.below H4.out
        obtain ⟨A', c', e', hA', -, -⟩ := hRX.shape
        cases e'
        have jr : JRow X A k ((rowF l).take k) := ⟨hA'.take k, by omega, by omega, fun a e => by subst e; exact hRX.bytes rfl, .inr hkl.symm⟩
        refine Lib.hid ⟨?_, jr.of_heap hbs (by rw [HX2.out]; simp [World.putObj, World.setCell]), fun x hx => HROW.out.block x (by rw [ob_own]; exact hx), ?_⟩
        · refine (World.putObj_heap_other (fun e => hDp e.symm)).trans ?_
          rw [HX2.out]
          have := Whole.set_ (Whole.set_ (Whole.set_ HX.out 5 (.slice A k k)) 6 (.int .i64 (k : Nat))) 7 (.int .i64 0)
          unfold Whole at this
          rw [this]
          unfold jcells Jd.v
          simp only [hkl]
          rfl
        · rw [HX2.out]
          refine Touch.putObj ?_ D _ (by have := HB.out.size; have := b0.size; omega)
          exact ((hWX.setCell (q := ⟨J.p, 5, none⟩) (.inl (by simp)) _).setCell (q := ⟨J.p, 6, none⟩) (.inl (by simp)) _).setCell (q := ⟨J.p, 7, none⟩) (.inl (by simp)) _
      gi_wp2
      refine ⟨by simp, .inl ⟨_, _, rfl, run_takeDeferred HD2.out, ?_⟩⟩
      refine ⟨_, results_none rfl _ _ _, ⟨_, rfl⟩, A, ?_⟩
      rw [HK.out]
      exact FIN.out
  clear hK
  gi_loopw [4, 12] (fun s4 s12 wr => ∃ (i : Nat), i ≤ l.length ∧ s12 = .int .i64 (i : Nat) ∧ Row wr w.heap.size s4 (rowF (l.take i)) ∧ (∀ x ∈ l.take i, x ≠ none) ∧ Below w.heap.size w wr)
    (fun _ s12 _ => (l.length + 1 - intOf s12).toNat)
  case atStart => exact ⟨0, by omega, rfl, Row.nil _ _, by simp, Below.refl _ _⟩
  case round =>
    obtain ⟨i, hi, rfl, hrow, hall, hb⟩ := hrel
    by_cases hlt : i < l.length
    · have hlti : (i : Int) < (l.length : Int) := by omega
      have F1 := Lib.hid (HF.out.below hb)
      have ci : wr.cell? ⟨q, i, none⟩ = some (FV l[i]) := by
        rw [F1.out.whole.cell i]
        simp [hlt]
      have HROW := Lib.hid hrow
      have HB := Lib.hid hb
      have HALL := Lib.hid hall
      have htk : l.take (i + 1) = l.take i ++ [l[i]] := by rw [List.take_succ_eq_append_getElem hlt]
      cases hli : l[i] with
      | none =>
        rw [hli] at ci
        simp only [FV] at ci
        have hq := fun W => Lib.run_eql_slice_nil (P := Try.prog) W 35 5 none 0 0 0 0 Try.underlying35
        have hst : rowF (l.take i) = rowF l := by
          have e : l = l.take i ++ none :: l.drop (i + 1) := by rw [← hli, ← List.drop_eq_getElem_cons hlt, List.take_append_drop]
          conv => rhs; rw [e]
          rw [rowF_stop _ _ hall]
        rw [hst] at HROW
        clear hrow hb hall hst htk
        gi_wp2
        exact REST _ _ _ _ _ _ _ _ _ _ _ _ _ HROW.out HB.out
      | some y =>
        obtain ⟨g, b⟩ := y
        rw [hli] at ci htk
        simp only [FV] at ci
        have hq := fun W => Lib.run_eql_slice_nil (P := Try.prog) W 35 5 (some ⟨g, 4, none⟩) b.length b.length 0 0 Try.underlying35
        obtain ⟨fh, fb, -, fl⟩ := F1.out.each g b (hli ▸ List.getElem_mem hlt)
        obtain ⟨i0, hi0, hz0, hz1, hz2⟩ := info_parts (P := Try.prog) (e := 5) (z := .int .u8 0) (size := 1) (bytes := 1) info5
        have hsn : rowF (l.take (i + 1)) = rowF (l.take i) ++ b := by rw [htk, rowF_snoc _ _ _ hall]
        have hlen : (rowF (l.take i)).length ≤ 612000 := by
          have := rowF_len (l.take i) fun g b hm => ((F1.out.each g b (List.mem_of_mem_take hm)).2.2.2)
          rw [List.length_take] at this
          omega
        have hcells := holds_cells fh
        have hrow2 := hrow
        unfold Row at hrow2
        have HN : Hid (∀ x ∈ l.take (i + 1), x ≠ none) := Lib.hid fun x hx => by
          rw [htk] at hx
          rcases List.mem_append.1 hx with hx | hx
          · exact hall x hx
          · have : x = some (g, b) := by simpa using hx
            subst this
            simp
        clear hrow hb hall htk REST fh
        gi_wp2_with (gi_at_builtin; refine wpListIn_append_own _ rfl _ _ 35 rfl w.heap.size 5 i0 (.int .u8 0) 1 1 Try.underlying35 hi0 hz0 hz1 hz2 rfl (by decide) u4 (rowF (l.take i)).length (encB (rowF (l.take i))) rfl hrow2 ⟨g, 4, none⟩ b.length b.length (encB b) rfl (by simp [encB]) hcells (encB_one b) (by unfold maxLen; omega) (by omega) HB.out.size ?_; intro v' w1 hown' hgrow _)
        refine ⟨⟨i + 1, hlt, rfl, ?_, HN.out, below_grown HB.out hgrow HROW.out.block⟩, by simp [intOf]; omega⟩
        rw [hsn]
        unfold Row
        rw [List.length_append, encB_append]
        exact hown'
    · have hli : i = l.length := by omega
      subst hli
      rw [List.take_length] at hrow
      have hlti : ¬ (l.length : Int) < (l.length : Int) := by omega
      have HROW := Lib.hid hrow
      have HB := Lib.hid hb
      clear hrow hb hall
      gi_wp2
      exact REST _ _ _ _ _ _ _ _ _ _ _ _ _ HROW.out HB.out
end Go.Proofs.Ythoihlebplmcoaa
