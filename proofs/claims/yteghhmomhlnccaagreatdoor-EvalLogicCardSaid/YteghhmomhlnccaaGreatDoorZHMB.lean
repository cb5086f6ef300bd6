import Derived.Test.YteghhmomhlnccaaGreatDoorZHMA
import Derived.Test.YteghhmomhlnccaaGreatDoorZHH
import Derived.Maps.OwnIn
import Derived.Maps.OwnSet

/- Right: is a tree right? -/
namespace Go.Proofs.YteghhmomhlnccaaGreatDoor
open Go.RowKit Go.Lib Go.Shelf
set_option linter.unusedVariables false
set_option maxRecDepth 100000
set_option linter.unusedSimpArgs false
attribute [local go_sem] Oper.semAt_some
open Ex (Tree)

theorem whole_own {B : Nat} {W W' : World} {row : Option Nat} {g : Nat} {t : TypeId} {cs : Array Value} (h : Whole W g t cs) (hg : W.grownBy W' row) (hr : ∀ r, row = some r → B ≤ r ∧ ∃ o : Obj, W.heap[r]? = some o ∧ o.isCells = false) : Whole W' g t cs :=
  (hg.block g h.lt (fun e => by
    obtain ⟨-, o, ho, hc⟩ := hr _ e.symm
    unfold Whole at h
    rw [h] at ho
    cases ho
    simp [Obj.isCells] at hc)).trans h
theorem below_own {B : Nat} {w W W' : World} {row : Option Nat} (h : Below w.heap.size w W) (hg : W.grownBy W' row) (hr : ∀ r, row = some r → B ≤ r ∧ ∃ o : Obj, W.heap[r]? = some o ∧ o.isCells = false) (hB : w.heap.size ≤ B) : Below w.heap.size w W' := h.grown hg h.size (fun k e => by have := (hr k e).1; omega)
theorem keepsFrom_below {B : Nat} {W W' : World} (h : Below W.heap.size W W') : KeepsFrom B W W' := ⟨h.size, fun k o _ ho _ => (h.block k (Array.getElem?_eq_some_iff.1 ho).1).trans ho⟩
mutual
theorem fit_seq (d : Nat) : ∀ (x : Tree), fitT x → ∀ q ∈ Ex.seq d x, fitT q.1
  | .node op t vk vn vs ks, h, q, hq => by
    rw [Ex.seq] at hq
    rcases List.mem_cons.1 hq with rfl | hq
    · exact h
    · rw [fitT] at h
      exact fit_seqs (d + 1) ks h.2.2 q hq
theorem fit_seqs (d : Nat) : ∀ (l : List Tree), fitTs l → ∀ q ∈ Ex.seqs d l, fitT q.1
  | [], h, q, hq => by rw [Ex.seqs] at hq; cases hq
  | x :: l, h, q, hq => by
    rw [fitTs] at h
    rw [Ex.seqs] at hq
    rcases List.mem_append.1 hq with hq | hq
    · exact fit_seq d x h.1 q hq
    · exact fit_seqs d l h.2 q hq
end
/-- between two rounds of Right. -/
def RgtI (w : World) (T : Tree) (pre : List Nd) (G : List Nat) (W : World) : Prop :=
  G = [w.heap.size + 1 + 1] ∧ Whole W (w.heap.size + 1 + 1) 3 #[.int .i64 (pre.length : Nat)] ∧ Whole W (w.heap.size + 1) 4 #[.bool false] ∧ Below w.heap.size w W ∧ pre.length ≤ 300 ∧ (∀ q ∈ prs pre, q.2 ≤ 30 ∧ q.1.is nodeB = true) ∧ w.heap.size + 3 ≤ W.heap.size
theorem rgtI_abides {w : World} {T : Tree} {B : Nat} (hB : w.heap.size + 3 ≤ B) (s : List Nd) (G H : List Nat) (W W' : World) (h : RgtI w T s G W) (ht : Touch H W W') (hH : ∀ k ∈ H, B ≤ k ∧ k ∉ G) : RgtI w T s G W' := by
  obtain ⟨rfl, h1, h2, h3, h4, h5, h6⟩ := h
  exact ⟨rfl, (ht.block _ h1.lt fun hk => (hH _ hk).2 (by simp)).trans h1, (ht.block _ h2.lt fun hk => by have := (hH _ hk).1; omega).trans h2, ht.fresh h3 fun k hk => by have := (hH k hk).1; omega, h4, h5, by have := ht.size; omega⟩
set_option maxHeartbeats 2000000 in
theorem right_in (T : Tree) (v : Value) (w : World) (h : NodeV w v T) (hf : fitT T) (hd : Ex.depth T ≤ 1000000) (a : Addr) (m : Int) (hv : Env w a m) :
    CallsIn Fence.wide 5 Tryz.prog 25 #[v] w fun e w' => e = .returned (.bool (Ex.rightB nodeB T)) ∧ Below w.heap.size w w' := by
  cases T with
  | node op t vk vn vs ks =>
  obtain ⟨A, c, rfl, hcc, hk⟩ := h
  obtain ⟨T, hT⟩ : ∃ T, (.node op t vk vn vs ks : Tree) = T := ⟨_, rfl⟩
  rw [hT] at hd hf ⊢
  refine callsIn_of_wp_marks Tryz.func25 rfl trivial ?_ rfl
  simp only [Tryz.ntmps25, List.size_toArray, List.length_cons, List.length_nil, Nat.reduceAdd, Nat.reduceSub, Array.replicate_succ, Array.replicate_zero, List.push_toArray, List.append_toArray, List.nil_append, List.cons_append]
  unfold ncells
  gi_wp2_with ((try refine ⟨trivial, ?_⟩); gi_at_call 51; refine (nodes_in Fence.wide _ trivial rfl _ _ _ _ _ _ _).mono ?_; rintro e w' ⟨rfl, rfl⟩)
  have b0 : Below w.heap.size w ((((w.alloc (.cells (ncells op t vk vn vs A ks.length c) 26)).alloc (.cells #[.bool false] 4)).alloc (.cells #[.int .i64 0] 3)).alloc (.cells (ncells op t vk vn vs A ks.length c) 26)) := ((((Below.refl _ w).alloc (Nat.le_refl _) _).alloc (by simp) _).alloc (by simp; omega) _).alloc (by simp; omega) _
  have k0 := ((Whole.new (w.alloc (.cells (ncells op t vk vn vs A ks.length c) 26)) 4 #[.bool false]).alloc (.cells #[.int .i64 0] 3)).alloc (.cells (ncells op t vk vn vs A ks.length c) 26)
  have k1 := (Whole.new ((w.alloc (.cells (ncells op t vk vn vs A ks.length c) 26)).alloc (.cells #[.bool false] 4)) 3 #[.int .i64 0]).alloc (.cells (ncells op t vk vn vs A ks.length c) 26)
  have k2 := Whole.new (((w.alloc (.cells (ncells op t vk vn vs A ks.length c) 26)).alloc (.cells #[.bool false] 4)).alloc (.cells #[.int .i64 0] 3)) 26 (ncells op t vk vn vs A ks.length c)
  simp only [World.size_alloc] at k0 k1 k2
  unfold ncells at b0 k0 k1 k2
  have hz0 : ((((w.alloc (.cells #[.int .i64 op, .string (tx t), .int .i64 vk, .int .i64 vn, .string (tx vs), .slice A ks.length c] 26)).alloc (.cells #[.bool false] 4)).alloc (.cells #[.int .i64 0] 3)).alloc (.cells #[.int .i64 op, .string (tx t), .int .i64 vk, .int .i64 vn, .string (tx vs), .slice A ks.length c] 26)).heap.size = w.heap.size + 4 := by simp only [World.size_alloc]
  generalize ((((w.alloc (.cells #[.int .i64 op, .string (tx t), .int .i64 vk, .int .i64 vn, .string (tx vs), .slice A ks.length c] 26)).alloc (.cells #[.bool false] 4)).alloc (.cells #[.int .i64 0] 3)).alloc (.cells #[.int .i64 op, .string (tx t), .int .i64 vk, .int .i64 vn, .string (tx vs), .slice A ks.length c] 26)) = W0 at *
  refine wpIn_rangeFunc_G rfl (by omega) (gf := 84) rfl trivial (enters_of Tryz.func84 (by kernel_rfl) rfl)
    (nodes_seq 4 (by omega) (w.heap.size + 1 + 1 + 1) w W0 T hd A c op t vk vn vs ks hT.symm hcc hk b0 k2) (Below.refl _ _) b0.size (by simp) (fun _ => rfl)
    (RgtI w T) (fun s G H W W' h ht hH => rgtI_abides (by omega) s G H W W' h ht hH)
    (fun s G W h k hk => by
      obtain ⟨rfl, h1, -⟩ := h
      have : k = w.heap.size + 1 + 1 := by simpa using hk
      subst this
      exact ⟨by omega, h1.lt, by simp, _, h1, rfl⟩)
    (fun c _ W => c = .ret ∧ Below w.heap.size w W ∧ Whole W (w.heap.size + 1) 4 #[.bool false] ∧ Ex.rightB nodeB T = false)
    (fun c s W W' row h hg hr => ⟨h.1, below_own h.2.1 hg hr b0.size, whole_own h.2.2.1 hg hr, h.2.2.2⟩) ⟨_, rfl, k1, k0, b0, Nat.zero_le _, by simp [prs], by omega⟩
    (fun pre x a' W => prs (pre ++ [x]) <+: Ex.seq 1 T ∧ ∃ Bx op' t' vk' vn' vs' A' n' c', x.t.is nodeB = nodeB op' t' vk' vn' vs' n' ∧ (tx vs').size ≤ 9223372036854775807 ∧ Whole W Bx 26 (ncells op' t' vk' vn' vs' A' n' c') ∧ a' = { tmps := #[.agg #[.int .i64 op, .string (tx t), .int .i64 vk, .int .i64 vn, .string (tx vs), .slice A ks.length c], .pointer (some ⟨w.heap.size, 0, none⟩), .pointer (some ⟨w.heap.size + 1, 0, none⟩), .pointer (some ⟨w.heap.size + 1 + 1, 0, none⟩), .pointer (some ⟨Bx, 0, none⟩), .int .i64 (x.d : Nat), .agg #[.int .i64 op, .string (tx t), .int .i64 vk, .int .i64 vn, .string (tx vs), .slice A ks.length c], .func (.func 84) #[] #[.pointer (some ⟨w.heap.size + 1 + 1 + 1, 0, none⟩)], x.v, .int .i64 (x.d : Nat), undef, undef, undef, undef, undef, undef, undef, undef, undef, undef, undef, undef, undef], defers := [] })
    (fun pre x a' _ W W' row h hg hr => by
      obtain ⟨h1, Bx, op', t', vk', vn', vs', A', n', c', h2, h3, h4, h5⟩ := h
      exact ⟨h1, Bx, op', t', vk', vn', vs', A', n', c', h2, h3, whole_own h4 hg hr, h5⟩) ?assign ?body ?done ?stop
  case assign =>
    rintro l pre G x W K hI hx hK
    obtain ⟨xv, xt, xd⟩ := x
    obtain ⟨hx1, hx2⟩ := hx
    cases xt with
    | node op' t' vk' vn' vs' ks' =>
    obtain ⟨A', c', rfl, -, -⟩ := hx2
    unfold encN ncells
    dsimp only
    gi_wp2
    have hfx := fit_seq 1 T hf _ (hx1.subset (show ((.node op' t' vk' vn' vs' ks' : Tree), xd) ∈ prs pre ++ [(.node op' t' vk' vn' vs' ks', xd)] by simp))
    rw [fitT] at hfx
    refine hK _ _ ((Below.refl _ _).alloc (Nat.le_refl _) _) ⟨by rw [prs_snoc]; exact hx1, W.heap.size, op', t', vk', vn', vs', A', ks'.length, c', rfl, ?_, Whole.new _ _ _, rfl⟩
    have := hfx.2.1
    simp only [maxLen] at this
    simpa [ByteArray.size] using this
  case body =>
    rintro l pre G x a' W ⟨rfl, h1, h2, h3, h4, h5, h6⟩ ⟨hp, Bx, op', t', vk', vn', vs', A', n', c', hx, hsz, hbx, rfl⟩
    have hlen : (prs (pre ++ [x])).length = pre.length + 1 := by rw [prs_len, List.length_append]; rfl
    have e0 := h1.cell 0
    have e1 := h1.frozen 0
    have e2 := h2.cell 0
    have e3 := h2.frozen 0
    simp only [List.getElem?_toArray, List.getElem?_cons_zero] at e0 e2
    have hne : Bx ≠ w.heap.size + 1 + 1 := fun e => by subst e; unfold Whole at h1 hbx; rw [h1] at hbx; cases hbx
    have hne2 : Bx ≠ w.heap.size + 1 := fun e => by subst e; unfold Whole at h2 hbx; rw [h2] at hbx; cases hbx
    have N1 := h1.set_ 0 (.int .i64 ((pre.length : Int) + 1))
    have N2 := h2.far (p := ⟨w.heap.size + 1 + 1, 0, none⟩) (by simp) (.int .i64 ((pre.length : Int) + 1))
    have N3 := hbx.far (p := ⟨w.heap.size + 1 + 1, 0, none⟩) hne (.int .i64 ((pre.length : Int) + 1))
    have T1 : Touch [w.heap.size + 1 + 1] W (W.setCell ⟨w.heap.size + 1 + 1, 0, none⟩ (.int .i64 ((pre.length : Int) + 1))) := Touch.one (by simp)
    have B1 : Below w.heap.size w (W.setCell ⟨w.heap.size + 1 + 1, 0, none⟩ (.int .i64 ((pre.length : Int) + 1))) := h3.setCell (p := ⟨w.heap.size + 1 + 1, 0, none⟩) (by show _ ≤ w.heap.size + 1 + 1; omega) _
    have K1 : KeepsFrom W0.heap.size W (W.setCell ⟨w.heap.size + 1 + 1, 0, none⟩ (.int .i64 ((pre.length : Int) + 1))) := (KeepsOthers.setCell _ _ _).from _
    obtain ⟨W1, hW1⟩ : ∃ W1, W.setCell ⟨w.heap.size + 1 + 1, 0, none⟩ (.int .i64 ((pre.length : Int) + 1)) = W1 := ⟨_, rfl⟩
    rw [hW1] at N1 N2 N3 T1 B1 K1
    have hl9 : (pre.length : Int) ≤ 300 := by omega
    have HP := Lib.hid hp
    have HL := Lib.hid hlen
    have H5 := Lib.hid h5
    have HX := Lib.hid hx
    have HT1 := Lib.hid T1
    have HB1 := Lib.hid B1
    have HK1 := Lib.hid K1
    have HN1 := Lib.hid N1
    have HN2 := Lib.hid N2
    have f0 := N1.cell 0
    have f2 := N2.cell 0
    have f3 := N2.frozen 0
    obtain ⟨d0, d1, d2, d3, d4, d5⟩ := six_of N3
    simp only [List.getElem?_toArray, List.getElem?_cons_zero, Array.setIfInBounds] at f0 f2
    have BAD : ∀ W2, Below W1.heap.size W1 W2 → Ex.rightB nodeB T = false → roundPost W0.heap.size (RgtI w T) (fun c _ W => c = .ret ∧ Below w.heap.size w W ∧ Whole W (w.heap.size + 1) 4 #[.bool false] ∧ Ex.rightB nodeB T = false) (pre ++ [x]) [w.heap.size + 1 + 1] W .ret { tmps := #[], defers := [] } (W2.setCell ⟨w.heap.size + 1, 0, none⟩ (.bool false)) := by
      intro W2 hb hbad
      exact ⟨(HK1.out.trans (keepsFrom_below hb)).trans ((KeepsOthers.setCell _ _ _).from _), rfl, (HB1.out.trans (hb.mono HB1.out.size)).setCell (p := ⟨w.heap.size + 1, 0, none⟩) (by show _ ≤ w.heap.size + 1; omega) _, (HN2.out.below hb HN2.out.lt).set_ 0 _, hbad⟩
    have HBAD := Lib.hid BAD
    have HVW := Lib.hid (hv.below HB1.out)
    clear h1 h2 h3 hbx N1 N2 N3 T1 B1 K1 hp hlen h5 hx BAD
    by_cases g1 : pre.length = 300
    · have HF : Hid (Ex.rightB nodeB T = false) := Lib.hid (Ex.right_not nodeB T HP.out (.inl (by rw [HL.out]; omega)))
      have g1' : (300 : Int) < (pre.length : Int) + 1 := by omega
      clear g1 hl9
      gi_wp2
      refine ⟨trivial, ?_⟩
      gi_wp2
      exact HBAD.out W1 (Below.refl _ _) HF.out
    · have g1' : ¬ (300 : Int) < (pre.length : Int) + 1 := by omega
      by_cases g2 : 30 < x.d
      · have HF : Hid (Ex.rightB nodeB T = false) := Lib.hid (Ex.right_not nodeB T HP.out (.inr ⟨(x.t, x.d), by rw [prs_snoc]; simp, .inl g2⟩))
        have g2' : (30 : Int) < (x.d : Int) := by omega
        gi_wp2
        refine ⟨trivial, ?_⟩
        gi_wp2
        exact HBAD.out W1 (Below.refl _ _) HF.out
      · have g2' : ¬ (30 : Int) < (x.d : Int) := by omega
        have RN := Lib.hid (rightNode_any op' t' vk' vn' vs' A' n' c' W1 a m HVW.out hsz)
        have hll : ((pre ++ [x]).length : Int) = (pre.length : Int) + 1 := by rw [List.length_append]; rfl
        have HG : Hid (pre.length + 1 ≤ 300 ∧ x.d ≤ 30) := Lib.hid ⟨by omega, by omega⟩
        have HLL := Lib.hid hll
        clear g1 g2 hll
        gi_wp2
        refine ⟨trivial, ?_⟩
        refine (CallsIn.inRound l (callsIn_wide.2 RN.out)).mono ?_
        rintro e W2 ⟨rfl, hb2⟩
        have HB2 := Lib.hid hb2
        have m2 := (HN2.out.below hb2 HN2.out.lt).frozen 0
        clear hb2
        cases hq : nodeB op' t' vk' vn' vs' n'
        · have HF : Hid (Ex.rightB nodeB T = false) := Lib.hid (Ex.right_not nodeB T HP.out (.inr ⟨(x.t, x.d), by rw [prs_snoc]; simp, .inr (by rw [HX.out, hq])⟩))
          have m1 := (HN2.out.below HB2.out HN2.out.lt).cell 0
          simp only [List.getElem?_toArray, List.getElem?_cons_zero] at m1
          gi_wp2
          exact HBAD.out W2 HB2.out HF.out
        · have HQ := Lib.hid hq
          clear hq
          gi_wp2
          refine ⟨HT1.out.belowTo HB2.out, _, ⟨rfl, ?_, HN2.out.below HB2.out HN2.out.lt, HB1.out.trans (HB2.out.mono HB1.out.size), ?_, ?_, ?_⟩, fun k hk => .inl hk⟩
          · have := HN1.out.below HB2.out HN1.out.lt
            rw [HLL.out]
            exact this
          · rw [List.length_append]; exact HG.out.1
          · intro q hq
            rw [prs_snoc] at hq
            rcases List.mem_append.1 hq with hq | hq
            · exact H5.out q hq
            · have : q = (x.t, x.d) := by simpa using hq
              subst this
              exact ⟨HG.out.2, by rw [HX.out]; exact HQ.out⟩
          · have := HT1.out.size; have := HB2.out.size; omega
  case done =>
    rintro D ys G W hD hS ⟨rfl, h1, h2, h3, h4, h5, h6⟩ hK
    have e0 := h2.cell 0
    have e1 := h2.frozen 0
    simp only [List.getElem?_toArray, List.getElem?_cons_zero] at e0
    have hS := Lib.hid hS
    gi_wp2
    have hne : D ≠ w.heap.size + 1 := fun e => by unfold Whole at h2; rw [← e, hK] at h2; cases h2
    have hK' : (W.setCell ⟨w.heap.size + 1, 0, none⟩ (.bool true)).heap[D]? = some (.deferred (some [])) := (heap_set_other _ _ _ _ _ hne).trans hK
    refine ⟨by simp, .inl ⟨_, _, rfl, run_takeDeferred hK', ?_⟩⟩
    have hc5 := (whole_own (B := 0) (h2.set_ 0 (.bool true)) (grownBy_putObj' _ D (.deferred none)) (fun r e => by cases e; exact ⟨Nat.zero_le _, _, hK', rfl⟩)).cell 0
    simp only [List.getElem?_toArray, List.getElem?_cons_zero, Array.setIfInBounds] at hc5
    refine ⟨.bool true, ?_, ?_, (h3.setCell (p := ⟨w.heap.size + 1, 0, none⟩) (by show _ ≤ w.heap.size + 1; omega) _).trans (belowK_b (w := w) (Nat.le_refl _) _ D _ _ (by omega) hK' rfl rfl)⟩
    · simp [results, Tryz.results25, go_sem, hc5]
    · rw [Ex.right_all nodeB T (by rw [← hS.out, prs_len]; exact h4) (fun q hq => h5 q (by rw [hS.out]; exact hq))]
  case stop =>
    rintro D c pre W hD ⟨rfl, h1, h2, h3⟩ hK
    have e0 := h2.cell 0
    simp only [List.getElem?_toArray, List.getElem?_cons_zero] at e0
    gi_wp2
    refine ⟨by simp, .inl ⟨_, _, rfl, run_takeDeferred hK, ?_⟩⟩
    have hc5 := (whole_own (B := 0) h2 (grownBy_putObj' _ D (.deferred none)) (fun r e => by cases e; exact ⟨Nat.zero_le _, _, hK, rfl⟩)).cell 0
    simp only [List.getElem?_toArray, List.getElem?_cons_zero] at hc5
    refine ⟨.bool false, ?_, by rw [h3], h1.trans (belowK_b (w := w) (Nat.le_refl _) _ D _ _ (by have := b0.size; omega) hK rfl rfl)⟩
    simp [results, Tryz.results25, go_sem, hc5]
end Go.Proofs.YteghhmomhlnccaaGreatDoor

/- A set of texts: map[string]struct{}; a row of texts that grows. -/
namespace Go.Proofs.YteghhmomhlnccaaGreatDoor
open Go.RowKit Go.Lib Go.Shelf
set_option linter.unusedVariables false
set_option maxRecDepth 100000

theorem keyedS : Maps.Keyed Tryz.prog 9 := Maps.string_keyed Tryz.underlying9
/-- block b is a map that holds just the texts of L. -/
def SetAt (W : World) (b n : Nat) (L : List (List UInt8)) : Prop := ∃ D : DataW Unit, W.ownsMap Tryz.prog 9 unitElem b n D ∧ ∀ t, Maps.has D (.string t) = L.contains t
theorem SetAt.made (w : World) : SetAt (w.alloc (.map #[] 0)) w.heap.size 0 [] := ⟨_, World.ownsMap_made w _ _ _, fun t => rfl⟩
theorem SetAt.lt {W : World} {b n : Nat} {L : List (List UInt8)} (h : SetAt W b n L) : b < W.heap.size := let ⟨_, h1, _⟩ := h; h1.lt
theorem SetAt.moved {W W' : World} {b n : Nat} {L : List (List UInt8)} (h : SetAt W b n L) (hb : W'.heap[b]? = W.heap[b]?) : SetAt W' b n L := by
  obtain ⟨D, ⟨es, clock, h1, h2⟩, h3⟩ := h
  exact ⟨D, ⟨es, clock, hb.trans h1, h2⟩, h3⟩
theorem key_str {t : List UInt8} (ht : t.length ≤ maxLen) : keyOf Tryz.prog 9 (.string (tx t)) = some (.string t) := by
  have h : (tx t).size ≤ maxLen := by simpa [ByteArray.size] using ht
  simp [keyOf, mapKey, Tryz.underlying9, h]
theorem zeroUnit (W : World) : (zeroValue 97).run Tryz.prog W = .ok (.agg #[]) W := Tryz.zeroValue97 W
theorem SetAt.look {W : World} {b n : Nat} {L : List (List UInt8)} (h : SetAt W b n L) {t : List UInt8} (ht : t.length ≤ maxLen) : (Instr.lookup 96 (.map (some b)) (.string (tx t)) true).run Tryz.prog W = .ok (.tuple #[.agg #[], .bool (L.contains t)]) W := by
  obtain ⟨D, h1, h2⟩ := h
  obtain ⟨v, ps, hr, hv⟩ := h1.look_ok keyedS Tryz.underlying96 (zeroUnit W) unitElem_mk (key_str ht)
  obtain ⟨rfl, _⟩ := unitElem_inv hv
  rw [hr, h2]
theorem SetAt.store {W : World} {b n : Nat} {L : List (List UInt8)} (h : SetAt W b n L) {t : List UInt8} (ht : t.length ≤ maxLen) (hn : n ≤ 1000000) :
    ∃ W', (Instr.mapUpdate 96 (.map (some b)) (.string (tx t)) (.agg #[])).run Tryz.prog W = .ok () W' ∧ SetAt W' b (n + 1) (L ++ [t]) ∧ Touch [b] W W' := by
  obtain ⟨D, h1, h2⟩ := h
  obtain ⟨W', hr, ho, hg⟩ := h1.update keyedS Tryz.underlying96 (by simp only [maxLen]; omega) (key_str ht) unitElem_mk
  refine ⟨W', hr, ⟨_, ho, fun t' => ?_⟩, Touch.of_grown hg⟩
  by_cases e : t' = t
  · subst e
    rw [Maps.has_put_same h1.isMap (by trivial)]
    simp
  · rw [Maps.has_put_other (by intro h; cases h; exact e rfl), h2]
    simp [e]
/-- a text more behind a row. -/
theorem append_str2 {w : World} {base : Nat} {v : Value} {ss : List ByteArray} (h : SRow w base v ss) (x : ByteArray) (hn : ss.length ≤ 1000000) (hbase : base ≤ w.heap.size) :
    ∃ v' w', Sem.run Tryz.prog (Builtin.append_ #[49, 49] 49 #[v, .slice (some ⟨w.heap.size, 0, none⟩) 1 1]) (w.alloc (.cells #[.string x] 9)) = .ok v' w' ∧ SRow w' base v' (ss ++ [x]) ∧ Touch v.ownBlock.toList w w' ∧ (v'.ownBlock = v.ownBlock ∨ v'.ownBlock = some (w.heap.size + 1)) := by
  have hinf := infoStr
  cases hi : Tryz.prog.info? 9 with
  | none => rw [hi] at hinf; simp at hinf
  | some i =>
    rw [hi] at hinf
    simp at hinf
    obtain ⟨i1, i2, i3⟩ := hinf
    have hb : ∀ (a b : Nat), a ≤ 1000001 → b ≤ 1000 → a * b ≤ 140737488355328 := fun a b h1 h2 => Nat.le_trans (Nat.mul_le_mul h1 h2) (by omega)
    obtain ⟨v', w', hr, ho, hg, _, hb'⟩ := run_append_own_at (P := Tryz.prog) (w.alloc (.cells #[.string x] 9)) base 49 49 9 i _ 1 i.bytes Tryz.underlying49 hi i1 i2 rfl rfl (by omega) v ss.length (strs ss) (h.below ((Below.refl _ _).alloc (Nat.le_refl _) _)) ⟨w.heap.size, 0, none⟩ 1 1 (strs [x]) rfl (by
      intro j u hu
      rw [Addr.add_lit, Nat.zero_add, cell_of_row _ w.heap.size j #[.string x] 9 (0, 0) (heap_alloc_new w _), ← hu, show strs [x] = [Value.string x] from rfl]
      simp) (by
      intro u hu
      simp [strs] at hu
      subst hu
      rfl) (by simp only [maxLen]; omega) (hb _ _ (by omega) i3) (by simp; omega)
    refine ⟨v', w', hr, ?_, ?_, by simpa using hb'⟩
    · unfold SRow
      rw [List.length_append, show strs (ss ++ [x]) = strs ss ++ strs [x] by simp [strs]]
      exact ho
    · exact ((Touch.refl _ _).alloc _).grown hg (fun k e => .inl (by rw [e]; simp))
end Go.Proofs.YteghhmomhlnccaaGreatDoor

/- Names: the columns' names of a tree. -/
namespace Go.Proofs.YteghhmomhlnccaaGreatDoor
open Go.RowKit Go.Lib Go.Shelf
set_option linter.unusedVariables false
set_option linter.unusedSimpArgs false
set_option maxRecDepth 100000
attribute [local go_sem] Oper.semAt_some
open Ex (Tree)

/-- the names among what was told. -/
def namesOf (l : List (Tree × Nat)) : List (List UInt8) := Ex.once [] (Ex.texts l)
theorem namesOf_seq (x : Tree) : namesOf (Ex.seq 1 x) = Ex.names x := by rw [namesOf, Ex.seq_texts]; rfl
theorem once_len : ∀ (l r : List (List UInt8)), (Ex.once l r).length ≤ l.length + r.length
  | l, [] => by rw [Ex.once]; simp
  | l, t :: r => by
    rw [Ex.once]
    have := once_len (if l.contains t then l else l ++ [t]) r
    split at this <;> simp only [List.length_append, List.length_cons, List.length_nil] at * <;> (split <;> simp_all) <;> omega
theorem texts_len : ∀ l : List (Tree × Nat), (Ex.texts l).length ≤ l.length
  | [] => Nat.le_refl _
  | p :: l => by
    rw [show p :: l = [p] ++ l from rfl, Ex.texts_append, List.length_append, List.length_append]
    have := texts_len l
    have : (Ex.texts [p]).length ≤ 1 := by
      simp only [Ex.texts, List.flatMap_cons, List.flatMap_nil, List.append_nil]
      split <;> simp
    simp; omega
theorem namesOf_len (l : List (Tree × Nat)) : (namesOf l).length ≤ l.length := by
  have h1 := once_len [] (Ex.texts l)
  have h2 := texts_len l
  rw [namesOf]
  simp only [List.length_nil] at h1
  omega
end Go.Proofs.YteghhmomhlnccaaGreatDoor
