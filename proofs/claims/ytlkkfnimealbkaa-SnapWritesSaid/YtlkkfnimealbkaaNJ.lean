/- A range over a function, where each side names the blocks that it may turn. -/
import Derived.Test.YtlkkfnimealbkaaNI
namespace Go.Proofs.Ytlkkfnimealbkaa
open Go.RowKit Go.Shelf
set_option linter.unusedVariables false
attribute [local go_sem] Oper.semAt_some
/-- what holds between two rounds, with the blocks G that it speaks of: it abides turns of blocks at or above B that are not among them. -/
def AbidesG {β : Type} (B : Nat) (J : β → List Nat → World → Prop) : Prop := ∀ s G H W W', J s G W → Touch H W W' → (∀ k ∈ H, B ≤ k ∧ k ∉ G) → J s G W'
/-- an iterator that tells things, each with a fact on what was told before and on the world; a round turns the blocks of its own, and new ones. -/
def SeqG {α : Type} (n₀ : Nat) (R : List Nat) (F : Fence) (n : Nat) (P : Program) (g : Nat) (lb : Array Value) (encs : α → Array Value) (Fx : List α → α → World → Prop) (S : List α → Prop) (w : World) : Prop :=
  ∀ (l : Nat) (J : List α → List Nat → World → Prop) (Jx : List α → World → Prop) (W : World), Below w.heap.size w W → AbidesG W.heap.size J → (∀ s G W', J s G W' → ∀ k ∈ G, n₀ ≤ k ∧ k < W'.heap.size ∧ k ∉ R) → n₀ ≤ l → l < W.heap.size → l ∉ R →
    (∀ pre G x W1, J pre G W1 → Fx pre x W1 → YieldAt F (n - 1) P l (encs x) W1 fun e W' =>
      (e = .returned (.bool true) ∧ Touch (l :: G) W1 W' ∧ ∃ G', J (pre ++ [x]) G' W' ∧ ∀ k ∈ G', k ∈ G ∨ W1.heap.size ≤ k) ∨ (e = .returned (.bool false) ∧ Jx (pre ++ [x]) W')) →
    (∃ G, J [] G W) →
    CallsIn F n P g (#[.func (.yield l) #[] #[]] ++ lb) W fun e W' => (∃ v, e = .returned v) ∧ ((∃ xs G, S xs ∧ J xs G W') ∨ ∃ pre, Jx pre W')
/-- how a round may be left. -/
def roundPost {α : Type} (B : Nat) (I : List α → List Nat → World → Prop) (Ix : Code → List α → World → Prop) (xs : List α) (G : List Nat) (W : World) : Exit → Act → World → Prop
  | .normal, _, W' => Touch G W W' ∧ ∃ G', I xs G' W' ∧ ∀ k ∈ G', k ∈ G ∨ W.heap.size ≤ k
  | .ret, _, W' => KeepsFrom B W W' ∧ Ix .ret xs W'
  | _, _, _ => False
theorem touch_putObj (W : World) (l : Nat) (o : Obj) : Touch [l] W (W.putObj l o) := ⟨rfl, rfl, rfl, by simp [World.putObj], fun k _ hk => World.putObj_heap_other (fun e => hk (by simp [e]))⟩
theorem touch_keepsFrom {B : Nat} {G : List Nat} {W W' : World} (ht : Touch G W W') (hG : ∀ k ∈ G, ∃ (cs : Array Value) (t : TypeId) (z : Nat × Nat), W.heap[k]? = some (Obj.cells cs t z)) : KeepsFrom B W W' :=
  ⟨ht.size, fun k o _ ho hc => (ht.block k (Array.getElem?_eq_some_iff.1 ho).1 (fun hk => by
    obtain ⟨cs, t, z, e⟩ := hG k hk
    rw [ho] at e
    cases e
    simp [Obj.isCells] at hc)).trans ho⟩
section
variable {F : Fence} {n : Nat} {P : Program}
theorem wpIn_rangeFunc_G {α : Type} {g : Operand} {ps : Array Tmp} {assign body : Code} {Q : Exit → Act → World → Prop} {a : Act} {w : World}
    (hro : F.round = none) (h1 : 1 ≤ n) {gf : Nat} {lb : Array Value} (hg : a.eval g = .func (.func gf) #[] lb) (hFg : F.fn gf) (eg : ∀ args w, (callFunc gf args).run P w = .ok (.enter gf args) w)
    {encs : α → Array Value} {Fx : List α → α → World → Prop} {S : List α → Prop} {n₀ : Nat} {R : List Nat} {w0 : World} (hseq : SeqG n₀ R F (n - 1) P gf lb encs Fx S w0) (hb0 : Below w0.heap.size w0 w) (hn₀ : n₀ ≤ w.heap.size) (hRs : ∀ k ∈ R, k < w.heap.size) (hps : ∀ x, (encs x).size = ps.size)
    (I : List α → List Nat → World → Prop) (hI : ∀ s G H W W', I s G W → Touch H W W' → (∀ k ∈ H, w.heap.size ≤ k ∧ k ∉ G) → I s G W')
    (hIG : ∀ s G W, I s G W → ∀ k ∈ G, n₀ ≤ k ∧ k < W.heap.size ∧ k ∉ R ∧ ∃ (cs : Array Value) (t : TypeId) (z : Nat × Nat), W.heap[k]? = some (Obj.cells cs t z))
    (Ix : Code → List α → World → Prop) (hIx : ∀ c, OwnFrom w.heap.size (Ix c)) (h0 : ∃ G, I [] G w)
    (Ax : List α → α → Act → World → Prop) (hAx : ∀ pre x a', OwnFrom w.heap.size (fun (_ : Unit) W => Ax pre x a' W))
    (hassign : ∀ (l : Nat) (pre : List α) (G : List Nat) (x : α) (W : World) (K : Act → World → Prop), I pre G W → Fx pre x W → (∀ a' W', Below W.heap.size W W' → Ax pre x a' W' → K a' W') →
      assign.wpIn (F.inRound l) (n - 1 - 1) P (Exit.then K (fun _ _ _ => False)) { tmps := (ps.zip (encs x)).foldl (fun t (p, v) => t.setIfInBounds p v) a.tmps, defers := [] } W)
    (hbody : ∀ (l : Nat) (pre : List α) (G : List Nat) (x : α) (a' : Act) (W : World), I pre G W → Ax pre x a' W → body.wpIn (F.inRound l) (n - 1 - 1) P (roundPost w.heap.size I Ix (pre ++ [x]) G W) a' W)
    (hdone : ∀ (D : Nat) (xs : List α) (G : List Nat) (W : World), w.heap.size ≤ D → S xs → I xs G W → W.heap[D]? = some (.deferred (some [])) → Q .normal { a with defers := { target := .collected D, args := #[] } :: a.defers } W)
    (hstop : ∀ (D : Nat) (c : Code) (pre : List α) (W : World), w.heap.size ≤ D → Ix c pre W → W.heap[D]? = some (.deferred (some [])) → c.wpIn F n P Q { a with defers := { target := .collected D, args := #[] } :: a.defers } W) :
    (Code.rangeFunc g ps assign body).wpIn F n P Q a w := by
  refine wpIn_rangeFunc ?_
  intro fn hfn
  rw [hro]
  obtain ⟨rec, hrec⟩ : ∃ rec : LoopState → Option Code → Loop, rec = fun st pe => { state := st, pending := pe, fn, tmps := a.tmps, params := ps, assign, body, defers := w.heap.size } := ⟨_, rfl⟩
  obtain ⟨W1, hW1⟩ : ∃ W1, (w.alloc (.deferred (some []))).alloc (.loop (rec .ready none)) = W1 := ⟨_, rfl⟩
  have hL1 : W1.heap[w.heap.size + 1]? = some (.loop (rec .ready none)) := by
    rw [← hW1]; have := World.alloc_heap_new (w.alloc (.deferred (some []))) (.loop (rec .ready none)); rwa [World.size_alloc] at this
  have hK1 : W1.heap[w.heap.size]? = some (.deferred (some [])) := by
    rw [← hW1]; exact (Below.heap_alloc _ _ _ (by simp)).trans (World.alloc_heap_new w _)
  have hB1 : Below w.heap.size w W1 := by rw [← hW1]; exact ((Below.refl _ w).alloc (Nat.le_refl _) _).alloc (by simp) _
  have hI1 : ∃ G, I [] G W1 := by
    obtain ⟨G, h⟩ := h0
    exact ⟨G, hI _ _ _ _ _ h (Touch.of_below hB1 []) (by simp)⟩
  have hs1 : w.heap.size + 2 = W1.heap.size := by rw [← hW1]; simp
  have hrun : (Instr.enterLoop fn a.tmps ps assign body none).run P w = .ok (w.heap.size + 1, [{ target := .collected w.heap.size, args := #[] }]) W1 := by
    rw [← hW1, hrec]; exact run_enterLoop_outer _ _ _ _ _
  clear hW1
  refine ⟨w.heap.size + 1, [{ target := .collected w.heap.size, args := #[] }], W1, { target := .fn (.func gf) lb, args := #[.func (.yield (w.heap.size + 1)) #[] #[]] }, W1, gf,
    #[.func (.yield (w.heap.size + 1)) #[] #[]] ++ lb, W1, hrun, ?_, ?_, ?_, fun _ => h1, ?_⟩
  · simp only [resolve, hg]
    simp [go_sem]
  · intro f' hf'; simp [Target.leads] at hf'; subst hf'; exact hFg
  · simp [invoke, go_sem, eg]
  have notG : ∀ {s : List α} {G : List Nat} {W : World} {k : Nat} {o : Obj}, I s G W → W.heap[k]? = some o → o.isCells = false → k ∉ G := fun {s G W k o} hi ho hc hk => by
    obtain ⟨-, -, -, cs, t, z, e⟩ := hIG _ _ _ hi k hk
    rw [ho] at e
    cases e
    simp [Obj.isCells] at hc
  have hIput : ∀ {s : List α} {G : List Nat} {W : World} {k : Nat} {o : Obj} (o' : Obj), I s G W → w.heap.size ≤ k → W.heap[k]? = some o → o.isCells = false → I s G (W.putObj k o') := fun {s G W k o} o' hi hk ho hc =>
    hI _ _ _ _ _ hi (touch_putObj W k o') (fun j hj => by
      have : j = k := by simpa using hj
      subst this
      exact ⟨hk, notG hi ho hc⟩)
  refine (hseq (w.heap.size + 1)
    (fun pre G W => I pre G W ∧ W.heap[w.heap.size + 1]? = some (.loop (rec .ready none)) ∧ W.heap[w.heap.size]? = some (.deferred (some [])))
    (fun pre W => ∃ c, Ix c pre W ∧ W.heap[w.heap.size + 1]? = some (.loop (rec .done (some c))) ∧ W.heap[w.heap.size]? = some (.deferred (some [])))
    W1 (hb0.trans (hB1.mono hb0.size))
    (fun s G H A B hs ht hH => ⟨hI _ _ _ _ _ hs.1 ht (fun k hk => ⟨by have := (hH k hk).1; omega, (hH k hk).2⟩),
      (ht.block _ (Array.getElem?_eq_some_iff.1 hs.2.1).1 (fun hk => by have := (hH _ hk).1; omega)).trans hs.2.1, (ht.block _ (Array.getElem?_eq_some_iff.1 hs.2.2).1 (fun hk => by have := (hH _ hk).1; omega)).trans hs.2.2⟩)
    (fun s G A hs k hk => ⟨(hIG _ _ _ hs.1 k hk).1, (hIG _ _ _ hs.1 k hk).2.1, (hIG _ _ _ hs.1 k hk).2.2.1⟩) (by omega) (by omega) (fun hk => by have := hRs _ hk; omega)
    ?_ (let ⟨G, h⟩ := hI1; ⟨G, h, hL1, hK1⟩)).mono ?_
  · rintro pre G x W ⟨hi, hl, hk⟩ hfx
    have hy := run_yield (P := P) (args := encs x) hl (by rw [hrec]; exact hps x)
    rw [hrec] at hy
    refine ⟨fn, _, assign, body, hy, roundIn_of_wpIn hfn (hassign _ pre G x W _ hi hfx ?_)⟩
    intro a' V hbV hax
    have vl := (hbV.block _ (Array.getElem?_eq_some_iff.1 hl).1).trans hl
    have vk := (hbV.block _ (Array.getElem?_eq_some_iff.1 hk).1).trans hk
    have hiv := hI _ _ _ _ _ hi (Touch.of_below hbV []) (by simp)
    have hlt : w.heap.size + 1 < V.heap.size := (Array.getElem?_eq_some_iff.1 vl).1
    refine ⟨_, run_beginRound vl (by rw [hrec]), ?_⟩
    have hl2 : (V.putObj (w.heap.size + 1) (.loop { rec .ready none with state := .busy })).heap[w.heap.size + 1]? = some (.loop { rec .ready none with state := .busy }) := World.putObj_heap_same hlt
    have hk2 : (V.putObj (w.heap.size + 1) (.loop { rec .ready none with state := .busy })).heap[w.heap.size]? = some (.deferred (some [])) := (World.putObj_heap_other (by omega)).trans vk
    have ht2 := touch_putObj V (w.heap.size + 1) (.loop { rec .ready none with state := .busy })
    have hi2 := hIput (.loop { rec .ready none with state := .busy }) hiv (by omega) vl rfl
    have ha2 := (hAx pre x a').putObj (s := ()) (.loop { rec .ready none with state := .busy }) hax (by omega) vl rfl
    generalize V.putObj (w.heap.size + 1) (.loop { rec .ready none with state := .busy }) = U at *
    refine wpIn_mono (hbody _ pre G x a' U hi2 ha2) ?_
    rintro e a3 W3 hp
    cases e with
    | normal =>
      obtain ⟨ht3, G', hi3, hG'⟩ := hp
      have hk3 : KeepsFrom w.heap.size U W3 := touch_keepsFrom ht3 fun k hk => (hIG _ _ _ hi2 k hk).2.2.2
      have hl3 := hk3.same _ _ (by omega) hl2 rfl
      have hr := run_endRound (P := P) none hl3
      rw [hrec] at hr
      have hnG : w.heap.size + 1 ∉ G := notG hi hl rfl
      refine ⟨_, _, hr, .inl ⟨rfl, ?_, G', ⟨?_, ?_, ?_⟩, fun k hk => ?_⟩⟩
      · have t1 : Touch ((w.heap.size + 1) :: G) W V := Touch.of_below hbV _
        have t2 : Touch ((w.heap.size + 1) :: G) W U := t1.trans ht2 (fun k hk => .inl (by simp at hk; simp [hk]))
        have t3 : Touch ((w.heap.size + 1) :: G) W W3 := t2.trans ht3 (fun k hk => .inl (by simp [hk]))
        exact t3.trans (touch_putObj W3 _ _) (fun k hk => .inl (by simp at hk; simp [hk]))
      · exact hIput _ hi3 (by omega) hl3 rfl
      · rw [hrec]
        exact World.putObj_heap_same (Array.getElem?_eq_some_iff.1 hl3).1
      · exact (World.putObj_heap_other (by omega)).trans (hk3.same _ _ (Nat.le_refl _) hk2 rfl)
      · rcases hG' k hk with hh | hh
        · exact .inl hh
        · have h5 := ht2.size
          have h6 := hbV.size
          exact .inr (by omega)
    | ret =>
      obtain ⟨hk3, hi3⟩ := hp
      have hl3 := hk3.same _ _ (by omega) hl2 rfl
      have hr := run_endRound (P := P) (some .ret) hl3
      rw [hrec] at hr
      refine ⟨_, _, hr, .inr ⟨rfl, _, (hIx _).putObj _ hi3 (by omega) hl3 rfl, ?_, ?_⟩⟩
      · rw [hrec]
        exact World.putObj_heap_same (Array.getElem?_eq_some_iff.1 hl3).1
      · exact (World.putObj_heap_other (by omega)).trans (hk3.same _ _ (Nat.le_refl _) hk2 rfl)
    | exit id => exact hp.elim
    | goto t => exact hp.elim
    | panic ch => exact hp.elim
    | outgrown => exact hp.elim
  · rintro e W2 ⟨⟨v, rfl⟩, (⟨xs, G, hS, hi, hl, hk⟩ | ⟨pre, c, hi, hl, hk⟩)⟩
    · exact ⟨none, _, by have := run_endLoop (P := P) hl (by rw [hrec]; simp); rw [hrec] at this; exact this, hdone _ xs G _ (Nat.le_refl _) hS (hIput _ hi (by omega) hl rfl) ((World.putObj_heap_other (by omega)).trans hk)⟩
    · exact ⟨some c, _, by have := run_endLoop (P := P) hl (by rw [hrec]; simp); rw [hrec] at this; exact this, hstop _ c pre _ (Nat.le_refl _) ((hIx c).putObj _ hi (by omega) hl rfl) ((World.putObj_heap_other (by omega)).trans hk)⟩
end
end Go.Proofs.Ytlkkfnimealbkaa
