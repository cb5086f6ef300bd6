/- shift, and the table of low bytes. -/
import Derived.Test.YtbdaoecpmodgcaaRows
import Derived.Test.YtbdaoecpmodgcaaM2
import Derived.WalkKit
import Derived.ProofKit
import Derived.OpenShut
import Derived.IntWalk
import Derived.Lib.Hide
import Derived.Below
import Derived.Laws.OwnMore
import Derived.Laws.BitsAll
import Derived.Laws.CopyOwn
import Derived.Deep.AppendLies
import Derived.Deep.Draws
import Derived.Deep.DeepCutAuto
import Derived.Handy
namespace Go.Proofs.Ytbdaoecpmodgcaa
open Go.RowKit

theorem u32_xor_nat' (a b : Nat) (ha : a < 4294967296) (hb : b < 4294967296) : bits .xor .u32 (a : Int) (b : Int) = ((a ^^^ b : Nat) : Int) := u32_xor_nat a b ha hb

theorem ret_u32 {a b : Int} (h : a = b) : Ending.returned (.int .u32 a) = .returned (.int .u32 b) := by rw [h]

theorem shift_any (c : Nat) (hc : c < 4294967296) (w : World) :
    Calls Try.prog 23 #[.int .u32 c] w fun e w' => e = .returned (.int .u32 (stp c : Nat)) ∧ w = w' := by
  have ha : bits .and .u32 (c : Int) 1 = ((c % 2 : Nat) : Int) := by
    rw [u32_and _ _ (by omega) (by omega) (by omega) (by omega)]
    simp [Nat.and_one_is_mod]
  have hx : bits .xor .u32 ((c : Int) / 2) 3988292384 = (((c / 2) ^^^ poly : Nat) : Int) := u32_xor_nat (c / 2) poly (by omega) (by decide)
  have HX := Lib.hid hx
  clear hx
  by_cases h : c % 2 = 1
  · have hs : stp c = (c / 2) ^^^ poly := if_pos h
    rw [hs]
    have hd : (bits .and .u32 (c : Int) 1 == 1) = true := by rw [ha, h]; rfl
    clear ha hs
    go_enter Try.func23, Try.ntmps23
    go_wp2
    go_ret
    exact ⟨ret_u32 HX.out, rfl⟩
  · have hs : stp c = c / 2 := if_neg h
    rw [hs]
    have h0 : c % 2 = 0 := by omega
    have hd : (bits .and .u32 (c : Int) 1 == 1) = false := by rw [ha, h0]; rfl
    clear ha hs
    go_enter Try.func23, Try.ntmps23
    go_wp2
    go_ret
    exact ⟨ret_u32 (by simp), rfl⟩

theorem info37 : (Try.prog.info? 37).map (fun i => (i.zero, i.size)) = some (some (.agg (Array.replicate 256 (.int .u32 0))), 256) := by kernel_rfl
theorem zero37 (w : World) : Sem.run Try.prog (zeroValue 37) w = .ok (.agg (Array.replicate 256 (.int .u32 0))) w := by
  have h := info37
  cases hi : Try.prog.info? 37 with
  | none => rw [hi] at h; simp at h
  | some i =>
    rw [hi] at h
    simp at h
    simp [zeroValue, typeInfo, hi, h.1]

/-! a block that is known whole -/
def Whole (w : World) (g : Nat) (t : TypeId) (cs : Array Value) : Prop := w.heap[g]? = some (.cells cs t (0, 0))
section
variable {w w' : World} {g : Nat} {t : TypeId} {cs : Array Value}
theorem Whole.lt (h : Whole w g t cs) : g < w.heap.size := by
  rcases Nat.lt_or_ge g w.heap.size with hlt | hge
  · exact hlt
  · unfold Whole at h; rw [Array.getElem?_eq_none hge] at h; cases h
theorem Whole.cell (h : Whole w g t cs) (i : Nat) : w.cell? ⟨g, i, none⟩ = cs[i]? := cell_of_row w g i cs t (0, 0) h
theorem Whole.frozen (h : Whole w g t cs) (i : Nat) : w.frozen? ⟨g, i, none⟩ = false := by
  unfold Whole at h
  simp [World.frozen?, h]
theorem Whole.new (w : World) (t : TypeId) (cs : Array Value) : Whole (w.alloc (.cells cs t)) w.heap.size t cs := heap_alloc_new w _
theorem Whole.drew (h : Whole w g t cs) : Whole w.drew g t cs := h
theorem Whole.alloc (h : Whole w g t cs) (o : Obj) : Whole (w.alloc o) g t cs := (Below.heap_alloc w o g h.lt).trans h
theorem Whole.set_ (h : Whole w g t cs) (i : Nat) (u : Value) : Whole (w.setCell ⟨g, i, none⟩ u) g t (cs.setIfInBounds i u) := by
  unfold Whole at h ⊢
  simp [World.setCell, Array.getElem?_modify, h]
theorem Whole.far (h : Whole w g t cs) {p : Addr} (hp : g ≠ p.block) (u : Value) : Whole (w.setCell p u) g t cs := (Below.heap_setCell w p u g hp).trans h
theorem Whole.below {B : Nat} (h : Whole w g t cs) (hb : Below B w w') (hg : g < B) : Whole w' g t cs := (hb.block g hg).trans h
end

/-- the table: what each low byte comes to, as far as it is filled. -/
def lowTab (f : Nat → Nat) : Array Value := ((List.range 256).map fun x => Value.int .u32 (f x : Nat)).toArray
theorem lowTab_size (f : Nat → Nat) : (lowTab f).size = 256 := by simp [lowTab]
theorem lowTab_at (f : Nat → Nat) (x : Nat) (hx : x < 256) : (lowTab f)[x]? = some (.int .u32 (f x : Nat)) := by
  simp [lowTab, hx]
theorem lowTab_set (f : Nat → Nat) (x v : Nat) : (lowTab f).setIfInBounds x (.int .u32 (v : Nat)) = lowTab (fun y => if y = x then v else f y) := by
  apply Array.ext_getElem?
  intro i
  rw [Array.getElem?_setIfInBounds]
  by_cases hi : i < 256
  · rw [lowTab_at _ _ hi, lowTab_at _ _ hi, lowTab_size]
    by_cases he : x = i
    · subst he; simp [hi]
    · have : ¬ i = x := fun e => he e.symm
      simp [he, this]
  · rw [lowTab_size]
    have h1 : (lowTab f)[i]? = none := by rw [Array.getElem?_eq_none]; rw [lowTab_size]; omega
    have h2 : (lowTab (fun y => if y = x then v else f y))[i]? = none := by rw [Array.getElem?_eq_none]; rw [lowTab_size]; omega
    rw [h1, h2]
    by_cases he : x = i
    · subst he; simp [hi]
    · simp [he]
theorem lowTab_zero : lowTab (fun _ => 0) = Array.replicate 256 (.int .u32 0) := by
  apply Array.ext_getElem?
  intro i
  by_cases hi : i < 256
  · rw [lowTab_at _ _ hi]; simp [hi]
  · rw [Array.getElem?_eq_none (by rw [lowTab_size]; omega), Array.getElem?_eq_none (by simp; omega)]
theorem lowTab_ext {f g : Nat → Nat} (h : ∀ x, x < 256 → f x = g x) : lowTab f = lowTab g := by
  apply Array.ext_getElem?
  intro i
  by_cases hi : i < 256
  · rw [lowTab_at _ _ hi, lowTab_at _ _ hi, h i hi]
  · rw [Array.getElem?_eq_none (by rw [lowTab_size]; omega), Array.getElem?_eq_none (by rw [lowTab_size]; omega)]

/-- the two blocks of lowBytes: what it will tell (still empty), and the table. -/
structure LowW (w W : World) (f : Nat → Nat) : Prop where
  bel : Below w.heap.size w W
  told : Whole W w.heap.size 37 (lowTab fun _ => 0)
  tab : Whole W (w.heap.size + 1) 37 (lowTab f)
theorem LowW.first (w : World) : LowW w ((w.alloc (.cells (lowTab fun _ => 0) 37)).alloc (.cells (lowTab fun _ => 0) 37)) (fun _ => 0) := by
  refine ⟨((Below.refl _ _).alloc (Nat.le_refl _) _).alloc (by simp) _, (Whole.new w 37 _).alloc _, ?_⟩
  have := Whole.new (w.alloc (.cells (lowTab fun _ => 0) 37)) 37 (lowTab fun _ => 0)
  simpa using this
theorem zeroTab (w : World) : Sem.run Try.prog (zeroValue 37) w = .ok (.agg (lowTab fun _ => 0)) w := by rw [lowTab_zero]; exact zero37 w
theorem loadTab {W : World} {g : Nat} {f : Nat → Nat} (h : Whole W g 37 (lowTab f)) :
    Sem.run Try.prog (loadCellsFrom ⟨g, 0, none⟩ 0 256 #[]) W = .ok (lowTab f) W := by
  have := run_loadCells_list (P := Try.prog) W ⟨g, 0, none⟩ (lowTab f).toList (fun j v hv => by
    have hadd : (⟨g, 0, none⟩ : Addr).add j = ⟨g, j, none⟩ := by unfold Addr.add; split <;> simp_all
    rw [hadd, cell_of_row _ _ j _ _ (0, 0) h]
    simpa using hv)
  simpa [loadCells, lowTab_size] using this
theorem storeTab {W : World} {g : Nat} {f0 : Nat → Nat} (h : Whole W g 37 (lowTab f0)) (f : Nat → Nat) :
    Sem.run Try.prog (storeCells ⟨g, 0, none⟩ (lowTab f).toList) W = .ok () (W.setRow g (lowTab f)) := by
  have := run_storeCells_from (P := Try.prog) g 37 (lowTab f).toList 0 (lowTab f0) W h (by simp [lowTab_size]) (fun v hv => by
    simp [lowTab] at hv
    obtain ⟨x, _, rfl⟩ := hv
    rfl)
  simpa using this
theorem LowW.set {w W : World} {f : Nat → Nat} (h : LowW w W f) (x v : Nat) : LowW w (W.setCell ⟨w.heap.size + 1, x, none⟩ (.int .u32 (v : Nat))) (fun y => if y = x then v else f y) := by
  refine ⟨h.bel.setCell (by simp) _, h.told.far (by simp) _, ?_⟩
  rw [← lowTab_set]
  exact h.tab.set_ _ _

/-- how far the outer loop is. -/
def half (K : Nat) : Nat := match K with | 0 => 0 | K + 1 => 2 ^ K

theorem size37 : (Try.prog.info? 37).map (·.size) = some 256 := by
  have h := info37
  cases hi : Try.prog.info? 37 with
  | none => rw [hi] at h; simp at h
  | some i => rw [hi] at h; simp at h; simp [h.2]
theorem lowTab_one (f : Nat → Nat) : (lowTab f).all (·.oneCell') = true := by
  rw [Array.all_eq_true_iff_forall_mem]
  intro v hv
  simp [lowTab] at hv
  obtain ⟨x, _, rfl⟩ := hv
  rfl
theorem u32_xor' (a b : Nat) (ha : a < 4294967296) (hb : b < 4294967296) : bits .xor .u32 (a : Int) (b : Int) = ((a ^^^ b : Nat) : Int) := u32_xor_nat a b ha hb

theorem half_of (K : Nat) : ((2 ^ K : Nat) : Int) / 2 = ((half K : Nat) : Int) := by
  cases K with
  | zero => decide
  | succ K => simp only [half]; rw [Nat.pow_succ]; omega
end Go.Proofs.Ytbdaoecpmodgcaa
