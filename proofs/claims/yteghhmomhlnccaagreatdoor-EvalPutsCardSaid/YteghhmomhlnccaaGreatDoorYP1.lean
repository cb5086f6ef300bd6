import Derived.Deep.RegionHeld3
import Derived.Deep.DrawnRows
import Derived.Test.YteghhmomhlnccaaGreatDoorRows
import Derived.WalkKit
import Derived.ProofKit
import Derived.OpenShut
import Derived.IntWalk
import Derived.Lib.Hide
import Derived.WalkSmall
import Derived.RegionTactic
import Derived.ChangeAlike
import Derived.BigRegion
import Derived.Deep.QuietTactic
import Derived.BigQuiet
import Derived.Deep.Fields
import Derived.Laws.StructEq
import Derived.Below
import Derived.Handy
import Derived.Lib.Replace
import Derived.Lib.ReplaceLaws
import Derived.Lib.Strings
set_option linter.unusedVariables false
set_option linter.unusedSimpArgs false
namespace Go.Proofs.YteghhmomhlnccaaGreatDoor
section
variable {P : Program} {md : Region.Mode} {ops : Array Oper} {Q : Exit → Act → World → Prop} {S : World → Prop} {fuel : Nat} {listed : Array Bool} {a : Act} {w : World}
theorem qTk (i : Nat) {oi : Oper} {v : Value} (hS : S w) (hv : ∀ w, S w → (execOp a.eval oi).run P w = .ok (.value v) w) (h : wpAnyH P md ops Q S fuel (listed.setIfInBounds i true) (a.put oi.dst v) w)
 (hi : ops[i]? = some oi := by (simp only [List.getElem?_toArray, List.getElem?_cons_succ, List.getElem?_cons_zero]; rfl)) (hs : Region.noSelect ops = true := by kernel_rfl) (hf : Region.free md ops listed i = true := by kernel_rfl) (hr : (Region.ready md ops listed).contains i = true := by kernel_rfl)
 (hQ : ∀ c a w, Q (.panic c) (a.put oi.dst v) w → Q (.panic c) a w := by exact fun _ _ _ h => h) (hg : Region.wanted oi (yielded ops a.tmps) = true := by kernel_rfl) : wpAnyH P md ops Q S (fuel + 1) listed a w :=
 wpAnyH_take hi hs hf hr hQ (.inl ⟨hg, hv⟩) hS h
theorem qTs (i : Nat) {oi : Oper} (hS : S w) (h : wpAnyH P md ops Q S fuel (listed.setIfInBounds i true) (a.put oi.dst undef) w)
 (hi : ops[i]? = some oi := by (simp only [List.getElem?_toArray, List.getElem?_cons_succ, List.getElem?_cons_zero]; rfl)) (hs : Region.noSelect ops = true := by kernel_rfl) (hf : Region.free md ops listed i = true := by kernel_rfl) (hr : (Region.ready md ops listed).contains i = true := by kernel_rfl)
 (hQ : ∀ c a w, Q (.panic c) (a.put oi.dst undef) w → Q (.panic c) a w := by exact fun _ _ _ h => h) (hg : Region.wanted oi (yielded ops a.tmps) = false := by kernel_rfl) : wpAnyH P md ops Q S (fuel + 1) listed a w :=
 wpAnyH_take hi hs hf hr hQ (.inr ⟨hg, rfl⟩) hS h
theorem qTr1 (i1 : Nat) {o1 : Oper} (h1 : ∀ K' : Act → World → Prop, Shut (∀ a w, S w → (S w → wpAnyH P md ops Q S fuel (listed.setIfInBounds i1 true) a w) → K' a w) → if Region.wanted o1 (yielded ops a.tmps) = true then Oper.wp P o1 a w K' Q else K' (a.put o1.dst undef) w) (hr : Region.ready md ops listed = [i1] := by kernel_rfl) (g1 : ops[i1]? = some o1 := by (simp only [List.getElem?_toArray, List.getElem?_cons_succ, List.getElem?_cons_zero]; rfl)) : wpAnyH P md ops Q S (fuel + 1) listed a w :=
 wpAnyH_ready hr (by simp) (AllReadyH.cons g1 h1 AllReadyH.nil)
theorem qTr2 (i1 : Nat) (i2 : Nat) {o1 o2 : Oper} (h1 : ∀ K' : Act → World → Prop, Shut (∀ a w, S w → (S w → wpAnyH P md ops Q S fuel (listed.setIfInBounds i1 true) a w) → K' a w) → if Region.wanted o1 (yielded ops a.tmps) = true then Oper.wp P o1 a w K' Q else K' (a.put o1.dst undef) w) (h2 : ∀ K' : Act → World → Prop, Shut (∀ a w, S w → (S w → wpAnyH P md ops Q S fuel (listed.setIfInBounds i2 true) a w) → K' a w) → if Region.wanted o2 (yielded ops a.tmps) = true then Oper.wp P o2 a w K' Q else K' (a.put o2.dst undef) w) (hr : Region.ready md ops listed = [i1, i2] := by kernel_rfl) (g1 : ops[i1]? = some o1 := by (simp only [List.getElem?_toArray, List.getElem?_cons_succ, List.getElem?_cons_zero]; rfl)) (g2 : ops[i2]? = some o2 := by (simp only [List.getElem?_toArray, List.getElem?_cons_succ, List.getElem?_cons_zero]; rfl)) : wpAnyH P md ops Q S (fuel + 1) listed a w :=
 wpAnyH_ready hr (by simp) (AllReadyH.cons g1 h1 (AllReadyH.cons g2 h2 AllReadyH.nil))
theorem qTr3 (i1 : Nat) (i2 : Nat) (i3 : Nat) {o1 o2 o3 : Oper} (h1 : ∀ K' : Act → World → Prop, Shut (∀ a w, S w → (S w → wpAnyH P md ops Q S fuel (listed.setIfInBounds i1 true) a w) → K' a w) → if Region.wanted o1 (yielded ops a.tmps) = true then Oper.wp P o1 a w K' Q else K' (a.put o1.dst undef) w) (h2 : ∀ K' : Act → World → Prop, Shut (∀ a w, S w → (S w → wpAnyH P md ops Q S fuel (listed.setIfInBounds i2 true) a w) → K' a w) → if Region.wanted o2 (yielded ops a.tmps) = true then Oper.wp P o2 a w K' Q else K' (a.put o2.dst undef) w) (h3 : ∀ K' : Act → World → Prop, Shut (∀ a w, S w → (S w → wpAnyH P md ops Q S fuel (listed.setIfInBounds i3 true) a w) → K' a w) → if Region.wanted o3 (yielded ops a.tmps) = true then Oper.wp P o3 a w K' Q else K' (a.put o3.dst undef) w) (hr : Region.ready md ops listed = [i1, i2, i3] := by kernel_rfl) (g1 : ops[i1]? = some o1 := by (simp only [List.getElem?_toArray, List.getElem?_cons_succ, List.getElem?_cons_zero]; rfl)) (g2 : ops[i2]? = some o2 := by (simp only [List.getElem?_toArray, List.getElem?_cons_succ, List.getElem?_cons_zero]; rfl)) (g3 : ops[i3]? = some o3 := by (simp only [List.getElem?_toArray, List.getElem?_cons_succ, List.getElem?_cons_zero]; rfl)) : wpAnyH P md ops Q S (fuel + 1) listed a w :=
 wpAnyH_ready hr (by simp) (AllReadyH.cons g1 h1 (AllReadyH.cons g2 h2 (AllReadyH.cons g3 h3 AllReadyH.nil)))
end
end Go.Proofs.YteghhmomhlnccaaGreatDoor
namespace Go.Proofs.YteghhmomhlnccaaGreatDoor
open Go.RowKit
abbrev val (k n : Int) (s : ByteArray) : Value := .agg #[.int .i64 k, .int .i64 n, .string s]
theorem cellsVal : Tryz.prog.cellsOf 23 = 3 := by kernel_rfl
theorem fieldsVal : Tryz.prog.underlying 23 = some (.struct (Tryz.prog.fieldsOf 23)) := by kernel_rfl
theorem heldVal : Tryz.prog.stoodInHeld 23 = false := by kernel_rfl
def same (k n : Int) (s : ByteArray) (k' n' : Int) (s' : ByteArray) : Bool := k == k' && n == n' && s.toList == s'.toList
theorem same_iff {k n : Int} {s : ByteArray} {k' n' : Int} {s' : ByteArray} : same k n s k' n' s' = true ↔ k = k' ∧ n = n' ∧ s.toList = s'.toList := by
 simp [same, and_assoc]
theorem eqFieldsVal (k n : Int) (s : ByteArray) (k' n' : Int) (s' : ByteArray) (w : World) :
  (Op.eqFields 9999 #[.int .i64 k, .int .i64 n, .string s] #[.int .i64 k', .int .i64 n', .string s'] (Tryz.prog.fieldsOf 23).toList).run Tryz.prog w = .ok (same k n s k' n' s') w := by
 simp only [Program.fieldsOf, Tryz.underlying23]
 by_cases h1 : k = k'
 ·by_cases h2 : n = n'
  ·by_cases h3 : s.toList = s'.toList <;> simp [go_sem, h1, h2, h3, same, Op.eqFields, Tryz.underlying3, Tryz.underlying2, Tryz.underlying9]
  ·simp [go_sem, h1, h2, same, Op.eqFields, Tryz.underlying3, Tryz.underlying2]
 ·simp [go_sem, h1, same, Op.eqFields, Tryz.underlying3]
theorem eqVal (k n : Int) (s : ByteArray) (k' n' : Int) (s' : ByteArray) (w : World) :
  (binOp .eql 23 (val k n s) (val k' n' s')).run Tryz.prog w = .ok (.bool (same k n s k' n' s')) w := by
 rw [run_eql_struct, run_equalIn_struct w 9999 _ _ _ fieldsVal heldVal, eqFieldsVal]
 rfl
theorem neqVal (k n : Int) (s : ByteArray) (k' n' : Int) (s' : ByteArray) (w : World) :
  (binOp .neq 23 (val k n s) (val k' n' s')).run Tryz.prog w = .ok (.bool (!same k n s k' n' s')) w := by
 rw [run_neq_struct, run_equalIn_struct w 9999 _ _ _ fieldsVal heldVal, eqFieldsVal]
 rfl
theorem takeAt {P : Program} {ops : Array Oper} {Q : Exit → Act → World → Prop} {md : Region.Mode} {S : World → Prop} (i d : Nat) {oi : Oper} {v : Value} {fuel : Nat} {listed : Array Bool} {a : Act} {w : World}
  (hi : ops[i]? = some oi) (hd : oi.dst = some d) (hs : Region.noSelect ops = true) (hf : Region.free md ops listed i = true) (hr : (Region.ready md ops listed).contains i = true)
  (hQ : ∀ c a w, Q (.panic c) (a.put oi.dst v) w → Q (.panic c) a w) (hy : YieldsIf P ops S oi v a) (hS : S w)
  (h : wpAnyH P md ops Q S fuel (listed.setIfInBounds i true) (a.put (some d) v) w) : wpAnyH P md ops Q S (fuel + 1) listed a w :=
 wpAnyH_take hi hs hf hr hQ hy hS (by rw [hd]; exact h)
theorem bstep {a b c : World} (h : Below a.heap.size a b) (k : Below b.heap.size b c) : Below a.heap.size a c := h.trans (k.mono h.size)
theorem alloc_size (w : World) (o : Obj) : (w.alloc o).heap.size = w.heap.size + 1 := by simp
def Holds3 (w : World) (g : Nat) (k n : Int) (s : ByteArray) : Prop := w.cell? ⟨g, 0, none⟩ = some (.int .i64 k) ∧ w.cell? ⟨g, 1, none⟩ = some (.int .i64 n) ∧ w.cell? ⟨g, 2, none⟩ = some (.string s)
theorem Holds3.lt {w : World} {g : Nat} {k n : Int} {s : ByteArray} (h : Holds3 w g k n s) : g < w.heap.size := World.block_lt_of_cell? w _ h.1
theorem Holds3.below {w w1 : World} {g : Nat} {k n : Int} {s : ByteArray} {B : Nat} (h : Holds3 w g k n s) (hb : Below B w w1) (hg : g < B) : Holds3 w1 g k n s :=
 ⟨(hb.cell (p := ⟨g, 0, none⟩) hg).trans h.1, (hb.cell (p := ⟨g, 1, none⟩) hg).trans h.2.1, (hb.cell (p := ⟨g, 2, none⟩) hg).trans h.2.2⟩
theorem Holds3.new (w : World) (k n : Int) (s : ByteArray) (t : TypeId) : Holds3 (w.alloc (.cells #[.int .i64 k, .int .i64 n, .string s] t)) w.heap.size k n s := by
 refine ⟨?_, ?_, ?_⟩ <;> simp [go_sem]
theorem Holds3.alloc {w : World} {g : Nat} {k n : Int} {s : ByteArray} (h : Holds3 w g k n s) (o : Obj) : Holds3 (w.alloc o) g k n s :=
 ⟨(World.cell?_alloc_lt w o _ h.lt).trans h.1, (World.cell?_alloc_lt w o _ h.lt).trans h.2.1, (World.cell?_alloc_lt w o _ h.lt).trans h.2.2⟩
end Go.Proofs.YteghhmomhlnccaaGreatDoor
namespace Go.Proofs.YteghhmomhlnccaaGreatDoor
open Go.RowKit
theorem null_any (w : World) : Calls Tryz.prog 26 #[] w fun e w' => e = .returned (val 0 0 ⟨#[]⟩) ∧ Below w.heap.size w w' := by
 go_enter Tryz.func26, Tryz.ntmps26
 go_wp2
 exact bodyPost_ret (v := val 0 0 ⟨#[]⟩) (by simp [results, Tryz.results26, go_sem]) rfl ⟨rfl, (Below.refl _ _).alloc (Nat.le_refl _) _⟩
theorem int_any (n : Int) (w : World) : Calls Tryz.prog 63 #[.int .i64 n] w fun e w' => e = .returned (val 1 n ⟨#[]⟩) ∧ Below w.heap.size w w' := by
 go_enter Tryz.func63, Tryz.ntmps63
 go_wp2
 exact bodyPost_ret (v := val 1 n ⟨#[]⟩) (by simp [results, Tryz.results63, go_sem]) rfl ⟨rfl, (Below.refl _ _).alloc (Nat.le_refl _) _⟩
def bit (b : Bool) : Int := if b then 1 else 0
theorem bool_true (w : World) : Calls Tryz.prog 29 #[.bool true] w fun e w' => e = .returned (val 3 1 ⟨#[]⟩) ∧ Below w.heap.size w w' := by
 go_enter Tryz.func29, Tryz.ntmps29
 go_wp2
 exact bodyPost_ret (v := val 3 1 ⟨#[]⟩) (by simp [results, Tryz.results29, go_sem]) rfl ⟨rfl, ((Below.refl _ _).alloc (Nat.le_refl _) _).alloc (by simp) _⟩
theorem bool_false (w : World) : Calls Tryz.prog 29 #[.bool false] w fun e w' => e = .returned (val 3 0 ⟨#[]⟩) ∧ Below w.heap.size w w' := by
 go_enter Tryz.func29, Tryz.ntmps29
 go_wp2
 exact bodyPost_ret (v := val 3 0 ⟨#[]⟩) (by simp [results, Tryz.results29, go_sem]) rfl ⟨rfl, ((Below.refl _ _).alloc (Nat.le_refl _) _).alloc (by simp) _⟩
theorem bool_any (b : Bool) (w : World) : Calls Tryz.prog 29 #[.bool b] w fun e w' => e = .returned (val 3 (bit b) ⟨#[]⟩) ∧ Below w.heap.size w w' := by
 cases b
 ·exact bool_false w
 ·exact bool_true w
theorem text_small (s : ByteArray) (w : World) (h : s.size ≤ 200) : Calls Tryz.prog 64 #[.string s] w fun e w' => e = .returned (val 2 0 s) ∧ Below w.heap.size w w' := by
 go_enter Tryz.func64, Tryz.ntmps64
 go_wp2
 exact bodyPost_ret (v := val 2 0 s) (by simp [results, Tryz.results64, go_sem]) rfl ⟨rfl, (Below.refl _ _).alloc (Nat.le_refl _) _⟩
theorem text_long (s : ByteArray) (w : World) (hs : s.size ≤ 9223372036854775807) (h : 200 < s.size) : Calls Tryz.prog 64 #[.string s] w fun e w' => e = .returned (val 2 0 (s.extract 0 200)) ∧ Below w.heap.size w w' := by
 go_enter Tryz.func64, Tryz.ntmps64
 go_wp2
 exact bodyPost_ret (v := val 2 0 (s.extract 0 200)) (by simp [results, Tryz.results64, go_sem]) rfl ⟨rfl, (Below.refl _ _).alloc (Nat.le_refl _) _⟩
def cut (s : ByteArray) : ByteArray := if s.size ≤ 200 then s else s.extract 0 200
theorem cut_small {s : ByteArray} (h : s.size ≤ 200) : cut s = s := if_pos h
theorem cut_size (s : ByteArray) : (cut s).size ≤ 200 := by
 unfold cut
 split
 ·assumption
 ·simp; omega
theorem text_any (s : ByteArray) (w : World) (hs : s.size ≤ 9223372036854775807) : Calls Tryz.prog 64 #[.string s] w fun e w' => e = .returned (val 2 0 (cut s)) ∧ Below w.heap.size w w' := by
 unfold cut
 split
 ·exact text_small s w (by assumption)
 ·exact text_long s w hs (by omega)
def plainB (k n : Int) (s : ByteArray) : Bool := same k n s 0 0 ⟨#[]⟩ || same k n s 1 n ⟨#[]⟩ || same k n s 2 0 (cut s) || same k n s 3 (bit (n == 1)) ⟨#[]⟩
end Go.Proofs.YteghhmomhlnccaaGreatDoor
namespace Go.Proofs.YteghhmomhlnccaaGreatDoor
open Go.RowKit
attribute [local go_sem ↓] eqVal neqVal
set_option maxRecDepth 100000 in
set_option maxHeartbeats 1000000 in
theorem plain_null (k n : Int) (s : ByteArray) (w : World) (hs : s.size ≤ 9223372036854775807) (h1 : same k n s 0 0 ⟨#[]⟩ = true) :
  Calls Tryz.prog 33 #[val k n s] w fun e w' => e = .returned (.bool true) ∧ Below w.heap.size w w' := by
 go_enter Tryz.func33, Tryz.ntmps33
 go_wp2
 refine wp_region_held_drew (S := fun w' => w'.cell? ⟨w.heap.size, 0, none⟩ = some (.int .i64 k) ∧ w'.cell? ⟨w.heap.size, 1, none⟩ = some (.int .i64 n) ∧ w'.cell? ⟨w.heap.size, 2, none⟩ = some (.string s)) (by kernel_rfl) ?_ (fun hHeld => ?_)
 ·exact Holds3.new w k n s _
 have b0 : Below w.heap.size w (w.alloc (.cells #[.int .i64 k, .int .i64 n, .string s] 23)).drew := ((Below.refl _ _).alloc (Nat.le_refl _) _).drew
 refine takeAt 0 3 (v := ?_) rfl (by kernel_rfl) (by kernel_rfl) (by kernel_rfl) (by kernel_rfl) (fun _ _ _ h => h) (Or.inl ⟨by kernel_rfl, ?_⟩) (by assumption) ?_
 rotate_left
 ·(intro w hSw; (try dsimp only at hSw); go_simp; try with_reducible rfl)
 refine wpAnyH_ready (rs := [1]) (by kernel_rfl) (by simp) ?_
 refine AllReadyH.cons rfl (fun K hK => ?_) AllReadyH.nil
 go_simp
 (go_at_call 26; refine (null_any _).mono ?_; rintro e w1 ⟨rfl, hb1⟩)
 refine hK.out _ _ ?_ (fun hHeld => ?_)
 ·exact Holds3.below (w := _) hHeld hb1 (Holds3.lt (w := _) hHeld)
 clear hK K
 have b1 := bstep b0 hb1
 clear hb1
 refine takeAt 2 5 (v := ?_) rfl (by kernel_rfl) (by kernel_rfl) (by kernel_rfl) (by kernel_rfl) (fun _ _ _ h => h) (Or.inl ⟨by kernel_rfl, ?_⟩) (by assumption) ?_
 rotate_left
 ·(intro w hSw; (try dsimp only at hSw); go_simp; try with_reducible rfl)
 refine takeAt 3 6 (v := ?_) rfl (by kernel_rfl) (by kernel_rfl) (by kernel_rfl) (by kernel_rfl) (fun _ _ _ h => h) (Or.inl ⟨by kernel_rfl, ?_⟩) (by assumption) ?_
 rotate_left
 ·(intro w hSw; (try dsimp only at hSw); go_simp; try with_reducible rfl)
 refine takeAt 4 7 (v := undef) rfl (by kernel_rfl) (by kernel_rfl) (by kernel_rfl) (by kernel_rfl) (fun _ _ _ h => h) (Or.inr ⟨by kernel_rfl, rfl⟩) (by assumption) ?_
 refine takeAt 5 8 (v := undef) rfl (by kernel_rfl) (by kernel_rfl) (by kernel_rfl) (by kernel_rfl) (fun _ _ _ h => h) (Or.inr ⟨by kernel_rfl, rfl⟩) (by assumption) ?_
 refine takeAt 6 9 (v := undef) rfl (by kernel_rfl) (by kernel_rfl) (by kernel_rfl) (by kernel_rfl) (fun _ _ _ h => h) (Or.inr ⟨by kernel_rfl, rfl⟩) (by assumption) ?_
 refine takeAt 7 10 (v := undef) rfl (by kernel_rfl) (by kernel_rfl) (by kernel_rfl) (by kernel_rfl) (fun _ _ _ h => h) (Or.inr ⟨by kernel_rfl, rfl⟩) (by assumption) ?_
 refine takeAt 8 11 (v := undef) rfl (by kernel_rfl) (by kernel_rfl) (by kernel_rfl) (by kernel_rfl) (fun _ _ _ h => h) (Or.inr ⟨by kernel_rfl, rfl⟩) (by assumption) ?_
 refine takeAt 9 12 (v := ?_) rfl (by kernel_rfl) (by kernel_rfl) (by kernel_rfl) (by kernel_rfl) (fun _ _ _ h => h) (Or.inl ⟨by kernel_rfl, ?_⟩) (by assumption) ?_
 rotate_left
 ·(intro w hSw; (try dsimp only at hSw); go_simp; try with_reducible rfl)
 refine takeAt 10 13 (v := ?_) rfl (by kernel_rfl) (by kernel_rfl) (by kernel_rfl) (by kernel_rfl) (fun _ _ _ h => h) (Or.inl ⟨by kernel_rfl, ?_⟩) (by assumption) ?_
 rotate_left
 ·(intro w hSw; (try dsimp only at hSw); go_simp; try with_reducible rfl)
 refine takeAt 11 14 (v := undef) rfl (by kernel_rfl) (by kernel_rfl) (by kernel_rfl) (by kernel_rfl) (fun _ _ _ h => h) (Or.inr ⟨by kernel_rfl, rfl⟩) (by assumption) ?_
 refine takeAt 12 15 (v := undef) rfl (by kernel_rfl) (by kernel_rfl) (by kernel_rfl) (by kernel_rfl) (fun _ _ _ h => h) (Or.inr ⟨by kernel_rfl, rfl⟩) (by assumption) ?_
 refine takeAt 13 16 (v := undef) rfl (by kernel_rfl) (by kernel_rfl) (by kernel_rfl) (by kernel_rfl) (fun _ _ _ h => h) (Or.inr ⟨by kernel_rfl, rfl⟩) (by assumption) ?_
 refine takeAt 14 17 (v := undef) rfl (by kernel_rfl) (by kernel_rfl) (by kernel_rfl) (by kernel_rfl) (fun _ _ _ h => h) (Or.inr ⟨by kernel_rfl, rfl⟩) (by assumption) ?_
 refine takeAt 15 18 (v := undef) rfl (by kernel_rfl) (by kernel_rfl) (by kernel_rfl) (by kernel_rfl) (fun _ _ _ h => h) (Or.inr ⟨by kernel_rfl, rfl⟩) (by assumption) ?_
 refine takeAt 16 19 (v := ?_) rfl (by kernel_rfl) (by kernel_rfl) (by kernel_rfl) (by kernel_rfl) (fun _ _ _ h => h) (Or.inl ⟨by kernel_rfl, ?_⟩) (by assumption) ?_
 rotate_left
 ·(intro w hSw; (try dsimp only at hSw); go_simp; try with_reducible rfl)
 refine takeAt 17 20 (v := ?_) rfl (by kernel_rfl) (by kernel_rfl) (by kernel_rfl) (by kernel_rfl) (fun _ _ _ h => h) (Or.inl ⟨by kernel_rfl, ?_⟩) (by assumption) ?_
 rotate_left
 ·(intro w hSw; (try dsimp only at hSw); go_simp; try with_reducible rfl)
 refine takeAt 18 21 (v := undef) rfl (by kernel_rfl) (by kernel_rfl) (by kernel_rfl) (by kernel_rfl) (fun _ _ _ h => h) (Or.inr ⟨by kernel_rfl, rfl⟩) (by assumption) ?_
 refine takeAt 19 22 (v := undef) rfl (by kernel_rfl) (by kernel_rfl) (by kernel_rfl) (by kernel_rfl) (fun _ _ _ h => h) (Or.inr ⟨by kernel_rfl, rfl⟩) (by assumption) ?_
 refine takeAt 20 23 (v := undef) rfl (by kernel_rfl) (by kernel_rfl) (by kernel_rfl) (by kernel_rfl) (fun _ _ _ h => h) (Or.inr ⟨by kernel_rfl, rfl⟩) (by assumption) ?_
 refine takeAt 21 24 (v := undef) rfl (by kernel_rfl) (by kernel_rfl) (by kernel_rfl) (by kernel_rfl) (fun _ _ _ h => h) (Or.inr ⟨by kernel_rfl, rfl⟩) (by assumption) ?_
 refine takeAt 22 25 (v := undef) rfl (by kernel_rfl) (by kernel_rfl) (by kernel_rfl) (by kernel_rfl) (fun _ _ _ h => h) (Or.inr ⟨by kernel_rfl, rfl⟩) (by assumption) ?_
 refine takeAt 23 26 (v := undef) rfl (by kernel_rfl) (by kernel_rfl) (by kernel_rfl) (by kernel_rfl) (fun _ _ _ h => h) (Or.inr ⟨by kernel_rfl, rfl⟩) (by assumption) ?_
 refine takeAt 24 27 (v := ?_) rfl (by kernel_rfl) (by kernel_rfl) (by kernel_rfl) (by kernel_rfl) (fun _ _ _ h => h) (Or.inl ⟨by kernel_rfl, ?_⟩) (by assumption) ?_
 rotate_left
 ·(intro w hSw; (try dsimp only at hSw); go_simp; try with_reducible rfl)
 refine takeAt 25 2 (v := ?_) rfl (by kernel_rfl) (by kernel_rfl) (by kernel_rfl) (by kernel_rfl) (fun _ _ _ h => h) (Or.inl ⟨by kernel_rfl, ?_⟩) (by assumption) ?_
 rotate_left
 ·(intro w hSw; (try dsimp only at hSw); go_simp; try with_reducible rfl)
 refine wpAnyH_done (by kernel_rfl) ?_ _
 try simp only  [Act.put, List.setIfInBounds_toArray, List.set_cons_zero, List.set_cons_succ]
 go_wp2
 go_ret
 exact ⟨rfl, by assumption⟩
set_option maxRecDepth 100000 in
set_option maxHeartbeats 1000000 in
theorem plain_int (k n : Int) (s : ByteArray) (w : World) (hs : s.size ≤ 9223372036854775807) (h1 : same k n s 0 0 ⟨#[]⟩ = false) (h2 : same k n s 1 n ⟨#[]⟩ = true) :
  Calls Tryz.prog 33 #[val k n s] w fun e w' => e = .returned (.bool true) ∧ Below w.heap.size w w' := by
 go_enter Tryz.func33, Tryz.ntmps33
 go_wp2
 refine wp_region_held_drew (S := fun w' => w'.cell? ⟨w.heap.size, 0, none⟩ = some (.int .i64 k) ∧ w'.cell? ⟨w.heap.size, 1, none⟩ = some (.int .i64 n) ∧ w'.cell? ⟨w.heap.size, 2, none⟩ = some (.string s)) (by kernel_rfl) ?_ (fun hHeld => ?_)
 ·exact Holds3.new w k n s _
 have b0 : Below w.heap.size w (w.alloc (.cells #[.int .i64 k, .int .i64 n, .string s] 23)).drew := ((Below.refl _ _).alloc (Nat.le_refl _) _).drew
 refine takeAt 0 3 (v := ?_) rfl (by kernel_rfl) (by kernel_rfl) (by kernel_rfl) (by kernel_rfl) (fun _ _ _ h => h) (Or.inl ⟨by kernel_rfl, ?_⟩) (by assumption) ?_
 rotate_left
 ·(intro w hSw; (try dsimp only at hSw); go_simp; try with_reducible rfl)
 refine wpAnyH_ready (rs := [1]) (by kernel_rfl) (by simp) ?_
 refine AllReadyH.cons rfl (fun K hK => ?_) AllReadyH.nil
 go_simp
 (go_at_call 26; refine (null_any _).mono ?_; rintro e w1 ⟨rfl, hb1⟩)
 refine hK.out _ _ ?_ (fun hHeld => ?_)
 ·exact Holds3.below (w := _) hHeld hb1 (Holds3.lt (w := _) hHeld)
 clear hK K
 have b1 := bstep b0 hb1
 clear hb1
 refine takeAt 2 5 (v := ?_) rfl (by kernel_rfl) (by kernel_rfl) (by kernel_rfl) (by kernel_rfl) (fun _ _ _ h => h) (Or.inl ⟨by kernel_rfl, ?_⟩) (by assumption) ?_
 rotate_left
 ·(intro w hSw; (try dsimp only at hSw); go_simp; try with_reducible rfl)
 refine takeAt 3 6 (v := ?_) rfl (by kernel_rfl) (by kernel_rfl) (by kernel_rfl) (by kernel_rfl) (fun _ _ _ h => h) (Or.inl ⟨by kernel_rfl, ?_⟩) (by assumption) ?_
 rotate_left
 ·(intro w hSw; (try dsimp only at hSw); go_simp; try with_reducible rfl)
 refine takeAt 4 7 (v := ?_) rfl (by kernel_rfl) (by kernel_rfl) (by kernel_rfl) (by kernel_rfl) (fun _ _ _ h => h) (Or.inl ⟨by kernel_rfl, ?_⟩) (by assumption) ?_
 rotate_left
 ·(intro w hSw; (try dsimp only at hSw); go_simp; try with_reducible rfl)
 refine takeAt 5 8 (v := ?_) rfl (by kernel_rfl) (by kernel_rfl) (by kernel_rfl) (by kernel_rfl) (fun _ _ _ h => h) (Or.inl ⟨by kernel_rfl, ?_⟩) (by assumption) ?_
 rotate_left
 ·(intro w hSw; (try dsimp only at hSw); go_simp; try with_reducible rfl)
 refine takeAt 6 9 (v := ?_) rfl (by kernel_rfl) (by kernel_rfl) (by kernel_rfl) (by kernel_rfl) (fun _ _ _ h => h) (Or.inl ⟨by kernel_rfl, ?_⟩) (by assumption) ?_
 rotate_left
 ·(intro w hSw; (try dsimp only at hSw); go_simp; try with_reducible rfl)
 refine wpAnyH_ready (rs := [7]) (by kernel_rfl) (by simp) ?_
 refine AllReadyH.cons rfl (fun K hK => ?_) AllReadyH.nil
 go_simp
 (go_at_call 63; refine (int_any _ _).mono ?_; rintro e w2 ⟨rfl, hb2⟩)
 refine hK.out _ _ ?_ (fun hHeld => ?_)
 ·exact Holds3.below (w := _) hHeld hb2 (Holds3.lt (w := _) hHeld)
 clear hK K
 have b2 := bstep b1 hb2
 clear hb2
 refine takeAt 8 11 (v := ?_) rfl (by kernel_rfl) (by kernel_rfl) (by kernel_rfl) (by kernel_rfl) (fun _ _ _ h => h) (Or.inl ⟨by kernel_rfl, ?_⟩) (by assumption) ?_
 rotate_left
 ·(intro w hSw; (try dsimp only at hSw); go_simp; try with_reducible rfl)
 refine takeAt 9 12 (v := ?_) rfl (by kernel_rfl) (by kernel_rfl) (by kernel_rfl) (by kernel_rfl) (fun _ _ _ h => h) (Or.inl ⟨by kernel_rfl, ?_⟩) (by assumption) ?_
 rotate_left
 ·(intro w hSw; (try dsimp only at hSw); go_simp; try with_reducible rfl)
 refine takeAt 10 13 (v := ?_) rfl (by kernel_rfl) (by kernel_rfl) (by kernel_rfl) (by kernel_rfl) (fun _ _ _ h => h) (Or.inl ⟨by kernel_rfl, ?_⟩) (by assumption) ?_
 rotate_left
 ·(intro w hSw; (try dsimp only at hSw); go_simp; try with_reducible rfl)
 refine takeAt 11 14 (v := undef) rfl (by kernel_rfl) (by kernel_rfl) (by kernel_rfl) (by kernel_rfl) (fun _ _ _ h => h) (Or.inr ⟨by kernel_rfl, rfl⟩) (by assumption) ?_
 refine takeAt 12 15 (v := undef) rfl (by kernel_rfl) (by kernel_rfl) (by kernel_rfl) (by kernel_rfl) (fun _ _ _ h => h) (Or.inr ⟨by kernel_rfl, rfl⟩) (by assumption) ?_
 refine takeAt 13 16 (v := undef) rfl (by kernel_rfl) (by kernel_rfl) (by kernel_rfl) (by kernel_rfl) (fun _ _ _ h => h) (Or.inr ⟨by kernel_rfl, rfl⟩) (by assumption) ?_
 refine takeAt 14 17 (v := undef) rfl (by kernel_rfl) (by kernel_rfl) (by kernel_rfl) (by kernel_rfl) (fun _ _ _ h => h) (Or.inr ⟨by kernel_rfl, rfl⟩) (by assumption) ?_
 refine takeAt 15 18 (v := undef) rfl (by kernel_rfl) (by kernel_rfl) (by kernel_rfl) (by kernel_rfl) (fun _ _ _ h => h) (Or.inr ⟨by kernel_rfl, rfl⟩) (by assumption) ?_
 refine takeAt 16 19 (v := ?_) rfl (by kernel_rfl) (by kernel_rfl) (by kernel_rfl) (by kernel_rfl) (fun _ _ _ h => h) (Or.inl ⟨by kernel_rfl, ?_⟩) (by assumption) ?_
 rotate_left
 ·(intro w hSw; (try dsimp only at hSw); go_simp; try with_reducible rfl)
 refine takeAt 17 20 (v := ?_) rfl (by kernel_rfl) (by kernel_rfl) (by kernel_rfl) (by kernel_rfl) (fun _ _ _ h => h) (Or.inl ⟨by kernel_rfl, ?_⟩) (by assumption) ?_
 rotate_left
 ·(intro w hSw; (try dsimp only at hSw); go_simp; try with_reducible rfl)
 refine takeAt 18 21 (v := undef) rfl (by kernel_rfl) (by kernel_rfl) (by kernel_rfl) (by kernel_rfl) (fun _ _ _ h => h) (Or.inr ⟨by kernel_rfl, rfl⟩) (by assumption) ?_
 refine takeAt 19 22 (v := undef) rfl (by kernel_rfl) (by kernel_rfl) (by kernel_rfl) (by kernel_rfl) (fun _ _ _ h => h) (Or.inr ⟨by kernel_rfl, rfl⟩) (by assumption) ?_
 refine takeAt 20 23 (v := undef) rfl (by kernel_rfl) (by kernel_rfl) (by kernel_rfl) (by kernel_rfl) (fun _ _ _ h => h) (Or.inr ⟨by kernel_rfl, rfl⟩) (by assumption) ?_
 refine takeAt 21 24 (v := undef) rfl (by kernel_rfl) (by kernel_rfl) (by kernel_rfl) (by kernel_rfl) (fun _ _ _ h => h) (Or.inr ⟨by kernel_rfl, rfl⟩) (by assumption) ?_
 refine takeAt 22 25 (v := undef) rfl (by kernel_rfl) (by kernel_rfl) (by kernel_rfl) (by kernel_rfl) (fun _ _ _ h => h) (Or.inr ⟨by kernel_rfl, rfl⟩) (by assumption) ?_
 refine takeAt 23 26 (v := undef) rfl (by kernel_rfl) (by kernel_rfl) (by kernel_rfl) (by kernel_rfl) (fun _ _ _ h => h) (Or.inr ⟨by kernel_rfl, rfl⟩) (by assumption) ?_
 refine takeAt 24 27 (v := ?_) rfl (by kernel_rfl) (by kernel_rfl) (by kernel_rfl) (by kernel_rfl) (fun _ _ _ h => h) (Or.inl ⟨by kernel_rfl, ?_⟩) (by assumption) ?_
 rotate_left
 ·(intro w hSw; (try dsimp only at hSw); go_simp; try with_reducible rfl)
 refine takeAt 25 2 (v := ?_) rfl (by kernel_rfl) (by kernel_rfl) (by kernel_rfl) (by kernel_rfl) (fun _ _ _ h => h) (Or.inl ⟨by kernel_rfl, ?_⟩) (by assumption) ?_
 rotate_left
 ·(intro w hSw; (try dsimp only at hSw); go_simp; try with_reducible rfl)
 refine wpAnyH_done (by kernel_rfl) ?_ _
 try simp only  [Act.put, List.setIfInBounds_toArray, List.set_cons_zero, List.set_cons_succ]
 go_wp2
 go_ret
 exact ⟨rfl, by assumption⟩
set_option maxRecDepth 100000 in
set_option maxHeartbeats 1000000 in
theorem plain_text (k n : Int) (s : ByteArray) (w : World) (hs : s.size ≤ 9223372036854775807) (h1 : same k n s 0 0 ⟨#[]⟩ = false) (h2 : same k n s 1 n ⟨#[]⟩ = false) (h3 : same k n s 2 0 (cut s) = true) :
  Calls Tryz.prog 33 #[val k n s] w fun e w' => e = .returned (.bool true) ∧ Below w.heap.size w w' := by
 go_enter Tryz.func33, Tryz.ntmps33
 go_wp2
 refine wp_region_held_drew (S := fun w' => w'.cell? ⟨w.heap.size, 0, none⟩ = some (.int .i64 k) ∧ w'.cell? ⟨w.heap.size, 1, none⟩ = some (.int .i64 n) ∧ w'.cell? ⟨w.heap.size, 2, none⟩ = some (.string s)) (by kernel_rfl) ?_ (fun hHeld => ?_)
 ·exact Holds3.new w k n s _
 have b0 : Below w.heap.size w (w.alloc (.cells #[.int .i64 k, .int .i64 n, .string s] 23)).drew := ((Below.refl _ _).alloc (Nat.le_refl _) _).drew
 refine takeAt 0 3 (v := ?_) rfl (by kernel_rfl) (by kernel_rfl) (by kernel_rfl) (by kernel_rfl) (fun _ _ _ h => h) (Or.inl ⟨by kernel_rfl, ?_⟩) (by assumption) ?_
 rotate_left
 ·(intro w hSw; (try dsimp only at hSw); go_simp; try with_reducible rfl)
 refine wpAnyH_ready (rs := [1]) (by kernel_rfl) (by simp) ?_
 refine AllReadyH.cons rfl (fun K hK => ?_) AllReadyH.nil
 go_simp
 (go_at_call 26; refine (null_any _).mono ?_; rintro e w1 ⟨rfl, hb1⟩)
 refine hK.out _ _ ?_ (fun hHeld => ?_)
 ·exact Holds3.below (w := _) hHeld hb1 (Holds3.lt (w := _) hHeld)
 clear hK K
 have b1 := bstep b0 hb1
 clear hb1
 refine takeAt 2 5 (v := ?_) rfl (by kernel_rfl) (by kernel_rfl) (by kernel_rfl) (by kernel_rfl) (fun _ _ _ h => h) (Or.inl ⟨by kernel_rfl, ?_⟩) (by assumption) ?_
 rotate_left
 ·(intro w hSw; (try dsimp only at hSw); go_simp; try with_reducible rfl)
 refine takeAt 3 6 (v := ?_) rfl (by kernel_rfl) (by kernel_rfl) (by kernel_rfl) (by kernel_rfl) (fun _ _ _ h => h) (Or.inl ⟨by kernel_rfl, ?_⟩) (by assumption) ?_
 rotate_left
 ·(intro w hSw; (try dsimp only at hSw); go_simp; try with_reducible rfl)
 refine takeAt 4 7 (v := ?_) rfl (by kernel_rfl) (by kernel_rfl) (by kernel_rfl) (by kernel_rfl) (fun _ _ _ h => h) (Or.inl ⟨by kernel_rfl, ?_⟩) (by assumption) ?_
 rotate_left
 ·(intro w hSw; (try dsimp only at hSw); go_simp; try with_reducible rfl)
 refine takeAt 5 8 (v := ?_) rfl (by kernel_rfl) (by kernel_rfl) (by kernel_rfl) (by kernel_rfl) (fun _ _ _ h => h) (Or.inl ⟨by kernel_rfl, ?_⟩) (by assumption) ?_
 rotate_left
 ·(intro w hSw; (try dsimp only at hSw); go_simp; try with_reducible rfl)
 refine takeAt 6 9 (v := ?_) rfl (by kernel_rfl) (by kernel_rfl) (by kernel_rfl) (by kernel_rfl) (fun _ _ _ h => h) (Or.inl ⟨by kernel_rfl, ?_⟩) (by assumption) ?_
 rotate_left
 ·(intro w hSw; (try dsimp only at hSw); go_simp; try with_reducible rfl)
 refine wpAnyH_ready (rs := [7]) (by kernel_rfl) (by simp) ?_
 refine AllReadyH.cons rfl (fun K hK => ?_) AllReadyH.nil
 go_simp
 (go_at_call 63; refine (int_any _ _).mono ?_; rintro e w2 ⟨rfl, hb2⟩)
 refine hK.out _ _ ?_ (fun hHeld => ?_)
 ·exact Holds3.below (w := _) hHeld hb2 (Holds3.lt (w := _) hHeld)
 clear hK K
 have b2 := bstep b1 hb2
 clear hb2
 refine takeAt 8 11 (v := ?_) rfl (by kernel_rfl) (by kernel_rfl) (by kernel_rfl) (by kernel_rfl) (fun _ _ _ h => h) (Or.inl ⟨by kernel_rfl, ?_⟩) (by assumption) ?_
 rotate_left
 ·(intro w hSw; (try dsimp only at hSw); go_simp; try with_reducible rfl)
 refine takeAt 9 12 (v := ?_) rfl (by kernel_rfl) (by kernel_rfl) (by kernel_rfl) (by kernel_rfl) (fun _ _ _ h => h) (Or.inl ⟨by kernel_rfl, ?_⟩) (by assumption) ?_
 rotate_left
 ·(intro w hSw; (try dsimp only at hSw); go_simp; try with_reducible rfl)
 refine takeAt 10 13 (v := ?_) rfl (by kernel_rfl) (by kernel_rfl) (by kernel_rfl) (by kernel_rfl) (fun _ _ _ h => h) (Or.inl ⟨by kernel_rfl, ?_⟩) (by assumption) ?_
 rotate_left
 ·(intro w hSw; (try dsimp only at hSw); go_simp; try with_reducible rfl)
 refine takeAt 11 14 (v := ?_) rfl (by kernel_rfl) (by kernel_rfl) (by kernel_rfl) (by kernel_rfl) (fun _ _ _ h => h) (Or.inl ⟨by kernel_rfl, ?_⟩) (by assumption) ?_
 rotate_left
 ·(intro w hSw; (try dsimp only at hSw); go_simp; try with_reducible rfl)
 refine takeAt 12 15 (v := ?_) rfl (by kernel_rfl) (by kernel_rfl) (by kernel_rfl) (by kernel_rfl) (fun _ _ _ h => h) (Or.inl ⟨by kernel_rfl, ?_⟩) (by assumption) ?_
 rotate_left
 ·(intro w hSw; (try dsimp only at hSw); go_simp; try with_reducible rfl)
 refine takeAt 13 16 (v := ?_) rfl (by kernel_rfl) (by kernel_rfl) (by kernel_rfl) (by kernel_rfl) (fun _ _ _ h => h) (Or.inl ⟨by kernel_rfl, ?_⟩) (by assumption) ?_
 rotate_left
 ·(intro w hSw; (try dsimp only at hSw); go_simp; try with_reducible rfl)
 refine wpAnyH_ready (rs := [14]) (by kernel_rfl) (by simp) ?_
 refine AllReadyH.cons rfl (fun K hK => ?_) AllReadyH.nil
 go_simp
 (go_at_call 64; refine (text_any _ _ hs).mono ?_; rintro e w3 ⟨rfl, hb3⟩)
 refine hK.out _ _ ?_ (fun hHeld => ?_)
 ·exact Holds3.below (w := _) hHeld hb3 (Holds3.lt (w := _) hHeld)
 clear hK K
 have b3 := bstep b2 hb3
 clear hb3
 refine takeAt 15 18 (v := ?_) rfl (by kernel_rfl) (by kernel_rfl) (by kernel_rfl) (by kernel_rfl) (fun _ _ _ h => h) (Or.inl ⟨by kernel_rfl, ?_⟩) (by assumption) ?_
 rotate_left
 ·(intro w hSw; (try dsimp only at hSw); go_simp; try with_reducible rfl)
 refine takeAt 16 19 (v := ?_) rfl (by kernel_rfl) (by kernel_rfl) (by kernel_rfl) (by kernel_rfl) (fun _ _ _ h => h) (Or.inl ⟨by kernel_rfl, ?_⟩) (by assumption) ?_
 rotate_left
 ·(intro w hSw; (try dsimp only at hSw); go_simp; try with_reducible rfl)
 refine takeAt 17 20 (v := ?_) rfl (by kernel_rfl) (by kernel_rfl) (by kernel_rfl) (by kernel_rfl) (fun _ _ _ h => h) (Or.inl ⟨by kernel_rfl, ?_⟩) (by assumption) ?_
 rotate_left
 ·(intro w hSw; (try dsimp only at hSw); go_simp; try with_reducible rfl)
 refine takeAt 18 21 (v := undef) rfl (by kernel_rfl) (by kernel_rfl) (by kernel_rfl) (by kernel_rfl) (fun _ _ _ h => h) (Or.inr ⟨by kernel_rfl, rfl⟩) (by assumption) ?_
 refine takeAt 19 22 (v := undef) rfl (by kernel_rfl) (by kernel_rfl) (by kernel_rfl) (by kernel_rfl) (fun _ _ _ h => h) (Or.inr ⟨by kernel_rfl, rfl⟩) (by assumption) ?_
 refine takeAt 20 23 (v := undef) rfl (by kernel_rfl) (by kernel_rfl) (by kernel_rfl) (by kernel_rfl) (fun _ _ _ h => h) (Or.inr ⟨by kernel_rfl, rfl⟩) (by assumption) ?_
 refine takeAt 21 24 (v := undef) rfl (by kernel_rfl) (by kernel_rfl) (by kernel_rfl) (by kernel_rfl) (fun _ _ _ h => h) (Or.inr ⟨by kernel_rfl, rfl⟩) (by assumption) ?_
 refine takeAt 22 25 (v := undef) rfl (by kernel_rfl) (by kernel_rfl) (by kernel_rfl) (by kernel_rfl) (fun _ _ _ h => h) (Or.inr ⟨by kernel_rfl, rfl⟩) (by assumption) ?_
 refine takeAt 23 26 (v := undef) rfl (by kernel_rfl) (by kernel_rfl) (by kernel_rfl) (by kernel_rfl) (fun _ _ _ h => h) (Or.inr ⟨by kernel_rfl, rfl⟩) (by assumption) ?_
 refine takeAt 24 27 (v := ?_) rfl (by kernel_rfl) (by kernel_rfl) (by kernel_rfl) (by kernel_rfl) (fun _ _ _ h => h) (Or.inl ⟨by kernel_rfl, ?_⟩) (by assumption) ?_
 rotate_left
 ·(intro w hSw; (try dsimp only at hSw); go_simp; try with_reducible rfl)
 refine takeAt 25 2 (v := ?_) rfl (by kernel_rfl) (by kernel_rfl) (by kernel_rfl) (by kernel_rfl) (fun _ _ _ h => h) (Or.inl ⟨by kernel_rfl, ?_⟩) (by assumption) ?_
 rotate_left
 ·(intro w hSw; (try dsimp only at hSw); go_simp; try with_reducible rfl)
 refine wpAnyH_done (by kernel_rfl) ?_ _
 try simp only  [Act.put, List.setIfInBounds_toArray, List.set_cons_zero, List.set_cons_succ]
 go_wp2
 go_ret
 exact ⟨rfl, by assumption⟩
set_option maxRecDepth 100000 in
set_option maxHeartbeats 1000000 in
theorem plain_rest (k n : Int) (s : ByteArray) (w : World) (hs : s.size ≤ 9223372036854775807) (h1 : same k n s 0 0 ⟨#[]⟩ = false) (h2 : same k n s 1 n ⟨#[]⟩ = false) (h3 : same k n s 2 0 (cut s) = false) :
  Calls Tryz.prog 33 #[val k n s] w fun e w' => e = .returned (.bool (same k n s 3 (bit (n == 1)) ⟨#[]⟩)) ∧ Below w.heap.size w w' := by
 go_enter Tryz.func33, Tryz.ntmps33
 go_wp2
 refine wp_region_held_drew (S := fun w' => w'.cell? ⟨w.heap.size, 0, none⟩ = some (.int .i64 k) ∧ w'.cell? ⟨w.heap.size, 1, none⟩ = some (.int .i64 n) ∧ w'.cell? ⟨w.heap.size, 2, none⟩ = some (.string s)) (by kernel_rfl) ?_ (fun hHeld => ?_)
 ·exact Holds3.new w k n s _
 have b0 : Below w.heap.size w (w.alloc (.cells #[.int .i64 k, .int .i64 n, .string s] 23)).drew := ((Below.refl _ _).alloc (Nat.le_refl _) _).drew
 refine takeAt 0 3 (v := ?_) rfl (by kernel_rfl) (by kernel_rfl) (by kernel_rfl) (by kernel_rfl) (fun _ _ _ h => h) (Or.inl ⟨by kernel_rfl, ?_⟩) (by assumption) ?_
 rotate_left
 ·(intro w hSw; (try dsimp only at hSw); go_simp; try with_reducible rfl)
 refine wpAnyH_ready (rs := [1]) (by kernel_rfl) (by simp) ?_
 refine AllReadyH.cons rfl (fun K hK => ?_) AllReadyH.nil
 go_simp
 (go_at_call 26; refine (null_any _).mono ?_; rintro e w1 ⟨rfl, hb1⟩)
 refine hK.out _ _ ?_ (fun hHeld => ?_)
 ·exact Holds3.below (w := _) hHeld hb1 (Holds3.lt (w := _) hHeld)
 clear hK K
 have b1 := bstep b0 hb1
 clear hb1
 refine takeAt 2 5 (v := ?_) rfl (by kernel_rfl) (by kernel_rfl) (by kernel_rfl) (by kernel_rfl) (fun _ _ _ h => h) (Or.inl ⟨by kernel_rfl, ?_⟩) (by assumption) ?_
 rotate_left
 ·(intro w hSw; (try dsimp only at hSw); go_simp; try with_reducible rfl)
 refine takeAt 3 6 (v := ?_) rfl (by kernel_rfl) (by kernel_rfl) (by kernel_rfl) (by kernel_rfl) (fun _ _ _ h => h) (Or.inl ⟨by kernel_rfl, ?_⟩) (by assumption) ?_
 rotate_left
 ·(intro w hSw; (try dsimp only at hSw); go_simp; try with_reducible rfl)
 refine takeAt 4 7 (v := ?_) rfl (by kernel_rfl) (by kernel_rfl) (by kernel_rfl) (by kernel_rfl) (fun _ _ _ h => h) (Or.inl ⟨by kernel_rfl, ?_⟩) (by assumption) ?_
 rotate_left
 ·(intro w hSw; (try dsimp only at hSw); go_simp; try with_reducible rfl)
 refine takeAt 5 8 (v := ?_) rfl (by kernel_rfl) (by kernel_rfl) (by kernel_rfl) (by kernel_rfl) (fun _ _ _ h => h) (Or.inl ⟨by kernel_rfl, ?_⟩) (by assumption) ?_
 rotate_left
 ·(intro w hSw; (try dsimp only at hSw); go_simp; try with_reducible rfl)
 refine takeAt 6 9 (v := ?_) rfl (by kernel_rfl) (by kernel_rfl) (by kernel_rfl) (by kernel_rfl) (fun _ _ _ h => h) (Or.inl ⟨by kernel_rfl, ?_⟩) (by assumption) ?_
 rotate_left
 ·(intro w hSw; (try dsimp only at hSw); go_simp; try with_reducible rfl)
 refine wpAnyH_ready (rs := [7]) (by kernel_rfl) (by simp) ?_
 refine AllReadyH.cons rfl (fun K hK => ?_) AllReadyH.nil
 go_simp
 (go_at_call 63; refine (int_any _ _).mono ?_; rintro e w2 ⟨rfl, hb2⟩)
 refine hK.out _ _ ?_ (fun hHeld => ?_)
 ·exact Holds3.below (w := _) hHeld hb2 (Holds3.lt (w := _) hHeld)
 clear hK K
 have b2 := bstep b1 hb2
 clear hb2
 refine takeAt 8 11 (v := ?_) rfl (by kernel_rfl) (by kernel_rfl) (by kernel_rfl) (by kernel_rfl) (fun _ _ _ h => h) (Or.inl ⟨by kernel_rfl, ?_⟩) (by assumption) ?_
 rotate_left
 ·(intro w hSw; (try dsimp only at hSw); go_simp; try with_reducible rfl)
 refine takeAt 9 12 (v := ?_) rfl (by kernel_rfl) (by kernel_rfl) (by kernel_rfl) (by kernel_rfl) (fun _ _ _ h => h) (Or.inl ⟨by kernel_rfl, ?_⟩) (by assumption) ?_
 rotate_left
 ·(intro w hSw; (try dsimp only at hSw); go_simp; try with_reducible rfl)
 refine takeAt 10 13 (v := ?_) rfl (by kernel_rfl) (by kernel_rfl) (by kernel_rfl) (by kernel_rfl) (fun _ _ _ h => h) (Or.inl ⟨by kernel_rfl, ?_⟩) (by assumption) ?_
 rotate_left
 ·(intro w hSw; (try dsimp only at hSw); go_simp; try with_reducible rfl)
 refine takeAt 11 14 (v := ?_) rfl (by kernel_rfl) (by kernel_rfl) (by kernel_rfl) (by kernel_rfl) (fun _ _ _ h => h) (Or.inl ⟨by kernel_rfl, ?_⟩) (by assumption) ?_
 rotate_left
 ·(intro w hSw; (try dsimp only at hSw); go_simp; try with_reducible rfl)
 refine takeAt 12 15 (v := ?_) rfl (by kernel_rfl) (by kernel_rfl) (by kernel_rfl) (by kernel_rfl) (fun _ _ _ h => h) (Or.inl ⟨by kernel_rfl, ?_⟩) (by assumption) ?_
 rotate_left
 ·(intro w hSw; (try dsimp only at hSw); go_simp; try with_reducible rfl)
 refine takeAt 13 16 (v := ?_) rfl (by kernel_rfl) (by kernel_rfl) (by kernel_rfl) (by kernel_rfl) (fun _ _ _ h => h) (Or.inl ⟨by kernel_rfl, ?_⟩) (by assumption) ?_
 rotate_left
 ·(intro w hSw; (try dsimp only at hSw); go_simp; try with_reducible rfl)
 refine wpAnyH_ready (rs := [14]) (by kernel_rfl) (by simp) ?_
 refine AllReadyH.cons rfl (fun K hK => ?_) AllReadyH.nil
 go_simp
 (go_at_call 64; refine (text_any _ _ hs).mono ?_; rintro e w3 ⟨rfl, hb3⟩)
 refine hK.out _ _ ?_ (fun hHeld => ?_)
 ·exact Holds3.below (w := _) hHeld hb3 (Holds3.lt (w := _) hHeld)
 clear hK K
 have b3 := bstep b2 hb3
 clear hb3
 refine takeAt 15 18 (v := ?_) rfl (by kernel_rfl) (by kernel_rfl) (by kernel_rfl) (by kernel_rfl) (fun _ _ _ h => h) (Or.inl ⟨by kernel_rfl, ?_⟩) (by assumption) ?_
 rotate_left
 ·(intro w hSw; (try dsimp only at hSw); go_simp; try with_reducible rfl)
 refine takeAt 16 19 (v := ?_) rfl (by kernel_rfl) (by kernel_rfl) (by kernel_rfl) (by kernel_rfl) (fun _ _ _ h => h) (Or.inl ⟨by kernel_rfl, ?_⟩) (by assumption) ?_
 rotate_left
 ·(intro w hSw; (try dsimp only at hSw); go_simp; try with_reducible rfl)
 refine takeAt 17 20 (v := ?_) rfl (by kernel_rfl) (by kernel_rfl) (by kernel_rfl) (by kernel_rfl) (fun _ _ _ h => h) (Or.inl ⟨by kernel_rfl, ?_⟩) (by assumption) ?_
 rotate_left
 ·(intro w hSw; (try dsimp only at hSw); go_simp; try with_reducible rfl)
 refine takeAt 18 21 (v := ?_) rfl (by kernel_rfl) (by kernel_rfl) (by kernel_rfl) (by kernel_rfl) (fun _ _ _ h => h) (Or.inl ⟨by kernel_rfl, ?_⟩) (by assumption) ?_
 rotate_left
 ·(intro w hSw; (try dsimp only at hSw); go_simp; try with_reducible rfl)
 refine takeAt 19 22 (v := ?_) rfl (by kernel_rfl) (by kernel_rfl) (by kernel_rfl) (by kernel_rfl) (fun _ _ _ h => h) (Or.inl ⟨by kernel_rfl, ?_⟩) (by assumption) ?_
 rotate_left
 ·(intro w hSw; (try dsimp only at hSw); go_simp; try with_reducible rfl)
 refine takeAt 20 23 (v := ?_) rfl (by kernel_rfl) (by kernel_rfl) (by kernel_rfl) (by kernel_rfl) (fun _ _ _ h => h) (Or.inl ⟨by kernel_rfl, ?_⟩) (by assumption) ?_
 rotate_left
 ·(intro w hSw; (try dsimp only at hSw); go_simp; try with_reducible rfl)
 refine takeAt 21 24 (v := ?_) rfl (by kernel_rfl) (by kernel_rfl) (by kernel_rfl) (by kernel_rfl) (fun _ _ _ h => h) (Or.inl ⟨by kernel_rfl, ?_⟩) (by assumption) ?_
 rotate_left
 ·(intro w hSw; (try dsimp only at hSw); go_simp; try with_reducible rfl)
 refine wpAnyH_ready (rs := [22]) (by kernel_rfl) (by simp) ?_
 refine AllReadyH.cons rfl (fun K hK => ?_) AllReadyH.nil
 go_simp
 (go_at_call 29; refine (bool_any _ _).mono ?_; rintro e w4 ⟨rfl, hb4⟩)
 refine hK.out _ _ ?_ (fun hHeld => ?_)
 ·exact Holds3.below (w := _) hHeld hb4 (Holds3.lt (w := _) hHeld)
 clear hK K
 have b4 := bstep b3 hb4
 clear hb4
 refine takeAt 23 26 (v := ?_) rfl (by kernel_rfl) (by kernel_rfl) (by kernel_rfl) (by kernel_rfl) (fun _ _ _ h => h) (Or.inl ⟨by kernel_rfl, ?_⟩) (by assumption) ?_
 rotate_left
 ·(intro w hSw; (try dsimp only at hSw); go_simp; try with_reducible rfl)
 refine takeAt 24 27 (v := ?_) rfl (by kernel_rfl) (by kernel_rfl) (by kernel_rfl) (by kernel_rfl) (fun _ _ _ h => h) (Or.inl ⟨by kernel_rfl, ?_⟩) (by assumption) ?_
 rotate_left
 ·(intro w hSw; (try dsimp only at hSw); go_simp; try with_reducible rfl)
 refine takeAt 25 2 (v := ?_) rfl (by kernel_rfl) (by kernel_rfl) (by kernel_rfl) (by kernel_rfl) (fun _ _ _ h => h) (Or.inl ⟨by kernel_rfl, ?_⟩) (by assumption) ?_
 rotate_left
 ·(intro w hSw; (try dsimp only at hSw); go_simp; try with_reducible rfl)
 refine wpAnyH_done (by kernel_rfl) ?_ _
 try simp only  [Act.put, List.setIfInBounds_toArray, List.set_cons_zero, List.set_cons_succ]
 go_wp2
 go_ret
 exact ⟨rfl, by assumption⟩
theorem plain_any (k n : Int) (s : ByteArray) (w : World) (hs : s.size ≤ 9223372036854775807) :
  Calls Tryz.prog 33 #[val k n s] w fun e w' => e = .returned (.bool (plainB k n s)) ∧ Below w.heap.size w w' := by
 unfold plainB
 cases h1 : same k n s 0 0 ⟨#[]⟩
 ·cases h2 : same k n s 1 n ⟨#[]⟩
  ·cases h3 : same k n s 2 0 (cut s)
   ·exact plain_rest k n s w hs h1 h2 h3
   ·exact plain_text k n s w hs h1 h2 h3
  ·exact plain_int k n s w hs h1 h2
 ·exact plain_null k n s w hs h1
end Go.Proofs.YteghhmomhlnccaaGreatDoor
namespace Go.Proofs.YteghhmomhlnccaaGreatDoor
open Go.RowKit
theorem size_list (s : ByteArray) : s.toList.length = s.size := by rw [ByteArray.toList_eq]; simp
theorem empty_iff {s : ByteArray} : s.toList = (⟨#[]⟩ : ByteArray).toList ↔ s.size = 0 := by
 rw [← size_list, List.length_eq_zero_iff]
 have : (⟨#[]⟩ : ByteArray).toList = [] := by rw [ByteArray.toList_eq]
 rw [this]
theorem emptyB_iff {s : ByteArray} : s.toList.isEmpty = true ↔ s.size = 0 := by
 rw [← size_list, List.length_eq_zero_iff, List.isEmpty_iff]
theorem cut_iff {s : ByteArray} : s.toList = (cut s).toList ↔ s.size ≤ 200 := by
 constructor
 ·intro h
  have := cut_size s
  rw [← size_list, ← h, size_list] at this
  exact this
 ·intro h; rw [cut_small h]
theorem plainB_iff {k n : Int} {s : ByteArray} : plainB k n s = true ↔ (k = 0 ∧ n = 0 ∧ s.size = 0) ∨ (k = 1 ∧ s.size = 0) ∨ (k = 2 ∧ n = 0 ∧ s.size ≤ 200) ∨ (k = 3 ∧ s.size = 0 ∧ 0 ≤ n ∧ n ≤ 1) := by
 simp only [plainB, Bool.or_eq_true, same_iff, empty_iff, cut_iff, bit]
 by_cases h : n = 1
 ·subst h; simp
 ·have : (n == 1) = false := by simpa using h
  simp only [this, Bool.false_eq_true, if_false]
  constructor
  ·rintro (((h1 | h1) | h1) | h1) <;> omega
  ·rintro (h1 | h1 | h1 | h1)
   ·exact .inl (.inl (.inl h1))
   ·exact .inl (.inl (.inr ⟨h1.1, trivial, h1.2⟩))
   ·exact .inl (.inr h1)
   ·exact .inr ⟨h1.1, by omega, h1.2.1⟩
theorem retB {a b : Bool} (h : a = true ↔ b = true) : Ending.returned (.bool a) = .returned (.bool b) := by rw [Bool.eq_iff_iff.2 h]
end Go.Proofs.YteghhmomhlnccaaGreatDoor
namespace Go.Proofs.YteghhmomhlnccaaGreatDoor
open Go.Lib
theorem index_skip {c : UInt8} {l sub : List UInt8} (h : sub.isPrefixOf (c :: l) = false) : index (c :: l) sub = if index l sub == -1 then -1 else index l sub + 1 := by
 rw [index, h]; rfl
theorem rk_prefix {old new l : List UInt8} (hne : old ≠ []) (h : old.isPrefixOf l = true) : replaceK old new (count l old) l = new ++ replaceK old new (count (l.drop old.length) old) (l.drop old.length) := by
 have h0 : index l old = (0 : Nat) := index_first (Nat.zero_le _) (by simpa [occAt] using h) (fun j hj => absurd hj (Nat.not_lt_zero _))
 rw [count_hit hne h0, Nat.zero_add, Nat.add_comm 1, replaceK_hit old new _ l 0 h0]
 simp
theorem rk_skip {old new l : List UInt8} {c : UInt8} (hne : old ≠ []) (h : old.isPrefixOf (c :: l) = false) : replaceK old new (count (c :: l) old) (c :: l) = c :: replaceK old new (count l old) l := by
 have hi := index_skip h
 have hg := index_ge l old
 by_cases hm : index l old = -1
 ·rw [count_miss hm, count_miss (by rw [hi, hm]; rfl)]; simp [replaceK]
 ·obtain ⟨i, e⟩ : ∃ i : Nat, index l old = i := ⟨(index l old).toNat, by omega⟩
  have e2 : index (c :: l) old = ((i + 1 : Nat) : Int) := by
   rw [hi, e, if_neg (by first | (simp; done) | (simp; omega))]; first | rfl | simp
  rw [count_hit hne e, count_hit hne e2, Nat.add_comm 1, Nat.add_comm 1, replaceK_hit _ _ _ _ _ e, replaceK_hit _ _ _ _ _ e2]
  have : i + 1 + old.length = (i + old.length) + 1 := by omega
  rw [this]
  simp
theorem ra_nil {old new : List UInt8} (hne : old ≠ []) (hd : old ≠ new) : replaceAll [] old new = [] := by
 have : (old == new) = false := by simpa using hd
 rw [replaceAll, replace, this]
 have h1 : index [] old = -1 := by
  rw [index]; cases old with
  | nil => exact absurd rfl hne
  | cons a b => rfl
 simp [replaceNum, count_miss h1, replaceK]
theorem ra_eq {old new : List UInt8} (hd : old ≠ new) (l : List UInt8) : replaceAll l old new = replaceK old new (count l old) l := by
 have : (old == new) = false := by simpa using hd
 rw [replaceAll, replace, this]
 simp [replaceNum]
theorem ra_prefix {old new l : List UInt8} (hne : old ≠ []) (hd : old ≠ new) (h : old.isPrefixOf l = true) : replaceAll l old new = new ++ replaceAll (l.drop old.length) old new := by
 rw [ra_eq hd, ra_eq hd, rk_prefix hne h]
theorem ra_skip {old new l : List UInt8} {c : UInt8} (hne : old ≠ []) (hd : old ≠ new) (h : old.isPrefixOf (c :: l) = false) : replaceAll (c :: l) old new = c :: replaceAll l old new := by
 rw [ra_eq hd, ra_eq hd, rk_skip hne h]
def esc : List UInt8 → List UInt8
 | [] => []
 | c :: l => if c = 39 then 39 :: 39 :: esc l else c :: esc l
theorem esc_length_le : ∀ l : List UInt8, (esc l).length ≤ 2 * l.length
 | [] => by simp [esc]
 | c :: l => by
  have := esc_length_le l
  unfold esc
  split <;> simp <;> omega
theorem ra_esc : ∀ l : List UInt8, replaceAll l [39] [39, 39] = esc l
 | [] => ra_nil (by simp) (by simp)
 | c :: l => by
  by_cases h : c = 39
  ·subst h
   rw [ra_prefix (by simp) (by simp) (by simp [List.isPrefixOf])]
   simp [esc, ra_esc l]
  ·rw [ra_skip (by simp) (by simp) (by simp [List.isPrefixOf]; exact fun e => h e.symm), ra_esc l]
   simp [esc, h]
theorem ra_unesc : ∀ l : List UInt8, replaceAll (esc l) [39, 39] [39] = l
 | [] => ra_nil (by simp) (by simp)
 | c :: l => by
  by_cases h : c = 39
  ·subst h
   simp only [esc, if_pos]
   rw [ra_prefix (by simp) (by simp) (by simp [List.isPrefixOf])]
   simp [ra_unesc l]
  ·simp only [esc, if_neg h]
   rw [ra_skip (by simp) (by simp) (by simp [List.isPrefixOf]; intro e; exact absurd e.symm h), ra_unesc l]
def unq : List UInt8 → Option (List UInt8)
 | [] => none
 | c :: l => if c = 39 then (match l with
   | [] => some []
   | d :: l => if d = 39 then (unq l).map (39 :: ·) else none) else (unq l).map (c :: ·)
theorem unq_esc : ∀ u : List UInt8, unq (esc u ++ [39]) = some u
 | [] => by simp [esc, unq]
 | c :: u => by
  by_cases h : c = 39
  ·subst h
   simp [esc, unq, unq_esc u]
  ·simp only [esc, if_neg h, List.cons_append]
   unfold unq
   rw [if_neg h, unq_esc u]
   rfl
theorem unq_some : ∀ (l u : List UInt8), unq l = some u → l = esc u ++ [39]
 | [], u, h => by simp [unq] at h
 | [c], u, h => by
  unfold unq at h
  split at h
  ·rename_i hc; subst hc; simp at h; subst h; rfl
  ·simp [unq] at h
 | c :: d :: l, u, h => by
  unfold unq at h
  split at h
  ·rename_i hc
   subst hc
   simp only at h
   split at h
   ·rename_i hd
    subst hd
    obtain ⟨v, hv, rfl⟩ := Option.map_eq_some_iff.1 h
    rw [unq_some l v hv]
    simp [esc]
   ·cases h
  ·rename_i hc
   obtain ⟨v, hv, rfl⟩ := Option.map_eq_some_iff.1 h
   rw [unq_some (d :: l) v hv]
   simp [esc, hc]
def quo (l : List UInt8) : List UInt8 := 39 :: (esc l ++ [39])
theorem inside_quo (u : List UInt8) : trimSuffix (trimPrefix (quo u) [39]) [39] = esc u := by
 have h1 : trimPrefix (quo u) [39] = esc u ++ [39] := by simp [trimPrefix, hasPrefix, quo, List.isPrefixOf]
 rw [h1]
 have h2 : hasSuffix (esc u ++ [39]) [39] = true := by rw [hasSuffix, List.isSuffixOf_iff_suffix]; exact ⟨_, rfl⟩
 rw [trimSuffix, h2]
 simp
end Go.Proofs.YteghhmomhlnccaaGreatDoor
