import Derived.Test.YteghhmomhlnccaaGreatDoorYP3
import Derived.Test.YteghhmomhlnccaaGreatDoorYP6
import Derived.Test.YteghhmomhlnccaaGreatDoorYP2
import Derived.Test.YteghhmomhlnccaaGreatDoorYP7
import Derived.Test.YteghhmomhlnccaaGreatDoorYP4
import Derived.Maps.OwnIn
import Derived.Maps.OwnSet
set_option linter.unusedVariables false
set_option linter.unusedSimpArgs false
namespace Go.Proofs.YteghhmomhlnccaaGreatDoor
open Go.RowKit Go.Lib
set_option maxRecDepth 100000
attribute [local go_sem ↓] eqVal neqVal
theorem rightVal_any (k n : Int) (s : ByteArray) (w : World) (hs : s.size ≤ 9223372036854775807) :
  Calls Tryz.prog 85 #[val k n s] w fun e w' => e = .returned (.bool (valB k n s)) ∧ Below w.heap.size w w' := by
 have H0 : Hid (w.heap.size < (w.alloc (.cells #[.int .i64 k, .int .i64 n, .string s] 23)).heap.size ∧ Whole (w.alloc (.cells #[.int .i64 k, .int .i64 n, .string s] 23)) w.heap.size 23 #[.int .i64 k, .int .i64 n, .string s]) := Lib.hid ⟨by simp, Whole.new _ _ _⟩
 have B0 : Hid (Below w.heap.size w (w.alloc (.cells #[.int .i64 k, .int .i64 n, .string s] 23))) := Lib.hid ((Below.refl _ _).alloc (Nat.le_refl _) _)
 have PP := Lib.hid (plain_any k n s (w.alloc (.cells #[.int .i64 k, .int .i64 n, .string s] 23)) hs)
 go_enter Tryz.func85, Tryz.ntmps85
 go_wp2_with fail
 refine (PP.out).mono ?_
 rintro e w1 ⟨rfl, hb1⟩
 have B1 := Lib.hid (bstep B0.out hb1)
 have W1 := H0.out.2.below hb1 H0.out.1
 have c0 := W1.cell 0
 have c1 := W1.cell 1
 simp only [List.getElem?_toArray, List.getElem?_cons_zero, List.getElem?_cons_succ] at c0 c1
 clear hb1 W1 PP
 cases hp : plainB k n s
 ·have E : Hid (valB k n s = false) := Lib.hid (by simp [valB, hp])
  go_wp2_with fail
  go_ret
  exact ⟨retB2 E.out.symm, B1.out⟩
 ·by_cases h1 : k = 1
  ·subst h1
   have E : Hid (valB 1 n s = decide (0 ≤ n)) := Lib.hid (by simp [valB, hp])
   go_wp2_with fail
   go_ret
   exact ⟨retB2 E.out.symm, B1.out⟩
  ·have E : Hid (valB k n s = true) := Lib.hid (by simp [valB, hp, h1])
   have h1' : (k != 1) = true := by simpa using h1
   go_wp2_with fail
   go_ret
   exact ⟨retB2 E.out.symm, B1.out⟩
theorem six_below {w w' : World} {g : Nat} {op : Int} {t : List UInt8} {vk vn : Int} {vs : List UInt8} {A : Option Addr} {n c : Nat} (h : (w.cell? ⟨g, 0, none⟩ = some (.int .i64 op) ∧ w.cell? ⟨g, 1, none⟩ = some (.string (tx t)) ∧ w.cell? ⟨g, 2, none⟩ = some (.int .i64 vk) ∧ w.cell? ⟨g, 3, none⟩ = some (.int .i64 vn) ∧ w.cell? ⟨g, 4, none⟩ = some (.string (tx vs)) ∧ w.cell? ⟨g, 5, none⟩ = some (.slice A n c))) (hb : Below w.heap.size w w') (hg : g < w.heap.size) : (w'.cell? ⟨g, 0, none⟩ = some (.int .i64 op) ∧ w'.cell? ⟨g, 1, none⟩ = some (.string (tx t)) ∧ w'.cell? ⟨g, 2, none⟩ = some (.int .i64 vk) ∧ w'.cell? ⟨g, 3, none⟩ = some (.int .i64 vn) ∧ w'.cell? ⟨g, 4, none⟩ = some (.string (tx vs)) ∧ w'.cell? ⟨g, 5, none⟩ = some (.slice A n c)) :=
 ⟨(hb.cell (p := ⟨g, 0, none⟩) hg).trans h.1, (hb.cell (p := ⟨g, 1, none⟩) hg).trans h.2.1, (hb.cell (p := ⟨g, 2, none⟩) hg).trans h.2.2.1, (hb.cell (p := ⟨g, 3, none⟩) hg).trans h.2.2.2.1, (hb.cell (p := ⟨g, 4, none⟩) hg).trans h.2.2.2.2.1, (hb.cell (p := ⟨g, 5, none⟩) hg).trans h.2.2.2.2.2⟩
theorem six_of {w : World} {g : Nat} {op : Int} {t : List UInt8} {vk vn : Int} {vs : List UInt8} {A : Option Addr} {n c : Nat} (h : Whole w g 26 (ncells op t vk vn vs A n c)) : (w.cell? ⟨g, 0, none⟩ = some (.int .i64 op) ∧ w.cell? ⟨g, 1, none⟩ = some (.string (tx t)) ∧ w.cell? ⟨g, 2, none⟩ = some (.int .i64 vk) ∧ w.cell? ⟨g, 3, none⟩ = some (.int .i64 vn) ∧ w.cell? ⟨g, 4, none⟩ = some (.string (tx vs)) ∧ w.cell? ⟨g, 5, none⟩ = some (.slice A n c)) :=
 ⟨by rw [h.cell]; rfl, by rw [h.cell]; rfl, by rw [h.cell]; rfl, by rw [h.cell]; rfl, by rw [h.cell]; rfl, by rw [h.cell]; rfl⟩
theorem six_lt {w : World} {g : Nat} {op : Int} {t : List UInt8} {vk vn : Int} {vs : List UInt8} {A : Option Addr} {n c : Nat} (h : (w.cell? ⟨g, 0, none⟩ = some (.int .i64 op) ∧ w.cell? ⟨g, 1, none⟩ = some (.string (tx t)) ∧ w.cell? ⟨g, 2, none⟩ = some (.int .i64 vk) ∧ w.cell? ⟨g, 3, none⟩ = some (.int .i64 vn) ∧ w.cell? ⟨g, 4, none⟩ = some (.string (tx vs)) ∧ w.cell? ⟨g, 5, none⟩ = some (.slice A n c))) : g < w.heap.size := World.block_lt_of_cell? w _ h.1
set_option maxHeartbeats 1000000 in
theorem rightNode_any (op : Int) (t : List UInt8) (vk vn : Int) (vs : List UInt8) (A : Option Addr) (n c : Nat) (w : World) (a : Addr) (m : Int) (hv : Env w a m) (hs : (tx vs).size ≤ 9223372036854775807) :
  Calls Tryz.prog 52 #[.agg (ncells op t vk vn vs A n c)] w fun e w' => e = .returned (.bool (nodeB op t vk vn vs n)) ∧ Below w.heap.size w w' := by
 have H0 := Lib.hid (six_of (Whole.new w 26 (ncells op t vk vn vs A n c)))
 have B0 : Hid (Below w.heap.size w (w.alloc (.cells (ncells op t vk vn vs A n c) 26))) := Lib.hid ((Below.refl _ _).alloc (Nat.le_refl _) _)
 unfold ncells at *
 have HV := Lib.hid hv
 clear hv
 go_enter Tryz.func52, Tryz.ntmps52
 go_wp2_with fail
 generalize w.alloc (.cells #[.int .i64 op, .string (tx t), .int .i64 vk, .int .i64 vn, .string (tx vs), .slice A n c] 26) = W0 at *
 obtain ⟨c0, c1, c2, c3, c4, c5⟩ := H0.out
 go_region_held3 (fun w' => w'.cell? ⟨w.heap.size, 0, none⟩ = some (.int .i64 op) ∧ w'.cell? ⟨w.heap.size, 1, none⟩ = some (.string (tx t)) ∧ w'.cell? ⟨w.heap.size, 2, none⟩ = some (.int .i64 vk) ∧ w'.cell? ⟨w.heap.size, 3, none⟩ = some (.int .i64 vn) ∧ w'.cell? ⟨w.heap.size, 4, none⟩ = some (.string (tx vs)) ∧ w'.cell? ⟨w.heap.size, 5, none⟩ = some (.slice A n c)) (first | go_keep | (exact six_below (by assumption) hb2 (six_lt (by assumption))))
  (first
   | (go_at_call 26; (with_reducible refine (null_any _).mono ?_); rintro e w2 ⟨rfl, hb2⟩))
 have HB2 := Lib.hid (bstep B0.out (bdrew1 hb2))
 clear hb2 H0 B0
 generalize hq2 : same vk vn (tx vs) 0 0 ⟨#[]⟩ = q2
 generalize hq1 : t.isEmpty = q1
 have HV2 := Lib.hid (HV.out.below HB2.out)
 have E1 : Hid (op = 1 → nodeB op t vk vn vs n = (q1 && (valB vk vn (tx vs) && ((n : Int) == 0)))) := Lib.hid (fun h => by rw [nodeB, if_pos h, hq1])
 have E2 : Hid (op = 2 → nodeB op t vk vn vs n = (Lx.isName t && (q2 && ((n : Int) == 0)))) := Lib.hid (fun h => by subst h; rw [nodeB, if_neg (by decide), if_pos rfl, hq2])
 have E3 : Hid (op = 3 ∨ op = 4 → nodeB op t vk vn vs n = (q1 && (q2 && ((n : Int) == 1)))) := Lib.hid (fun h => by rw [nodeB, if_neg (by omega), if_neg (by omega), if_pos h, hq1, hq2])
 have E5 : Hid (op = 5 → nodeB op t vk vn vs n = (!(Ex.lev t == 0) && (q2 && ((n : Int) == 2)))) := Lib.hid (fun h => by subst h; rw [nodeB, if_neg (by decide), if_neg (by decide), if_neg (by decide), if_pos rfl, hq2])
 have E6 : Hid (op = 6 → nodeB op t vk vn vs n = (((n : Int) == Ex.arity t) && q2)) := Lib.hid (fun h => by subst h; rw [nodeB, if_neg (by decide), if_neg (by decide), if_neg (by decide), if_neg (by decide), if_pos rfl, hq2])
 have E0 : Hid (op ≠ 1 → op ≠ 2 → op ≠ 3 → op ≠ 4 → op ≠ 5 → op ≠ 6 → nodeB op t vk vn vs n = false) := Lib.hid (fun h1 h2 h3 h4 h5 h6 => by rw [nodeB, if_neg h1, if_neg h2, if_neg (by omega), if_neg h5, if_neg h6])
 clear hq1 hq2
 by_cases h1 : op = 1
 ·have E := Lib.hid (E1.out h1)
  clear E0 E1 E2 E3 E5 E6
  subst h1
  cases q1
  ·go_wp2_with fail
   go_ret
   exact ⟨retB2 (by rw [E.out]; rfl), HB2.out⟩
  ·have PV := Lib.hid (rightVal_any vk vn (tx vs) w2 hs)
   go_wp2_with fail
   refine PV.out.mono ?_
   rintro e w3 ⟨rfl, hb3⟩
   have HB3 := Lib.hid (bstep HB2.out hb3)
   clear hb3
   cases hvb : valB vk vn (tx vs)
   ·have E' : Hid (nodeB 1 t vk vn vs n = false) := Lib.hid (by rw [E.out, hvb]; rfl)
    go_wp2_with fail
    go_ret
    exact ⟨retB2 E'.out.symm, HB3.out⟩
   ·have E' : Hid (nodeB 1 t vk vn vs n = ((n : Int) == 0)) := Lib.hid (by rw [E.out, hvb]; simp)
    go_wp2_with fail
    go_ret
    exact ⟨retB2 E'.out.symm, HB3.out⟩
 by_cases h2 : op = 2
 ·have E := Lib.hid (E2.out h2)
  clear E0 E1 E2 E3 E5 E6 h1
  subst h2
  have PV := Lib.hid (lexName_any (tx t) w2 a m HV2.out)
  go_wp2_with fail
  refine PV.out.mono ?_
  rintro e w3 ⟨rfl, hb3⟩
  have HB3 := Lib.hid (bstep HB2.out hb3)
  clear hb3
  have E' : Hid (nodeB 2 t vk vn vs n = (Lx.isName (tx t).data.toList && (q2 && ((n : Int) == 0)))) := E
  generalize Lx.isName (tx t).data.toList = q3 at *
  cases q3 <;> cases q2 <;> (go_wp2_with fail; go_ret; exact ⟨retB2 (by rw [E'.out]; simp), HB3.out⟩)
 by_cases h3 : op = 3
 ·have E := Lib.hid (E3.out (.inl h3))
  clear E0 E1 E2 E3 E5 E6 h1 h2
  subst h3
  cases q1 <;> cases q2 <;> (go_wp2_with fail; go_ret; exact ⟨retB2 (by rw [E.out]; simp), HB2.out⟩)
 by_cases h4 : op = 4
 ·have E := Lib.hid (E3.out (.inr h4))
  clear E0 E1 E2 E3 E5 E6 h1 h2 h3
  subst h4
  cases q1 <;> cases q2 <;> (go_wp2_with fail; go_ret; exact ⟨retB2 (by rw [E.out]; simp), HB2.out⟩)
 by_cases h5 : op = 5
 ·have E := Lib.hid (E5.out h5)
  clear E0 E1 E2 E3 E5 E6 h1 h2 h3 h4
  subst h5
  have PV := Lib.hid (level_any (tx t) w2)
  go_wp2_with fail
  refine PV.out.mono ?_
  rintro e w3 ⟨rfl, rfl⟩
  have E' : Hid (nodeB 5 t vk vn vs n = (!(Ex.lev (tx t).data.toList == 0) && (q2 && ((n : Int) == 2)))) := E
  generalize Ex.lev (tx t).data.toList = q3 at *
  by_cases hq : q3 = 0
  ·subst hq
   cases q2 <;> (go_wp2_with fail; go_ret; exact ⟨retB2 (by rw [E'.out]; simp), HB2.out⟩)
  ·have hq' : (q3 != 0) = true := by simpa using hq
   cases q2 <;> (go_wp2_with fail; go_ret; exact ⟨retB2 (by rw [E'.out]; simp [hq]), HB2.out⟩)
 by_cases h6 : op = 6
 ·have E := Lib.hid (E6.out h6)
  clear E0 E1 E2 E3 E5 E6 h1 h2 h3 h4 h5
  subst h6
  have PV := Lib.hid (arity_any (tx t) w2)
  go_wp2_with fail
  refine PV.out.mono ?_
  rintro e w3 ⟨rfl, rfl⟩
  have E' : Hid (nodeB 6 t vk vn vs n = (((n : Int) == Ex.arity (tx t).data.toList) && q2)) := E
  generalize Ex.arity (tx t).data.toList = q3 at *
  generalize hq : ((n : Int) == q3) = q4 at *
  cases q4 <;> cases q2 <;> (go_wp2_with fail; go_ret; exact ⟨retB2 (by rw [E'.out]; simp), HB2.out⟩)
 ·have E := Lib.hid (E0.out h1 h2 h3 h4 h5 h6)
  clear E0 E1 E2 E3 E5 E6
  have k1 : (op == 1) = false := by simpa using h1
  have k2 : (op == 2) = false := by simpa using h2
  have k3 : (op == 3) = false := by simpa using h3
  have k4 : (op == 4) = false := by simpa using h4
  have k5 : (op == 5) = false := by simpa using h5
  have k6 : (op == 6) = false := by simpa using h6
  clear h1 h2 h3 h4 h5 h6
  go_wp2_with fail
  go_ret
  exact ⟨retB2 E.out.symm, HB2.out⟩
end Go.Proofs.YteghhmomhlnccaaGreatDoor
namespace Go.Proofs.YteghhmomhlnccaaGreatDoor
open Go.RowKit Go.Lib Go.Shelf
set_option maxRecDepth 100000
attribute [local go_sem] Oper.semAt_some
open Ex (Tree)
theorem whole_own {B : Nat} {W W' : World} {row : Option Nat} {g : Nat} {t : TypeId} {cs : Array Value} (h : Whole W g t cs) (hg : W.grownBy W' row) (hr : ∀ r, row = some r → B ≤ r ∧ ∃ o : Obj, W.heap[r]? = some o ∧ o.isCells = false) : Whole W' g t cs :=
 (hg.block g h.lt (fun e => by
  obtain ⟨-, o, ho, hc⟩ := hr _ e.symm
  unfold Whole at h
  rw [h] at ho
  cases ho
  simp [Obj.isCells] at hc)).trans h
theorem below_own {B : Nat} {w W W' : World} {row : Option Nat} (h : Below w.heap.size w W) (hg : W.grownBy W' row) (hr : ∀ r, row = some r → B ≤ r ∧ ∃ o : Obj, W.heap[r]? = some o ∧ o.isCells = false) (hB : w.heap.size ≤ B) : Below w.heap.size w W' := h.grown hg h.size (fun k e => by have := (hr k e).1; omega)
theorem keepsFrom_below {B : Nat} {W W' : World} (h : Below W.heap.size W W') : KeepsFrom B W W' := ⟨h.size, fun k o _ ho _ => (h.block k (Array.getElem?_eq_some_iff.1 ho).1).trans ho⟩
mutual
theorem fit_seq (d : Nat) : ∀ (x : Tree), fitT x → ∀ q ∈ Ex.seq d x, fitT q.1
 | .node op t vk vn vs ks, h, q, hq => by
  rw [Ex.seq] at hq
  rcases List.mem_cons.1 hq with rfl | hq
  ·exact h
  ·rw [fitT] at h
   exact fit_seqs (d + 1) ks h.2.2 q hq
theorem fit_seqs (d : Nat) : ∀ (l : List Tree), fitTs l → ∀ q ∈ Ex.seqs d l, fitT q.1
 | [], h, q, hq => by rw [Ex.seqs] at hq; cases hq
 | x :: l, h, q, hq => by
  rw [fitTs] at h
  rw [Ex.seqs] at hq
  rcases List.mem_append.1 hq with hq | hq
  ·exact fit_seq d x h.1 q hq
  ·exact fit_seqs d l h.2 q hq
end
def RgtI (w : World) (T : Tree) (pre : List Nd) (G : List Nat) (W : World) : Prop :=
 G = [w.heap.size + 1 + 1] ∧ Whole W (w.heap.size + 1 + 1) 3 #[.int .i64 (pre.length : Nat)] ∧ Whole W (w.heap.size + 1) 4 #[.bool false] ∧ Below w.heap.size w W ∧ pre.length ≤ 300 ∧ (∀ q ∈ prs pre, q.2 ≤ 30 ∧ q.1.is nodeB = true) ∧ w.heap.size + 3 ≤ W.heap.size
theorem rgtI_abides {w : World} {T : Tree} {B : Nat} (hB : w.heap.size + 3 ≤ B) (s : List Nd) (G H : List Nat) (W W' : World) (h : RgtI w T s G W) (ht : Touch H W W') (hH : ∀ k ∈ H, B ≤ k ∧ k ∉ G) : RgtI w T s G W' := by
 obtain ⟨rfl, h1, h2, h3, h4, h5, h6⟩ := h
 exact ⟨rfl, (ht.block _ h1.lt fun hk => (hH _ hk).2 (by simp)).trans h1, (ht.block _ h2.lt fun hk => by have := (hH _ hk).1; omega).trans h2, ht.fresh h3 fun k hk => by have := (hH k hk).1; omega, h4, h5, by have := ht.size; omega⟩
set_option maxHeartbeats 2000000 in
theorem right_in (T : Tree) (v : Value) (w : World) (h : NodeV w v T) (hf : fitT T) (hd : Ex.depth T ≤ 1000000) (a : Addr) (m : Int) (hv : Env w a m) :
  CallsIn Fence.wide 5 Tryz.prog 25 #[v] w fun e w' => e = .returned (.bool (Ex.rightB nodeB T)) ∧ Below w.heap.size w w' := by
 cases T with
 | node op t vk vn vs ks =>
 obtain ⟨A, c, rfl, hcc, hk⟩ := h
 obtain ⟨T, hT⟩ : ∃ T, (.node op t vk vn vs ks : Tree) = T := ⟨_, rfl⟩
 rw [hT] at hd hf ⊢
 refine callsIn_of_wp_marks Tryz.func25 rfl trivial ?_ rfl
 simp only [Tryz.ntmps25, List.size_toArray, List.length_cons, List.length_nil, Nat.reduceAdd, Nat.reduceSub, Array.replicate_succ, Array.replicate_zero, List.push_toArray, List.append_toArray, List.nil_append, List.cons_append]
 unfold ncells
 gi_wp2_with ((try refine ⟨trivial, ?_⟩); gi_at_call 51; refine (nodes_in Fence.wide _ trivial rfl _ _ _ _ _ _ _).mono ?_; rintro e w' ⟨rfl, rfl⟩)
 have b0 : Below w.heap.size w ((((w.alloc (.cells (ncells op t vk vn vs A ks.length c) 26)).alloc (.cells #[.bool false] 4)).alloc (.cells #[.int .i64 0] 3)).alloc (.cells (ncells op t vk vn vs A ks.length c) 26)) := ((((Below.refl _ w).alloc (Nat.le_refl _) _).alloc (by simp) _).alloc (by simp; omega) _).alloc (by simp; omega) _
 have k0 := ((Whole.new (w.alloc (.cells (ncells op t vk vn vs A ks.length c) 26)) 4 #[.bool false]).alloc (.cells #[.int .i64 0] 3)).alloc (.cells (ncells op t vk vn vs A ks.length c) 26)
 have k1 := (Whole.new ((w.alloc (.cells (ncells op t vk vn vs A ks.length c) 26)).alloc (.cells #[.bool false] 4)) 3 #[.int .i64 0]).alloc (.cells (ncells op t vk vn vs A ks.length c) 26)
 have k2 := Whole.new (((w.alloc (.cells (ncells op t vk vn vs A ks.length c) 26)).alloc (.cells #[.bool false] 4)).alloc (.cells #[.int .i64 0] 3)) 26 (ncells op t vk vn vs A ks.length c)
 simp only [World.size_alloc] at k0 k1 k2
 unfold ncells at b0 k0 k1 k2
 have hz0 : ((((w.alloc (.cells #[.int .i64 op, .string (tx t), .int .i64 vk, .int .i64 vn, .string (tx vs), .slice A ks.length c] 26)).alloc (.cells #[.bool false] 4)).alloc (.cells #[.int .i64 0] 3)).alloc (.cells #[.int .i64 op, .string (tx t), .int .i64 vk, .int .i64 vn, .string (tx vs), .slice A ks.length c] 26)).heap.size = w.heap.size + 4 := by simp only [World.size_alloc]
 generalize ((((w.alloc (.cells #[.int .i64 op, .string (tx t), .int .i64 vk, .int .i64 vn, .string (tx vs), .slice A ks.length c] 26)).alloc (.cells #[.bool false] 4)).alloc (.cells #[.int .i64 0] 3)).alloc (.cells #[.int .i64 op, .string (tx t), .int .i64 vk, .int .i64 vn, .string (tx vs), .slice A ks.length c] 26)) = W0 at *
 refine wpIn_rangeFunc_G rfl (by omega) (gf := 84) rfl trivial (enters_of Tryz.func84 (by kernel_rfl) rfl)
  (nodes_seq 4 (by omega) (w.heap.size + 1 + 1 + 1) w W0 T hd A c op t vk vn vs ks hT.symm hcc hk b0 k2) (Below.refl _ _) b0.size (by simp) (fun _ => rfl)
  (RgtI w T) (fun s G H W W' h ht hH => rgtI_abides (by omega) s G H W W' h ht hH)
  (fun s G W h k hk => by
   obtain ⟨rfl, h1, -⟩ := h
   have : k = w.heap.size + 1 + 1 := by simpa using hk
   subst this
   exact ⟨by omega, h1.lt, by simp, _, h1, rfl⟩)
  (fun c _ W => c = .ret ∧ Below w.heap.size w W ∧ Whole W (w.heap.size + 1) 4 #[.bool false] ∧ Ex.rightB nodeB T = false)
  (fun c s W W' row h hg hr => ⟨h.1, below_own h.2.1 hg hr b0.size, whole_own h.2.2.1 hg hr, h.2.2.2⟩) ⟨_, rfl, k1, k0, b0, Nat.zero_le _, by simp [prs], by omega⟩
  (fun pre x a' W => prs (pre ++ [x]) <+: Ex.seq 1 T ∧ ∃ Bx op' t' vk' vn' vs' A' n' c', x.t.is nodeB = nodeB op' t' vk' vn' vs' n' ∧ (tx vs').size ≤ 9223372036854775807 ∧ Whole W Bx 26 (ncells op' t' vk' vn' vs' A' n' c') ∧ a' = { tmps := #[.agg #[.int .i64 op, .string (tx t), .int .i64 vk, .int .i64 vn, .string (tx vs), .slice A ks.length c], .pointer (some ⟨w.heap.size, 0, none⟩), .pointer (some ⟨w.heap.size + 1, 0, none⟩), .pointer (some ⟨w.heap.size + 1 + 1, 0, none⟩), .pointer (some ⟨Bx, 0, none⟩), .int .i64 (x.d : Nat), .agg #[.int .i64 op, .string (tx t), .int .i64 vk, .int .i64 vn, .string (tx vs), .slice A ks.length c], .func (.func 84) #[] #[.pointer (some ⟨w.heap.size + 1 + 1 + 1, 0, none⟩)], x.v, .int .i64 (x.d : Nat), undef, undef, undef, undef, undef, undef, undef, undef, undef, undef, undef, undef, undef], defers := [] })
  (fun pre x a' _ W W' row h hg hr => by
   obtain ⟨h1, Bx, op', t', vk', vn', vs', A', n', c', h2, h3, h4, h5⟩ := h
   exact ⟨h1, Bx, op', t', vk', vn', vs', A', n', c', h2, h3, whole_own h4 hg hr, h5⟩) ?assign ?body ?done ?stop
 case assign =>
  rintro l pre G x W K hI hx hK
  obtain ⟨xv, xt, xd⟩ := x
  obtain ⟨hx1, hx2⟩ := hx
  cases xt with
  | node op' t' vk' vn' vs' ks' =>
  obtain ⟨A', c', rfl, -, -⟩ := hx2
  unfold encN ncells
  dsimp only
  gi_wp2
  have hfx := fit_seq 1 T hf _ (hx1.subset (show ((.node op' t' vk' vn' vs' ks' : Tree), xd) ∈ prs pre ++ [(.node op' t' vk' vn' vs' ks', xd)] by simp))
  rw [fitT] at hfx
  refine hK _ _ ((Below.refl _ _).alloc (Nat.le_refl _) _) ⟨by rw [prs_snoc]; exact hx1, W.heap.size, op', t', vk', vn', vs', A', ks'.length, c', rfl, ?_, Whole.new _ _ _, rfl⟩
  have := hfx.2.1
  simp only [maxLen] at this
  simpa [ByteArray.size] using this
 case body =>
  rintro l pre G x a' W ⟨rfl, h1, h2, h3, h4, h5, h6⟩ ⟨hp, Bx, op', t', vk', vn', vs', A', n', c', hx, hsz, hbx, rfl⟩
  have hlen : (prs (pre ++ [x])).length = pre.length + 1 := by rw [prs_len, List.length_append]; rfl
  have e0 := h1.cell 0
  have e1 := h1.frozen 0
  have e2 := h2.cell 0
  have e3 := h2.frozen 0
  simp only [List.getElem?_toArray, List.getElem?_cons_zero] at e0 e2
  have hne : Bx ≠ w.heap.size + 1 + 1 := fun e => by subst e; unfold Whole at h1 hbx; rw [h1] at hbx; cases hbx
  have hne2 : Bx ≠ w.heap.size + 1 := fun e => by subst e; unfold Whole at h2 hbx; rw [h2] at hbx; cases hbx
  have N1 := h1.set_ 0 (.int .i64 ((pre.length : Int) + 1))
  have N2 := h2.far (p := ⟨w.heap.size + 1 + 1, 0, none⟩) (by simp) (.int .i64 ((pre.length : Int) + 1))
  have N3 := hbx.far (p := ⟨w.heap.size + 1 + 1, 0, none⟩) hne (.int .i64 ((pre.length : Int) + 1))
  have T1 : Touch [w.heap.size + 1 + 1] W (W.setCell ⟨w.heap.size + 1 + 1, 0, none⟩ (.int .i64 ((pre.length : Int) + 1))) := Touch.one (by simp)
  have B1 : Below w.heap.size w (W.setCell ⟨w.heap.size + 1 + 1, 0, none⟩ (.int .i64 ((pre.length : Int) + 1))) := h3.setCell (p := ⟨w.heap.size + 1 + 1, 0, none⟩) (by show _ ≤ w.heap.size + 1 + 1; omega) _
  have K1 : KeepsFrom W0.heap.size W (W.setCell ⟨w.heap.size + 1 + 1, 0, none⟩ (.int .i64 ((pre.length : Int) + 1))) := (KeepsOthers.setCell _ _ _).from _
  obtain ⟨W1, hW1⟩ : ∃ W1, W.setCell ⟨w.heap.size + 1 + 1, 0, none⟩ (.int .i64 ((pre.length : Int) + 1)) = W1 := ⟨_, rfl⟩
  rw [hW1] at N1 N2 N3 T1 B1 K1
  have hl9 : (pre.length : Int) ≤ 300 := by omega
  have HP := Lib.hid hp
  have HL := Lib.hid hlen
  have H5 := Lib.hid h5
  have HX := Lib.hid hx
  have HT1 := Lib.hid T1
  have HB1 := Lib.hid B1
  have HK1 := Lib.hid K1
  have HN1 := Lib.hid N1
  have HN2 := Lib.hid N2
  have f0 := N1.cell 0
  have f2 := N2.cell 0
  have f3 := N2.frozen 0
  obtain ⟨d0, d1, d2, d3, d4, d5⟩ := six_of N3
  simp only [List.getElem?_toArray, List.getElem?_cons_zero, Array.setIfInBounds] at f0 f2
  have BAD : ∀ W2, Below W1.heap.size W1 W2 → Ex.rightB nodeB T = false → roundPost W0.heap.size (RgtI w T) (fun c _ W => c = .ret ∧ Below w.heap.size w W ∧ Whole W (w.heap.size + 1) 4 #[.bool false] ∧ Ex.rightB nodeB T = false) (pre ++ [x]) [w.heap.size + 1 + 1] W .ret { tmps := #[], defers := [] } (W2.setCell ⟨w.heap.size + 1, 0, none⟩ (.bool false)) := by
   intro W2 hb hbad
   exact ⟨(HK1.out.trans (keepsFrom_below hb)).trans ((KeepsOthers.setCell _ _ _).from _), rfl, (HB1.out.trans (hb.mono HB1.out.size)).setCell (p := ⟨w.heap.size + 1, 0, none⟩) (by show _ ≤ w.heap.size + 1; omega) _, (HN2.out.below hb HN2.out.lt).set_ 0 _, hbad⟩
  have HBAD := Lib.hid BAD
  have HVW := Lib.hid (hv.below HB1.out)
  clear h1 h2 h3 hbx N1 N2 N3 T1 B1 K1 hp hlen h5 hx BAD
  by_cases g1 : pre.length = 300
  ·have HF : Hid (Ex.rightB nodeB T = false) := Lib.hid (Ex.right_not nodeB T HP.out (.inl (by rw [HL.out]; omega)))
   have g1' : (300 : Int) < (pre.length : Int) + 1 := by omega
   clear g1 hl9
   gi_wp2
   refine ⟨trivial, ?_⟩
   gi_wp2
   exact HBAD.out W1 (Below.refl _ _) HF.out
  ·have g1' : ¬ (300 : Int) < (pre.length : Int) + 1 := by omega
   by_cases g2 : 30 < x.d
   ·have HF : Hid (Ex.rightB nodeB T = false) := Lib.hid (Ex.right_not nodeB T HP.out (.inr ⟨(x.t, x.d), by rw [prs_snoc]; simp, .inl g2⟩))
    have g2' : (30 : Int) < (x.d : Int) := by omega
    gi_wp2
    refine ⟨trivial, ?_⟩
    gi_wp2
    exact HBAD.out W1 (Below.refl _ _) HF.out
   ·have g2' : ¬ (30 : Int) < (x.d : Int) := by omega
    have RN := Lib.hid (rightNode_any op' t' vk' vn' vs' A' n' c' W1 a m HVW.out hsz)
    have hll : ((pre ++ [x]).length : Int) = (pre.length : Int) + 1 := by rw [List.length_append]; rfl
    have HG : Hid (pre.length + 1 ≤ 300 ∧ x.d ≤ 30) := Lib.hid ⟨by omega, by omega⟩
    have HLL := Lib.hid hll
    clear g1 g2 hll
    gi_wp2
    refine ⟨trivial, ?_⟩
    refine (CallsIn.inRound l (callsIn_wide.2 RN.out)).mono ?_
    rintro e W2 ⟨rfl, hb2⟩
    have HB2 := Lib.hid hb2
    have m2 := (HN2.out.below hb2 HN2.out.lt).frozen 0
    clear hb2
    cases hq : nodeB op' t' vk' vn' vs' n'
    ·have HF : Hid (Ex.rightB nodeB T = false) := Lib.hid (Ex.right_not nodeB T HP.out (.inr ⟨(x.t, x.d), by rw [prs_snoc]; simp, .inr (by rw [HX.out, hq])⟩))
     have m1 := (HN2.out.below HB2.out HN2.out.lt).cell 0
     simp only [List.getElem?_toArray, List.getElem?_cons_zero] at m1
     gi_wp2
     exact HBAD.out W2 HB2.out HF.out
    ·have HQ := Lib.hid hq
     clear hq
     gi_wp2
     refine ⟨HT1.out.belowTo HB2.out, _, ⟨rfl, ?_, HN2.out.below HB2.out HN2.out.lt, HB1.out.trans (HB2.out.mono HB1.out.size), ?_, ?_, ?_⟩, fun k hk => .inl hk⟩
     ·have := HN1.out.below HB2.out HN1.out.lt
      rw [HLL.out]
      exact this
     ·rw [List.length_append]; exact HG.out.1
     ·intro q hq
      rw [prs_snoc] at hq
      rcases List.mem_append.1 hq with hq | hq
      ·exact H5.out q hq
      ·have : q = (x.t, x.d) := by simpa using hq
       subst this
       exact ⟨HG.out.2, by rw [HX.out]; exact HQ.out⟩
     ·have := HT1.out.size; have := HB2.out.size; omega
 case done =>
  rintro D ys G W hD hS ⟨rfl, h1, h2, h3, h4, h5, h6⟩ hK
  have e0 := h2.cell 0
  have e1 := h2.frozen 0
  simp only [List.getElem?_toArray, List.getElem?_cons_zero] at e0
  have hS := Lib.hid hS
  gi_wp2
  have hne : D ≠ w.heap.size + 1 := fun e => by unfold Whole at h2; rw [← e, hK] at h2; cases h2
  have hK' : (W.setCell ⟨w.heap.size + 1, 0, none⟩ (.bool true)).heap[D]? = some (.deferred (some [])) := (heap_set_other _ _ _ _ _ hne).trans hK
  refine ⟨by simp, .inl ⟨_, _, rfl, run_takeDeferred hK', ?_⟩⟩
  have hc5 := (whole_own (B := 0) (h2.set_ 0 (.bool true)) (grownBy_putObj' _ D (.deferred none)) (fun r e => by cases e; exact ⟨Nat.zero_le _, _, hK', rfl⟩)).cell 0
  simp only [List.getElem?_toArray, List.getElem?_cons_zero, Array.setIfInBounds] at hc5
  refine ⟨.bool true, ?_, ?_, (h3.setCell (p := ⟨w.heap.size + 1, 0, none⟩) (by show _ ≤ w.heap.size + 1; omega) _).trans (belowK_b (w := w) (Nat.le_refl _) _ D _ _ (by omega) hK' rfl rfl)⟩
  ·simp [results, Tryz.results25, go_sem, hc5]
  ·rw [Ex.right_all nodeB T (by rw [← hS.out, prs_len]; exact h4) (fun q hq => h5 q (by rw [hS.out]; exact hq))]
 case stop =>
  rintro D c pre W hD ⟨rfl, h1, h2, h3⟩ hK
  have e0 := h2.cell 0
  simp only [List.getElem?_toArray, List.getElem?_cons_zero] at e0
  gi_wp2
  refine ⟨by simp, .inl ⟨_, _, rfl, run_takeDeferred hK, ?_⟩⟩
  have hc5 := (whole_own (B := 0) h2 (grownBy_putObj' _ D (.deferred none)) (fun r e => by cases e; exact ⟨Nat.zero_le _, _, hK, rfl⟩)).cell 0
  simp only [List.getElem?_toArray, List.getElem?_cons_zero] at hc5
  refine ⟨.bool false, ?_, by rw [h3], h1.trans (belowK_b (w := w) (Nat.le_refl _) _ D _ _ (by have := b0.size; omega) hK rfl rfl)⟩
  simp [results, Tryz.results25, go_sem, hc5]
end Go.Proofs.YteghhmomhlnccaaGreatDoor
namespace Go.Proofs.YteghhmomhlnccaaGreatDoor
open Go.RowKit Go.Lib Go.Shelf
set_option maxRecDepth 100000
theorem keyedS : Maps.Keyed Tryz.prog 9 := Maps.string_keyed Tryz.underlying9
def SetAt (W : World) (b n : Nat) (L : List (List UInt8)) : Prop := ∃ D : DataW Unit, W.ownsMap Tryz.prog 9 unitElem b n D ∧ ∀ t, Maps.has D (.string t) = L.contains t
theorem SetAt.made (w : World) : SetAt (w.alloc (.map #[] 0)) w.heap.size 0 [] := ⟨_, World.ownsMap_made w _ _ _, fun t => rfl⟩
theorem SetAt.lt {W : World} {b n : Nat} {L : List (List UInt8)} (h : SetAt W b n L) : b < W.heap.size := let ⟨_, h1, _⟩ := h; h1.lt
theorem SetAt.moved {W W' : World} {b n : Nat} {L : List (List UInt8)} (h : SetAt W b n L) (hb : W'.heap[b]? = W.heap[b]?) : SetAt W' b n L := by
 obtain ⟨D, ⟨es, clock, h1, h2⟩, h3⟩ := h
 exact ⟨D, ⟨es, clock, hb.trans h1, h2⟩, h3⟩
theorem key_str {t : List UInt8} (ht : t.length ≤ maxLen) : keyOf Tryz.prog 9 (.string (tx t)) = some (.string t) := by
 have h : (tx t).size ≤ maxLen := by simpa [ByteArray.size] using ht
 simp [keyOf, mapKey, Tryz.underlying9, h]
theorem zeroUnit (W : World) : (zeroValue 97).run Tryz.prog W = .ok (.agg #[]) W := Tryz.zeroValue97 W
theorem SetAt.look {W : World} {b n : Nat} {L : List (List UInt8)} (h : SetAt W b n L) {t : List UInt8} (ht : t.length ≤ maxLen) : (Instr.lookup 96 (.map (some b)) (.string (tx t)) true).run Tryz.prog W = .ok (.tuple #[.agg #[], .bool (L.contains t)]) W := by
 obtain ⟨D, h1, h2⟩ := h
 obtain ⟨v, ps, hr, hv⟩ := h1.look_ok keyedS Tryz.underlying96 (zeroUnit W) unitElem_mk (key_str ht)
 obtain ⟨rfl, _⟩ := unitElem_inv hv
 rw [hr, h2]
theorem SetAt.store {W : World} {b n : Nat} {L : List (List UInt8)} (h : SetAt W b n L) {t : List UInt8} (ht : t.length ≤ maxLen) (hn : n ≤ 1000000) :
  ∃ W', (Instr.mapUpdate 96 (.map (some b)) (.string (tx t)) (.agg #[])).run Tryz.prog W = .ok () W' ∧ SetAt W' b (n + 1) (L ++ [t]) ∧ Touch [b] W W' := by
 obtain ⟨D, h1, h2⟩ := h
 obtain ⟨W', hr, ho, hg⟩ := h1.update keyedS Tryz.underlying96 (by simp only [maxLen]; omega) (key_str ht) unitElem_mk
 refine ⟨W', hr, ⟨_, ho, fun t' => ?_⟩, Touch.of_grown hg⟩
 by_cases e : t' = t
 ·subst e
  rw [Maps.has_put_same h1.isMap (by trivial)]
  simp
 ·rw [Maps.has_put_other (by intro h; cases h; exact e rfl), h2]
  simp [e]
end Go.Proofs.YteghhmomhlnccaaGreatDoor
namespace Go.Proofs.YteghhmomhlnccaaGreatDoor
open Go.RowKit Go.Lib Go.Shelf
set_option maxRecDepth 100000
attribute [local go_sem] Oper.semAt_some
open Ex (Tree)
end Go.Proofs.YteghhmomhlnccaaGreatDoor
namespace Go.Proofs.YteghhmomhlnccaaGreatDoor
open Ex (Tree)
abbrev Col := List UInt8 × Int
namespace Kd
def ix (C : List Col) (n : List UInt8) : Option Nat := C.findIdx? (fun c => c.1 == n)
def ixV : Option Nat → Int
 | none => -1
 | some i => i
def fk (C : List Col) (n : List UInt8) : Option Int := (C.find? (fun c => c.1 == n)).map (·.2)
theorem ix_some {C : List Col} {n : List UInt8} {i : Nat} (h : i < C.length) (h1 : C[i].1 = n) (h2 : ∀ j (hj : j < C.length), j < i → C[j].1 ≠ n) : ix C n = some i := by
 rw [ix, List.findIdx?_eq_some_iff_getElem]
 exact ⟨h, by simpa using h1, fun j hj => by simpa using h2 j (by omega) hj⟩
theorem ix_none {C : List Col} {n : List UInt8} (h2 : ∀ j (hj : j < C.length), C[j].1 ≠ n) : ix C n = none := by
 rw [ix, List.findIdx?_eq_none_iff]
 intro x hx
 obtain ⟨j, hj, rfl⟩ := List.getElem_of_mem hx
 simpa using h2 j hj
theorem ix_spec {C : List Col} {n : List UInt8} {i : Nat} (h : ix C n = some i) : ∃ hi : i < C.length, C[i].1 = n ∧ ∀ j (hj : j < C.length), j < i → C[j].1 ≠ n := by
 rw [ix, List.findIdx?_eq_some_iff_getElem] at h
 obtain ⟨h1, h2, h3⟩ := h
 exact ⟨h1, by simpa using h2, fun j hj hji => by simpa using h3 j hji⟩
def goodAt (C : List Col) (i : Nat) : Prop := ∃ h : i < C.length, Lx.isName C[i].1 = true ∧ 1 ≤ C[i].2 ∧ C[i].2 ≤ 3 ∧ ∀ j (hj : j < C.length), j < i → C[j].1 ≠ C[i].1
def Good (C : List Col) : Prop := ∀ i, i < C.length → goodAt C i
theorem good_iff (C : List Col) : Good C ↔ (∀ c ∈ C, Lx.isName c.1 = true ∧ 1 ≤ c.2 ∧ c.2 ≤ 3) ∧ (C.map (·.1)).Nodup := by
 constructor
 ·intro h
  refine ⟨fun c hc => ?_, ?_⟩
  ·obtain ⟨i, hi, rfl⟩ := List.getElem_of_mem hc
   obtain ⟨_, h1, h2, h3, -⟩ := h i hi
   exact ⟨h1, h2, h3⟩
  ·rw [List.Nodup, List.pairwise_iff_getElem]
   intro i j hi hj hij
   obtain ⟨_, -, -, -, h4⟩ := h j (by simpa using hj)
   simpa using h4 i (by simpa using hi) hij
 ·rintro ⟨h1, h2⟩ i hi
  obtain ⟨a, b, c⟩ := h1 _ (List.getElem_mem hi)
  refine ⟨hi, a, b, c, fun j hj hji => ?_⟩
  rw [List.Nodup, List.pairwise_iff_getElem] at h2
  have := h2 j i (by rw [List.length_map]; exact hj) (by rw [List.length_map]; exact hi) hji
  rw [List.getElem_map, List.getElem_map] at this
  exact this
def stepK (ask kind one : Int) : Option Int :=
 if ask = -1 then (if kind = (if one = 0 then kind else one) ∨ kind = 0 then some (if one = 0 then kind else one) else none)
 else if kind = ask ∨ kind = 0 then some one else none
def ovr (asks kinds : List Int) : Nat → Option Int
 | 0 => some 0
 | i + 1 => match ovr asks kinds i with
  | none => none
  | some one => stepK (asks.getD i 0) (kinds.getD i 0) one
def over (g : Int) (asks kinds : List Int) : Int × Int := match ovr asks kinds kinds.length with
 | none => (0, 10)
 | some one => if g = -1 then (one, 0) else (g, 0)
def shT (t : List UInt8) : Int × List Int :=
 bif t == [111, 114] then (3, [3, 3]) else
 bif t == [97, 110, 100] then (3, [3, 3]) else
 bif t == [61] then (3, [-1, -1]) else
 bif t == [33, 61] then (3, [-1, -1]) else
 bif t == [60] then (3, [-1, -1]) else
 bif t == [60, 61] then (3, [-1, -1]) else
 bif t == [62] then (3, [-1, -1]) else
 bif t == [62, 61] then (3, [-1, -1]) else
 bif t == [43] then (1, [1, 1]) else
 bif t == [45] then (1, [1, 1]) else
 bif t == [42] then (1, [1, 1]) else
 bif t == [47] then (1, [1, 1]) else
 bif t == [37] then (1, [1, 1]) else
 bif t == [38] then (2, [2, 2]) else
 bif t == [108, 101, 110] then (1, [2]) else
 bif t == [110, 117, 109] then (1, [2]) else
 bif t == [115, 116, 114] then (2, [1]) else
 bif t == [108, 101, 102, 116] then (2, [2, 1]) else
 bif t == [114, 105, 103, 104, 116] then (2, [2, 1]) else
 bif t == [105, 115, 110, 117, 108, 108] then (3, [-1]) else
 bif t == [110, 118, 108] then (-1, [-1, -1]) else
 (-1, [3, -1, -1])
def sh (op : Int) (t : List UInt8) : Int × List Int := if op = 3 then (1, [1]) else if op = 4 then (3, [3]) else shT t
mutual
def kd (C : List Col) : Tree → Int × Int
 | .node op t vk vn vs ks =>
  if op = 1 then (vk, 0) else
  if op = 2 then (match fk C t with
   | none => (0, 9)
   | some k => (k, 0)) else
  (if (kds C ks).1 = 0 then over (sh op t).1 (sh op t).2 (kds C ks).2 else (0, (kds C ks).1))
def kds (C : List Col) : List Tree → Int × List Int
 | [] => (0, [])
 | x :: l => if (kd C x).2 = 0 then ((kds C l).1, (kd C x).1 :: (kds C l).2) else ((kd C x).2, [])
end
end Kd
end Go.Proofs.YteghhmomhlnccaaGreatDoor
namespace Go.Proofs.YteghhmomhlnccaaGreatDoor
open Go.RowKit Go.Lib
set_option maxRecDepth 100000
def ColsAt (w : World) (A : Option Addr) (C : List Col) : Prop := ∀ i (h : i < C.length), ∃ b o, A = some ⟨b, o, none⟩ ∧ b < w.heap.size ∧ w.cell? ⟨b, o + i * 2, none⟩ = some (.string (tx C[i].1)) ∧ w.cell? ⟨b, o + i * 2 + 1, none⟩ = some (.int .i64 C[i].2)
abbrev ncol (c : Col) : Array Value := #[.string (tx c.1), .int .i64 c.2]
theorem ColsAt.below {w w' : World} {A : Option Addr} {C : List Col} (h : ColsAt w A C) (hb : Below w.heap.size w w') : ColsAt w' A C := fun i hi => by
 obtain ⟨b, o, e, h1, h2, h3⟩ := h i hi
 exact ⟨b, o, e, Nat.lt_of_lt_of_le h1 hb.size, (hb.cell (p := ⟨b, o + i * 2, none⟩) h1).trans h2, (hb.cell (p := ⟨b, o + i * 2 + 1, none⟩) h1).trans h3⟩
theorem ColsAt.nil (w : World) (A : Option Addr) : ColsAt w A [] := fun i hi => absurd hi (Nat.not_lt_zero _)
theorem ColsAt.drop {w : World} {b o : Nat} {C : List Col} (h : ColsAt w (some ⟨b, o, none⟩) C) (n : Nat) : ColsAt w (some ⟨b, o + n * 2, none⟩) (C.drop n) := fun i hi => by
 rw [List.length_drop] at hi
 obtain ⟨b', o', e, h1, h2, h3⟩ := h (n + i) (by omega)
 cases e
 refine ⟨b, o + n * 2, rfl, h1, ?_, ?_⟩
 ·rw [show o + n * 2 + i * 2 = o + (n + i) * 2 by omega, h2, List.getElem_drop]
 ·rw [show o + n * 2 + i * 2 + 1 = o + (n + i) * 2 + 1 by omega, h3, List.getElem_drop]
theorem ColsAt.take {w : World} {A : Option Addr} {C : List Col} (h : ColsAt w A C) (n : Nat) : ColsAt w A (C.take n) := fun i hi => by
 rw [List.length_take] at hi
 obtain ⟨b, o, e, h1, h2, h3⟩ := h i (by omega)
 exact ⟨b, o, e, h1, by rw [h2, List.getElem_take], by rw [h3, List.getElem_take]⟩
def fitC (C : List Col) : Prop := ∀ c ∈ C, c.1.length ≤ maxLen
theorem cellsCol : Tryz.prog.cellsOf 45 = 2 := by kernel_rfl
theorem choose_col {n : Nat} {R : Nat → Col → Prop} (h : ∀ i, i < n → ∃ x, R i x) : ∃ l : List Col, l.length = n ∧ ∀ i (hi : i < l.length), R i l[i] := by
 induction n with
 | zero => exact ⟨[], rfl, fun i hi => absurd hi (by simp)⟩
 | succ n ih =>
  obtain ⟨l, h1, h2⟩ := ih fun i hi => h i (by omega)
  obtain ⟨x, hx⟩ := h n (by omega)
  refine ⟨l ++ [x], by simp [h1], fun i hi => ?_⟩
  by_cases e : i < l.length
  ·rw [List.getElem_append_left e]; exact h2 i e
  ·have : i = n := by simp at hi; omega
   subst this
   rw [List.getElem_append_right (by omega)]
   simpa [h1] using hx
section
open Go.Deep Go.Joins Go.WideShapes Go.ChangeShapes
variable {H : Type} {enc : TypeId × Value → H} {W : World} {base : Nat} {spare : Nat → Bool} {held : Bool}
theorem opens_col {fuel : Nat} {cs : List Value} {x : DataW H × List MemPlace} (h : DataW.trod enc Tryz.prog W base spare held fuel 45 cs = some x) : ∃ c : Col, cs = (ncol c).toList ∧ c.1.length ≤ maxLen := by
 obtain ⟨y0, y1, n, -, hl, h0, h1⟩ := trod_struct2 Tryz.underlying45 h
 rw [cellsCol] at hl
 match cs, hl with
 | [c0, c1], _ =>
  have z0 : Tryz.prog.cellsOf 3 = 1 := by kernel_rfl
  have z1 : Tryz.prog.cellsOf 9 = 1 := by kernel_rfl
  simp only [z0, z1, List.drop, List.take] at h0 h1
  obtain ⟨s, e0, -, w0⟩ := DataW.trod_string Tryz.underlying9 h0
  obtain ⟨k, e1, -, -⟩ := DataW.trod_int Tryz.underlying3 h1
  cases e0; cases e1
  refine ⟨(s.data.toList, k), by simp [ncol, tx], ?_⟩
  have : s.data.toList.length = s.size := by simp
  show s.data.toList.length ≤ maxLen
  omega
theorem opens_cols {fuel : Nat} {cs : List Value} {x : DataW H × List MemPlace} (h : DataW.trod enc Tryz.prog W base spare held fuel 27 cs = some x) : ∃ (C : List Col) (A : Option Addr) (c : Nat), cs = [.slice A C.length c] ∧ C.length ≤ c ∧ c ≤ maxLen ∧ ColsAt W A C ∧ fitC C ∧ (A = none → c = 0) := by
 rcases DataW.trod_slice Tryz.underlying27 h with ⟨hcs, _⟩ | ⟨a, len, cap, elems, rest, m, rfl, hcs, -, -, hle, hmx, hln, hel, -⟩
 ·cases hcs
  exact ⟨[], none, 0, rfl, Nat.le_refl _, Nat.zero_le _, ColsAt.nil _ _, fun c hc => absurd hc (by simp), fun _ => rfl⟩
 ·cases hcs
  have hk : ∀ i, i < len → ∃ x : Col, (∃ b o, a = ⟨b, o, none⟩ ∧ b < W.heap.size ∧ W.cell? ⟨b, o + i * 2, none⟩ = some (.string (tx x.1)) ∧ W.cell? ⟨b, o + i * 2 + 1, none⟩ = some (.int .i64 x.2)) ∧ x.1.length ≤ maxLen := by
   intro i hi
   have hh := hel i hi
   rw [cellsCol, List.getElem?_eq_getElem (by omega)] at hh
   obtain ⟨cs', h5, h6⟩ := Option.bind_eq_some_iff.1 hh
   obtain ⟨x, rfl, k4⟩ := opens_col h6
   obtain ⟨_, _, hat⟩ := World.cells?_some h5
   obtain ⟨b, o, spot⟩ := a
   have q0 := hat 0 (by show 0 < 2; omega)
   have q1 := hat 1 (by show 1 < 2; omega)
   rw [Go.Deep.add_add] at q0 q1
   have hspot : spot = none := by
    have hh := hel 0 (by omega)
    rw [cellsCol, List.getElem?_eq_getElem (by omega)] at hh
    obtain ⟨cs2, h52, h62⟩ := Option.bind_eq_some_iff.1 hh
    obtain ⟨x2, rfl, -⟩ := opens_col h62
    obtain ⟨_, _, hat2⟩ := World.cells?_some h52
    have := World.cell?_spot (hat2 0 (by show 0 < 2; omega))
    simpa [Addr.add] using this
   subst hspot
   rw [Addr.add_lit] at q0 q1
   exact ⟨x, ⟨b, o, rfl, World.block_lt_of_cell? W _ q0, by simpa using q0, by simpa [Nat.add_assoc] using q1⟩, k4⟩
  obtain ⟨l, hl1, hl2⟩ := choose_col hk
  refine ⟨l, some a, cap, by rw [hl1], by omega, hmx, fun i hi => ?_, fun c hc => ?_, fun h => by cases h⟩
  ·obtain ⟨b, o, rfl, k⟩ := (hl2 i hi).1
   exact ⟨b, o, rfl, k⟩
  ·obtain ⟨i, hi, rfl⟩ := List.getElem_of_mem hc
   exact (hl2 i hi).2
theorem open_cols {r : Reach} {b0 : Nat} {v : Value} {d : DataW H} {p : List MemPlace} (hv : Value.okWide Tryz.prog W r b0 27 v) (h : DataW.Trod enc Tryz.prog W base spare held 27 v d p) : ∃ (C : List Col) (A : Option Addr) (c : Nat), v = .slice A C.length c ∧ C.length ≤ c ∧ c ≤ maxLen ∧ ColsAt W A C ∧ fitC C ∧ (A = none → c = 0) := by
 obtain ⟨A, n, c, rfl⟩ : ∃ A n c, v = .slice A n c := okWide_slice Tryz.underlying27 hv
 obtain ⟨fuel, hf⟩ := h
 obtain ⟨C, A', c', hcs, h1, h2, h3, h4⟩ := opens_cols hf
 refine ⟨C, A', c', ?_, h1, h2, h3, h4⟩
 simpa [Value.cells] using hcs
end
def colCells (C : List Col) : List Value := C.flatMap fun c => [.string (tx c.1), .int .i64 c.2]
theorem colCells_len : ∀ C : List Col, (colCells C).length = C.length * 2
 | [] => rfl
 | c :: C => by
  have := colCells_len C
  rw [colCells, List.flatMap_cons, ← colCells, List.length_append, this]
  simp only [List.length_cons, List.length_nil]; omega
theorem colCells_at : ∀ (C : List Col) (i : Nat) (h : i < C.length), (colCells C)[i * 2]? = some (.string (tx C[i].1)) ∧ (colCells C)[i * 2 + 1]? = some (.int .i64 C[i].2)
 | c :: C, 0, h => ⟨rfl, rfl⟩
 | c :: C, i + 1, h => by
  have := colCells_at C i (by simpa using h)
  rw [colCells, List.flatMap_cons, ← colCells, show (i + 1) * 2 = i * 2 + 1 + 1 by omega]
  exact this
theorem ColsAt.cells {w : World} {b o : Nat} {C : List Col} (h : ColsAt w (some ⟨b, o, none⟩) C) : ∀ j u, (colCells C)[j]? = some u → w.cell? ⟨b, o + j, none⟩ = some u := by
 intro j u hu
 have hj : j < C.length * 2 := by rw [← colCells_len]; exact (List.getElem?_eq_some_iff.1 hu).1
 obtain ⟨b', o', e, h1, h2, h3⟩ := h (j / 2) (by omega)
 cases e
 obtain ⟨k1, k2⟩ := colCells_at C (j / 2) (by omega)
 rcases Nat.mod_two_eq_zero_or_one j with hm | hm
 ·rw [show j / 2 * 2 = j by omega] at k1 h2
  rw [h2, ← k1, hu]
 ·rw [show j / 2 * 2 + 1 = j by omega] at k2
  rw [show o + j / 2 * 2 + 1 = o + j by omega] at h3
  rw [h3, ← k2, hu]
theorem ColsAt.of_cells {w : World} {b o : Nat} {C : List Col} (hb : b < w.heap.size) (h : ∀ j u, (colCells C)[j]? = some u → w.cell? ⟨b, o + j, none⟩ = some u) : ColsAt w (some ⟨b, o, none⟩) C := fun i hi => by
 obtain ⟨k1, k2⟩ := colCells_at C i hi
 exact ⟨b, o, rfl, hb, h _ _ k1, by have := h _ _ k2; rwa [← Nat.add_assoc] at this⟩
def RowC (w : World) (base : Nat) (v : Value) (C : List Col) : Prop := w.ownsRow base 45 2 v C.length (colCells C)
theorem RowC.new (w : World) : RowC (w.alloc (.cells #[] 45)) w.heap.size (.slice (some ⟨w.heap.size, 0, none⟩) 0 0) [] :=
 ⟨rfl, .inr ⟨w.heap.size, 0, #[], rfl, Nat.le_refl _, heap_alloc_new w _, Nat.le_refl _, Nat.zero_le _, rfl, rfl⟩⟩
theorem RowC.of_heap {w w' : World} {base : Nat} {v : Value} {C : List Col} (h : RowC w base v C) (hv : ∀ k, v.ownBlock = some k → w'.heap[k]? = w.heap[k]?) : RowC w' base v C := ownsRow_of_heap h hv
theorem RowC.block {w : World} {base : Nat} {v : Value} {C : List Col} (h : RowC w base v C) : ∀ k, v.ownBlock = some k → base ≤ k ∧ k < w.heap.size := fun k e => by
 obtain ⟨cur, hc⟩ := row_kind h e
 exact ⟨own_ge h e, (Array.getElem?_eq_some_iff.1 hc).1⟩
theorem RowC.below {w w' : World} {base : Nat} {v : Value} {C : List Col} (h : RowC w base v C) (hb : Below w.heap.size w w') : RowC w' base v C := h.of_heap fun k e => hb.block k (h.block k e).2
theorem RowC.shape {w : World} {base : Nat} {v : Value} {C : List Col} (h : RowC w base v C) : ∃ A c, v = .slice A C.length c ∧ C.length ≤ c ∧ c ≤ maxLen ∧ ColsAt w A C := by
 rcases h.2 with ⟨rfl, h0⟩ | ⟨g, cap, cur, rfl, hb, hh, hn, hm, hs, ht⟩
 ·have : C = [] := List.eq_nil_of_length_eq_zero h0
  subst this
  exact ⟨none, 0, rfl, Nat.le_refl _, Nat.zero_le _, ColsAt.nil _ _⟩
 ·refine ⟨_, cap, rfl, hn, hm, ColsAt.of_cells (Array.getElem?_eq_some_iff.1 hh).1 fun j u hu => ?_⟩
  have hj : j < C.length * 2 := by rw [← colCells_len]; exact (List.getElem?_eq_some_iff.1 hu).1
  rw [Nat.zero_add, cell_of_row w g j cur 45 (0, 0) hh, ← hu, ← ht, List.getElem?_take, if_pos (by omega)]
  simp
def IntsAt (w : World) (A : Option Addr) (l : List Int) : Prop := ∀ i (h : i < l.length), ∃ b o, A = some ⟨b, o, none⟩ ∧ b < w.heap.size ∧ w.cell? ⟨b, o + i, none⟩ = some (.int .i64 l[i])
theorem IntsAt.below {w w' : World} {A : Option Addr} {l : List Int} (h : IntsAt w A l) (hb : Below w.heap.size w w') : IntsAt w' A l := fun i hi => by
 obtain ⟨b, o, e, h1, h2⟩ := h i hi
 exact ⟨b, o, e, Nat.lt_of_lt_of_le h1 hb.size, (hb.cell (p := ⟨b, o + i, none⟩) h1).trans h2⟩
theorem IntsAt.whole {w : World} {g : Nat} {l : List Int} (h : Whole w g 3 ((l.map (Value.int .i64)).toArray)) : IntsAt w (some ⟨g, 0, none⟩) l := fun i hi => by
 refine ⟨g, 0, rfl, h.lt, ?_⟩
 rw [Nat.zero_add, h.cell, List.getElem?_toArray, List.getElem?_map, List.getElem?_eq_getElem hi]; rfl
def RowI (w : World) (base : Nat) (v : Value) (l : List Int) : Prop := w.ownsRow base 3 1 v l.length (l.map (Value.int .i64))
theorem RowI.nil (w : World) (base : Nat) : RowI w base (.slice none 0 0) [] := ⟨rfl, .inl ⟨rfl, rfl⟩⟩
theorem RowI.of_heap {w w' : World} {base : Nat} {v : Value} {l : List Int} (h : RowI w base v l) (hv : ∀ k, v.ownBlock = some k → w'.heap[k]? = w.heap[k]?) : RowI w' base v l := ownsRow_of_heap h hv
theorem RowI.block {w : World} {base : Nat} {v : Value} {l : List Int} (h : RowI w base v l) : ∀ k, v.ownBlock = some k → base ≤ k ∧ k < w.heap.size := fun k e => by
 obtain ⟨cur, hc⟩ := row_kind h e
 exact ⟨own_ge h e, (Array.getElem?_eq_some_iff.1 hc).1⟩
theorem RowI.below {w w' : World} {base : Nat} {v : Value} {l : List Int} (h : RowI w base v l) (hb : Below w.heap.size w w') : RowI w' base v l := h.of_heap fun k e => hb.block k (h.block k e).2
theorem RowI.shape {w : World} {base : Nat} {v : Value} {l : List Int} (h : RowI w base v l) : ∃ A c, v = .slice A l.length c ∧ l.length ≤ c ∧ c ≤ maxLen ∧ IntsAt w A l := by
 rcases h.2 with ⟨rfl, h0⟩ | ⟨g, cap, cur, rfl, hb, hh, hn, hm, hs, ht⟩
 ·have : l = [] := List.eq_nil_of_length_eq_zero h0
  subst this
  exact ⟨none, 0, rfl, Nat.le_refl _, Nat.zero_le _, fun i hi => absurd hi (Nat.not_lt_zero _)⟩
 ·refine ⟨_, cap, rfl, hn, hm, fun i hi => ⟨g, 0, rfl, (Array.getElem?_eq_some_iff.1 hh).1, ?_⟩⟩
  have hu : (l.map (Value.int .i64))[i]? = some (.int .i64 l[i]) := by rw [List.getElem?_map, List.getElem?_eq_getElem hi]; rfl
  rw [Nat.zero_add, cell_of_row w g i cur 3 (0, 0) hh, ← hu, ← ht, List.getElem?_take, if_pos (by omega)]
  simp
theorem infoInt : (Tryz.prog.info? 3).map (fun i => (i.zero.map (fun z => z.cells.size), i.size, decide (i.bytes ≤ 1000))) = some (some 1, 1, true) := by kernel_rfl
theorem append_int {w : World} {base : Nat} {v : Value} {l : List Int} (h : RowI w base v l) (x : Int) (hn : l.length ≤ 1000000) (hbase : base ≤ w.heap.size) :
  ∃ v' w', Sem.run Tryz.prog (Builtin.append_ #[65, 65] 65 #[v, .slice (some ⟨w.heap.size, 0, none⟩) 1 1]) (w.alloc (.cells #[.int .i64 x] 3)) = .ok v' w' ∧ RowI w' base v' (l ++ [x]) ∧ Touch v.ownBlock.toList w w' ∧ (v'.ownBlock = v.ownBlock ∨ v'.ownBlock = some (w.heap.size + 1)) := by
 have hinf := infoInt
 cases hi : Tryz.prog.info? 3 with
 | none => rw [hi] at hinf; simp at hinf
 | some i =>
  rw [hi] at hinf
  simp at hinf
  obtain ⟨⟨z, hz, i1⟩, i2, i3⟩ := hinf
  have hb : ∀ (a b : Nat), a ≤ 1000001 → b ≤ 1000 → a * b ≤ 140737488355328 := fun a b h1 h2 => Nat.le_trans (Nat.mul_le_mul h1 h2) (by omega)
  obtain ⟨v', w', hr, ho, hg, _, hb'⟩ := run_append_own_at (P := Tryz.prog) (w.alloc (.cells #[.int .i64 x] 3)) base 65 65 3 i z 1 i.bytes Tryz.underlying65 hi hz i2 rfl i1 (by omega) v l.length (l.map (Value.int .i64)) (h.below ((Below.refl _ _).alloc (Nat.le_refl _) _)) ⟨w.heap.size, 0, none⟩ 1 1 [.int .i64 x] rfl (by
   intro j u hu
   rw [Addr.add_lit, Nat.zero_add, cell_of_row _ w.heap.size j #[.int .i64 x] 3 (0, 0) (heap_alloc_new w _), ← hu]
   simp) (by
   intro u hu
   simp at hu
   subst hu
   rfl) (by simp only [maxLen]; omega) (hb _ _ (by omega) i3) (by simp; omega)
  refine ⟨v', w', hr, ?_, ?_, by simpa using hb'⟩
  ·unfold RowI
   rw [List.length_append, List.map_append]
   exact ho
  ·exact ((Touch.refl _ _).alloc _).grown hg (fun k e => .inl (by rw [e]; simp))
end Go.Proofs.YteghhmomhlnccaaGreatDoor
namespace Go.Proofs.YteghhmomhlnccaaGreatDoor
open Go.RowKit Go.Lib
set_option maxRecDepth 100000
open Ex (Tree)
def rngN (_op : Int) (_t : List UInt8) (_vk vn : Int) (_vs : List UInt8) (_n : Nat) : Bool := decide (-9223372036854775808 ≤ vn ∧ vn ≤ 9223372036854775807)
def rngT (x : Tree) : Bool := Ex.ones rngN x
theorem rngs_of : ∀ (l : List Tree), (∀ i (h : i < l.length), rngT l[i] = true) → Ex.oness rngN l = true
 | [], h => by rw [Ex.oness]
 | x :: l, h => by
  rw [Ex.oness, Bool.and_eq_true]
  exact ⟨h 0 (by simp), rngs_of l fun i hi => h (i + 1) (by simpa using hi)⟩
section
open Go.Deep Go.Joins Go.WideShapes Go.ChangeShapes
variable {H : Type} {enc : TypeId × Value → H} {W : World} {base : Nat} {spare : Nat → Bool} {held : Bool}
theorem opens_tree2 (N : Nat) : (∀ (fuel : Nat), fuel < N → ∀ (cs : List Value) (x : DataW H × List MemPlace), DataW.trod enc Tryz.prog W base spare held fuel 26 cs = some x →
   ∃ (op : Int) (t : List UInt8) (vk vn : Int) (vs : List UInt8) (ks : List Tree) (A : Option Addr) (c : Nat), cs = (ncells op t vk vn vs A ks.length c).toList ∧ ks.length ≤ c ∧ TreesAt W A 0 ks ∧ fitT (.node op t vk vn vs ks) ∧ rngT (.node op t vk vn vs ks) = true) := by
 induction N with
 | zero => intro fuel h; omega
 | succ N ih =>
  intro fuel hlt cs x h
  obtain ⟨xs, n, rfl, -, hl, hlen, hf⟩ := DataW.trod_struct Tryz.underlying26 h
  rw [cellsExpr] at hl
  match cs, hl, xs, hlen with
  | [c0, c1, c2, c3, c4, c5], _, [y0, y1, y2, y3], _ =>
   have z0 : Tryz.prog.cellsOf 3 = 1 := by kernel_rfl
   have z1 : Tryz.prog.cellsOf 9 = 1 := by kernel_rfl
   have z2 : Tryz.prog.cellsOf 24 = 1 := by kernel_rfl
   have z3 : Tryz.prog.cellsOf 2 = 1 := by kernel_rfl
   have h0 := hf 0 _ rfl
   have h1 := hf 1 _ rfl
   have h2 := hf 2 _ rfl
   have h3 := hf 3 _ rfl
   simp only [z0, z1, z2, cellsVal, List.drop, List.take, List.getElem?_cons_zero, List.getElem?_cons_succ] at h0 h1 h2 h3
   obtain ⟨op, e0, -, -⟩ := DataW.trod_int Tryz.underlying3 h0
   obtain ⟨s1, e1, -, w1⟩ := DataW.trod_string Tryz.underlying9 h1
   obtain ⟨u0, u1, u2, n2, -, hl2, g0, g1, g2⟩ := trod_struct3 Tryz.underlying23 h2
   simp only [z0, z1, z3, List.drop, List.take] at g0 g1 g2
   obtain ⟨vk, e2, -, -⟩ := DataW.trod_int Tryz.underlying3 g0
   obtain ⟨vn, e3, -, rg⟩ := DataW.trod_int Tryz.underlying2 g1
   obtain ⟨s4, e4, -, w4⟩ := DataW.trod_string Tryz.underlying9 g2
   cases e0; cases e1; cases e2; cases e3; cases e4
   have key : ∃ (ks : List Tree) (A : Option Addr) (c : Nat), c5 = .slice A ks.length c ∧ ks.length ≤ c ∧ TreesAt W A 0 ks ∧ fitTs ks ∧ Ex.oness rngN ks = true := by
    rcases DataW.trod_slice Tryz.underlying24 h3 with ⟨hcs, _⟩ | ⟨a, len, cap, elems, rest, m, rfl, hcs, -, -, hle, -, hln, hel, -⟩
    ·cases hcs
     exact ⟨[], none, 0, rfl, Nat.le_refl _, by rw [TreesAt]; trivial, by rw [fitTs]; trivial, by rw [Ex.oness]⟩
    ·cases hcs
     have hk : ∀ i, i < len → ∃ x : Tree, (∃ b o, a = ⟨b, o, none⟩ ∧ TreeAt W b (o + i * 6) x) ∧ fitT x ∧ rngT x = true := by
      intro i hi
      have hh := hel i hi
      rw [cellsExpr, List.getElem?_eq_getElem (by omega)] at hh
      obtain ⟨cs', h5, h6⟩ := Option.bind_eq_some_iff.1 hh
      obtain ⟨op', t', vk', vn', vs', ks', A', c', rfl, k2, k3, k4, k5⟩ := ih m (by omega) _ _ h6
      obtain ⟨_, _, hat⟩ := World.cells?_some h5
      obtain ⟨b, o, spot⟩ := a
      have q0 := hat 0 (by show 0 < 6; omega)
      have q1 := hat 1 (by show 1 < 6; omega)
      have q2 := hat 2 (by show 2 < 6; omega)
      have q3 := hat 3 (by show 3 < 6; omega)
      have q4 := hat 4 (by show 4 < 6; omega)
      have q5 := hat 5 (by show 5 < 6; omega)
      rw [Go.Deep.add_add] at q0 q1 q2 q3 q4 q5
      have hspot : spot = none := by
       have hh := hel 0 (by omega)
       rw [cellsExpr, List.getElem?_eq_getElem (by omega)] at hh
       obtain ⟨cs2, h52, h62⟩ := Option.bind_eq_some_iff.1 hh
       obtain ⟨op2, t2, vk2, vn2, vs2, ks2, A2, c2, rfl, -⟩ := ih m (by omega) _ _ h62
       obtain ⟨_, _, hat2⟩ := World.cells?_some h52
       have := World.cell?_spot (hat2 0 (by show 0 < 6; omega))
       simpa [Addr.add] using this
      subst hspot
      rw [Addr.add_lit] at q0 q1 q2 q3 q4 q5
      have hblt := World.block_lt_of_cell? W _ q0
      exact ⟨.node op' t' vk' vn' vs' ks', ⟨b, o, rfl, TreeAt.mk hblt (by simpa using q0) (by simpa [Nat.add_assoc] using q1) (by simpa [Nat.add_assoc] using q2) (by simpa [Nat.add_assoc] using q3) (by simpa [Nat.add_assoc] using q4) (by simpa [Nat.add_assoc] using q5) k2 k3⟩, k4, k5⟩
     obtain ⟨l, hl1, hl2⟩ := choose_tree hk
     refine ⟨l, some a, cap, by rw [hl1], by omega, TreesAt.of _ _ _ fun i hi => ?_, fitTs_of _ fun i hi => (hl2 i hi).2.1, rngs_of _ fun i hi => (hl2 i hi).2.2⟩
     obtain ⟨b, o, rfl, k⟩ := (hl2 i hi).1
     exact ⟨b, o, rfl, by rw [Nat.zero_add]; exact k⟩
   obtain ⟨ks, A, c, rfl, hc, hT, hF, hR⟩ := key
   refine ⟨op, s1.data.toList, vk, vn, s4.data.toList, ks, A, c, rfl, hc, hT, ?_, ?_⟩
   rotate_left
   ·rw [rngT, Ex.ones, hR, Bool.and_true, rngN]
    exact decide_eq_true ((Lit.wf_int_iff .i64 vn).1 rg)
   rw [fitT]
   refine ⟨?_, ?_, hF⟩
   ·have : s1.data.toList.length = s1.size := by simp
    omega
   ·have : s4.data.toList.length = s4.size := by simp
    omega
theorem open_tree2 {r : Reach} {b0 : Nat} {v : Value} {d : DataW H} {p : List MemPlace} (hv : Value.okWide Tryz.prog W r b0 26 v) (h : DataW.Trod enc Tryz.prog W base spare held 26 v d p) : ∃ x, NodeV W v x ∧ fitT x ∧ rngT x = true := by
 obtain ⟨cs, rfl, hsz⟩ := okWide_struct Tryz.underlying26 hv
 obtain ⟨fuel, hf⟩ := h
 obtain ⟨op, t, vk, vn, vs, ks, A, c, hcs, hc, hT, hF, hR⟩ := opens_tree2 (fuel + 1) fuel (by omega) _ _ hf
 refine ⟨.node op t vk vn vs ks, ⟨A, c, ?_, hc, hT⟩, hF, hR⟩
 congr 1
 apply Array.ext'
 simpa [Value.cells] using hcs
end
end Go.Proofs.YteghhmomhlnccaaGreatDoor
namespace Go.Proofs.YteghhmomhlnccaaGreatDoor
open Go.Lib
open Ex (Tree)
namespace Ev
structure V where
 k : Int
 n : Int
 s : List UInt8
structure R where
 v : V
 e : Int
def z : V := ⟨0, 0, []⟩
def tru (b : Bool) : V := ⟨3, if b then 1 else 0, []⟩
def err (c : Int) : R := ⟨z, c⟩
def ok (v : V) : R := ⟨v, 0⟩
def num (n : Int) : R := if Fits n then ok ⟨1, n, []⟩ else err 4
def less (a b : V) : Bool := if a.k = b.k then if a.k = 2 then Op.bytesLess a.s b.s else decide (a.n < b.n) else decide (a.k < b.k)
def cmpB (t : List UInt8) (a b : V) : Bool :=
 if t = [61] then !less a b && !less b a else
 if t = [33, 61] then less a b || less b a else
 if t = [60] then less a b else
 if t = [60, 61] then !less b a else
 if t = [62] then less b a else !less a b
def bin (t : List UInt8) (a b : V) : R :=
 if Ex.lev t = 3 then (if a.k = b.k then ok (tru (cmpB t a b)) else err 10) else
 if t = [38] then (if a.k = 2 ∧ b.k = 2 then (if a.s.length + b.s.length ≤ 200 then ok ⟨2, 0, a.s ++ b.s⟩ else err 3) else err 10) else
 if a.k = 1 ∧ b.k = 1 then
  (if t = [43] then num (a.n + b.n) else
  if t = [45] then num (a.n - b.n) else
  if t = [42] then num (a.n * b.n) else
  if b.n = 0 then err 5 else
  if t = [47] then num (a.n.tdiv b.n) else num (a.n.tmod b.n))
 else err 10
def cutN (n : Int) (l : Nat) : Nat := if n < 0 then 0 else if n < (l : Int) then n.toNat else l
def side (t : List UInt8) (a b : V) : R :=
 if a.k = 2 ∧ b.k = 1 then
  (if t = [108, 101, 102, 116] then ok ⟨2, 0, a.s.take (cutN b.n a.s.length)⟩ else ok ⟨2, 0, a.s.drop (a.s.length - cutN b.n a.s.length)⟩)
 else err 10
def un (op : Int) (t : List UInt8) (a : V) : R :=
 if op = 3 then (if a.k = 1 then num (-a.n) else err 10) else
 if op = 4 then (if a.k = 3 then ok (tru (decide (a.n = 0))) else err 10) else
 if t = [115, 116, 114] then (if a.k = 1 then ok ⟨2, 0, itoa a.n⟩ else err 10) else
 if a.k = 2 then
  (if t = [108, 101, 110] then ok ⟨1, (a.s.length : Nat), []⟩ else
  if re a.s = 0 then ok ⟨1, rv a.s, []⟩ else err (re a.s))
 else err 10
def logic (strong : Bool) (a : V) (b : R) : R :=
 if a.k = 0 ∨ a.k = 3 then
  (if a.k = 3 ∧ a.n = (if strong then 1 else 0) then ok a else
  if b.e = 0 then
   (if b.v.k = 0 ∨ b.v.k = 3 then
    (if b.v.k = 3 ∧ b.v.n = (if strong then 1 else 0) then ok b.v else
    if a.k = 0 ∨ b.v.k = 0 then ok z else ok (tru (!strong)))
   else err 10)
  else err b.e)
 else err 10
def comb (op : Int) (t : List UInt8) (l : List R) : R :=
 let a := l.getD 0 (ok z)
 let b := l.getD 1 (ok z)
 let c := l.getD 2 (ok z)
 if a.e = 0 then
  (if op = 5 ∧ t = [111, 114] then logic true a.v b else
  if op = 5 ∧ t = [97, 110, 100] then logic false a.v b else
  if op = 6 ∧ t = [105, 115, 110, 117, 108, 108] then ok (tru (decide (a.v.k = 0))) else
  if op = 6 ∧ t = [110, 118, 108] then (if a.v.k = 0 then b else ok a.v) else
  if op = 6 ∧ t = [105, 102] then (if a.v.k = 0 ∨ a.v.k = 3 then (if a.v.n = 1 then b else c) else err 10) else
  if l.length = 2 then
   (if b.e = 0 then (if a.v.k = 0 ∨ b.v.k = 0 then ok z else if op = 5 then bin t a.v b.v else side t a.v b.v) else err b.e)
  else if a.v.k = 0 then ok z else un op t a.v)
 else err a.e
mutual
def ev (C : List Col) (W : List V) : Tree → R
 | .node op t vk vn vs ks =>
  if op = 1 then ok ⟨vk, vn, vs⟩ else
  if op = 2 then (match Kd.ix C t with
   | none => err 9
   | some i => ok (W.getD i z)) else
  comb op t (evs C W ks)
def evs (C : List Col) (W : List V) : List Tree → List R
 | [] => []
 | x :: l => ev C W x :: evs C W l
end
theorem evs_len (C : List Col) (W : List V) : ∀ l : List Tree, (evs C W l).length = l.length
 | [] => rfl
 | x :: l => by rw [evs, List.length_cons, List.length_cons, evs_len C W l]
theorem evs_at (C : List Col) (W : List V) : ∀ (l : List Tree) (i : Nat) (h : i < l.length), (evs C W l)[i]? = some (ev C W l[i])
 | x :: l, 0, h => by rw [evs]; rfl
 | x :: l, i + 1, h => by rw [evs]; simpa using evs_at C W l i (by simpa using h)
mutual
theorem ev_put {C : List Col} {W : List V} {i : Nat} {y : Tree} {v : V} (hC : Kd.Good C) (hi : i < C.length) (hl : W.length = C.length) (hy : ev C W y = ok v) : ∀ x : Tree, ev C W (Ex.put C[i].1 y x) = ev C (W.set i v) x
 | .node op t vk vn vs ks => by
  rw [Ex.put]
  by_cases hp : op = 2 ∧ t = C[i].1
  ·have hx : Kd.ix C t = some i := by
    obtain ⟨_, -, -, -, h4⟩ := hC i hi
    exact Kd.ix_some hi hp.2.symm (fun j hj hji => by rw [hp.2]; exact h4 j hj hji)
   rw [if_pos hp, hy, ev, if_neg (by rw [hp.1]; decide), if_pos hp.1, hx]
   show ok v = ok ((W.set i v).getD i z)
   rw [List.getD_eq_getElem?_getD, List.getElem?_set_self (by omega)]; rfl
  ·rw [if_neg hp, ev, ev]
   by_cases h1 : op = 1
   ·rw [if_pos h1, if_pos h1]
   rw [if_neg h1, if_neg h1]
   by_cases h2 : op = 2
   ·rw [if_pos h2, if_pos h2]
    cases hx : Kd.ix C t with
    | none => rfl
    | some j =>
     obtain ⟨hj, e, -⟩ := Kd.ix_spec hx
     have hne : i ≠ j := fun h => by subst h; exact hp ⟨h2, e.symm⟩
     show ok (W.getD j z) = ok ((W.set i v).getD j z)
     rw [List.getD_eq_getElem?_getD, List.getD_eq_getElem?_getD, List.getElem?_set_ne hne]
   ·rw [if_neg h2, if_neg h2, evs_put hC hi hl hy ks]
theorem evs_put {C : List Col} {W : List V} {i : Nat} {y : Tree} {v : V} (hC : Kd.Good C) (hi : i < C.length) (hl : W.length = C.length) (hy : ev C W y = ok v) : ∀ l : List Tree, evs C W (Ex.puts C[i].1 y l) = evs C (W.set i v) l
 | [] => by rw [Ex.puts, evs, evs]
 | x :: l => by rw [Ex.puts, evs, evs, ev_put hC hi hl hy x, evs_put hC hi hl hy l]
end
end Ev
end Go.Proofs.YteghhmomhlnccaaGreatDoor
namespace Go.Proofs.YteghhmomhlnccaaGreatDoor
open Go.Lib
open Ex (Tree)
namespace Ev
def G (k : Int) (r : R) : Prop := (r.e = 0 ∧ (r.v.k = k ∨ r.v.k = 0)) ∨ r.e = 3 ∨ r.e = 4 ∨ r.e = 5 ∨ r.e = 6
theorem G.err_ {k k' : Int} {r : R} (h : G k r) (he : ¬ r.e = 0) : G k' (err r.e) := by
 rcases h with h | h
 ·exact absurd h.1 he
 ·exact .inr h
theorem G.val {k : Int} {r : R} (h : G k r) (he : r.e = 0) : r.v.k = k ∨ r.v.k = 0 := by
 rcases h with h | h | h | h | h
 ·exact h.2
 all_goals omega
theorem G.ok_ {k : Int} {v : V} (h : v.k = k ∨ v.k = 0) : G k (ok v) := .inl ⟨rfl, h⟩
theorem G.null (k : Int) : G k (ok z) := .inl ⟨rfl, .inr rfl⟩
theorem G.num_ (n : Int) : G 1 (num n) := by
 rw [num]
 split
 ·exact .inl ⟨rfl, .inl rfl⟩
 ·exact .inr (.inr (.inl rfl))
theorem G.one {k ka : Int} {a : R} {f : V → R} (ha : G ka a) (hf : ∀ v : V, v.k = ka → v.k ≠ 0 → G k (f v)) : G k (if a.e = 0 then (if a.v.k = 0 then ok z else f a.v) else err a.e) := by
 by_cases h1 : a.e = 0
 ·rw [if_pos h1]
  by_cases h2 : a.v.k = 0
  ·rw [if_pos h2]; exact G.null _
  ·rw [if_neg h2]; exact hf _ ((ha.val h1).resolve_right h2) h2
 ·rw [if_neg h1]; exact ha.err_ h1
theorem G.two {k ka kb : Int} {a b : R} {f : V → V → R} (ha : G ka a) (hb : G kb b) (hf : ∀ v u : V, v.k = ka → v.k ≠ 0 → u.k = kb → u.k ≠ 0 → G k (f v u)) :
  G k (if a.e = 0 then (if b.e = 0 then (if a.v.k = 0 ∨ b.v.k = 0 then ok z else f a.v b.v) else err b.e) else err a.e) := by
 by_cases h1 : a.e = 0
 ·rw [if_pos h1]
  by_cases h2 : b.e = 0
  ·rw [if_pos h2]
   by_cases h3 : a.v.k = 0 ∨ b.v.k = 0
   ·rw [if_pos h3]; exact G.null _
   ·rw [if_neg h3]
    rw [not_or] at h3
    exact hf _ _ ((ha.val h1).resolve_right h3.1) h3.1 ((hb.val h2).resolve_right h3.2) h3.2
  ·rw [if_neg h2]; exact hb.err_ h2
 ·rw [if_neg h1]; exact ha.err_ h1
theorem G.logic_ {ka kb : Int} {a b : R} (s : Bool) (ha : G ka a) (hb : G kb b) (h1 : ka = 3 ∨ ka = 0) (h2 : kb = 3 ∨ kb = 0) : G 3 (if a.e = 0 then logic s a.v b else err a.e) := by
 by_cases e1 : a.e = 0
 ·rw [if_pos e1, logic, if_pos (by have := ha.val e1; omega)]
  generalize (if s = true then (1 : Int) else 0) = q
  split
  ·exact G.ok_ (by have := ha.val e1; omega)
  ·by_cases e2 : b.e = 0
   ·rw [if_pos e2, if_pos (by have := hb.val e2; omega)]
    split
    ·exact G.ok_ (by have := hb.val e2; omega)
    ·split
     ·exact G.null _
     ·exact G.ok_ (.inl rfl)
   ·rw [if_neg e2]; exact hb.err_ e2
 ·rw [if_neg e1]; exact ha.err_ e1
theorem list1 {α : Type} {l : List α} (h : l.length = 1) : ∃ a, l = [a] := List.length_eq_one_iff.1 h
theorem list2 {α : Type} {l : List α} (h : l.length = 2) : ∃ a b, l = [a, b] := by
 match l, h with
 | [a, b], _ => exact ⟨a, b, rfl⟩
theorem list3 {α : Type} {l : List α} (h : l.length = 3) : ∃ a b c, l = [a, b, c] := by
 match l, h with
 | [a, b, c], _ => exact ⟨a, b, c, rfl⟩
def rowKind (C : List Col) (W : List V) : Prop := W.length = C.length ∧ ∀ i (h : i < C.length) (h' : i < W.length), W[i].k = C[i].2 ∨ W[i].k = 0
end Ev
end Go.Proofs.YteghhmomhlnccaaGreatDoor
