import Derived.Test.YteghhmomhlnccaaGreatDoorZE
import Derived.Test.YteghhmomhlnccaaGreatDoorZHB
import Derived.Test.YteghhmomhlnccaaGreatDoorZV4
import Derived.Test.YteghhmomhlnccaaGreatDoorZWN

/- A node by itself: rightVal, rightNode. -/
namespace Go.Proofs.YteghhmomhlnccaaGreatDoor
open Go.RowKit Go.Lib
set_option linter.unusedVariables false
set_option maxRecDepth 100000
attribute [local go_sem ↓] eqVal neqVal

theorem rightVal_any (k n : Int) (s : ByteArray) (w : World) (hs : s.size ≤ 9223372036854775807) :
    Calls Tryz.prog 85 #[val k n s] w fun e w' => e = .returned (.bool (valB k n s)) ∧ Below w.heap.size w w' := by
  have H0 : Hid (w.heap.size < (w.alloc (.cells #[.int .i64 k, .int .i64 n, .string s] 23)).heap.size ∧ Whole (w.alloc (.cells #[.int .i64 k, .int .i64 n, .string s] 23)) w.heap.size 23 #[.int .i64 k, .int .i64 n, .string s]) := Lib.hid ⟨by simp, Whole.new _ _ _⟩
  have B0 : Hid (Below w.heap.size w (w.alloc (.cells #[.int .i64 k, .int .i64 n, .string s] 23))) := Lib.hid ((Below.refl _ _).alloc (Nat.le_refl _) _)
  have PP := Lib.hid (plain_any k n s (w.alloc (.cells #[.int .i64 k, .int .i64 n, .string s] 23)) hs)
  go_enter Tryz.func85, Tryz.ntmps85
  go_wp2_with fail
  refine (PP.out).mono ?_
  rintro e w1 ⟨rfl, hb1⟩
  have B1 := Lib.hid (bstep B0.out hb1)
  have W1 := H0.out.2.below hb1 H0.out.1
  have c0 := W1.cell 0
  have c1 := W1.cell 1
  simp only [List.getElem?_toArray, List.getElem?_cons_zero, List.getElem?_cons_succ] at c0 c1
  clear hb1 W1 PP
  cases hp : plainB k n s
  · have E : Hid (valB k n s = false) := Lib.hid (by simp [valB, hp])
    go_wp2_with fail
    go_ret
    exact ⟨retB2 E.out.symm, B1.out⟩
  · by_cases h1 : k = 1
    · subst h1
      have E : Hid (valB 1 n s = decide (0 ≤ n)) := Lib.hid (by simp [valB, hp])
      go_wp2_with fail
      go_ret
      exact ⟨retB2 E.out.symm, B1.out⟩
    · have E : Hid (valB k n s = true) := Lib.hid (by simp [valB, hp, h1])
      have h1' : (k != 1) = true := by simpa using h1
      go_wp2_with fail
      go_ret
      exact ⟨retB2 E.out.symm, B1.out⟩
/-- six cells of a node. -/
theorem six_below {w w' : World} {g : Nat} {op : Int} {t : List UInt8} {vk vn : Int} {vs : List UInt8} {A : Option Addr} {n c : Nat} (h : (w.cell? ⟨g, 0, none⟩ = some (.int .i64 op) ∧ w.cell? ⟨g, 1, none⟩ = some (.string (tx t)) ∧ w.cell? ⟨g, 2, none⟩ = some (.int .i64 vk) ∧ w.cell? ⟨g, 3, none⟩ = some (.int .i64 vn) ∧ w.cell? ⟨g, 4, none⟩ = some (.string (tx vs)) ∧ w.cell? ⟨g, 5, none⟩ = some (.slice A n c))) (hb : Below w.heap.size w w') (hg : g < w.heap.size) : (w'.cell? ⟨g, 0, none⟩ = some (.int .i64 op) ∧ w'.cell? ⟨g, 1, none⟩ = some (.string (tx t)) ∧ w'.cell? ⟨g, 2, none⟩ = some (.int .i64 vk) ∧ w'.cell? ⟨g, 3, none⟩ = some (.int .i64 vn) ∧ w'.cell? ⟨g, 4, none⟩ = some (.string (tx vs)) ∧ w'.cell? ⟨g, 5, none⟩ = some (.slice A n c)) :=
  ⟨(hb.cell (p := ⟨g, 0, none⟩) hg).trans h.1, (hb.cell (p := ⟨g, 1, none⟩) hg).trans h.2.1, (hb.cell (p := ⟨g, 2, none⟩) hg).trans h.2.2.1, (hb.cell (p := ⟨g, 3, none⟩) hg).trans h.2.2.2.1, (hb.cell (p := ⟨g, 4, none⟩) hg).trans h.2.2.2.2.1, (hb.cell (p := ⟨g, 5, none⟩) hg).trans h.2.2.2.2.2⟩
theorem six_of {w : World} {g : Nat} {op : Int} {t : List UInt8} {vk vn : Int} {vs : List UInt8} {A : Option Addr} {n c : Nat} (h : Whole w g 26 (ncells op t vk vn vs A n c)) : (w.cell? ⟨g, 0, none⟩ = some (.int .i64 op) ∧ w.cell? ⟨g, 1, none⟩ = some (.string (tx t)) ∧ w.cell? ⟨g, 2, none⟩ = some (.int .i64 vk) ∧ w.cell? ⟨g, 3, none⟩ = some (.int .i64 vn) ∧ w.cell? ⟨g, 4, none⟩ = some (.string (tx vs)) ∧ w.cell? ⟨g, 5, none⟩ = some (.slice A n c)) :=
  ⟨by rw [h.cell]; rfl, by rw [h.cell]; rfl, by rw [h.cell]; rfl, by rw [h.cell]; rfl, by rw [h.cell]; rfl, by rw [h.cell]; rfl⟩
theorem six_lt {w : World} {g : Nat} {op : Int} {t : List UInt8} {vk vn : Int} {vs : List UInt8} {A : Option Addr} {n c : Nat} (h : (w.cell? ⟨g, 0, none⟩ = some (.int .i64 op) ∧ w.cell? ⟨g, 1, none⟩ = some (.string (tx t)) ∧ w.cell? ⟨g, 2, none⟩ = some (.int .i64 vk) ∧ w.cell? ⟨g, 3, none⟩ = some (.int .i64 vn) ∧ w.cell? ⟨g, 4, none⟩ = some (.string (tx vs)) ∧ w.cell? ⟨g, 5, none⟩ = some (.slice A n c))) : g < w.heap.size := World.block_lt_of_cell? w _ h.1
set_option maxHeartbeats 1000000 in
theorem rightNode_any (op : Int) (t : List UInt8) (vk vn : Int) (vs : List UInt8) (A : Option Addr) (n c : Nat) (w : World) (a : Addr) (m : Int) (hv : Env w a m) (hs : (tx vs).size ≤ 9223372036854775807) :
    Calls Tryz.prog 52 #[.agg (ncells op t vk vn vs A n c)] w fun e w' => e = .returned (.bool (nodeB op t vk vn vs n)) ∧ Below w.heap.size w w' := by
  have H0 := Lib.hid (six_of (Whole.new w 26 (ncells op t vk vn vs A n c)))
  have B0 : Hid (Below w.heap.size w (w.alloc (.cells (ncells op t vk vn vs A n c) 26))) := Lib.hid ((Below.refl _ _).alloc (Nat.le_refl _) _)
  unfold ncells at *
  have HV := Lib.hid hv
  clear hv
  go_enter Tryz.func52, Tryz.ntmps52
  go_wp2_with fail
  generalize w.alloc (.cells #[.int .i64 op, .string (tx t), .int .i64 vk, .int .i64 vn, .string (tx vs), .slice A n c] 26) = W0 at *
  obtain ⟨c0, c1, c2, c3, c4, c5⟩ := H0.out
  go_region_held3 (fun w' => w'.cell? ⟨w.heap.size, 0, none⟩ = some (.int .i64 op) ∧ w'.cell? ⟨w.heap.size, 1, none⟩ = some (.string (tx t)) ∧ w'.cell? ⟨w.heap.size, 2, none⟩ = some (.int .i64 vk) ∧ w'.cell? ⟨w.heap.size, 3, none⟩ = some (.int .i64 vn) ∧ w'.cell? ⟨w.heap.size, 4, none⟩ = some (.string (tx vs)) ∧ w'.cell? ⟨w.heap.size, 5, none⟩ = some (.slice A n c)) (first | go_keep | (exact six_below (by assumption) hb2 (six_lt (by assumption))))
    (first
      | (go_at_call 26; (with_reducible refine (null_any _).mono ?_); rintro e w2 ⟨rfl, hb2⟩))
  have HB2 := Lib.hid (bstep B0.out (bdrew1 hb2))
  clear hb2 H0 B0
  generalize hq2 : same vk vn (tx vs) 0 0 ⟨#[]⟩ = q2
  generalize hq1 : t.isEmpty = q1
  have HV2 := Lib.hid (HV.out.below HB2.out)
  have E1 : Hid (op = 1 → nodeB op t vk vn vs n = (q1 && (valB vk vn (tx vs) && ((n : Int) == 0)))) := Lib.hid (fun h => by rw [nodeB, if_pos h, hq1])
  have E2 : Hid (op = 2 → nodeB op t vk vn vs n = (Lx.isName t && (q2 && ((n : Int) == 0)))) := Lib.hid (fun h => by subst h; rw [nodeB, if_neg (by decide), if_pos rfl, hq2])
  have E3 : Hid (op = 3 ∨ op = 4 → nodeB op t vk vn vs n = (q1 && (q2 && ((n : Int) == 1)))) := Lib.hid (fun h => by rw [nodeB, if_neg (by omega), if_neg (by omega), if_pos h, hq1, hq2])
  have E5 : Hid (op = 5 → nodeB op t vk vn vs n = (!(Ex.lev t == 0) && (q2 && ((n : Int) == 2)))) := Lib.hid (fun h => by subst h; rw [nodeB, if_neg (by decide), if_neg (by decide), if_neg (by decide), if_pos rfl, hq2])
  have E6 : Hid (op = 6 → nodeB op t vk vn vs n = (((n : Int) == Ex.arity t) && q2)) := Lib.hid (fun h => by subst h; rw [nodeB, if_neg (by decide), if_neg (by decide), if_neg (by decide), if_neg (by decide), if_pos rfl, hq2])
  have E0 : Hid (op ≠ 1 → op ≠ 2 → op ≠ 3 → op ≠ 4 → op ≠ 5 → op ≠ 6 → nodeB op t vk vn vs n = false) := Lib.hid (fun h1 h2 h3 h4 h5 h6 => by rw [nodeB, if_neg h1, if_neg h2, if_neg (by omega), if_neg h5, if_neg h6])
  clear hq1 hq2
  by_cases h1 : op = 1
  · have E := Lib.hid (E1.out h1)
    clear E0 E1 E2 E3 E5 E6
    subst h1
    cases q1
    · go_wp2_with fail
      go_ret
      exact ⟨retB2 (by rw [E.out]; rfl), HB2.out⟩
    · have PV := Lib.hid (rightVal_any vk vn (tx vs) w2 hs)
      go_wp2_with fail
      refine PV.out.mono ?_
      rintro e w3 ⟨rfl, hb3⟩
      have HB3 := Lib.hid (bstep HB2.out hb3)
      clear hb3
      cases hvb : valB vk vn (tx vs)
      · have E' : Hid (nodeB 1 t vk vn vs n = false) := Lib.hid (by rw [E.out, hvb]; rfl)
        go_wp2_with fail
        go_ret
        exact ⟨retB2 E'.out.symm, HB3.out⟩
      · have E' : Hid (nodeB 1 t vk vn vs n = ((n : Int) == 0)) := Lib.hid (by rw [E.out, hvb]; simp)
        go_wp2_with fail
        go_ret
        exact ⟨retB2 E'.out.symm, HB3.out⟩
  by_cases h2 : op = 2
  · have E := Lib.hid (E2.out h2)
    clear E0 E1 E2 E3 E5 E6 h1
    subst h2
    have PV := Lib.hid (lexName_any (tx t) w2 a m HV2.out)
    go_wp2_with fail
    refine PV.out.mono ?_
    rintro e w3 ⟨rfl, hb3⟩
    have HB3 := Lib.hid (bstep HB2.out hb3)
    clear hb3
    have E' : Hid (nodeB 2 t vk vn vs n = (Lx.isName (tx t).data.toList && (q2 && ((n : Int) == 0)))) := E
    generalize Lx.isName (tx t).data.toList = q3 at *
    cases q3 <;> cases q2 <;> (go_wp2_with fail; go_ret; exact ⟨retB2 (by rw [E'.out]; simp), HB3.out⟩)
  by_cases h3 : op = 3
  · have E := Lib.hid (E3.out (.inl h3))
    clear E0 E1 E2 E3 E5 E6 h1 h2
    subst h3
    cases q1 <;> cases q2 <;> (go_wp2_with fail; go_ret; exact ⟨retB2 (by rw [E.out]; simp), HB2.out⟩)
  by_cases h4 : op = 4
  · have E := Lib.hid (E3.out (.inr h4))
    clear E0 E1 E2 E3 E5 E6 h1 h2 h3
    subst h4
    cases q1 <;> cases q2 <;> (go_wp2_with fail; go_ret; exact ⟨retB2 (by rw [E.out]; simp), HB2.out⟩)
  by_cases h5 : op = 5
  · have E := Lib.hid (E5.out h5)
    clear E0 E1 E2 E3 E5 E6 h1 h2 h3 h4
    subst h5
    have PV := Lib.hid (level_any (tx t) w2)
    go_wp2_with fail
    refine PV.out.mono ?_
    rintro e w3 ⟨rfl, rfl⟩
    have E' : Hid (nodeB 5 t vk vn vs n = (!(Ex.lev (tx t).data.toList == 0) && (q2 && ((n : Int) == 2)))) := E
    generalize Ex.lev (tx t).data.toList = q3 at *
    by_cases hq : q3 = 0
    · subst hq
      cases q2 <;> (go_wp2_with fail; go_ret; exact ⟨retB2 (by rw [E'.out]; simp), HB2.out⟩)
    · have hq' : (q3 != 0) = true := by simpa using hq
      cases q2 <;> (go_wp2_with fail; go_ret; exact ⟨retB2 (by rw [E'.out]; simp [hq]), HB2.out⟩)
  by_cases h6 : op = 6
  · have E := Lib.hid (E6.out h6)
    clear E0 E1 E2 E3 E5 E6 h1 h2 h3 h4 h5
    subst h6
    have PV := Lib.hid (arity_any (tx t) w2)
    go_wp2_with fail
    refine PV.out.mono ?_
    rintro e w3 ⟨rfl, rfl⟩
    have E' : Hid (nodeB 6 t vk vn vs n = (((n : Int) == Ex.arity (tx t).data.toList) && q2)) := E
    generalize Ex.arity (tx t).data.toList = q3 at *
    generalize hq : ((n : Int) == q3) = q4 at *
    cases q4 <;> cases q2 <;> (go_wp2_with fail; go_ret; exact ⟨retB2 (by rw [E'.out]; simp), HB2.out⟩)
  · have E := Lib.hid (E0.out h1 h2 h3 h4 h5 h6)
    clear E0 E1 E2 E3 E5 E6
    have k1 : (op == 1) = false := by simpa using h1
    have k2 : (op == 2) = false := by simpa using h2
    have k3 : (op == 3) = false := by simpa using h3
    have k4 : (op == 4) = false := by simpa using h4
    have k5 : (op == 5) = false := by simpa using h5
    have k6 : (op == 6) = false := by simpa using h6
    clear h1 h2 h3 h4 h5 h6
    go_wp2_with fail
    go_ret
    exact ⟨retB2 E.out.symm, HB2.out⟩
end Go.Proofs.YteghhmomhlnccaaGreatDoor
