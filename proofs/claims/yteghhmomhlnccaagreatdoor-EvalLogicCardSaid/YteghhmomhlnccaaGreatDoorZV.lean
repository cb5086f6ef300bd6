import Derived.Test.YteghhmomhlnccaaGreatDoorZV4
import Derived.Laws.Cover1
import Derived.LoopTactic
import Derived.LoopN
import Derived.Test.YteghhmomhlnccaaGreatDoorZV8
set_option linter.unusedVariables false
set_option linter.unusedSimpArgs false

/- cmp.Compare at int, int64, string; the order of texts; cmp.Or at int. -/
namespace Go.Proofs.YteghhmomhlnccaaGreatDoor
open Go.RowKit

def cmpI (a b : Int) : Int := if a < b then -1 else if b < a then 1 else 0
def cmpS (a b : List UInt8) : Int := if Op.bytesLess a b then -1 else if a == b then 0 else 1
theorem retI {a b : Int} (h : a = b) : Ending.returned (.int .i64 a) = .returned (.int .i64 b) := by rw [h]

/-! The order of texts. -/
theorem bl_irr : ∀ (a : List UInt8), Op.bytesLess a a = false
  | [] => rfl
  | x :: a => by simp [Op.bytesLess, bl_irr a]
theorem bl_total : ∀ (a b : List UInt8), Op.bytesLess a b = false → Op.bytesLess b a = false → a = b
  | [], [], _, _ => rfl
  | [], _ :: _, h, _ => by simp [Op.bytesLess] at h
  | _ :: _, [], _, h => by simp [Op.bytesLess] at h
  | x :: a, y :: b, h, k => by
    simp only [Op.bytesLess, Bool.or_eq_false_iff, Bool.and_eq_false_iff, decide_eq_false_iff_not, UInt8.lt_iff_toNat_lt, beq_eq_false_iff_ne] at h k
    have e : x = y := UInt8.toNat_inj.1 (by omega)
    subst e
    have h2 := h.2.resolve_left (by simp)
    have k2 := k.2.resolve_left (by simp)
    rw [bl_total a b h2 k2]
theorem bl_trans : ∀ (a b c : List UInt8), Op.bytesLess a b = true → Op.bytesLess b c = true → Op.bytesLess a c = true
  | [], _, [], h, k => by
    rename_i b
    cases b <;> simp [Op.bytesLess] at h k
  | [], _, _ :: _, _, _ => rfl
  | _ :: _, [], _, h, _ => by simp [Op.bytesLess] at h
  | _ :: _, _ :: _, [], _, k => by simp [Op.bytesLess] at k
  | x :: a, y :: b, z :: c, h, k => by
    simp only [Op.bytesLess, Bool.or_eq_true, Bool.and_eq_true, decide_eq_true_eq, UInt8.lt_iff_toNat_lt, beq_iff_eq] at h k ⊢
    rcases h with h | ⟨rfl, h⟩
    · rcases k with k | ⟨rfl, k⟩
      · left; omega
      · left; exact h
    · rcases k with k | ⟨rfl, k⟩
      · left; exact k
      · right; exact ⟨rfl, bl_trans a b c h k⟩
theorem bl_asymm (a b : List UInt8) (h : Op.bytesLess a b = true) : Op.bytesLess b a = false := by
  cases k : Op.bytesLess b a
  · rfl
  · have := bl_trans a b a h k
    rw [bl_irr] at this
    cases this

set_option maxRecDepth 100000 in
theorem cmpInt_any (a b : Int) (w : World) : Calls Tryz.prog 137 #[.int .i64 a, .int .i64 b] w fun e w' => e = .returned (.int .i64 (cmpI a b)) ∧ w = w' := by
  rcases Int.lt_trichotomy a b with h | h | h
  · rw [show cmpI a b = -1 from if_pos h]
    go_enter Tryz.func137, Tryz.ntmps137
    go_wp2
    go_ret
    exact ⟨rfl, rfl⟩
  · subst h
    rw [show cmpI a a = 0 by simp [cmpI]]
    go_enter Tryz.func137, Tryz.ntmps137
    go_wp2
    go_ret
    exact ⟨rfl, rfl⟩
  · rw [show cmpI a b = 1 by rw [cmpI, if_neg (by omega), if_pos h]]
    have hd : decide (a < b) = false := decide_eq_false (by omega)
    go_enter Tryz.func137, Tryz.ntmps137
    go_wp2
    go_ret
    exact ⟨rfl, rfl⟩
set_option maxRecDepth 100000 in
theorem cmpInt64_any (a b : Int) (w : World) : Calls Tryz.prog 138 #[.int .i64 a, .int .i64 b] w fun e w' => e = .returned (.int .i64 (cmpI a b)) ∧ w = w' := by
  rcases Int.lt_trichotomy a b with h | h | h
  · rw [show cmpI a b = -1 from if_pos h]
    go_enter Tryz.func138, Tryz.ntmps138
    go_wp2
    go_ret
    exact ⟨rfl, rfl⟩
  · subst h
    rw [show cmpI a a = 0 by simp [cmpI]]
    go_enter Tryz.func138, Tryz.ntmps138
    go_wp2
    go_ret
    exact ⟨rfl, rfl⟩
  · rw [show cmpI a b = 1 by rw [cmpI, if_neg (by omega), if_pos h]]
    have hd : decide (a < b) = false := decide_eq_false (by omega)
    go_enter Tryz.func138, Tryz.ntmps138
    go_wp2
    go_ret
    exact ⟨rfl, rfl⟩
set_option maxRecDepth 100000 in
theorem cmpStr_any (a b : ByteArray) (w : World) : Calls Tryz.prog 139 #[.string a, .string b] w fun e w' => e = .returned (.int .i64 (cmpS a.toList b.toList)) ∧ w = w' := by
  unfold cmpS
  cases h1 : Op.bytesLess a.toList b.toList
  · cases h2 : (a.toList == b.toList)
    · go_enter Tryz.func139, Tryz.ntmps139
      go_wp2
      go_ret
      exact ⟨rfl, rfl⟩
    · go_enter Tryz.func139, Tryz.ntmps139
      go_wp2
      go_ret
      exact ⟨rfl, rfl⟩
  · go_enter Tryz.func139, Tryz.ntmps139
    go_wp2
    go_ret
    exact ⟨rfl, rfl⟩

/-- the first one that is not nought. -/
def or3 (x y z : Int) : Int := if x = 0 then if y = 0 then z else y else x
set_option maxRecDepth 100000 in
theorem or_any (g : Nat) (x y z : Int) (w : World) (h0 : w.cell? ⟨g, 0, none⟩ = some (.int .i64 x)) (h1 : w.cell? ⟨g, 1, none⟩ = some (.int .i64 y)) (h2 : w.cell? ⟨g, 2, none⟩ = some (.int .i64 z)) :
    Calls Tryz.prog 136 #[.slice (some ⟨g, 0, none⟩) 3 3] w fun e w' => e = .returned (.int .i64 (or3 x y z)) ∧ w = w' := by
  by_cases hx : x = 0
  · subst hx
    by_cases hy : y = 0
    · subst hy
      rw [show or3 0 0 z = z from rfl]
      by_cases hz : z = 0
      · subst hz
        go_enter Tryz.func136, Tryz.ntmps136
        go_wp2
        refine wp_loop_rounds 6 ?_
        rw [rounds_succ]; go_wp2
        rw [rounds_succ]; go_wp2
        rw [rounds_succ]; go_wp2
        rw [rounds_succ]; go_wp2
        go_ret
        exact ⟨rfl, rfl⟩
      · have hb : (z == 0) = false := by simpa using hz
        go_enter Tryz.func136, Tryz.ntmps136
        go_wp2
        refine wp_loop_rounds 6 ?_
        rw [rounds_succ]; go_wp2
        rw [rounds_succ]; go_wp2
        rw [rounds_succ]; go_wp2
        go_ret
        exact ⟨rfl, rfl⟩
    · rw [show or3 0 y z = y by simp [or3, hy]]
      have hb : (y == 0) = false := by simpa using hy
      go_enter Tryz.func136, Tryz.ntmps136
      go_wp2
      refine wp_loop_rounds 6 ?_
      rw [rounds_succ]; go_wp2
      rw [rounds_succ]; go_wp2
      go_ret
      exact ⟨rfl, rfl⟩
  · rw [show or3 x y z = x by simp [or3, hx]]
    have hb : (x == 0) = false := by simpa using hx
    go_enter Tryz.func136, Tryz.ntmps136
    go_wp2
    refine wp_loop_rounds 6 ?_
    rw [rounds_succ]; go_wp2
    go_ret
    exact ⟨rfl, rfl⟩
theorem or_new (W : World) (x y z : Int) (t : TypeId) :
    Calls Tryz.prog 136 #[.slice (some ⟨W.heap.size, 0, none⟩) 3 3] (W.alloc (.cells #[.int .i64 x, .int .i64 y, .int .i64 z] t)).drew fun e w' => e = .returned (.int .i64 (or3 x y z)) ∧ (W.alloc (.cells #[.int .i64 x, .int .i64 y, .int .i64 z] t)).drew = w' :=
  or_any _ x y z _ (by simp [go_sem]) (by simp [go_sem]) (by simp [go_sem])
end Go.Proofs.YteghhmomhlnccaaGreatDoor

/- value.Compare. -/
namespace Go.Proofs.YteghhmomhlnccaaGreatDoor
open Go.RowKit

/-- what Compare tells of two plain values. -/
def ord (k n : Int) (s : ByteArray) (k' n' : Int) (s' : ByteArray) : Int := or3 (cmpI k k') (cmpI n n') (cmpS s.toList s'.toList)
set_option maxRecDepth 100000 in
set_option maxHeartbeats 1000000 in
theorem compare_no1 (k n : Int) (s : ByteArray) (k' n' : Int) (s' : ByteArray) (w : World) (hs : s.size ≤ 9223372036854775807) (hs' : s'.size ≤ 9223372036854775807) (h1 : plainB k n s = false) :
    Calls Tryz.prog 115 #[val k n s, val k' n' s'] w fun e w' => e = .returned (.int .i64 0) ∧ Below w.heap.size w w' := by
  have P := fun w => plain_any k n s w hs
  rw [h1] at P
  have PP := Lib.hid P
  clear P
  go_enter Tryz.func115, Tryz.ntmps115
  go_wp2_with (go_at_call 33; refine (PP.out _).mono ?_; rintro e w1 ⟨rfl, hb1⟩; have HB1 := Lib.hid hb1; clear hb1)
  go_ret
  exact ⟨rfl, bstep (((Below.refl _ _).alloc (Nat.le_refl _) _).alloc (by simp) _) HB1.out⟩
set_option maxRecDepth 100000 in
set_option maxHeartbeats 1000000 in
theorem compare_no2 (k n : Int) (s : ByteArray) (k' n' : Int) (s' : ByteArray) (w : World) (hs : s.size ≤ 9223372036854775807) (hs' : s'.size ≤ 9223372036854775807) (h1 : plainB k n s = true) (h2 : plainB k' n' s' = false) :
    Calls Tryz.prog 115 #[val k n s, val k' n' s'] w fun e w' => e = .returned (.int .i64 0) ∧ Below w.heap.size w w' := by
  have P := fun w => plain_any k n s w hs
  have P' := fun w => plain_any k' n' s' w hs'
  rw [h1] at P
  rw [h2] at P'
  have PP := Lib.hid P
  have PP' := Lib.hid P'
  clear P P'
  go_enter Tryz.func115, Tryz.ntmps115
  go_wp2_with fail
  refine (PP.out _).mono ?_
  rintro e w1 ⟨rfl, hb1⟩
  have H2 := (((Holds3.new (w.alloc (.cells #[.int .i64 k, .int .i64 n, .string s] 23)) k' n' s' 23)).below hb1 (by simp))
  simp only [alloc_size] at H2
  obtain ⟨c3, c4, c5⟩ := H2
  have HB1 := Lib.hid (bstep (((Below.refl _ _).alloc (Nat.le_refl _) _).alloc (by simp) _) hb1)
  clear hb1
  go_wp2_with fail
  refine (PP'.out _).mono ?_
  rintro e w2 ⟨rfl, hb2⟩
  have HB2 := Lib.hid (bstep HB1.out hb2)
  clear hb2
  go_wp2
  go_ret
  exact ⟨rfl, HB2.out⟩
set_option maxRecDepth 100000 in
set_option maxHeartbeats 1000000 in
theorem compare_yes (k n : Int) (s : ByteArray) (k' n' : Int) (s' : ByteArray) (w : World) (hs : s.size ≤ 9223372036854775807) (hs' : s'.size ≤ 9223372036854775807) (h1 : plainB k n s = true) (h2 : plainB k' n' s' = true) :
    Calls Tryz.prog 115 #[val k n s, val k' n' s'] w fun e w' => e = .returned (.int .i64 (ord k n s k' n' s')) ∧ Below w.heap.size w w' := by
  have P := fun w => plain_any k n s w hs
  have P' := fun w => plain_any k' n' s' w hs'
  rw [h1] at P
  rw [h2] at P'
  have PP := Lib.hid P
  have PP' := Lib.hid P'
  clear P P' h1 h2
  go_enter Tryz.func115, Tryz.ntmps115
  go_wp2_with fail
  refine (PP.out _).mono ?_
  rintro e w1 ⟨rfl, hb1⟩
  have H1 := ((Holds3.new w k n s 23).alloc (.cells #[.int .i64 k', .int .i64 n', .string s'] 23)).below hb1 (by simp; omega)
  have H2 := (((Holds3.new (w.alloc (.cells #[.int .i64 k, .int .i64 n, .string s] 23)) k' n' s' 23)).below hb1 (by simp))
  simp only [alloc_size] at H2
  have HB1 := Lib.hid (bstep (((Below.refl _ _).alloc (Nat.le_refl _) _).alloc (by simp) _) hb1)
  clear hb1
  have HH1 := Lib.hid H1
  have HH2 := Lib.hid H2
  clear H1
  obtain ⟨c3, c4, c5⟩ := H2
  go_wp2_with fail
  clear c3 c4 c5
  refine (PP'.out _).mono ?_
  rintro e w2 ⟨rfl, hb2⟩
  have H1 := HH1.out.below hb2 HH1.out.lt
  have H2 := HH2.out.below hb2 HH2.out.lt
  have HB2 := Lib.hid (bstep HB1.out hb2)
  clear hb2 HB1 HH1 HH2
  obtain ⟨a3, a4, a5⟩ := H1
  obtain ⟨c3, c4, c5⟩ := H2
  go_wp2
  go_region_held3 (fun w' => w'.cell? ⟨w.heap.size, 0, none⟩ = some (.int .i64 k) ∧ w'.cell? ⟨w.heap.size, 1, none⟩ = some (.int .i64 n) ∧ w'.cell? ⟨w.heap.size, 2, none⟩ = some (.string s) ∧ w'.cell? ⟨w.heap.size + 1, 0, none⟩ = some (.int .i64 k') ∧ w'.cell? ⟨w.heap.size + 1, 1, none⟩ = some (.int .i64 n') ∧ w'.cell? ⟨w.heap.size + 1, 2, none⟩ = some (.string s')) (go_keep)
    (first
      | (go_at_call 137; (with_reducible refine (cmpInt_any _ _ _).mono ?_); rintro e w' ⟨rfl, rfl⟩)
      | (go_at_call 138; (with_reducible refine (cmpInt64_any _ _ _).mono ?_); rintro e w' ⟨rfl, rfl⟩)
      | (go_at_call 139; (with_reducible refine (cmpStr_any _ _ _).mono ?_); rintro e w' ⟨rfl, rfl⟩)
      | (go_at_call 136; (with_reducible refine (or_new _ _ _ _ _).mono ?_); rintro e w' ⟨rfl, rfl⟩))
  go_wp2
  go_ret
  exact ⟨rfl, (HB2.out.alloc HB2.out.size _).drew⟩
/-- what Compare tells. -/
def cmpV (k n : Int) (s : ByteArray) (k' n' : Int) (s' : ByteArray) : Int := if plainB k n s && plainB k' n' s' then ord k n s k' n' s' else 0
theorem compare_any (k n : Int) (s : ByteArray) (k' n' : Int) (s' : ByteArray) (w : World) (hs : s.size ≤ 9223372036854775807) (hs' : s'.size ≤ 9223372036854775807) :
    Calls Tryz.prog 115 #[val k n s, val k' n' s'] w fun e w' => e = .returned (.int .i64 (cmpV k n s k' n' s')) ∧ Below w.heap.size w w' := by
  cases h1 : plainB k n s
  · rw [show cmpV k n s k' n' s' = 0 by simp [cmpV, h1]]
    exact compare_no1 k n s k' n' s' w hs hs' h1
  · cases h2 : plainB k' n' s'
    · rw [show cmpV k n s k' n' s' = 0 by simp [cmpV, h2]]
      exact compare_no2 k n s k' n' s' w hs hs' h1 h2
    · rw [show cmpV k n s k' n' s' = ord k n s k' n' s' by simp [cmpV, h1, h2]]
      exact compare_yes k n s k' n' s' w hs hs' h1 h2
end Go.Proofs.YteghhmomhlnccaaGreatDoor

/- The reference's Before. -/
namespace Go.Proofs.YteghhmomhlnccaaGreatDoor
open Go.RowKit

/-- does a plain value stand ahead of another one? -/
def befB (k n : Int) (s : ByteArray) (k' n' : Int) (s' : ByteArray) : Bool := if k = k' then if k = 2 then Op.bytesLess s.toList s'.toList else decide (n < n') else decide (k < k')

end Go.Proofs.YteghhmomhlnccaaGreatDoor

/- Values: the order is one. awake. -/
namespace Go.Proofs.YteghhmomhlnccaaGreatDoor
open Go.RowKit

theorem cmpS_zero {a b : List UInt8} : cmpS a b = 0 ↔ a = b := by
  unfold cmpS
  by_cases h : Op.bytesLess a b = true
  · rw [if_pos h]
    constructor
    · intro k; omega
    · rintro rfl; rw [bl_irr] at h; cases h
  · rw [if_neg h]
    by_cases e : a = b
    · simp [e]
    · have : (a == b) = false := by simpa using e
      simp [this, e]
theorem cmpS_neg (a b : List UInt8) : cmpS b a = - cmpS a b := by
  unfold cmpS
  by_cases h : Op.bytesLess a b = true
  · have h2 := bl_asymm a b h
    have hne : b ≠ a := by rintro rfl; rw [bl_irr] at h; cases h
    have : (b == a) = false := by simpa using hne
    simp [h, h2, this]
  · have h' : Op.bytesLess a b = false := by simpa using h
    by_cases e : a = b
    · subst e; simp [bl_irr]
    · have h3 : Op.bytesLess b a = true := by
        cases k : Op.bytesLess b a
        · exact absurd (bl_total a b h' k) e
        · rfl
      have : (a == b) = false := by simpa using e
      simp [h', h3, this]
theorem cmpI_neg (a b : Int) : cmpI b a = - cmpI a b := by unfold cmpI; split <;> split <;> omega
theorem cmpI_zero {a b : Int} : cmpI a b = 0 ↔ a = b := by unfold cmpI; split <;> (try split) <;> omega
theorem ord_neg (k n : Int) (s : ByteArray) (k' n' : Int) (s' : ByteArray) : ord k' n' s' k n s = - ord k n s k' n' s' := by
  unfold ord
  rw [cmpI_neg k k', cmpI_neg n n', cmpS_neg s.toList s'.toList]
  generalize cmpI k k' = x
  generalize cmpI n n' = y
  generalize cmpS s.toList s'.toList = z
  unfold or3
  split <;> split <;> (try split) <;> (try split) <;> omega
theorem same_empty {s s' : ByteArray} (h : s.size = 0) (h' : s'.size = 0) : s.toList = s'.toList := by
  rw [← size_list, List.length_eq_zero_iff] at h h'
  rw [h, h']
theorem ord_bef {k n : Int} {s : ByteArray} {k' n' : Int} {s' : ByteArray} (h : plainB k n s = true) (h' : plainB k' n' s' = true) : befB k n s k' n' s' = true ↔ ord k n s k' n' s' < 0 := by
  rw [plainB_iff] at h h'
  unfold befB ord or3
  by_cases hk : k = k'
  · subst hk
    rw [if_pos rfl, if_pos (cmpI_zero.2 rfl)]
    by_cases h2 : k = 2
    · subst h2
      have hn : n = n' := by omega
      subst hn
      rw [if_pos rfl, if_pos (cmpI_zero.2 rfl)]
      unfold cmpS
      split
      · simp [*]
      · split <;> simp [*]
    · have hs : s.toList = s'.toList := same_empty (by omega) (by omega)
      rw [if_neg h2, hs, cmpS_zero.2 rfl]
      unfold cmpI
      by_cases h3 : n < n'
      · simp [h3]
      · by_cases h4 : n' < n
        · simp [h3, h4]
        · simp [h3, h4]
  · rw [if_neg hk, if_neg (fun e => hk (cmpI_zero.1 e))]
    unfold cmpI
    by_cases h3 : k < k'
    · simp [h3]
    · have h4 : k' < k := by omega
      simp [h3, h4]

end Go.Proofs.YteghhmomhlnccaaGreatDoor
