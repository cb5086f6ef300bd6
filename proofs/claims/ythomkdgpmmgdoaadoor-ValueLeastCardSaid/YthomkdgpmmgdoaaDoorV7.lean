/- The reference's Before. -/
import Derived.Test.YthomkdgpmmgdoaaDoorV6
import Derived.LoopTactic
namespace Go.Proofs.YthomkdgpmmgdoaaDoor
open Go.RowKit

theorem bl_drop : ∀ (j : Nat) (a b : List UInt8), a.take j = b.take j → Op.bytesLess a b = Op.bytesLess (a.drop j) (b.drop j)
  | 0, _, _, _ => rfl
  | j + 1, [], [], _ => rfl
  | j + 1, [], _ :: _, h => by simp at h
  | j + 1, _ :: _, [], h => by simp at h
  | j + 1, x :: a, y :: b, h => by
    simp only [List.take_succ_cons, List.cons.injEq] at h
    obtain ⟨rfl, h⟩ := h
    rw [List.drop_succ_cons, List.drop_succ_cons, ← bl_drop j a b h]
    simp [Op.bytesLess]
theorem bl_at (a b : List UInt8) (j : Nat) (h : a.take j = b.take j) (ha : j < a.length) (hb : j < b.length) (hne : a[j] ≠ b[j]) : Op.bytesLess a b = decide ((a[j].toNat : Int) < b[j].toNat) := by
  rw [bl_drop j a b h, List.drop_eq_getElem_cons ha, List.drop_eq_getElem_cons hb]
  simp [Op.bytesLess, hne, UInt8.lt_iff_toNat_lt]
theorem bl_end (a b : List UInt8) (j : Nat) (h : a.take j = b.take j) (ha : j ≤ a.length) (hb : j ≤ b.length) (he : a.length ≤ j ∨ b.length ≤ j) : Op.bytesLess a b = decide ((a.length : Int) < b.length) := by
  rw [bl_drop j a b h]
  rcases he with he | he
  · rw [List.drop_of_length_le he]
    by_cases hl : j < b.length
    · rw [List.drop_eq_getElem_cons hl]
      simp [Op.bytesLess]; omega
    · rw [List.drop_of_length_le (by omega)]
      simp [Op.bytesLess]; omega
  · rw [List.drop_of_length_le he]
    have : ¬ ((a.length : Int) < b.length) := by omega
    cases a.drop j <;> simp [Op.bytesLess] <;> omega
theorem take_next (a b : List UInt8) (j : Nat) (h : a.take j = b.take j) (ha : j < a.length) (hb : j < b.length) (he : a[j] = b[j]) : a.take (j + 1) = b.take (j + 1) := by
  rw [List.take_succ_eq_append_getElem ha, List.take_succ_eq_append_getElem hb, h, he]
theorem getE (s : ByteArray) (j : Nat) (h : j < s.size) : s[j] = s.toList[j]'(by rw [size_list]; exact h) := by
  simp [ByteArray.toList_eq]; rfl
theorem bdrewN {B : Nat} {a b : World} (h : Below B a b) (q : Nat) : Below B a (b.drewN q) := ⟨h.os, h.tape, h.output, h.size, h.block⟩
/-- does a plain value stand ahead of another one? -/
def befB (k n : Int) (s : ByteArray) (k' n' : Int) (s' : ByteArray) : Bool := if k = k' then if k = 2 then Op.bytesLess s.toList s'.toList else decide (n < n') else decide (k < k')

set_option maxRecDepth 100000 in
set_option maxHeartbeats 1000000 in
theorem before_kind (k n : Int) (s : ByteArray) (k' n' : Int) (s' : ByteArray) (w : World) (h : k ≠ k') :
    Calls Tryd.prog 17 #[val k n s, val k' n' s'] w fun e w' => e = .returned (.bool (befB k n s k' n' s')) ∧ Below w.heap.size w w' := by
  rw [show befB k n s k' n' s' = decide (k < k') from if_neg h]
  have hb : (k == k') = false := by simpa using h
  go_enter Tryd.func17, Tryd.ntmps17
  go_wp2
  go_ret
  exact ⟨rfl, ((Below.refl _ _).alloc (Nat.le_refl _) _).alloc (by simp) _⟩
set_option maxRecDepth 100000 in
set_option maxHeartbeats 1000000 in
theorem before_num (k n : Int) (s : ByteArray) (n' : Int) (s' : ByteArray) (w : World) (h : k ≠ 2) :
    Calls Tryd.prog 17 #[val k n s, val k n' s'] w fun e w' => e = .returned (.bool (befB k n s k n' s')) ∧ Below w.heap.size w w' := by
  rw [show befB k n s k n' s' = decide (n < n') by simp [befB, h]]
  have hb : (k == 2) = false := by simpa using h
  go_enter Tryd.func17, Tryd.ntmps17
  go_wp2
  go_ret
  exact ⟨rfl, ((Below.refl _ _).alloc (Nat.le_refl _) _).alloc (by simp) _⟩
set_option maxRecDepth 100000 in
set_option maxHeartbeats 1000000 in
theorem before_text (n : Int) (s : ByteArray) (n' : Int) (s' : ByteArray) (w : World) (hs : s.size ≤ 1000000) (hs' : s'.size ≤ 1000000) :
    Calls Tryd.prog 17 #[val 2 n s, val 2 n' s'] w fun e w' => e = .returned (.bool (befB 2 n s 2 n' s')) ∧ Below w.heap.size w w' := by
  rw [show befB 2 n s 2 n' s' = Op.bytesLess s.toList s'.toList by simp [befB]]
  go_enter Tryd.func17, Tryd.ntmps17
  go_wp2
  go_loopw [5] (fun i wr => ∃ (j : Nat), i = .int .i64 j ∧ j ≤ s.size ∧ j ≤ s'.size ∧ Hid (s.toList.take j = s'.toList.take j) ∧ ∃ q, wr = (((w.alloc (.cells #[.int .i64 2, .int .i64 n, .string s] 23)).alloc (.cells #[.int .i64 2, .int .i64 n', .string s'] 23))).drewN q) (fun i _ => s.size - (intOf i).toNat)
  case atStart => exact ⟨0, rfl, Nat.zero_le _, Nat.zero_le _, Lib.hid rfl, 0, rfl⟩
  case round =>
    obtain ⟨j, rfl, h1, h2, HT, q, rfl⟩ := hrel
    by_cases hj : j < s.size
    · by_cases hj' : j < s'.size
      · by_cases he : s[j] = s'[j]
        · have HN := Lib.hid (take_next s.toList s'.toList j HT.out (by rw [size_list]; exact hj) (by rw [size_list]; exact hj') (by rw [← getE s j hj, ← getE s' j hj', he]))
          have hb : ((s[j].toNat : Int) == (s'[j].toNat : Int)) = true := by rw [he]; simp
          have HE := Lib.hid he
          clear he
          go_wp2
          go_quiet (fail)
          go_wp2
          go_roundw
          case rel => exact ⟨j + 1, by go_num, by omega, by omega, HN, q + nq, rfl⟩
          case measure => simp [intOf]; omega
        · have hb : ((s[j].toNat : Int) == (s'[j].toNat : Int)) = false := by
            rw [beq_eq_false_iff_ne]; intro h; exact he (UInt8.toNat_inj.1 (by omega))
          have HE := Lib.hid (bl_at s.toList s'.toList j HT.out (by rw [size_list]; exact hj) (by rw [size_list]; exact hj') (by rw [← getE s j hj, ← getE s' j hj']; exact he))
          rw [← getE s j hj, ← getE s' j hj'] at HE
          clear he
          go_wp2
          go_quiet (fail)
          go_wp2
          go_quiet (fail)
          go_wp2
          go_ret
          exact ⟨retB (by rw [HE.out]; simp), bdrewN (bdrewN (bdrewN (((Below.refl _ _).alloc (Nat.le_refl _) _).alloc (by simp) _) _) _) _⟩
      · have HE := Lib.hid (bl_end s.toList s'.toList j HT.out (by rw [size_list]; exact h1) (by rw [size_list]; exact h2) (by rw [size_list, size_list]; omega))
        go_wp2
        go_ret
        exact ⟨retB (by rw [HE.out, size_list, size_list]; simp), bdrewN (((Below.refl _ _).alloc (Nat.le_refl _) _).alloc (by simp) _) _⟩
    · have HE := Lib.hid (bl_end s.toList s'.toList j HT.out (by rw [size_list]; exact h1) (by rw [size_list]; exact h2) (by rw [size_list, size_list]; omega))
      go_wp2
      go_ret
      exact ⟨retB (by rw [HE.out, size_list, size_list]; simp), bdrewN (((Below.refl _ _).alloc (Nat.le_refl _) _).alloc (by simp) _) _⟩
theorem before_any (k n : Int) (s : ByteArray) (k' n' : Int) (s' : ByteArray) (w : World) (hs : s.size ≤ 1000000) (hs' : s'.size ≤ 1000000) :
    Calls Tryd.prog 17 #[val k n s, val k' n' s'] w fun e w' => e = .returned (.bool (befB k n s k' n' s')) ∧ Below w.heap.size w w' := by
  by_cases h : k = k'
  · subst h
    by_cases h2 : k = 2
    · subst h2; exact before_text n s n' s' w hs hs'
    · exact before_num k n s n' s' w h2
  · exact before_kind k n s k' n' s' w h
end Go.Proofs.YthomkdgpmmgdoaaDoor
