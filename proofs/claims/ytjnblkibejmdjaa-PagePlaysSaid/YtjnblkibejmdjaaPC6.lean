/- PagePlays: a size that is none. -/
import Derived.Test.YtjnblkibejmdjaaPC5
namespace Go.Proofs.Ytjnblkibejmdjaa
open Go.RowKit
set_option linter.unusedVariables false
structure Both (w0 w : World) (p size : Nat) (L : List (List UInt8)) (v : Value) : Prop where
  own : Own w0 w p size L
  row : SRow w w0.heap.size v (strL L)
  trim : trimL L = L
theorem Both.below {w0 w w' : World} {p size : Nat} {L : List (List UInt8)} {v : Value} (h : Both w0 w p size L v) (hb : Below w.heap.size w w') : Both w0 w' p size L v := ⟨h.own.below hb, h.row.below hb, h.trim⟩
theorem Whole.still {w w' : World} {g : Nat} {t : TypeId} {cs : Array Value} (h : Whole w g t cs) (hs : Still w w') (h1 : t ≠ 48) (h2 : t ≠ 29) : Whole w' g t cs := (hs.block g cs t _ h h1 h2).trans h
theorem trimN_len {L : List (List UInt8)} (h : trimL L = L) : trimN L L.length = L.length := by
  have := congrArg List.length h
  unfold trimL at this
  rw [List.length_take] at this
  have := trimN_le L L.length
  omega
theorem trimL_of {L : List (List UInt8)} (h : trimN L L.length = L.length) : trimL L = L := by
  unfold trimL
  rw [h, List.take_length]
theorem trimL_snoc (L : List (List UInt8)) (b : List UInt8) (hb : b ≠ []) : trimL (L ++ [b]) = L ++ [b] := by
  refine trimL_of ?_
  rw [List.length_append, List.length_singleton]
  exact trimN_full _ _ (by simpa [List.getD_eq_getElem?_getD] using hb)
theorem trimL_set {L : List (List UInt8)} (h : trimL L = L) (i : Nat) (b : List UInt8) (hb : b ≠ []) : trimL (L.set i b) = L.set i b := by
  have h0 := trimN_len h
  refine trimL_of ?_
  rw [List.length_set]
  cases hn : L.length with
  | zero => rfl
  | succ n =>
    rw [hn] at h0
    have hne : L.getD n [] ≠ [] := fun e => by
      rw [trimN_empty _ _ e] at h0
      have := trimN_le L n
      omega
    refine trimN_full _ _ ?_
    rw [List.getD_eq_getElem?_getD, List.getElem?_set]
    split
    · rw [if_pos (by omega)]
      exact hb
    · rw [← List.getD_eq_getElem?_getD]
      exact hne
theorem trimN_stop (L : List (List UInt8)) : ∀ n, trimN L n = 0 ∨ ∃ m, trimN L n = m + 1 ∧ L.getD m [] ≠ []
  | 0 => .inl rfl
  | n + 1 => by
    by_cases h : L.getD n [] = []
    · rw [trimN_empty _ _ h]; exact trimN_stop L n
    · rw [trimN_full _ _ h]; exact .inr ⟨n, rfl, h⟩
theorem trimL_trimL (L : List (List UInt8)) : trimL (trimL L) = trimL L := by
  refine trimL_of ?_
  have hle := trimN_le L L.length
  have hl : (trimL L).length = trimN L L.length := by unfold trimL; rw [List.length_take]; omega
  rw [hl]
  rcases trimN_stop L L.length with h | ⟨m, h, hm⟩
  · rw [h]; rfl
  · rw [h]
    refine trimN_full _ _ ?_
    unfold trimL
    rw [h, List.getD_eq_getElem?_getD, List.getElem?_take, if_pos (by omega), ← List.getD_eq_getElem?_getD]
    exact hm
theorem str_empty {b : List UInt8} (h : b = []) : (⟨b.toArray⟩ : ByteArray).toList.isEmpty = true := by subst h; rw [ByteArray.toList_eq]; rfl
theorem str_full {b : List UInt8} (h : b ≠ []) : (⟨b.toArray⟩ : ByteArray).toList.isEmpty = false := by
  rw [ByteArray.toList_eq]
  simp [h]
/-- the list gets a string more. -/
theorem Both.push {w0 w : World} {p size : Nat} {L : List (List UInt8)} {A : Option Addr} {n c : Nat} {b : List UInt8} (ho : Own w0 w p size (L ++ [b])) (hr : SRow w w0.heap.size (.slice A n c) (strL L)) (hb : b ≠ []) (hn : L.length ≤ 1000) :
    ∃ v' w', Sem.run Try.prog (Builtin.append_ #[28, 28] 28 #[.slice A n c, .slice (some ⟨w.heap.size, 0, none⟩) 1 1]) (w.alloc (.cells #[.string ⟨b.toArray⟩] 9)) = .ok v' w' ∧ Both w0 w' p size (L ++ [b]) v' := by
  obtain ⟨v', w', h1, h2, h3⟩ := append_str hr ⟨b.toArray⟩ (by rw [strL_len]; omega) ho.bel.size
  have ha : Below w.heap.size w (w.alloc (.cells #[.string ⟨b.toArray⟩] 9)) := (Below.refl _ _).alloc (Nat.le_refl _) _
  have ht : Touch (Value.slice A n c).ownBlock.toList w w' := (Touch.of_below ha _).grown h3 (fun k e => .inl (by simp [e]))
  refine ⟨v', w', h1, ⟨ho.touch ht fun k hk => ?_, by rw [strL_snoc]; exact h2, trimL_snoc L b hb⟩⟩
  have hk' : (Value.slice A n c).ownBlock = some k := by simpa using hk
  obtain ⟨cur, hc⟩ := row_kind hr hk'
  exact ⟨(hr.block k hk').1, .inr ⟨_, _, hc⟩⟩
/-- one string of the list is another. -/
theorem Both.poke {w0 w : World} {p size : Nat} {L L' : List (List UInt8)} {A : Option Addr} {n c : Nat} {b : List UInt8} (ho : Own w0 w p size L') (hr : SRow w w0.heap.size (.slice A n c) (strL L)) (i : Nat) (hi : i < L.length) :
    ∃ g, A = some ⟨g, 0, none⟩ ∧ (∃ z, w.cell? ⟨g, i, none⟩ = some (.string z)) ∧ w.frozen? ⟨g, i, none⟩ = false ∧ Own w0 (w.setCell ⟨g, i, none⟩ (.string ⟨b.toArray⟩)) p size L' ∧ SRow (w.setCell ⟨g, i, none⟩ (.string ⟨b.toArray⟩)) w0.heap.size (.slice A n c) (strL (L.set i b)) := by
  obtain ⟨g, h1, h2, h3, h4, h5, h6, cs, h7⟩ := hr.store i (by rw [strL_len]; exact hi) ⟨b.toArray⟩
  exact ⟨g, h1, h4, h5, ho.touch (Touch.one (F := [g]) (by simp)) (fun k hk => by
    have : k = g := by simpa using hk
    subst this
    exact ⟨h2, .inr ⟨_, _, h7⟩⟩), by rw [strL_set]; exact h6⟩
set_option maxRecDepth 100000 in
theorem plays_bad (n : Int) (h : n < 64 ∨ 1024 < n) (A : Option Addr) (l c : Nat) (w : World) : Calls Try.prog 3 #[.int .i64 n, .slice A l c] w fun e w' => e = .returned (.bool true) ∧ Below w.heap.size w w' := by
  have AW := Lib.hid (awake_any w)
  have NW := Lib.hid fun W => new_bad n h W
  by_cases h1 : n < 64
  · go_enter Try.func3, Try.ntmps3
    go_wp2_with fail
    refine AW.out.mono ?_
    rintro e w1 ⟨rfl, hb⟩
    go_wp2_with fail
    refine (NW.out _).mono ?_
    rintro e w2 ⟨rfl, rfl⟩
    go_wp2_with fail
    go_ret
    exact ⟨rfl, hb⟩
  · have h2 : n > 1024 := by omega
    go_enter Try.func3, Try.ntmps3
    go_wp2_with fail
    refine AW.out.mono ?_
    rintro e w1 ⟨rfl, hb⟩
    go_wp2_with fail
    refine (NW.out _).mono ?_
    rintro e w2 ⟨rfl, rfl⟩
    go_wp2_with fail
    go_ret
    exact ⟨rfl, hb⟩
end Go.Proofs.Ytjnblkibejmdjaa
