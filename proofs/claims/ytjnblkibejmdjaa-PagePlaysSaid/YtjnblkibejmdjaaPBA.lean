/- Bytes; plain: what stands where in the bytes of a page. -/
import Derived.Test.YtjnblkibejmdjaaPB9
namespace Go.Proofs.Ytjnblkibejmdjaa
open Go.RowKit
set_option linter.unusedVariables false
theorem pageB_length (size : Nat) (L : List (List UInt8)) (h : 1 + 4 * L.length + used L ≤ size) : (pageB size L).length = size := stB_length _ _ _ h
theorem list_at (L : List (List UInt8)) (i : Nat) (h : i < L.length) : L = L.take i ++ (L[i] :: L.drop (i + 1)) := by
  rw [List.getElem_cons_drop, List.take_append_drop]
theorem pageB_num (size : Nat) (L : List (List UInt8)) (i : Nat) (h : i < L.length) : ∃ R, (pageB size L).drop (1 + 4 * i + 2) = w2 L[i].length ++ R := by
  have e : ∃ R, pageB size L = (UInt8.ofNat L.length :: ents size 0 (L.take i) ++ w2 (if L[i] = [] then 0 else size - (used (L.take i) + L[i].length))) ++ (w2 L[i].length ++ R) := by
    unfold pageB stB
    conv => enter [1, R, 1, 2, 1]; rw [list_at L i h]
    rw [ents_append]
    simp only [ents, ent, Nat.zero_add]
    exact ⟨_, by simp only [List.cons_append, List.append_assoc]; rfl⟩
  obtain ⟨R, e⟩ := e
  refine ⟨R, ?_⟩
  rw [e]
  have hl : (UInt8.ofNat L.length :: ents size 0 (L.take i) ++ w2 (if L[i] = [] then 0 else size - (used (L.take i) + L[i].length))).length = 1 + 4 * i + 2 := by
    simp only [List.length_append, List.length_cons, ents_length, w2_length, List.length_take]
    omega
  rw [← hl, List.drop_left]
theorem pageB_piece (size : Nat) (L : List (List UInt8)) (i : Nat) (h : i < L.length) (hf : 1 + 4 * L.length + used L ≤ size) : ((pageB size L).drop (size - (used (L.take i) + L[i].length))).take L[i].length = L[i] := by
  have e : ∃ X, pageB size L = X ++ (L[i] ++ tails (L.take i)) := by
    unfold pageB stB
    conv => enter [1, X, 1, 2, 2, 2]; rw [list_at L i h]
    rw [tails_append]
    simp only [tails]
    exact ⟨UInt8.ofNat L.length :: (ents size 0 L ++ (zeros (size - 1 - 4 * L.length - used L) ++ tails (L.drop (i + 1)))), by simp only [List.cons_append, List.append_assoc]⟩
  obtain ⟨X, e⟩ := e
  have hl := pageB_length size L hf
  rw [e, List.length_append, List.length_append, tails_length] at hl
  have hX : X.length = size - (used (L.take i) + L[i].length) := by omega
  rw [e, ← hX, List.drop_left, List.take_left]
theorem bytes_nil (w : World) : Calls Try.prog 13 #[.pointer none] w fun e w' => e = .returned (.slice none 0 0) ∧ w = w' := by
  have T := there_nil w
  go_enter Try.func13, Try.ntmps13
  go_wp2_with fail
  refine T.mono ?_
  rintro e w1 ⟨rfl, rfl⟩
  go_wp2_with fail
  go_ret
  exact ⟨rfl, rfl⟩
theorem written_at {w : World} {P : Pg} (h : PgAt w P) : Calls Try.prog 26 #[P.ptr] w fun e w' => ∃ g, e = .returned (.slice (some ⟨g, 0, none⟩) P.size P.size) ∧ w.heap.size ≤ g ∧ BB w' g (pageB P.size P.L) ∧ Below w.heap.size w w' :=
  callsIn_wide.1 (written_in h)
theorem bytes_at {w : World} {P : Pg} (h : PgAt w P) : Calls Try.prog 13 #[P.ptr] w fun e w' => ∃ g, e = .returned (.slice (some ⟨g, 0, none⟩) P.size P.size) ∧ w.heap.size ≤ g ∧ BB w' g (pageB P.size P.L) ∧ Below w.heap.size w w' := by
  have T := Lib.hid h.there
  have WR := Lib.hid (written_at h)
  clear h
  go_enter Try.func13, Try.ntmps13
  go_wp2_with fail
  refine T.out.mono ?_
  rintro e w1 ⟨rfl, rfl⟩
  go_wp2_with fail
  refine WR.out.mono ?_
  rintro e w2 ⟨g, rfl, h1, h2, h3⟩
  go_wp2_with fail
  go_ret
  exact ⟨g, rfl, h1, h2, h3⟩
end Go.Proofs.Ytjnblkibejmdjaa
