/- The reference's Room. -/
import Derived.Test.YtjnblkibejmdjaaPBE
namespace Go.Proofs.Ytjnblkibejmdjaa
open Go.RowKit
set_option linter.unusedVariables false
def strL (L : List (List UInt8)) : List ByteArray := L.map fun b => ⟨b.toArray⟩
theorem strL_len (L : List (List UInt8)) : (strL L).length = L.length := by simp [strL]
theorem strL_at (L : List (List UInt8)) (i : Nat) (h : i < (strL L).length) : (strL L)[i] = ⟨(L[i]'(by rw [strL_len] at h; exact h)).toArray⟩ := by simp [strL]
theorem bsize (b : List UInt8) : (⟨b.toArray⟩ : ByteArray).size = b.length := by
  show b.toArray.size = _
  simp
/-- the reference's slice of strings. -/
theorem Strs.one {w : World} {A : Option Addr} {L : List (List UInt8)} (h : Strs w A (strL L)) (i : Nat) (hi : i < L.length) : ∃ g o, A = some ⟨g, o, none⟩ ∧ g < w.heap.size ∧ w.cell? ⟨g, o + i, none⟩ = some (.string ⟨L[i].toArray⟩) := by
  obtain ⟨g, o, h1, h2, h3⟩ := h i (by rw [strL_len]; exact hi)
  rw [strL_at] at h3
  exact ⟨g, o, h1, h2, h3⟩
set_option maxRecDepth 100000 in
set_option maxHeartbeats 1000000 in
theorem refRoom_any (A : Option Addr) (c : Nat) (L : List (List UInt8)) (size : Nat) (w : World) (h : Strs w A (strL L)) (hs : size ≤ 1024) (hl : L.length ≤ 1000) (hu : used L ≤ 100000) :
    Calls Try.prog 7 #[.slice A L.length c, .int .i64 (size : Nat)] w fun e w' => e = .returned (.int .i64 ((size : Int) - 1 - 4 * (L.length : Int) - (used L : Nat))) ∧ w = w' := by
  have H := Lib.hid h
  have hsi : (size : Int) ≤ 1024 := by omega
  have hli : (L.length : Int) ≤ 1000 := by omega
  clear h
  go_enter Try.func7, Try.ntmps7
  go_wp2_with fail
  go_loopg [5, 6] (L.length + 1) (fun j s5 s6 wr => ∃ i : Nat, i ≤ L.length ∧ L.length < i + j ∧ s6 = .int .i64 (i : Nat) ∧ s5 = .int .i64 ((size : Int) - 1 - 4 * (i : Int) - (used (L.take i) : Nat)) ∧ wr = w)
  case atStart => exact ⟨0, by omega, by omega, rfl, by simp [used], rfl⟩
  case round =>
    obtain ⟨i, hi, hj, rfl, rfl, rfl⟩ := hrel
    by_cases hlt : i < L.length
    · have hlti : (i : Int) < (L.length : Int) := by omega
      obtain ⟨g, o, rfl, hg, hc⟩ := H.out.one i hlt
      have hus := Lib.hid (used_take_succ L i hlt)
      have hu2 := used_at L i hlt
      have hsz := bsize L[i]
      generalize L[i] = b at *
      have hszi : (((⟨b.toArray⟩ : ByteArray).size : Nat) : Int) = (b.length : Nat) := by rw [hsz]
      have hbl : (b.length : Int) ≤ 100000 := by omega
      have hul : ((used (L.take i) : Nat) : Int) ≤ 100000 := by omega
      generalize used (L.take i) = u at *
      clear hsz
      go_wp2_with fail
      go_roundg (L.length - i)
      case measure => omega
      case rel => exact ⟨i + 1, by omega, by omega, rfl, by rw [hus.out, Int.natCast_add]; congr 1; omega, rfl⟩
    · have hge : ¬ (i : Int) < (L.length : Int) := by omega
      have hin : i = L.length := by omega
      have hut : L.take i = L := List.take_of_length_le (by omega)
      rw [hut]
      subst hin
      go_wp2_with fail
      go_ret
      exact ⟨rfl, rfl⟩
end Go.Proofs.Ytjnblkibejmdjaa
