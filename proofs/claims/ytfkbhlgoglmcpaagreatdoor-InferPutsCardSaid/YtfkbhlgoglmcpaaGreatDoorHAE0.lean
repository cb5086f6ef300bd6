/- Plain facts of what is put. -/
import Derived.Test.YtfkbhlgoglmcpaaGreatDoorHMB
import Derived.Test.YtfkbhlgoglmcpaaGreatDoorHQ
namespace Go.Proofs.YtfkbhlgoglmcpaaGreatDoor
open Go.RowKit Go.Lib
set_option linter.unusedVariables false
set_option linter.unusedSimpArgs false
set_option maxRecDepth 100000
open Ex (Tree)

theorem StrsBelow {w w' : World} {A : Option Addr} {l : List ByteArray} (h : Strs w A l) (hb : Below w.heap.size w w') : Strs w' A l := fun i hi => by
  obtain ⟨g, o, e, hg, hc⟩ := h i hi
  exact ⟨g, o, e, Nat.lt_of_lt_of_le hg hb.size, (hb.cell hg).trans hc⟩
mutual
theorem count_put (n : List UInt8) (Y : Tree) : ∀ X : Tree, Ex.count (Ex.put n Y X) ≤ Ex.count X * Ex.count Y
  | .node op t vk vn vs ks => by
    have hY := Ex.count_pos Y
    rw [Ex.put]
    split
    · rw [Ex.count, Nat.add_mul]; omega
    · rw [Ex.count, Ex.count, Nat.add_mul]
      have := counts_put n Y ks
      omega
theorem counts_put (n : List UInt8) (Y : Tree) : ∀ l : List Tree, Ex.counts (Ex.puts n Y l) ≤ Ex.counts l * Ex.count Y
  | [] => by rw [Ex.puts, Ex.counts]; omega
  | x :: l => by
    have h1 := count_put n Y x
    have h2 := counts_put n Y l
    rw [Ex.puts, Ex.counts, Ex.counts, Nat.add_mul]; omega
end
mutual
theorem fit_put (n : List UInt8) {Y : Tree} (hY : fitT Y) : ∀ X : Tree, fitT X → fitT (Ex.put n Y X)
  | .node op t vk vn vs ks, h => by
    rw [Ex.put]
    split
    · exact hY
    · rw [fitT] at h ⊢
      exact ⟨h.1, h.2.1, fits_put n hY ks h.2.2⟩
theorem fits_put (n : List UInt8) {Y : Tree} (hY : fitT Y) : ∀ l : List Tree, fitTs l → fitTs (Ex.puts n Y l)
  | [], h => by rw [Ex.puts]; exact h
  | x :: l, h => by
    rw [Ex.puts, fitTs]
    rw [fitTs] at h
    exact ⟨fit_put n hY x h.1, fits_put n hY l h.2⟩
end
theorem hasC_names (T : Tree) (n : List UInt8) : hasC (Ex.names T) n = true ↔ n ∈ Ex.flat T := by
  rw [hasC, List.contains_iff_mem, Ex.names_mem]
theorem names_few (T : Tree) : (Ex.names T).length ≤ Ex.count T := by
  have h1 := namesOf_len (Ex.seq 1 T)
  rw [namesOf_seq, Ex.seq_length] at h1
  exact h1
end Go.Proofs.YtfkbhlgoglmcpaaGreatDoor
