import Derived.Test.YteghhmomhlnccaaGreatDoorZHH
import Derived.Test.YteghhmomhlnccaaGreatDoorZX
import Derived.Deep.CutRange
import Derived.Deep.DeepCutAuto
import Derived.Deep.CutBlock

/- The reference's Count and Depth. -/
namespace Go.Proofs.YteghhmomhlnccaaGreatDoor
open Go.RowKit Go.Lib
set_option linter.unusedVariables false
set_option linter.unusedSimpArgs false
set_option maxRecDepth 100000
open Ex (Tree)

theorem count_lt {op : Int} {t : List UInt8} {vk vn : Int} {vs : List UInt8} {ks : List Tree} {x : Tree} (h : x ∈ ks) : Ex.count x < Ex.count (.node op t vk vn vs ks) := by
  have : ∀ l : List Tree, x ∈ l → Ex.count x ≤ Ex.counts l := by
    intro l
    induction l with
    | nil => intro h; cases h
    | cons y l ih =>
      intro h
      rw [Ex.counts]
      rcases List.mem_cons.1 h with rfl | h
      · omega
      · have := ih h; omega
  have := this ks h
  rw [Ex.count]; omega
/-- the cells of the i-th kid, and the kid as a value. -/
theorem TreesAt.kid {w : World} {ks : List Tree} {A : Option Addr} (h : TreesAt w A 0 ks) (i : Nat) (hi : i < ks.length) :
    ∃ b o op t vk vn vs l B n, A = some ⟨b, o, none⟩ ∧ ks[i] = .node op t vk vn vs l ∧ w.cell? ⟨b, o + i * 6, none⟩ = some (.int .i64 op) ∧ w.cell? ⟨b, o + i * 6 + 1, none⟩ = some (.string (tx t)) ∧ w.cell? ⟨b, o + i * 6 + 2, none⟩ = some (.int .i64 vk) ∧
      w.cell? ⟨b, o + i * 6 + 3, none⟩ = some (.int .i64 vn) ∧ w.cell? ⟨b, o + i * 6 + 4, none⟩ = some (.string (tx vs)) ∧ w.cell? ⟨b, o + i * 6 + 5, none⟩ = some (.slice B l.length n) ∧ NodeV w (.agg (ncells op t vk vn vs B l.length n)) ks[i] := by
  obtain ⟨b, o, e, k⟩ := h.get i hi
  cases hx : ks[i] with
  | node op t vk vn vs l =>
  rw [hx] at k
  obtain ⟨-, h1, h2, h3, h4, h5, B, n, h6, h7, h8⟩ := k.node
  exact ⟨b, o, op, t, vk, vn, vs, l, B, n, e, rfl, h1, h2, h3, h4, h5, h6, B, n, rfl, h7, h8⟩
mutual
theorem depth_count : ∀ x : Tree, Ex.depth x ≤ Ex.count x
  | .node op t vk vn vs ks => by rw [Ex.depth, Ex.count]; have := depths_counts ks; omega
theorem depths_counts : ∀ l : List Tree, Ex.depths l ≤ Ex.counts l
  | [] => by rw [Ex.depths]; omega
  | x :: l => by rw [Ex.depths, Ex.counts]; have := depth_count x; have := depths_counts l; omega
end
end Go.Proofs.YteghhmomhlnccaaGreatDoor

/- The reference's Level, walked (gen_hm.py). -/
namespace Go.Proofs.YteghhmomhlnccaaGreatDoor
open Go.RowKit Go.Lib
set_option linter.unusedVariables false
set_option linter.unusedSimpArgs false
set_option maxRecDepth 100000

end Go.Proofs.YteghhmomhlnccaaGreatDoor

/- The reference's One, ones, Right. -/
namespace Go.Proofs.YteghhmomhlnccaaGreatDoor
open Go.RowKit Go.Lib
set_option linter.unusedVariables false
set_option linter.unusedSimpArgs false
set_option maxRecDepth 100000
attribute [local go_sem ↓] eqVal neqVal
open Ex (Tree)

end Go.Proofs.YteghhmomhlnccaaGreatDoor

/- The reference's ones, Right. -/
namespace Go.Proofs.YteghhmomhlnccaaGreatDoor
open Go.RowKit Go.Lib
set_option linter.unusedVariables false
set_option linter.unusedSimpArgs false
set_option maxRecDepth 100000
open Ex (Tree)
/- names that are short. -/
mutual
def shortT : Tree → Prop
  | .node _ t _ _ _ ks => t.length ≤ 6000 ∧ shortTs ks
def shortTs : List Tree → Prop
  | [] => True
  | x :: l => shortT x ∧ shortTs l
end
end Go.Proofs.YteghhmomhlnccaaGreatDoor
