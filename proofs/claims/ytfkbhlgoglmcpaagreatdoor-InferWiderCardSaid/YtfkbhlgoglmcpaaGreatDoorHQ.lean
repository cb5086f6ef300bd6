/- The reference's Names. -/
import Derived.Test.YtfkbhlgoglmcpaaGreatDoorHP
import Derived.Test.YtfkbhlgoglmcpaaGreatDoorHMB
import Derived.Deep.CutRange
import Derived.Deep.DeepCutAuto
import Derived.Deep.CutBlock
namespace Go.Proofs.YtfkbhlgoglmcpaaGreatDoor
open Go.RowKit Go.Lib
set_option linter.unusedVariables false
set_option linter.unusedSimpArgs false
set_option maxRecDepth 100000
open Ex (Tree)

theorem step_append_runI {P : Program} {ops : Array Oper} {o : Oper} {a : Act} {w : World} {K : Act → World → Prop} {Q : Exit → Act → World → Prop} {E : Prop}
    (hg : o.guard = none) (d x : Operand) (dT sT : TypeId) (hop : o.op = Op.call { callee := Callee.builtin Builtin.append, args := #[d, x], argTypes := #[dT, sT] })
    (v u : Value) (hd : a.eval d = v) (hx : a.eval x = u) {v' : Value} {w' : World} (hr : (Builtin.append_ #[dT, sT] o.type #[v, u]).run P w = .ok v' w') (hK : K (a.put o.dst v') w') :
    if Region.wanted o (yielded ops a.tmps) = true then Oper.wp P o a w K Q else E := by
  have hw : Region.wanted o (yielded ops a.tmps) = true := by simp [Region.wanted, hg]
  rw [if_pos hw]
  unfold Oper.wp
  simp [execOp, hop, resolve, invoke, builtin, hd, hx, hr, Result.andThen]
  exact hK
/-- the kids of a tree, then the rest. -/
theorem kids_rest {S : Nat → Prop} {w : World} {B A : Option Addr} {ks l : List Tree} {c c' : Nat} (hk : SrcT S w B ks) (hl : SrcT S w A l) (hn : ks.length + l.length ≤ 1000000) (hS : ∀ k, S k → k < w.heap.size) (hA : ∀ b o, A = some ⟨b, o, none⟩ → b < w.heap.size) :
    ∃ v1 w1, Sem.run Tryz.prog (Builtin.append_ #[24, 24] 24 #[.slice (some ⟨w.heap.size, 0, none⟩) 0 0, .slice B ks.length c]) (w.alloc (.cells #[] 26)) = .ok v1 w1 ∧ Below w.heap.size w w1 ∧
      ∃ v2 w2, Sem.run Tryz.prog (Builtin.append_ #[24, 24] 24 #[v1, .slice A l.length c']) w1 = .ok v2 w2 ∧ Below w.heap.size w w2 ∧ RowT S w2 w.heap.size v2 (ks ++ l) := by
  have b0 : Below w.heap.size w (w.alloc (.cells #[] 26)) := (Below.refl _ _).alloc (Nat.le_refl _) _
  have r0 := RowT.new (S := S) (w := w) (fun h => absurd (hS _ h) (Nat.lt_irrefl _))
  obtain ⟨v1, w1, hr1, r1, t1, o1⟩ := append_trees r0 (hk.below b0) (A := B) (c := c) (by simp; omega) (by simp) (fun h => by have := hS _ h; simp at this; omega)
  have b1 : Below w.heap.size w w1 := t1.fresh b0 (fun k hk => by simp [Value.ownBlock] at hk; omega)
  obtain ⟨v2, w2, hr2, r2, t2, o2⟩ := append_trees r1 ((hl.below b1)) (A := A) (c := c') (by simpa using hn) b1.size (fun h => by have := hS _ h; have := b1.size; omega)
  exact ⟨v1, w1, hr1, b1, v2, w2, hr2, t2.fresh b1 (fun k hk => (r1.block k (by simpa using hk)).1), by simpa using r2⟩
theorem tx_beq (a b : List UInt8) : ((tx a).toList == (tx b).toList) = (a == b) := by
  rw [ByteArray.toList_eq, ByteArray.toList_eq]
def hasC (N : List (List UInt8)) (t : List UInt8) : Bool := N.contains t
theorem contains_take (N : List (List UInt8)) (i : Nat) (h : i < N.length) (t : List UInt8) : hasC (N.take (i + 1)) t = (hasC (N.take i) t || N[i] == t) := by
  rw [hasC, hasC, List.take_succ_eq_append_getElem h, Bool.eq_iff_iff]
  simp only [Bool.or_eq_true, List.contains_iff_mem, List.mem_append, List.mem_singleton, beq_iff_eq]
  exact or_congr_right eq_comm
/-- where the telling stands: names told, trees that are left. -/
structure NmAt (w : World) (T : Tree) (j : Nat) (s3 s4 : Value) (wr : World) (N : List (List UInt8)) (td : List Tree) (At : Option Addr) (ct : Nat) : Prop where
  meas : Ex.counts td < j
  all : Ex.once N (Ex.flats td) = Ex.names T
  row : SRow wr w.heap.size s3 (N.map tx)
  val : s4 = .slice At td.length ct
  cap : td.length ≤ ct
  src : SrcT (· < w.heap.size) wr At td
  far : ∀ b o, At = some ⟨b, o, none⟩ → s3.ownBlock ≠ some b ∧ b < wr.heap.size
  below : Below w.heap.size w wr
  few : N.length + Ex.counts td ≤ 500000
end Go.Proofs.YtfkbhlgoglmcpaaGreatDoor
