/- Plain: what is read of what is told. -/
import Derived.Test.YtlkkfnimealbkaaNO
namespace Go.Proofs.Ytlkkfnimealbkaa
open Go.RowKit
open Pag (Pg PgAt IsPage HF Bx bvs bbs)
set_option linter.unusedVariables false
def stepJ (s : List (List UInt8) × List UInt8 × Bool) (t : Tb) : List (List UInt8) × List UInt8 × Bool := if t.last then (s.1 ++ [s.2.1 ++ t.b], [], true) else (s.1, s.2.1 ++ t.b, false)
def stJ (l : List Tb) : List (List UInt8) × List UInt8 × Bool := l.foldl stepJ ([], [], true)
theorem stJ_snoc (l : List Tb) (t : Tb) : stJ (l ++ [t]) = stepJ (stJ l) t := by simp [stJ]
/-- the records, or the error. -/
def resF : List (List UInt8) × List UInt8 × Bool → List Tb → Int × List (List UInt8)
  | s, [] => if s.2.2 then (0, s.1) else (7, [])
  | s, t :: ts => if t.e = 0 then resF (stepJ s t) ts else (t.e, [])
def resS (Os : List (Int × List (List UInt8))) : Int × List (List UInt8) := resF ([], [], true) (tellS Os)
theorem resF_pre : ∀ (pre ts : List Tb) (s : List (List UInt8) × List UInt8 × Bool), (∀ t ∈ pre, t.e = 0) → resF s (pre ++ ts) = resF (pre.foldl stepJ s) ts
  | [], ts, s, h => rfl
  | t :: pre, ts, s, h => by
    rw [List.cons_append, resF, if_pos (h t (by simp))]
    exact resF_pre pre ts _ (fun t' ht => h t' (by simp [ht]))
def totB : List Tb → Nat
  | [] => 0
  | t :: l => t.b.length + 1 + totB l
theorem totB_append : ∀ a b : List Tb, totB (a ++ b) = totB a + totB b
  | [], b => by simp [totB]
  | t :: a, b => by simp [totB, totB_append a b]; omega
theorem stepJ_tot (s : List (List UInt8) × List UInt8 × Bool) (t : Tb) : (stepJ s t).2.1.length ≤ s.2.1.length + t.b.length ∧ (stepJ s t).1.length ≤ s.1.length + 1 := by
  unfold stepJ
  split <;> simp
theorem stJ_tot (l : List Tb) : (stJ l).2.1.length ≤ totB l ∧ (stJ l).1.length ≤ totB l := by
  refine snoc_ind (P := fun l => (stJ l).2.1.length ≤ totB l ∧ (stJ l).1.length ≤ totB l) (by simp [stJ]) (fun l t ih => ?_) l
  rw [stJ_snoc, totB_append]
  have := stepJ_tot (stJ l) t
  simp only [totB]
  omega
theorem tellK_len (q : List UInt8) : (tellK q).b.length + 1 ≤ q.length + 1 := by
  cases q with
  | nil => simp [tellK]
  | cons k b =>
    by_cases h0 : k = 0
    · simp [tellK, h0]
    · by_cases h1 : k = 1
      · simp [tellK, h1]
      · simp [tellK, h0, h1]
theorem tellP_tot : ∀ L : List (List UInt8), totB (tellP L) ≤ Pag.used L + L.length
  | [] => by simp [tellP, totB]
  | q :: r => by
    have h1 := tellK_len q
    have h2 := tellP_tot r
    simp only [tellP, totB, Pag.used, List.length_cons]
    split
    · omega
    · simp only [totB]; omega
theorem tellS_tot : ∀ Os : List (Int × List (List UInt8)), (∀ o ∈ Os, o.1 = 0 → 1 + 4 * o.2.length + Pag.used o.2 ≤ 1024) → totB (tellS Os) ≤ 1024 * Os.length
  | [], _ => by simp [tellS, totB]
  | o :: r, h => by
    have ih := tellS_tot r (fun o' h' => h o' (by simp [h']))
    unfold tellS
    split
    · rename_i h0
      have h1 := tellP_tot o.2
      have h2 := h o (by simp) h0
      rw [totB_append]
      split
      · simp only [List.length_cons]; omega
      · simp only [totB, List.length_cons]; omega
    · simp only [totB, List.length_cons, List.length_nil]; omega
theorem totB_pre {a b : List Tb} (h : a <+: b) : totB a ≤ totB b := by
  obtain ⟨r, rfl⟩ := h
  rw [totB_append]
  omega
section
variable {b B : Nat} {L : List (List UInt8)} {R : List UInt8} {wh : Bool} {lv rv : Value} {ys : List Bx} {W W' : World}
theorem Acc.where_ (h : Acc b B L R wh lv rv ys W) : ∀ k ∈ accG b lv rv ys, k ≤ b + 4 ∨ B ≤ k := fun k hk => by
  rcases accG_cases hk with hk | hk | hk | ⟨y, hy, hk⟩
  · simp at hk
    omega
  · exact .inr (own_ge h.row hk)
  · exact .inr (own_ge h.cur hk)
  · exact .inr (own_ge (h.each y hy) hk)
end
/-- a list of byte strings of the call's own. -/
structure MRow (w : World) (base : Nat) (v : Value) (L : List (List UInt8)) : Prop where
  rows : ∃ ys : List Bx, bbs ys = L ∧ w.ownsRow base 35 1 v ys.length (bvs ys) ∧ ∀ y ∈ ys, Row w base y.v y.b
theorem secs_fit {w : World} {p : Nat} {F : List Nat} {m : Mod} (h : IsD w p F m) (hw : m.waits ≤ 1000000) (hs2 : m.size ≤ 1024) {fr : Nat} {Os : List (Int × List (List UInt8))} (hO : SecsAre m fr Os) : ∀ o ∈ Os, o.1 = 0 → 1 + 4 * o.2.length + Pag.used o.2 ≤ 1024 := fun o ho h0 => by
  obtain ⟨i, hi, rfl⟩ := List.mem_iff_getElem.1 ho
  rcases hO i hi with ⟨hd, hk, ⟨-, hp⟩ | ⟨h7, -⟩⟩ | ⟨-, hne⟩
  · have := hp.fit
    rw [secB_len h hw hd _ hk] at this
    omega
  · omega
  · exact absurd h0 hne
end Go.Proofs.Ytlkkfnimealbkaa
