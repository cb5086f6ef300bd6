/- Plain laws of rising rows of pairs, and of rows that are joined. -/
import Derived.Test.YtcboakmfabdeoaaW5
namespace Go.Proofs.Ytcboakmfabdeoaa

abbrev Pr := Int × ByteArray

def ins (l : List Pr) (k : Int) (s : ByteArray) : List Pr := l.filter (fun p => decide (p.1 < k)) ++ (k, s) :: l.filter (fun p => decide (k < p.1))
def del (l : List Pr) (k : Int) : List Pr := l.filter fun p => decide (p.1 ≠ k)
def setv (l : List Pr) (k : Int) (s : ByteArray) : List Pr := l.map fun p => if p.1 = k then (k, s) else p
def valOf (l : List Pr) (k : Int) : ByteArray := ((l.find? fun p => p.1 == k).map (·.2)).getD ByteArray.empty

theorem hasB_iff {l : List Pr} {k : Int} : hasB l k = true ↔ ∃ p ∈ l, p.1 = k := by simp [hasB]
theorem hasB_no {l : List Pr} {k : Int} : hasB l k = false ↔ ∀ p ∈ l, p.1 ≠ k := by simp [hasB]

theorem rising_append {a b : List Pr} : Rising (a ++ b) ↔ Rising a ∧ Rising b ∧ ∀ p ∈ a, ∀ q ∈ b, p.1 < q.1 := List.pairwise_append
theorem rising_cons {p : Pr} {b : List Pr} : Rising (p :: b) ↔ (∀ q ∈ b, p.1 < q.1) ∧ Rising b := List.pairwise_cons

theorem filter_all {a : List Pr} {f : Pr → Bool} (h : ∀ p ∈ a, f p = true) : a.filter f = a := List.filter_eq_self.2 h
theorem filter_none {a : List Pr} {f : Pr → Bool} (h : ∀ p ∈ a, f p = false) : a.filter f = [] := List.filter_eq_nil_iff.2 fun p hp => by simp [h p hp]

theorem ins_mid {A x B : List Pr} {k : Int} (hA : ∀ p ∈ A, p.1 < k) (hB : ∀ p ∈ B, k < p.1) (s : ByteArray) : ins (A ++ x ++ B) k s = A ++ ins x k s ++ B := by
  unfold ins
  simp only [List.filter_append]
  rw [filter_all (a := A) (fun p hp => by simpa using hA p hp), filter_none (a := B) (f := fun p => decide (p.1 < k)) (fun p hp => by have := hB p hp; simp; omega),
    filter_none (a := A) (f := fun p => decide (k < p.1)) (fun p hp => by have := hA p hp; simp; omega), filter_all (a := B) (fun p hp => by simpa using hB p hp)]
  simp

theorem del_mid {A x B : List Pr} {k : Int} (hA : ∀ p ∈ A, p.1 < k) (hB : ∀ p ∈ B, k < p.1) : del (A ++ x ++ B) k = A ++ del x k ++ B := by
  unfold del
  simp only [List.filter_append]
  rw [filter_all (a := A) (fun p hp => by have := hA p hp; simp; omega), filter_all (a := B) (fun p hp => by have := hB p hp; simp; omega)]

theorem setv_mid {A x B : List Pr} {k : Int} (hA : ∀ p ∈ A, p.1 < k) (hB : ∀ p ∈ B, k < p.1) (s : ByteArray) : setv (A ++ x ++ B) k s = A ++ setv x k s ++ B := by
  unfold setv
  simp only [List.map_append]
  congr 1
  · congr 1
    refine (List.map_congr_left fun p hp => ?_).trans (List.map_id A)
    have := hA p hp
    rw [if_neg (by omega)]; rfl
  · refine (List.map_congr_left fun p hp => ?_).trans (List.map_id B)
    have := hB p hp
    rw [if_neg (by omega)]; rfl

theorem hasB_mid {A x B : List Pr} {k : Int} (hA : ∀ p ∈ A, p.1 < k) (hB : ∀ p ∈ B, k < p.1) : hasB (A ++ x ++ B) k = hasB x k := by
  unfold hasB
  simp only [List.any_append]
  have h1 : (A.any fun p => p.1 == k) = false := by simp; intro a b hm h; have := hA _ hm; simp at this; omega
  have h2 : (B.any fun p => p.1 == k) = false := by simp; intro a b hm h; have := hB _ hm; simp at this; omega
  rw [h1, h2]; simp

theorem pos_mid {A x B : List Pr} {k : Int} (hA : ∀ p ∈ A, p.1 < k) (hB : ∀ p ∈ B, k < p.1) : pos (A ++ x ++ B) k = A.length + pos x k := by
  unfold pos
  simp only [List.countP_append]
  have h1 : A.countP (fun p => decide (p.1 < k)) = A.length := List.countP_eq_length.2 (fun p hp => by simpa using hA p hp)
  have h2 : B.countP (fun p => decide (p.1 < k)) = 0 := List.countP_eq_zero.2 (fun p hp => by have := hB p hp; simp; omega)
  rw [h1, h2]; omega

theorem valOf_mid {A x B : List Pr} {k : Int} (hA : ∀ p ∈ A, p.1 < k) (hB : ∀ p ∈ B, k < p.1) : valOf (A ++ x ++ B) k = valOf x k := by
  unfold valOf
  have h1 : A.find? (fun p => p.1 == k) = none := List.find?_eq_none.2 (fun p hp => by have := hA p hp; simp; omega)
  have h2 : B.find? (fun p => p.1 == k) = none := List.find?_eq_none.2 (fun p hp => by have := hB p hp; simp; omega)
  rw [List.find?_append, List.find?_append, h1, h2]
  simp only [Option.none_or]
  cases h : x.find? (fun p => p.1 == k) with
  | some q => simp
  | none => simp
theorem ins_length {l : List Pr} {k : Int} (s : ByteArray) (h : hasB l k = false) : (ins l k s).length = l.length + 1 := by
  have : ∀ l : List Pr, (∀ p ∈ l, p.1 ≠ k) → (l.filter (fun p => decide (p.1 < k))).length + (l.filter (fun p => decide (k < p.1))).length = l.length := by
    intro l
    induction l with
    | nil => simp
    | cons p r ih =>
      intro hn
      have h1 := ih (fun q hq => hn q (by simp [hq]))
      have h2 := hn p (by simp)
      by_cases c : p.1 < k
      · have c2 : ¬ k < p.1 := by omega
        simp only [List.filter_cons, decide_eq_true c, if_true, decide_eq_false c2, List.length_cons]; simp; omega
      · have c2 : k < p.1 := by omega
        simp only [List.filter_cons, decide_eq_false c, decide_eq_true c2, if_true, List.length_cons]; simp; omega
  have := this l (hasB_no.1 h)
  unfold ins
  rw [List.length_append, List.length_cons, ← Nat.add_assoc]
  exact congrArg (· + 1) this

theorem take_pos {l : List Pr} (hs : Rising l) (k : Int) : l.take (pos l k) = l.filter fun p => decide (p.1 < k) := by
  induction l with
  | nil => simp
  | cons p r ih =>
    have hr := rising_cons.1 hs
    unfold pos at ih ⊢
    by_cases c : p.1 < k
    · rw [List.countP_cons_of_pos (by simpa using c), List.filter_cons_of_pos (by simpa using c), List.take_succ_cons, ih hr.2]
    · have hz : ∀ q ∈ r, ¬ q.1 < k := fun q hq => by have := hr.1 q hq; omega
      rw [List.countP_eq_zero.2 (by simp; exact ⟨by omega, fun a b hm => by have := hz _ hm; simpa using this⟩), List.filter_eq_nil_iff.2 (by simp; exact ⟨by omega, fun a b hm => by have := hz _ hm; simpa using this⟩)]
      rfl

theorem drop_pos {l : List Pr} (hs : Rising l) (k : Int) (h : hasB l k = false) : l.drop (pos l k) = l.filter fun p => decide (k < p.1) := by
  induction l with
  | nil => simp
  | cons p r ih =>
    have hr := rising_cons.1 hs
    have hn := hasB_no.1 h
    unfold pos at ih ⊢
    by_cases c : p.1 < k
    · rw [List.countP_cons_of_pos (by simpa using c), List.filter_cons_of_neg (by simp; omega), List.drop_succ_cons, ih hr.2 (hasB_no.2 fun q hq => hn q (by simp [hq]))]
    · have hz : ∀ q ∈ p :: r, k < q.1 := fun q hq => by
        have hp := hn p (by simp)
        rcases List.mem_cons.1 hq with rfl | hq
        · omega
        · have := hr.1 q hq; omega
      rw [List.countP_eq_zero.2 (fun q hq => by have := hz q hq; simp; omega), List.filter_eq_self.2 (fun q hq => by simpa using hz q hq)]
      rfl

theorem ins_eq {l : List Pr} (hs : Rising l) (k : Int) (s : ByteArray) (h : hasB l k = false) : l.take (pos l k) ++ (k, s) :: l.drop (pos l k) = ins l k s := by
  rw [take_pos hs, drop_pos hs k h]; rfl

theorem setv_length (l : List Pr) (k : Int) (s : ByteArray) : (setv l k s).length = l.length := by simp [setv]

theorem pos_le (l : List Pr) (k : Int) : pos l k ≤ l.length := List.countP_le_length

theorem pos_below {l : List Pr} (hs : Rising l) (k : Int) : ∀ p ∈ l.take (pos l k), p.1 < k := by
  rw [take_pos hs]; intro p hp; simpa using (List.mem_filter.1 hp).2

/-- what stands from the place on is not below. -/
theorem pos_above {l : List Pr} (hs : Rising l) (k : Int) : ∀ p ∈ l.drop (pos l k), k ≤ p.1 := by
  induction l with
  | nil => simp
  | cons p r ih =>
    have hr := rising_cons.1 hs
    unfold pos at ih ⊢
    by_cases c : p.1 < k
    · rw [List.countP_cons_of_pos (by simpa using c), List.drop_succ_cons]; exact ih hr.2
    · have hz : ∀ q ∈ p :: r, k ≤ q.1 := fun q hq => by
        rcases List.mem_cons.1 hq with rfl | hq
        · omega
        · have := hr.1 q hq; omega
      rw [List.countP_eq_zero.2 (fun q hq => by have := hz q hq; simp; omega)]
      exact hz

theorem ins_rising {l : List Pr} (hs : Rising l) (k : Int) (s : ByteArray) : Rising (ins l k s) := by
  unfold ins
  rw [rising_append, rising_cons]
  refine ⟨hs.filter _, ⟨fun q hq => by simpa using (List.mem_filter.1 hq).2, hs.filter _⟩, fun p hp q hq => ?_⟩
  have h1 : p.1 < k := by simpa using (List.mem_filter.1 hp).2
  rcases List.mem_cons.1 hq with rfl | hq
  · exact h1
  · have h2 : k < q.1 := by simpa using (List.mem_filter.1 hq).2
    omega

theorem del_rising {l : List Pr} (hs : Rising l) (k : Int) : Rising (del l k) := hs.filter _

theorem setv_rising {l : List Pr} (hs : Rising l) (k : Int) (s : ByteArray) : Rising (setv l k s) := by
  unfold setv Rising
  rw [List.pairwise_map]
  refine hs.imp fun {a b} h => ?_
  split <;> split <;> simp_all

/- rows that are joined -/
def joinL : List (List Pr) → List Pr → List Pr
  | l :: ls, p :: ps => l ++ p :: joinL ls ps
  | _, _ => []
def joinR : List Pr → List (List Pr) → List Pr
  | p :: ps, l :: ls => p :: l ++ joinR ps ls
  | _, _ => []
def join : List (List Pr) → List Pr → List Pr
  | [], _ => []
  | l :: ls, ps => l ++ joinR ps ls

theorem joinL_snoc : ∀ (ls : List (List Pr)) (ps : List Pr) (x : List Pr) (q : Pr), ls.length = ps.length → joinL (ls ++ [x]) (ps ++ [q]) = joinL ls ps ++ x ++ [q]
  | [], [], x, q, _ => by simp [joinL]
  | [], _ :: _, _, _, h => by simp at h
  | _ :: _, [], _, _, h => by simp at h
  | l :: ls, p :: ps, x, q, h => by simp [joinL, joinL_snoc ls ps x q (by simpa using h)]

theorem joinL_append : ∀ (ls : List (List Pr)) (ps : List Pr) (ls' : List (List Pr)) (ps' : List Pr), ls.length = ps.length → joinL (ls ++ ls') (ps ++ ps') = joinL ls ps ++ joinL ls' ps'
  | [], [], _, _, _ => by simp [joinL]
  | [], _ :: _, _, _, h => by simp at h
  | _ :: _, [], _, _, h => by simp at h
  | l :: ls, p :: ps, a, b, h => by simp [joinL, joinL_append ls ps a b (by simpa using h)]

theorem join_split : ∀ (L1 : List (List Pr)) (P1 : List Pr) (x : List Pr) (L2 : List (List Pr)) (P2 : List Pr), L1.length = P1.length → join (L1 ++ x :: L2) (P1 ++ P2) = joinL L1 P1 ++ x ++ joinR P2 L2
  | [], [], x, L2, P2, _ => by simp [join, joinL]
  | [], _ :: _, _, _, _, h => by simp at h
  | _ :: _, [], _, _, _, h => by simp at h
  | l :: ls, p :: ps, x, L2, P2, h => by
    have ih := join_split ls ps x L2 P2 (by simpa using h)
    cases ls with
    | nil =>
      cases ps with
      | nil => simp [join, joinL, joinR] at ih ⊢
      | cons _ _ => simp at h
    | cons a r => simp only [List.cons_append, join, joinL, joinR] at ih ⊢; simp [ih]

theorem joinL_below {k : Int} : ∀ (ls : List (List Pr)) (ps : List Pr), ls.length = ps.length → Rising (joinL ls ps) → (∀ p ∈ ps, p.1 < k) → ∀ q ∈ joinL ls ps, q.1 < k
  | [], [], _, _, _ => by simp [joinL]
  | [], _ :: _, h, _, _ => by simp at h
  | _ :: _, [], h, _, _ => by simp at h
  | l :: ls, p :: ps, h, hs, hp => by
    have h2 := rising_append.1 hs
    have ih := joinL_below ls ps (by simpa using h) (rising_cons.1 h2.2.1).2 (fun q hq => hp q (by simp [hq]))
    intro q hq
    have hpk := hp p (by simp)
    rcases List.mem_append.1 hq with hq | hq
    · have := h2.2.2 q hq p (by simp); omega
    · rcases List.mem_cons.1 hq with rfl | hq
      · exact hpk
      · exact ih q hq

theorem joinR_above {k : Int} : ∀ (ps : List Pr) (ls : List (List Pr)), ls.length = ps.length → Rising (joinR ps ls) → (∀ p ∈ ps, k < p.1) → ∀ q ∈ joinR ps ls, k < q.1
  | [], [], _, _, _ => by simp [joinR]
  | [], _ :: _, h, _, _ => by simp at h
  | _ :: _, [], h, _, _ => by simp at h
  | p :: ps, l :: ls, h, hs, hp => by
    simp only [joinR, List.cons_append] at hs ⊢
    have h1 := rising_cons.1 hs
    have h2 := rising_append.1 h1.2
    have ih := joinR_above ps ls (by simpa using h) h2.2.1 (fun q hq => hp q (by simp [hq]))
    have hpk := hp p (by simp)
    intro q hq
    rcases List.mem_cons.1 hq with rfl | hq
    · exact hpk
    · rcases List.mem_append.1 hq with hq' | hq'
      · have := h1.1 q hq; omega
      · exact ih q hq'

theorem joinL_mem : ∀ (ls : List (List Pr)) (ps : List Pr), ls.length = ps.length → ∀ q ∈ ps, q ∈ joinL ls ps
  | [], [], _ => by simp
  | [], _ :: _, h => by simp at h
  | _ :: _, [], h => by simp at h
  | l :: ls, p :: ps, h => fun q hq => by
    have ih := joinL_mem ls ps (by simpa using h) q
    rcases List.mem_cons.1 hq with rfl | hq <;> simp [joinL, *]

theorem joinR_mem : ∀ (ps : List Pr) (ls : List (List Pr)), ls.length = ps.length → ∀ q ∈ ps, q ∈ joinR ps ls
  | [], [], _ => by simp
  | [], _ :: _, h => by simp at h
  | _ :: _, [], h => by simp at h
  | p :: ps, l :: ls, h => fun q hq => by
    have ih := joinR_mem ps ls (by simpa using h) q
    rcases List.mem_cons.1 hq with rfl | hq <;> simp [joinR, *]

theorem joinR_sub : ∀ (ps : List Pr) (ls : List (List Pr)), ls.length = ps.length → ps.Sublist (joinR ps ls)
  | [], [], _ => by simp [joinR]
  | [], _ :: _, h => by simp at h
  | _ :: _, [], h => by simp at h
  | p :: ps, l :: ls, h => by
    simp only [joinR, List.cons_append]
    exact ((joinR_sub ps ls (by simpa using h)).trans (List.sublist_append_right l _)).cons_cons p

theorem join_sub (x : List Pr) (ls : List (List Pr)) (ps : List Pr) (h : ls.length = ps.length) : ps.Sublist (join (x :: ls) ps) := by
  simp only [join]
  exact (joinR_sub ps ls h).trans (List.sublist_append_right x _)
end Go.Proofs.Ytcboakmfabdeoaa
