/- Things and marks in one list: what the list comes to. -/
namespace Go.Proofs.Ytekbfjdjgpgmpaa

/-- a thing, or a mark. -/
abbrev One := Bool × ByteArray

def things : List One → List ByteArray
  | [] => []
  | (true, _) :: l => things l
  | (false, x) :: l => x :: things l

def marks (n : Nat) : List One → List Nat
  | [] => []
  | (true, _) :: l => n :: marks n l
  | (false, _) :: l => marks (n + 1) l

def count (b : Bool) : List One → Nat
  | [] => 0
  | x :: l => (if x.1 = b then 1 else 0) + count b l

/-- where the k-th mark stands, counted from n on; i: the place of the list's head. -/
def at' (m : Int) (n i : Nat) : List One → Int
  | [] => -1
  | (false, _) :: l => at' m n (i + 1) l
  | (true, _) :: l => if (n : Int) = m then (i : Int) else at' m (n + 1) (i + 1) l

theorem things_append (a b : List One) : things (a ++ b) = things a ++ things b := by
  induction a with
  | nil => rfl
  | cons x a ih => obtain ⟨m, s⟩ := x; cases m <;> simp [things, ih]
theorem things_len (a : List One) : (things a).length = count false a := by
  induction a with
  | nil => rfl
  | cons x a ih => obtain ⟨m, s⟩ := x; cases m <;> simp [things, count, ih]; omega
theorem marks_len (n : Nat) (a : List One) : (marks n a).length = count true a := by
  induction a generalizing n with
  | nil => rfl
  | cons x a ih => obtain ⟨m, s⟩ := x; cases m <;> simp [marks, count, ih]; omega
theorem marks_append (n : Nat) (a b : List One) : marks n (a ++ b) = marks n a ++ marks (n + (things a).length) b := by
  induction a generalizing n with
  | nil => simp [marks, things]
  | cons x a ih =>
    obtain ⟨m, s⟩ := x
    cases m
    · simp only [marks, things, List.cons_append, List.length_cons, ih]; congr 2; omega
    · simp only [marks, things, List.cons_append, ih]
theorem count_append (b : Bool) (l r : List One) : count b (l ++ r) = count b l + count b r := by
  induction l with
  | nil => simp [count]
  | cons x l ih => simp only [count, List.cons_append, ih]; omega
theorem count_le (b : Bool) (l : List One) : count b l ≤ l.length := by
  induction l with
  | nil => simp [count]
  | cons x l ih => simp only [count, List.length_cons]; split <;> omega
theorem count_both (l : List One) : count true l + count false l = l.length := by
  induction l with
  | nil => simp [count]
  | cons x l ih => obtain ⟨m, s⟩ := x; cases m <;> simp [count] <;> omega
theorem marks_le (n : Nat) (l : List One) : ∀ m ∈ marks n l, m ≤ n + (things l).length := by
  induction l generalizing n with
  | nil => simp [marks]
  | cons x l ih =>
    obtain ⟨b, s⟩ := x
    cases b
    · intro m hm
      have := ih (n + 1) m hm
      simp only [things, List.length_cons]; omega
    · intro m hm
      simp only [marks, List.mem_cons] at hm
      simp only [things]
      rcases hm with rfl | hm
      · omega
      · exact ih n m hm

/-- the k-th mark parts the list. -/
theorem parts (k : Nat) (l : List One) (h : k < count true l) : ∃ a x b, l = a ++ (true, x) :: b ∧ count true a = k := by
  induction l generalizing k with
  | nil => simp [count] at h
  | cons y l ih =>
    obtain ⟨m, s⟩ := y
    cases m
    · simp [count] at h
      obtain ⟨a, x, b, h1, h2⟩ := ih k h
      exact ⟨(false, s) :: a, x, b, by rw [h1]; rfl, by simp [count, h2]⟩
    · cases k with
      | zero => exact ⟨[], s, l, rfl, rfl⟩
      | succ k =>
        simp [count] at h
        obtain ⟨a, x, b, h1, h2⟩ := ih k (by omega)
        exact ⟨(true, s) :: a, x, b, by rw [h1]; rfl, by simp [count, h2]; omega⟩

theorem at_there (a b : List One) (x : ByteArray) (m : Int) (n i : Nat) (hm : m = ((n + count true a : Nat) : Int)) : at' m n i (a ++ (true, x) :: b) = ((i + a.length : Nat) : Int) := by
  induction a generalizing n i with
  | nil => simp only [List.nil_append, at', count] at *; rw [if_pos (by omega)]; simp
  | cons y a ih =>
    obtain ⟨q, s⟩ := y
    cases q
    · simp only [List.cons_append, at']
      rw [ih n (i + 1) (by simpa [count] using hm)]
      simp only [List.length_cons]; omega
    · simp only [List.cons_append, at']
      have h2 : m = ((n + 1 + count true a : Nat) : Int) := by simp only [count, if_true] at hm; omega
      rw [if_neg (by omega), ih (n + 1) (i + 1) h2]
      simp only [List.length_cons]; omega
theorem at_not (l : List One) (m : Int) (n i : Nat) (hm : m < (n : Int) ∨ ((n + count true l : Nat) : Int) ≤ m) : at' m n i l = -1 := by
  induction l generalizing n i with
  | nil => rfl
  | cons y l ih =>
    obtain ⟨q, s⟩ := y
    cases q
    · simp only [at']
      exact ih n (i + 1) (by simpa [count] using hm)
    · simp only [at']
      simp only [count, if_true] at hm
      rw [if_neg (by omega)]
      exact ih (n + 1) (i + 1) (by omega)

/-- the things of a list, as things. -/
def plain (l : List One) : List One := l.filter fun x => !x.1
theorem plain_things (l : List One) : things (plain l) = things l := by
  induction l with
  | nil => rfl
  | cons y l ih => obtain ⟨q, s⟩ := y; cases q <;> simp [plain, things] at * <;> exact ih
theorem plain_marks (n : Nat) (l : List One) : marks n (plain l) = [] := by
  induction l generalizing n with
  | nil => rfl
  | cons y l ih => obtain ⟨q, s⟩ := y; cases q <;> simp [plain, marks] at * <;> exact ih _
theorem plain_len (l : List One) : (plain l).length ≤ l.length := List.length_filter_le _ _
end Go.Proofs.Ytekbfjdjgpgmpaa
