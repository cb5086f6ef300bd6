/- Expressions as trees: plain. Of no program. -/
import Derived.Lib.Hide
namespace Go.Proofs.YtfkbhlgoglmcpaaGreatDoor.Ex
set_option linter.unusedVariables false

/-- a node: its number, its text, its value (kind, number, text), its kids. -/
inductive Tree where
  | node (op : Int) (text : List UInt8) (vk vn : Int) (vs : List UInt8) (kids : List Tree)
def Tree.op : Tree → Int | .node o _ _ _ _ _ => o
def Tree.text : Tree → List UInt8 | .node _ t _ _ _ _ => t
def Tree.kids : Tree → List Tree | .node _ _ _ _ _ k => k

mutual
def count : Tree → Nat
  | .node _ _ _ _ _ ks => counts ks + 1
def counts : List Tree → Nat
  | [] => 0
  | x :: l => count x + counts l
end
mutual
def depth : Tree → Nat
  | .node _ _ _ _ _ ks => depths ks + 1
def depths : List Tree → Nat
  | [] => 0
  | x :: l => max (depth x) (depths l)
end
mutual
def flat : Tree → List (List UInt8)
  | .node op t _ _ _ ks => (if op = 2 then [t] else []) ++ flats ks
def flats : List Tree → List (List UInt8)
  | [] => []
  | x :: l => flat x ++ flats l
end
mutual
def put (n : List UInt8) (y : Tree) : Tree → Tree
  | .node op t vk vn vs ks => if op = 2 ∧ t = n then y else .node op t vk vn vs (puts n y ks)
def puts (n : List UInt8) (y : Tree) : List Tree → List Tree
  | [] => []
  | x :: l => put n y x :: puts n y l
end
mutual
def same : Tree → Tree → Bool
  | .node op t vk vn vs ks, .node op' t' vk' vn' vs' ks' => op == op' && t == t' && vk == vk' && vn == vn' && vs == vs' && sames ks ks'
def sames : List Tree → List Tree → Bool
  | [], [] => true
  | x :: l, y :: m => same x y && sames l m
  | _, _ => false
end
mutual
def ones (p : Int → List UInt8 → Int → Int → List UInt8 → Nat → Bool) : Tree → Bool
  | .node op t vk vn vs ks => p op t vk vn vs ks.length && oness p ks
def oness (p : Int → List UInt8 → Int → Int → List UInt8 → Nat → Bool) : List Tree → Bool
  | [] => true
  | x :: l => ones p x && oness p l
end

theorem puts_length (n : List UInt8) (y : Tree) : ∀ l : List Tree, (puts n y l).length = l.length
  | [] => by rw [puts]
  | x :: l => by rw [puts, List.length_cons, List.length_cons, puts_length n y l]
theorem puts_at (n : List UInt8) (y : Tree) : ∀ (l : List Tree) (i : Nat) (h : i < l.length) (h' : i < (puts n y l).length), (puts n y l)[i] = put n y l[i]
  | [], i, h, _ => absurd h (Nat.not_lt_zero _)
  | x :: l, 0, h, h' => by simp only [puts, List.getElem_cons_zero]
  | x :: l, i + 1, h, h' => by
    simp only [puts, List.getElem_cons_succ]
    exact puts_at n y l i (by simpa using h) _
theorem puts_map (n : List UInt8) (y : Tree) : ∀ l : List Tree, puts n y l = l.map (put n y)
  | [] => by rw [puts]; rfl
  | x :: l => by rw [puts, puts_map n y l]; rfl
theorem counts_append : ∀ l m : List Tree, counts (l ++ m) = counts l + counts m
  | [], m => by rw [List.nil_append, counts]; omega
  | x :: l, m => by rw [List.cons_append, counts, counts, counts_append l m]; omega
theorem flats_append : ∀ l m : List Tree, flats (l ++ m) = flats l ++ flats m
  | [], m => by rw [List.nil_append, flats]; rfl
  | x :: l, m => by rw [List.cons_append, flats, flats, flats_append l m, List.append_assoc]
theorem depths_append : ∀ l m : List Tree, depths (l ++ m) = max (depths l) (depths m)
  | [], m => by rw [List.nil_append, depths]; omega
  | x :: l, m => by rw [List.cons_append, depths, depths, depths_append l m]; omega
theorem count_pos : ∀ x : Tree, 1 ≤ count x
  | .node _ _ _ _ _ ks => by rw [count]; omega
theorem length_counts : ∀ l : List Tree, l.length ≤ counts l
  | [] => Nat.zero_le _
  | x :: l => by
    have := count_pos x
    have := length_counts l
    rw [counts, List.length_cons]; omega

mutual
/-- the name is gone, if the other one hasn't it. -/
theorem put_has (n : List UInt8) (y : Tree) : ∀ x : Tree, n ∈ flat (put n y x) ↔ n ∈ flat x ∧ n ∈ flat y
  | .node op t vk vn vs ks => by
    rw [put]
    by_cases h : op = 2 ∧ t = n
    · rw [if_pos h]
      have : n ∈ flat (.node op t vk vn vs ks) := by rw [flat, if_pos h.1, h.2]; simp
      simp [this]
    · rw [if_neg h]
      have hn : n ∉ (if op = 2 then [t] else ([] : List (List UInt8))) := by
        by_cases h2 : op = 2
        · rw [if_pos h2]; simp; intro e; exact h ⟨h2, e.symm⟩
        · rw [if_neg h2]; simp
      rw [flat, flat, List.mem_append, List.mem_append, puts_has n y ks]
      simp [hn]
theorem puts_has (n : List UInt8) (y : Tree) : ∀ l : List Tree, n ∈ flats (puts n y l) ↔ n ∈ flats l ∧ n ∈ flat y
  | [] => by rw [puts, flats]; simp
  | x :: l => by
    rw [puts, flats, flats, List.mem_append, List.mem_append, put_has n y x, puts_has n y l]
    constructor
    · rintro (⟨h1, h2⟩ | ⟨h1, h2⟩)
      · exact ⟨.inl h1, h2⟩
      · exact ⟨.inr h1, h2⟩
    · rintro ⟨h1 | h1, h2⟩
      · exact .inl ⟨h1, h2⟩
      · exact .inr ⟨h1, h2⟩
end
mutual
theorem put_none (n : List UInt8) (y : Tree) : ∀ x : Tree, n ∉ flat x → put n y x = x
  | .node op t vk vn vs ks, hx => by
    rw [flat, List.mem_append, not_or] at hx
    have h : ¬ (op = 2 ∧ t = n) := fun ⟨h1, h2⟩ => hx.1 (by rw [if_pos h1, h2]; simp)
    rw [put, if_neg h, puts_none n y ks hx.2]
theorem puts_none (n : List UInt8) (y : Tree) : ∀ l : List Tree, n ∉ flats l → puts n y l = l
  | [], _ => by rw [puts]
  | x :: l, hx => by
    rw [flats, List.mem_append, not_or] at hx
    rw [puts, put_none n y x hx.1, puts_none n y l hx.2]
end
mutual
theorem same_iff : ∀ x y : Tree, same x y = true ↔ x = y
  | .node op t vk vn vs ks, .node op' t' vk' vn' vs' ks' => by
    rw [same]
    simp only [Bool.and_eq_true, beq_iff_eq, sames_iff ks ks', Tree.node.injEq]
    constructor
    · rintro ⟨⟨⟨⟨⟨h1, h2⟩, h3⟩, h4⟩, h5⟩, h6⟩; exact ⟨h1, h2, h3, h4, h5, h6⟩
    · rintro ⟨h1, h2, h3, h4, h5, h6⟩; exact ⟨⟨⟨⟨⟨h1, h2⟩, h3⟩, h4⟩, h5⟩, h6⟩
theorem sames_iff : ∀ l m : List Tree, sames l m = true ↔ l = m
  | [], [] => by simp [sames]
  | x :: l, y :: m => by rw [sames, Bool.and_eq_true, same_iff x y, sames_iff l m, List.cons.injEq]
  | [], y :: m => by simp [sames]
  | x :: l, [] => by simp [sames]
end

/-- each once, in the order in which they came first. -/
def once (l : List (List UInt8)) : List (List UInt8) → List (List UInt8)
  | [] => l
  | t :: r => once (if l.contains t then l else l ++ [t]) r
def names (x : Tree) : List (List UInt8) := once [] (flat x)
theorem once_append (l : List (List UInt8)) : ∀ a b : List (List UInt8), once l (a ++ b) = once (once l a) b
  | [], b => rfl
  | t :: a, b => by
    rw [List.cons_append, once, once]
    exact once_append _ a b
theorem once_mem (n : List UInt8) : ∀ (l r : List (List UInt8)), n ∈ once l r ↔ n ∈ l ∨ n ∈ r
  | l, [] => by simp [once]
  | l, t :: r => by
    rw [once, once_mem n _ r]
    by_cases h : l.contains t = true
    · rw [if_pos h]
      have ht : t ∈ l := by simpa using h
      constructor
      · rintro (h1 | h1)
        · exact .inl h1
        · exact .inr (List.mem_cons_of_mem _ h1)
      · rintro (h1 | h1)
        · exact .inl h1
        · rcases List.mem_cons.1 h1 with rfl | h1
          · exact .inl ht
          · exact .inr h1
    · rw [if_neg h]
      rw [List.mem_append, List.mem_singleton, List.mem_cons, or_assoc]
theorem names_mem (n : List UInt8) (x : Tree) : n ∈ names x ↔ n ∈ flat x := by
  rw [names, once_mem]; simp
/-- what the law asks of a name that is put. -/
theorem put_names (n : List UInt8) (x y : Tree) : (n ∈ names x → n ∈ names y → n ∈ names (put n y x)) ∧ (n ∉ names x → put n y x = x) := by
  refine ⟨fun h1 h2 => ?_, fun h => put_none n y x (by rw [← names_mem]; exact h)⟩
  rw [names_mem] at h1 h2 ⊢
  exact (put_has n y x).2 ⟨h1, h2⟩

/-! level by level: what a walk in breadth sees. -/
def below (l : List Tree) : List Tree := l.flatMap Tree.kids
theorem counts_below : ∀ l : List Tree, counts l = l.length + counts (below l)
  | [] => by simp [below, counts]
  | .node op t vk vn vs ks :: l => by
    have ih := counts_below l
    have e : below (.node op t vk vn vs ks :: l) = ks ++ below l := rfl
    rw [counts, count, ih, e, counts_append, List.length_cons]
    omega
theorem depths_below : ∀ l : List Tree, l ≠ [] → depths l = depths (below l) + 1
  | [], h => absurd rfl h
  | [.node op t vk vn vs ks], _ => by
    simp [below, depths, depth, Tree.kids]
  | .node op t vk vn vs ks :: y :: l, _ => by
    have ih := depths_below (y :: l) (by simp)
    have e : below (.node op t vk vn vs ks :: y :: l) = ks ++ below (y :: l) := rfl
    rw [e, depths_append, depths, depth, ih]
    omega
end Go.Proofs.YtfkbhlgoglmcpaaGreatDoor.Ex
