import Derived.Lib.Hide

/- Expressions as trees: plain. Of no program. -/
namespace Go.Proofs.YteghhmomhlnccaaGreatDoor.Ex
set_option linter.unusedVariables false

/-- a node: its number, its text, its value (kind, number, text), its kids. -/
inductive Tree where
  | node (op : Int) (text : List UInt8) (vk vn : Int) (vs : List UInt8) (kids : List Tree)
def Tree.op : Tree → Int | .node o _ _ _ _ _ => o
def Tree.text : Tree → List UInt8 | .node _ t _ _ _ _ => t
def Tree.kids : Tree → List Tree | .node _ _ _ _ _ k => k

mutual
def count : Tree → Nat
  | .node _ _ _ _ _ ks => counts ks + 1
def counts : List Tree → Nat
  | [] => 0
  | x :: l => count x + counts l
end
mutual
def depth : Tree → Nat
  | .node _ _ _ _ _ ks => depths ks + 1
def depths : List Tree → Nat
  | [] => 0
  | x :: l => max (depth x) (depths l)
end
mutual
def flat : Tree → List (List UInt8)
  | .node op t _ _ _ ks => (if op = 2 then [t] else []) ++ flats ks
def flats : List Tree → List (List UInt8)
  | [] => []
  | x :: l => flat x ++ flats l
end
mutual
def put (n : List UInt8) (y : Tree) : Tree → Tree
  | .node op t vk vn vs ks => if op = 2 ∧ t = n then y else .node op t vk vn vs (puts n y ks)
def puts (n : List UInt8) (y : Tree) : List Tree → List Tree
  | [] => []
  | x :: l => put n y x :: puts n y l
end
mutual
def same : Tree → Tree → Bool
  | .node op t vk vn vs ks, .node op' t' vk' vn' vs' ks' => op == op' && t == t' && vk == vk' && vn == vn' && vs == vs' && sames ks ks'
def sames : List Tree → List Tree → Bool
  | [], [] => true
  | x :: l, y :: m => same x y && sames l m
  | _, _ => false
end
mutual
def ones (p : Int → List UInt8 → Int → Int → List UInt8 → Nat → Bool) : Tree → Bool
  | .node op t vk vn vs ks => p op t vk vn vs ks.length && oness p ks
def oness (p : Int → List UInt8 → Int → Int → List UInt8 → Nat → Bool) : List Tree → Bool
  | [] => true
  | x :: l => ones p x && oness p l
end

theorem counts_append : ∀ l m : List Tree, counts (l ++ m) = counts l + counts m
  | [], m => by rw [List.nil_append, counts]; omega
  | x :: l, m => by rw [List.cons_append, counts, counts, counts_append l m]; omega
theorem flats_append : ∀ l m : List Tree, flats (l ++ m) = flats l ++ flats m
  | [], m => by rw [List.nil_append, flats]; rfl
  | x :: l, m => by rw [List.cons_append, flats, flats, flats_append l m, List.append_assoc]
theorem count_pos : ∀ x : Tree, 1 ≤ count x
  | .node _ _ _ _ _ ks => by rw [count]; omega
theorem length_counts : ∀ l : List Tree, l.length ≤ counts l
  | [] => Nat.zero_le _
  | x :: l => by
    have := count_pos x
    have := length_counts l
    rw [counts, List.length_cons]; omega

mutual
theorem same_iff : ∀ x y : Tree, same x y = true ↔ x = y
  | .node op t vk vn vs ks, .node op' t' vk' vn' vs' ks' => by
    rw [same]
    simp only [Bool.and_eq_true, beq_iff_eq, sames_iff ks ks', Tree.node.injEq]
    constructor
    · rintro ⟨⟨⟨⟨⟨h1, h2⟩, h3⟩, h4⟩, h5⟩, h6⟩; exact ⟨h1, h2, h3, h4, h5, h6⟩
    · rintro ⟨h1, h2, h3, h4, h5, h6⟩; exact ⟨⟨⟨⟨⟨h1, h2⟩, h3⟩, h4⟩, h5⟩, h6⟩
theorem sames_iff : ∀ l m : List Tree, sames l m = true ↔ l = m
  | [], [] => by simp [sames]
  | x :: l, y :: m => by rw [sames, Bool.and_eq_true, same_iff x y, sames_iff l m, List.cons.injEq]
  | [], y :: m => by simp [sames]
  | x :: l, [] => by simp [sames]
end

/-- each once, in the order in which they came first. -/
def once (l : List (List UInt8)) : List (List UInt8) → List (List UInt8)
  | [] => l
  | t :: r => once (if l.contains t then l else l ++ [t]) r
def names (x : Tree) : List (List UInt8) := once [] (flat x)
theorem once_mem (n : List UInt8) : ∀ (l r : List (List UInt8)), n ∈ once l r ↔ n ∈ l ∨ n ∈ r
  | l, [] => by simp [once]
  | l, t :: r => by
    rw [once, once_mem n _ r]
    by_cases h : l.contains t = true
    · rw [if_pos h]
      have ht : t ∈ l := by simpa using h
      constructor
      · rintro (h1 | h1)
        · exact .inl h1
        · exact .inr (List.mem_cons_of_mem _ h1)
      · rintro (h1 | h1)
        · exact .inl h1
        · rcases List.mem_cons.1 h1 with rfl | h1
          · exact .inl ht
          · exact .inr h1
    · rw [if_neg h]
      rw [List.mem_append, List.mem_singleton, List.mem_cons, or_assoc]
theorem names_mem (n : List UInt8) (x : Tree) : n ∈ names x ↔ n ∈ flat x := by
  rw [names, once_mem]; simp
/-! level by level: what a walk in breadth sees. -/
def below (l : List Tree) : List Tree := l.flatMap Tree.kids
theorem counts_below : ∀ l : List Tree, counts l = l.length + counts (below l)
  | [] => by simp [below, counts]
  | .node op t vk vn vs ks :: l => by
    have ih := counts_below l
    have e : below (.node op t vk vn vs ks :: l) = ks ++ below l := rfl
    rw [counts, count, ih, e, counts_append, List.length_cons]
    omega
end Go.Proofs.YteghhmomhlnccaaGreatDoor.Ex

/- The nodes of a tree as they stand, each with how deep: plain. Of no program. -/
namespace Go.Proofs.YteghhmomhlnccaaGreatDoor.Ex
set_option linter.unusedVariables false
mutual
def seq (d : Nat) : Tree → List (Tree × Nat)
  | .node op t vk vn vs ks => (.node op t vk vn vs ks, d) :: seqs (d + 1) ks
def seqs (d : Nat) : List Tree → List (Tree × Nat)
  | [] => []
  | x :: l => seq d x ++ seqs d l
end
theorem seq_kids (d : Nat) (x : Tree) : seq d x = (x, d) :: seqs (d + 1) x.kids := by cases x; rw [seq]; rfl
/-- what is still to be told of rows of trees, the deepest row ahead. -/
def rem : List (List Tree) → List (Tree × Nat)
  | [] => []
  | r :: R => seqs (R.length + 1) r ++ rem R
theorem rem_pop (R : List (List Tree)) : rem ([] :: R) = rem R := by rw [rem, seqs]; rfl
theorem rem_step (x : Tree) (r : List Tree) (R : List (List Tree)) : rem ((x :: r) :: R) = (x, R.length + 1) :: rem (x.kids :: r :: R) := by
  simp only [rem, seqs, seq_kids (R.length + 1) x, List.length_cons, List.cons_append, List.append_assoc]
theorem rem_start (x : Tree) : rem [[x]] = seq 1 x := by simp [rem, seqs]
/-- how many steps are left. -/
def work : List (List Tree) → Nat
  | [] => 0
  | r :: R => 2 * counts r + 1 + work R
theorem work_pop (R : List (List Tree)) : work R < work ([] :: R) := by rw [work]; omega
theorem count_kids (x : Tree) : count x = counts x.kids + 1 := by cases x; rw [count]; rfl
theorem work_step (x : Tree) (r : List Tree) (R : List (List Tree)) : work (x.kids :: r :: R) < work ((x :: r) :: R) := by
  simp only [work, counts, count_kids x]; omega
mutual
theorem seq_length (d : Nat) : ∀ x : Tree, (seq d x).length = count x
  | .node op t vk vn vs ks => by rw [seq, count, List.length_cons, seqs_length (d + 1) ks]
theorem seqs_length (d : Nat) : ∀ l : List Tree, (seqs d l).length = counts l
  | [] => by rw [seqs, counts]; rfl
  | x :: l => by rw [seqs, counts, List.length_append, seq_length d x, seqs_length d l]
end
/-- the deepest of some. -/
def most (l : List (Tree × Nat)) : Nat := l.foldl (fun m p => max m p.2) 0
theorem foldl_max (l : List (Tree × Nat)) : ∀ m, l.foldl (fun m p => max m p.2) m = max m (most l) := by
  induction l with
  | nil => intro m; simp [most]
  | cons p l ih => intro m; rw [most, List.foldl_cons, List.foldl_cons, ih, ih]; omega
theorem most_append (a b : List (Tree × Nat)) : most (a ++ b) = max (most a) (most b) := by
  rw [most, List.foldl_append, foldl_max b]; rfl
theorem most_cons (p : Tree × Nat) (b : List (Tree × Nat)) : most (p :: b) = max p.2 (most b) := by
  rw [show p :: b = [p] ++ b from rfl, most_append]; simp [most]
mutual
theorem seq_most (d : Nat) : ∀ x : Tree, most (seq (d + 1) x) = depth x + d
  | .node op t vk vn vs ks => by
    rw [seq, most_cons, depth]
    show max (d + 1) (most (seqs (d + 1 + 1) ks)) = _
    cases ks with
    | nil => rw [seqs, depths]; simp [most]; omega
    | cons x l =>
      have := seqs_most (d + 1) (x :: l) (by simp)
      omega
theorem seqs_most (d : Nat) : ∀ l : List Tree, l ≠ [] → most (seqs (d + 1) l) = depths l + d
  | [], h => absurd rfl h
  | [x], _ => by
    have := seq_most d x
    have h0 : most ([] : List (Tree × Nat)) = 0 := rfl
    rw [seqs, seqs, most_append, depths, depths, this, h0]; omega
  | x :: y :: l, _ => by
    have h1 := seq_most d x
    have h2 := seqs_most d (y :: l) (by simp)
    rw [seqs, most_append, depths, h1, h2]; omega
end
theorem most_seq (x : Tree) : most (seq 1 x) = depth x := seq_most 0 x
theorem le_most {l : List (Tree × Nat)} {p : Tree × Nat} (h : p ∈ l) : p.2 ≤ most l := by
  induction l with
  | nil => cases h
  | cons q l ih =>
    rw [most_cons]
    rcases List.mem_cons.1 h with rfl | h
    · omega
    · have := ih h; omega
/-- the texts of the names among nodes. -/
def texts (l : List (Tree × Nat)) : List (List UInt8) := l.flatMap fun p => if p.1.op = 2 then [p.1.text] else []
theorem texts_append (a b : List (Tree × Nat)) : texts (a ++ b) = texts a ++ texts b := by simp [texts]
mutual
theorem seq_texts (d : Nat) : ∀ x : Tree, texts (seq d x) = flat x
  | .node op t vk vn vs ks => by
    rw [seq, flat, ← seqs_texts (d + 1) ks]
    rw [show ∀ (p : Tree × Nat) (l : List (Tree × Nat)), p :: l = [p] ++ l from fun _ _ => rfl, texts_append]
    congr 1
    by_cases h : op = 2 <;> simp [texts, Tree.op, Tree.text, h]
theorem seqs_texts (d : Nat) : ∀ l : List Tree, texts (seqs d l) = flats l
  | [] => by rw [seqs, flats]; rfl
  | x :: l => by rw [seqs, flats, texts_append, seq_texts d x, seqs_texts d l]
end
def Tree.is (p : Int → List UInt8 → Int → Int → List UInt8 → Nat → Bool) : Tree → Bool
  | .node op t vk vn vs ks => p op t vk vn vs ks.length
mutual
theorem seq_ones (p : Int → List UInt8 → Int → Int → List UInt8 → Nat → Bool) (d : Nat) : ∀ x : Tree, (seq d x).all (fun q => q.1.is p) = ones p x
  | .node op t vk vn vs ks => by rw [seq, List.all_cons, ones, seqs_ones p (d + 1) ks]; rfl
theorem seqs_ones (p : Int → List UInt8 → Int → Int → List UInt8 → Nat → Bool) (d : Nat) : ∀ l : List Tree, (seqs d l).all (fun q => q.1.is p) = oness p l
  | [] => by rw [seqs, oness]; rfl
  | x :: l => by rw [seqs, List.all_append, oness, seq_ones p d x, seqs_ones p d l]
end
/-- a tree is right: as the document says it. -/
def rightB (p : Int → List UInt8 → Int → Int → List UInt8 → Nat → Bool) (x : Tree) : Bool := decide (depth x ≤ 30) && (decide (count x ≤ 300) && ones p x)
/-- all that was told is right so far, and all has come. -/
theorem right_all (p : Int → List UInt8 → Int → Int → List UInt8 → Nat → Bool) (x : Tree) (h1 : (seq 1 x).length ≤ 300) (h2 : ∀ q ∈ seq 1 x, q.2 ≤ 30 ∧ q.1.is p = true) : rightB p x = true := by
  rw [rightB, ← most_seq, ← seq_ones p 1 x, ← seq_length 1 x]
  have h3 : most (seq 1 x) ≤ 30 := by
    have : ∀ l : List (Tree × Nat), (∀ q ∈ l, q.2 ≤ 30) → most l ≤ 30 := by
      intro l
      induction l with
      | nil => intro _; simp [most]
      | cons q l ih => intro h; rw [most_cons]; have := ih fun q hq => h q (List.mem_cons_of_mem _ hq); have := h q (by simp); omega
    exact this _ fun q hq => (h2 q hq).1
  have h4 : ((seq 1 x).all fun q => q.1.is p) = true := List.all_eq_true.2 fun q hq => (h2 q hq).2
  simp [h1, h3, h4]
/-- one that is wrong tells. -/
theorem right_not (p : Int → List UInt8 → Int → Int → List UInt8 → Nat → Bool) (x : Tree) {pre : List (Tree × Nat)} (h : pre <+: seq 1 x) (hw : 300 < pre.length ∨ ∃ q ∈ pre, 30 < q.2 ∨ q.1.is p = false) : rightB p x = false := by
  rw [rightB, ← most_seq, ← seq_ones p 1 x, ← seq_length 1 x]
  rcases hw with hw | ⟨q, hq, hw | hw⟩
  · have := h.length_le
    rw [decide_eq_false (p := (seq 1 x).length ≤ 300) (by omega)]; simp
  · have := le_most (h.subset hq)
    rw [decide_eq_false (p := most (seq 1 x) ≤ 30) (by omega)]; simp
  · have : ((seq 1 x).all fun q => q.1.is p) = false := by
      rw [Bool.eq_false_iff]
      intro he
      have := List.all_eq_true.1 he q (h.subset hq)
      rw [hw] at this; cases this
    rw [this]; simp
/-- the least number with a property. -/
theorem exists_least {p : Nat → Prop} (h : ∃ m, p m) : ∃ m, p m ∧ ∀ k, p k → m ≤ k := by
  obtain ⟨m, hm⟩ := h
  induction m using Nat.strongRecOn with
  | ind m ih =>
    by_cases hk : ∃ k, k < m ∧ p k
    · obtain ⟨k, h1, h2⟩ := hk; exact ih k h1 h2
    · exact ⟨m, hm, fun k hp => Nat.le_of_not_lt fun hlt => hk ⟨k, hlt, hp⟩⟩
open Classical in
noncomputable def least (p : Nat → Prop) : Nat := if h : ∃ m, p m then Classical.choose (exists_least h) else 0
theorem least_spec {p : Nat → Prop} (h : ∃ m, p m) : p (least p) := by rw [least, dif_pos h]; exact (Classical.choose_spec (exists_least h)).1
theorem least_le {p : Nat → Prop} {m : Nat} (h : p m) : least p ≤ m := by rw [least, dif_pos ⟨m, h⟩]; exact (Classical.choose_spec (exists_least ⟨m, h⟩)).2 m h
end Go.Proofs.YteghhmomhlnccaaGreatDoor.Ex
