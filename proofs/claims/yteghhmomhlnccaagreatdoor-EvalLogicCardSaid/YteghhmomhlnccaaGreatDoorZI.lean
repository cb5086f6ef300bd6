import Derived.Test.YteghhmomhlnccaaGreatDoorZIQA
import Derived.Test.YteghhmomhlnccaaGreatDoorZGG
import Derived.Test.YteghhmomhlnccaaGreatDoorZC2
import Derived.Lib.ItoaLen
import Derived.Test.YteghhmomhlnccaaGreatDoorZGQA

/- What a tree comes to over a row: plain (stage 16). -/
namespace Go.Proofs.YteghhmomhlnccaaGreatDoor
open Go.Lib
set_option linter.unusedVariables false
set_option linter.unusedSimpArgs false
open Ex (Tree)
namespace Ev
/-- a value: its kind, number, text. -/
structure V where
  k : Int
  n : Int
  s : List UInt8
/-- a value, or an error (0: none). -/
structure R where
  v : V
  e : Int
def z : V := ⟨0, 0, []⟩
def tru (b : Bool) : V := ⟨3, if b then 1 else 0, []⟩
def err (c : Int) : R := ⟨z, c⟩
def ok (v : V) : R := ⟨v, 0⟩
def num (n : Int) : R := if Fits n then ok ⟨1, n, []⟩ else err 4
def less (a b : V) : Bool := if a.k = b.k then if a.k = 2 then Op.bytesLess a.s b.s else decide (a.n < b.n) else decide (a.k < b.k)
/-- a comparison. -/
def cmpB (t : List UInt8) (a b : V) : Bool :=
  if t = [61] then !less a b && !less b a else
  if t = [33, 61] then less a b || less b a else
  if t = [60] then less a b else
  if t = [60, 61] then !less b a else
  if t = [62] then less b a else !less a b
/-- a mark between two that aren't null. -/
def bin (t : List UInt8) (a b : V) : R :=
  if Ex.lev t = 3 then (if a.k = b.k then ok (tru (cmpB t a b)) else err 10) else
  if t = [38] then (if a.k = 2 ∧ b.k = 2 then (if a.s.length + b.s.length ≤ 200 then ok ⟨2, 0, a.s ++ b.s⟩ else err 3) else err 10) else
  if a.k = 1 ∧ b.k = 1 then
    (if t = [43] then num (a.n + b.n) else
    if t = [45] then num (a.n - b.n) else
    if t = [42] then num (a.n * b.n) else
    if b.n = 0 then err 5 else
    if t = [47] then num (a.n.tdiv b.n) else num (a.n.tmod b.n))
  else err 10
/-- how many bytes left and right take. -/
def cutN (n : Int) (l : Nat) : Nat := if n < 0 then 0 else if n < (l : Int) then n.toNat else l
/-- left, right. -/
def side (t : List UInt8) (a b : V) : R :=
  if a.k = 2 ∧ b.k = 1 then
    (if t = [108, 101, 102, 116] then ok ⟨2, 0, a.s.take (cutN b.n a.s.length)⟩ else ok ⟨2, 0, a.s.drop (a.s.length - cutN b.n a.s.length)⟩)
  else err 10
/-- a sign, or a function, of one that isn't null. -/
def un (op : Int) (t : List UInt8) (a : V) : R :=
  if op = 3 then (if a.k = 1 then num (-a.n) else err 10) else
  if op = 4 then (if a.k = 3 then ok (tru (decide (a.n = 0))) else err 10) else
  if t = [115, 116, 114] then (if a.k = 1 then ok ⟨2, 0, itoa a.n⟩ else err 10) else
  if a.k = 2 then
    (if t = [108, 101, 110] then ok ⟨1, (a.s.length : Nat), []⟩ else
    if re a.s = 0 then ok ⟨1, rv a.s, []⟩ else err (re a.s))
  else err 10
/-- or, and: strong is what decides. -/
def logic (strong : Bool) (a : V) (b : R) : R :=
  if a.k = 0 ∨ a.k = 3 then
    (if a.k = 3 ∧ a.n = (if strong then 1 else 0) then ok a else
    if b.e = 0 then
      (if b.v.k = 0 ∨ b.v.k = 3 then
        (if b.v.k = 3 ∧ b.v.n = (if strong then 1 else 0) then ok b.v else
        if a.k = 0 ∨ b.v.k = 0 then ok z else ok (tru (!strong)))
      else err 10)
    else err b.e)
  else err 10
/-- a node of what its kids come to. -/
def comb (op : Int) (t : List UInt8) (l : List R) : R :=
  let a := l.getD 0 (ok z)
  let b := l.getD 1 (ok z)
  let c := l.getD 2 (ok z)
  if a.e = 0 then
    (if op = 5 ∧ t = [111, 114] then logic true a.v b else
    if op = 5 ∧ t = [97, 110, 100] then logic false a.v b else
    if op = 6 ∧ t = [105, 115, 110, 117, 108, 108] then ok (tru (decide (a.v.k = 0))) else
    if op = 6 ∧ t = [110, 118, 108] then (if a.v.k = 0 then b else ok a.v) else
    if op = 6 ∧ t = [105, 102] then (if a.v.k = 0 ∨ a.v.k = 3 then (if a.v.n = 1 then b else c) else err 10) else
    if l.length = 2 then
      (if b.e = 0 then (if a.v.k = 0 ∨ b.v.k = 0 then ok z else if op = 5 then bin t a.v b.v else side t a.v b.v) else err b.e)
    else if a.v.k = 0 then ok z else un op t a.v)
  else err a.e
mutual
/-- what a tree comes to over columns and a row of values. -/
def ev (C : List Col) (W : List V) : Tree → R
  | .node op t vk vn vs ks =>
    if op = 1 then ok ⟨vk, vn, vs⟩ else
    if op = 2 then (match Kd.ix C t with
      | none => err 9
      | some i => ok (W.getD i z)) else
    comb op t (evs C W ks)
def evs (C : List Col) (W : List V) : List Tree → List R
  | [] => []
  | x :: l => ev C W x :: evs C W l
end
theorem evs_len (C : List Col) (W : List V) : ∀ l : List Tree, (evs C W l).length = l.length
  | [] => rfl
  | x :: l => by rw [evs, List.length_cons, List.length_cons, evs_len C W l]
theorem evs_at (C : List Col) (W : List V) : ∀ (l : List Tree) (i : Nat) (h : i < l.length), (evs C W l)[i]? = some (ev C W l[i])
  | x :: l, 0, h => by rw [evs]; rfl
  | x :: l, i + 1, h => by rw [evs]; simpa using evs_at C W l i (by simpa using h)
/-! what is put; who is not named -/
mutual
theorem ev_apart {C : List Col} {W U : List V} : ∀ x : Tree, (∀ t ∈ Ex.flat x, ∀ i, Kd.ix C t = some i → U.getD i z = W.getD i z) → ev C U x = ev C W x
  | .node op t vk vn vs ks, h => by
    rw [ev, ev]
    by_cases h1 : op = 1
    · rw [if_pos h1, if_pos h1]
    rw [if_neg h1, if_neg h1]
    by_cases h2 : op = 2
    · rw [if_pos h2, if_pos h2]
      cases hx : Kd.ix C t with
      | none => rfl
      | some j =>
        show ok (U.getD j z) = ok (W.getD j z)
        rw [h t (by rw [Ex.flat, if_pos h2]; simp) j hx]
    · rw [if_neg h2, if_neg h2, evs_apart ks (fun t ht i hi => h t (by rw [Ex.flat, List.mem_append]; exact .inr ht) i hi)]
theorem evs_apart {C : List Col} {W U : List V} : ∀ l : List Tree, (∀ t ∈ Ex.flats l, ∀ i, Kd.ix C t = some i → U.getD i z = W.getD i z) → evs C U l = evs C W l
  | [], h => by rw [evs, evs]
  | x :: l, h => by
    rw [evs, evs, ev_apart x (fun t ht i hi => h t (by rw [Ex.flats, List.mem_append]; exact .inl ht) i hi), evs_apart l (fun t ht i hi => h t (by rw [Ex.flats, List.mem_append]; exact .inr ht) i hi)]
end
end Ev
end Go.Proofs.YteghhmomhlnccaaGreatDoor

/- Who has a kind comes to it: plain (gen_ivb.py). -/
namespace Go.Proofs.YteghhmomhlnccaaGreatDoor
open Go.Lib
set_option linter.unusedVariables false
set_option linter.unusedSimpArgs false
open Ex (Tree)
namespace Ev
/-- a value of the kind, or null, or an error that may be. -/
def G (k : Int) (r : R) : Prop := (r.e = 0 ∧ (r.v.k = k ∨ r.v.k = 0)) ∨ r.e = 3 ∨ r.e = 4 ∨ r.e = 5 ∨ r.e = 6
theorem G.err_ {k k' : Int} {r : R} (h : G k r) (he : ¬ r.e = 0) : G k' (err r.e) := by
  rcases h with h | h
  · exact absurd h.1 he
  · exact .inr h
theorem G.val {k : Int} {r : R} (h : G k r) (he : r.e = 0) : r.v.k = k ∨ r.v.k = 0 := by
  rcases h with h | h | h | h | h
  · exact h.2
  all_goals omega
theorem G.ok_ {k : Int} {v : V} (h : v.k = k ∨ v.k = 0) : G k (ok v) := .inl ⟨rfl, h⟩
theorem G.null (k : Int) : G k (ok z) := .inl ⟨rfl, .inr rfl⟩
theorem G.num_ (n : Int) : G 1 (num n) := by
  rw [num]
  split
  · exact .inl ⟨rfl, .inl rfl⟩
  · exact .inr (.inr (.inl rfl))
theorem G.same_ {k k' : Int} {r : R} (h : G k r) (hk : k = k' ∨ k = 0) : G k' r := by
  rcases h with ⟨h1, h2⟩ | h
  · exact .inl ⟨h1, by omega⟩
  · exact .inr h
/-! what over says -/
theorem over1 {g q a r : Int} (hq : q ≠ -1) (h : Kd.over g [q] [a] = (r, 0)) : (a = q ∨ a = 0) ∧ r = if g = -1 then 0 else g := by
  simp only [Kd.over, Kd.ovr, Kd.stepK, List.length_cons, List.length_nil, List.getD_cons_zero, List.getD_cons_succ, if_neg hq] at h
  by_cases h1 : a = q ∨ a = 0
  · simp only [if_pos h1] at h
    refine ⟨h1, ?_⟩
    split at h <;> simp_all
  · simp only [if_neg h1] at h
    simp at h
theorem over1s {g a r : Int} (h : Kd.over g [-1] [a] = (r, 0)) : r = if g = -1 then a else g := by
  simp only [Kd.over, Kd.ovr, Kd.stepK, List.length_cons, List.length_nil, List.getD_cons_zero, List.getD_cons_succ, if_true] at h
  simp at h
  split at h <;> simp_all
theorem over2 {g q q' a b r : Int} (hq : q ≠ -1) (hq' : q' ≠ -1) (h : Kd.over g [q, q'] [a, b] = (r, 0)) : (a = q ∨ a = 0) ∧ (b = q' ∨ b = 0) ∧ r = if g = -1 then 0 else g := by
  simp only [Kd.over, Kd.ovr, Kd.stepK, List.length_cons, List.length_nil, List.getD_cons_zero, List.getD_cons_succ, if_neg hq, if_neg hq'] at h
  by_cases h1 : a = q ∨ a = 0
  · simp only [if_pos h1] at h
    by_cases h2 : b = q' ∨ b = 0
    · simp only [if_pos h2] at h
      refine ⟨h1, h2, ?_⟩
      split at h <;> simp_all
    · simp only [if_neg h2] at h
      simp at h
  · simp only [if_neg h1] at h
    simp at h
theorem over2s {g a b r : Int} (h : Kd.over g [-1, -1] [a, b] = (r, 0)) : (a = 0 ∨ b = a ∨ b = 0) ∧ r = if g = -1 then (if a = 0 then b else a) else g := by
  simp only [Kd.over, Kd.ovr, Kd.stepK, List.length_cons, List.length_nil, List.getD_cons_zero, List.getD_cons_succ, if_true, true_or] at h
  by_cases h1 : a = 0
  · subst h1
    simp at h
    refine ⟨.inl rfl, ?_⟩
    split at h <;> simp_all
  · by_cases h2 : b = a ∨ b = 0
    · simp [h1, h2] at h
      refine ⟨.inr h2, ?_⟩
      split at h <;> simp_all
    · simp [h1, h2] at h
theorem over3 {g a b c r : Int} (h : Kd.over g [3, -1, -1] [a, b, c] = (r, 0)) : (a = 3 ∨ a = 0) ∧ (b = 0 ∨ c = b ∨ c = 0) ∧ r = if g = -1 then (if b = 0 then c else b) else g := by
  simp only [Kd.over, Kd.ovr, Kd.stepK, List.length_cons, List.length_nil, List.getD_cons_zero, List.getD_cons_succ, if_true, true_or, if_neg (show ¬ (3 : Int) = -1 by decide)] at h
  by_cases h0 : a = 3 ∨ a = 0
  · simp only [if_pos h0] at h
    by_cases h1 : b = 0
    · subst h1
      simp at h
      refine ⟨h0, .inl rfl, ?_⟩
      split at h <;> simp_all
    · by_cases h2 : c = b ∨ c = 0
      · simp [h1, h2] at h
        refine ⟨h0, .inr h2, ?_⟩
        split at h <;> simp_all
      · simp [h1, h2] at h
  · simp only [if_neg h0] at h
    simp at h
/-! strict ones -/
theorem G.one {k ka : Int} {a : R} {f : V → R} (ha : G ka a) (hf : ∀ v : V, v.k = ka → v.k ≠ 0 → G k (f v)) : G k (if a.e = 0 then (if a.v.k = 0 then ok z else f a.v) else err a.e) := by
  by_cases h1 : a.e = 0
  · rw [if_pos h1]
    by_cases h2 : a.v.k = 0
    · rw [if_pos h2]; exact G.null _
    · rw [if_neg h2]; exact hf _ ((ha.val h1).resolve_right h2) h2
  · rw [if_neg h1]; exact ha.err_ h1
theorem G.two {k ka kb : Int} {a b : R} {f : V → V → R} (ha : G ka a) (hb : G kb b) (hf : ∀ v u : V, v.k = ka → v.k ≠ 0 → u.k = kb → u.k ≠ 0 → G k (f v u)) :
    G k (if a.e = 0 then (if b.e = 0 then (if a.v.k = 0 ∨ b.v.k = 0 then ok z else f a.v b.v) else err b.e) else err a.e) := by
  by_cases h1 : a.e = 0
  · rw [if_pos h1]
    by_cases h2 : b.e = 0
    · rw [if_pos h2]
      by_cases h3 : a.v.k = 0 ∨ b.v.k = 0
      · rw [if_pos h3]; exact G.null _
      · rw [if_neg h3]
        rw [not_or] at h3
        exact hf _ _ ((ha.val h1).resolve_right h3.1) h3.1 ((hb.val h2).resolve_right h3.2) h3.2
    · rw [if_neg h2]; exact hb.err_ h2
  · rw [if_neg h1]; exact ha.err_ h1
theorem G.logic_ {ka kb : Int} {a b : R} (s : Bool) (ha : G ka a) (hb : G kb b) (h1 : ka = 3 ∨ ka = 0) (h2 : kb = 3 ∨ kb = 0) : G 3 (if a.e = 0 then logic s a.v b else err a.e) := by
  by_cases e1 : a.e = 0
  · rw [if_pos e1, logic, if_pos (by have := ha.val e1; omega)]
    generalize (if s = true then (1 : Int) else 0) = q
    split
    · exact G.ok_ (by have := ha.val e1; omega)
    · by_cases e2 : b.e = 0
      · rw [if_pos e2, if_pos (by have := hb.val e2; omega)]
        split
        · exact G.ok_ (by have := hb.val e2; omega)
        · split
          · exact G.null _
          · exact G.ok_ (.inl rfl)
      · rw [if_neg e2]; exact hb.err_ e2
  · rw [if_neg e1]; exact ha.err_ e1
theorem bin_cmp {t : List UInt8} (ht : Ex.lev t = 3) {v u : V} (h : v.k = u.k) : G 3 (bin t v u) := by
  rw [bin, if_pos ht, if_pos h]; exact G.ok_ (.inl rfl)
theorem bin_text {v u : V} (h1 : v.k = 2) (h2 : u.k = 2) : G 2 (bin [38] v u) := by
  rw [bin, if_neg (by decide), if_pos rfl, if_pos ⟨h1, h2⟩]
  split
  · exact G.ok_ (.inl rfl)
  · exact .inr (.inl rfl)
theorem bin_num {t : List UInt8} (ht : Ex.lev t ≠ 3) (ht2 : t ≠ [38]) {v u : V} (h1 : v.k = 1) (h2 : u.k = 1) : G 1 (bin t v u) := by
  rw [bin, if_neg ht, if_neg ht2, if_pos ⟨h1, h2⟩]
  split
  · exact G.num_ _
  split
  · exact G.num_ _
  split
  · exact G.num_ _
  split
  · exact .inr (.inr (.inr (.inl rfl)))
  split <;> exact G.num_ _
theorem list1 {α : Type} {l : List α} (h : l.length = 1) : ∃ a, l = [a] := List.length_eq_one_iff.1 h
theorem list2 {α : Type} {l : List α} (h : l.length = 2) : ∃ a b, l = [a, b] := by
  match l, h with
  | [a, b], _ => exact ⟨a, b, rfl⟩
theorem list3 {α : Type} {l : List α} (h : l.length = 3) : ∃ a b c, l = [a, b, c] := by
  match l, h with
  | [a, b, c], _ => exact ⟨a, b, c, rfl⟩
theorem re_is {l : List UInt8} (h : ¬ re l = 0) : re l = 4 ∨ re l = 6 := by
  rw [re] at h ⊢
  split at h
  · rename_i h1
    rw [if_pos h1]
    rw [se] at h ⊢
    split at h
    · exact absurd rfl h
    · rename_i h2; rw [if_neg h2]; exact .inl rfl
  · rename_i h1
    rw [if_neg h1]; exact .inr rfl
theorem kind_neg {k ka : Int} {a : R} (ha : G ka a) (h : Kd.over (Kd.sh 3 []).1 (Kd.sh 3 []).2 [ka] = (k, 0)) : G k (comb 3 [] [a]) := by
  obtain ⟨h1, h2⟩ := over1 (by decide) h
  have hk : k = 1 := h2
  subst hk
  refine G.one (f := un 3 []) ha (fun v e1 n1 => ?_)
  rw [un, if_pos rfl, if_pos (by omega)]
  exact G.num_ _
theorem kind_not {k ka : Int} {a : R} (ha : G ka a) (h : Kd.over (Kd.sh 4 []).1 (Kd.sh 4 []).2 [ka] = (k, 0)) : G k (comb 4 [] [a]) := by
  obtain ⟨h1, h2⟩ := over1 (by decide) h
  have hk : k = 3 := h2
  subst hk
  refine G.one (f := un 4 []) ha (fun v e1 n1 => ?_)
  rw [un, if_neg (by decide), if_pos rfl, if_pos (by omega)]
  exact G.ok_ (.inl rfl)
theorem kind_or {k ka kb : Int} {a b : R} (ha : G ka a) (hb : G kb b) (h : Kd.over (Kd.sh 5 [111, 114]).1 (Kd.sh 5 [111, 114]).2 [ka, kb] = (k, 0)) : G k (comb 5 [111, 114] [a, b]) := by
  obtain ⟨h1, h2, h3⟩ := over2 (by decide) (by decide) h
  have hk : k = 3 := h3
  subst hk
  exact G.logic_ true ha hb h1 h2
theorem kind_and {k ka kb : Int} {a b : R} (ha : G ka a) (hb : G kb b) (h : Kd.over (Kd.sh 5 [97, 110, 100]).1 (Kd.sh 5 [97, 110, 100]).2 [ka, kb] = (k, 0)) : G k (comb 5 [97, 110, 100] [a, b]) := by
  obtain ⟨h1, h2, h3⟩ := over2 (by decide) (by decide) h
  have hk : k = 3 := h3
  subst hk
  exact G.logic_ false ha hb h1 h2
theorem kind_cmp0 {k ka kb : Int} {a b : R} (ha : G ka a) (hb : G kb b) (h : Kd.over (Kd.sh 5 [61]).1 (Kd.sh 5 [61]).2 [ka, kb] = (k, 0)) : G k (comb 5 [61] [a, b]) := by
  obtain ⟨h1, h3⟩ := over2s h
  have hk : k = 3 := h3
  subst hk
  exact G.two (f := bin [61]) ha hb (fun v u e1 n1 e2 n2 => bin_cmp rfl (by omega))
theorem kind_cmp1 {k ka kb : Int} {a b : R} (ha : G ka a) (hb : G kb b) (h : Kd.over (Kd.sh 5 [33, 61]).1 (Kd.sh 5 [33, 61]).2 [ka, kb] = (k, 0)) : G k (comb 5 [33, 61] [a, b]) := by
  obtain ⟨h1, h3⟩ := over2s h
  have hk : k = 3 := h3
  subst hk
  exact G.two (f := bin [33, 61]) ha hb (fun v u e1 n1 e2 n2 => bin_cmp rfl (by omega))
theorem kind_cmp2 {k ka kb : Int} {a b : R} (ha : G ka a) (hb : G kb b) (h : Kd.over (Kd.sh 5 [60]).1 (Kd.sh 5 [60]).2 [ka, kb] = (k, 0)) : G k (comb 5 [60] [a, b]) := by
  obtain ⟨h1, h3⟩ := over2s h
  have hk : k = 3 := h3
  subst hk
  exact G.two (f := bin [60]) ha hb (fun v u e1 n1 e2 n2 => bin_cmp rfl (by omega))
theorem kind_cmp3 {k ka kb : Int} {a b : R} (ha : G ka a) (hb : G kb b) (h : Kd.over (Kd.sh 5 [60, 61]).1 (Kd.sh 5 [60, 61]).2 [ka, kb] = (k, 0)) : G k (comb 5 [60, 61] [a, b]) := by
  obtain ⟨h1, h3⟩ := over2s h
  have hk : k = 3 := h3
  subst hk
  exact G.two (f := bin [60, 61]) ha hb (fun v u e1 n1 e2 n2 => bin_cmp rfl (by omega))
theorem kind_cmp4 {k ka kb : Int} {a b : R} (ha : G ka a) (hb : G kb b) (h : Kd.over (Kd.sh 5 [62]).1 (Kd.sh 5 [62]).2 [ka, kb] = (k, 0)) : G k (comb 5 [62] [a, b]) := by
  obtain ⟨h1, h3⟩ := over2s h
  have hk : k = 3 := h3
  subst hk
  exact G.two (f := bin [62]) ha hb (fun v u e1 n1 e2 n2 => bin_cmp rfl (by omega))
theorem kind_cmp5 {k ka kb : Int} {a b : R} (ha : G ka a) (hb : G kb b) (h : Kd.over (Kd.sh 5 [62, 61]).1 (Kd.sh 5 [62, 61]).2 [ka, kb] = (k, 0)) : G k (comb 5 [62, 61] [a, b]) := by
  obtain ⟨h1, h3⟩ := over2s h
  have hk : k = 3 := h3
  subst hk
  exact G.two (f := bin [62, 61]) ha hb (fun v u e1 n1 e2 n2 => bin_cmp rfl (by omega))
theorem kind_num0 {k ka kb : Int} {a b : R} (ha : G ka a) (hb : G kb b) (h : Kd.over (Kd.sh 5 [43]).1 (Kd.sh 5 [43]).2 [ka, kb] = (k, 0)) : G k (comb 5 [43] [a, b]) := by
  obtain ⟨h1, h2, h3⟩ := over2 (by decide) (by decide) h
  have hk : k = 1 := h3
  subst hk
  exact G.two (f := bin [43]) ha hb (fun v u e1 n1 e2 n2 => bin_num (by decide) (by decide) (by omega) (by omega))
theorem kind_num1 {k ka kb : Int} {a b : R} (ha : G ka a) (hb : G kb b) (h : Kd.over (Kd.sh 5 [45]).1 (Kd.sh 5 [45]).2 [ka, kb] = (k, 0)) : G k (comb 5 [45] [a, b]) := by
  obtain ⟨h1, h2, h3⟩ := over2 (by decide) (by decide) h
  have hk : k = 1 := h3
  subst hk
  exact G.two (f := bin [45]) ha hb (fun v u e1 n1 e2 n2 => bin_num (by decide) (by decide) (by omega) (by omega))
theorem kind_num2 {k ka kb : Int} {a b : R} (ha : G ka a) (hb : G kb b) (h : Kd.over (Kd.sh 5 [42]).1 (Kd.sh 5 [42]).2 [ka, kb] = (k, 0)) : G k (comb 5 [42] [a, b]) := by
  obtain ⟨h1, h2, h3⟩ := over2 (by decide) (by decide) h
  have hk : k = 1 := h3
  subst hk
  exact G.two (f := bin [42]) ha hb (fun v u e1 n1 e2 n2 => bin_num (by decide) (by decide) (by omega) (by omega))
theorem kind_num3 {k ka kb : Int} {a b : R} (ha : G ka a) (hb : G kb b) (h : Kd.over (Kd.sh 5 [47]).1 (Kd.sh 5 [47]).2 [ka, kb] = (k, 0)) : G k (comb 5 [47] [a, b]) := by
  obtain ⟨h1, h2, h3⟩ := over2 (by decide) (by decide) h
  have hk : k = 1 := h3
  subst hk
  exact G.two (f := bin [47]) ha hb (fun v u e1 n1 e2 n2 => bin_num (by decide) (by decide) (by omega) (by omega))
theorem kind_num4 {k ka kb : Int} {a b : R} (ha : G ka a) (hb : G kb b) (h : Kd.over (Kd.sh 5 [37]).1 (Kd.sh 5 [37]).2 [ka, kb] = (k, 0)) : G k (comb 5 [37] [a, b]) := by
  obtain ⟨h1, h2, h3⟩ := over2 (by decide) (by decide) h
  have hk : k = 1 := h3
  subst hk
  exact G.two (f := bin [37]) ha hb (fun v u e1 n1 e2 n2 => bin_num (by decide) (by decide) (by omega) (by omega))
theorem kind_amp {k ka kb : Int} {a b : R} (ha : G ka a) (hb : G kb b) (h : Kd.over (Kd.sh 5 [38]).1 (Kd.sh 5 [38]).2 [ka, kb] = (k, 0)) : G k (comb 5 [38] [a, b]) := by
  obtain ⟨h1, h2, h3⟩ := over2 (by decide) (by decide) h
  have hk : k = 2 := h3
  subst hk
  exact G.two (f := bin [38]) ha hb (fun v u e1 n1 e2 n2 => bin_text (by omega) (by omega))
theorem kind_len {k ka : Int} {a : R} (ha : G ka a) (h : Kd.over (Kd.sh 6 [108, 101, 110]).1 (Kd.sh 6 [108, 101, 110]).2 [ka] = (k, 0)) : G k (comb 6 [108, 101, 110] [a]) := by
  obtain ⟨h1, h2⟩ := over1 (by decide) h
  have hk : k = 1 := h2
  subst hk
  refine G.one (f := un 6 [108, 101, 110]) ha (fun v e1 n1 => ?_)
  rw [un, if_neg (by decide), if_neg (by decide), if_neg (by decide), if_pos (by omega), if_pos rfl]
  exact G.ok_ (.inl rfl)
theorem kind_num {k ka : Int} {a : R} (ha : G ka a) (h : Kd.over (Kd.sh 6 [110, 117, 109]).1 (Kd.sh 6 [110, 117, 109]).2 [ka] = (k, 0)) : G k (comb 6 [110, 117, 109] [a]) := by
  obtain ⟨h1, h2⟩ := over1 (by decide) h
  have hk : k = 1 := h2
  subst hk
  refine G.one (f := un 6 [110, 117, 109]) ha (fun v e1 n1 => ?_)
  rw [un, if_neg (by decide), if_neg (by decide), if_neg (by decide), if_pos (by omega), if_neg (by decide)]
  split
  · exact G.ok_ (.inl rfl)
  · rename_i hr
    have : re v.s = 4 ∨ re v.s = 6 := re_is hr
    rcases this with e | e
    · exact .inr (.inr (.inl e))
    · exact .inr (.inr (.inr (.inr e)))
theorem kind_str {k ka : Int} {a : R} (ha : G ka a) (h : Kd.over (Kd.sh 6 [115, 116, 114]).1 (Kd.sh 6 [115, 116, 114]).2 [ka] = (k, 0)) : G k (comb 6 [115, 116, 114] [a]) := by
  obtain ⟨h1, h2⟩ := over1 (by decide) h
  have hk : k = 2 := h2
  subst hk
  refine G.one (f := un 6 [115, 116, 114]) ha (fun v e1 n1 => ?_)
  rw [un, if_neg (by decide), if_neg (by decide), if_pos rfl, if_pos (by omega)]
  exact G.ok_ (.inl rfl)
theorem kind_left {k ka kb : Int} {a b : R} (ha : G ka a) (hb : G kb b) (h : Kd.over (Kd.sh 6 [108, 101, 102, 116]).1 (Kd.sh 6 [108, 101, 102, 116]).2 [ka, kb] = (k, 0)) : G k (comb 6 [108, 101, 102, 116] [a, b]) := by
  obtain ⟨h1, h2, h3⟩ := over2 (by decide) (by decide) h
  have hk : k = 2 := h3
  subst hk
  refine G.two (f := side [108, 101, 102, 116]) ha hb (fun v u e1 n1 e2 n2 => ?_)
  rw [side, if_pos ⟨by omega, by omega⟩]
  split <;> exact G.ok_ (.inl rfl)
theorem kind_right {k ka kb : Int} {a b : R} (ha : G ka a) (hb : G kb b) (h : Kd.over (Kd.sh 6 [114, 105, 103, 104, 116]).1 (Kd.sh 6 [114, 105, 103, 104, 116]).2 [ka, kb] = (k, 0)) : G k (comb 6 [114, 105, 103, 104, 116] [a, b]) := by
  obtain ⟨h1, h2, h3⟩ := over2 (by decide) (by decide) h
  have hk : k = 2 := h3
  subst hk
  refine G.two (f := side [114, 105, 103, 104, 116]) ha hb (fun v u e1 n1 e2 n2 => ?_)
  rw [side, if_pos ⟨by omega, by omega⟩]
  split <;> exact G.ok_ (.inl rfl)
theorem kind_isnull {k ka : Int} {a : R} (ha : G ka a) (h : Kd.over (Kd.sh 6 [105, 115, 110, 117, 108, 108]).1 (Kd.sh 6 [105, 115, 110, 117, 108, 108]).2 [ka] = (k, 0)) : G k (comb 6 [105, 115, 110, 117, 108, 108] [a]) := by
  have hk : k = 3 := over1s h
  subst hk
  show G 3 (if a.e = 0 then ok (tru (decide (a.v.k = 0))) else err a.e)
  split
  · exact G.ok_ (.inl rfl)
  · rename_i h1; exact ha.err_ h1
theorem kind_nvl {k ka kb : Int} {a b : R} (ha : G ka a) (hb : G kb b) (h : Kd.over (Kd.sh 6 [110, 118, 108]).1 (Kd.sh 6 [110, 118, 108]).2 [ka, kb] = (k, 0)) : G k (comb 6 [110, 118, 108] [a, b]) := by
  obtain ⟨h1, h2⟩ := over2s h
  have hk : k = if ka = 0 then kb else ka := h2
  show G k (if a.e = 0 then (if a.v.k = 0 then b else ok a.v) else err a.e)
  split
  · rename_i e1
    split
    · by_cases k0 : ka = 0
      · rw [if_pos k0] at hk; exact hb.same_ (.inl hk.symm)
      · rw [if_neg k0] at hk; exact hb.same_ (by omega)
    · rename_i n1
      have := ha.val e1
      by_cases k0 : ka = 0
      · omega
      · rw [if_neg k0] at hk; exact G.ok_ (by omega)
  · rename_i e1; exact ha.err_ e1
theorem kind_if {k ka kb kc : Int} {a b c : R} (ha : G ka a) (hb : G kb b) (hc : G kc c) (h : Kd.over (Kd.sh 6 [105, 102]).1 (Kd.sh 6 [105, 102]).2 [ka, kb, kc] = (k, 0)) : G k (comb 6 [105, 102] [a, b, c]) := by
  obtain ⟨h1, h2, h3⟩ := over3 h
  have hk : k = if kb = 0 then kc else kb := h3
  show G k (if a.e = 0 then (if a.v.k = 0 ∨ a.v.k = 3 then (if a.v.n = 1 then b else c) else err 10) else err a.e)
  split
  · rename_i e1
    rw [if_pos (by have := ha.val e1; omega)]
    split
    · by_cases k0 : kb = 0
      · exact hb.same_ (.inr k0)
      · rw [if_neg k0] at hk; exact hb.same_ (.inl hk.symm)
    · by_cases k0 : kb = 0
      · rw [if_pos k0] at hk; exact hc.same_ (.inl hk.symm)
      · rw [if_neg k0] at hk; exact hc.same_ (by omega)
  · rename_i e1; exact ha.err_ e1
theorem kind_mark {t : List UInt8} (ht : (Ex.lev t == 0) = false) {k ka kb : Int} {a b : R} (ha : G ka a) (hb : G kb b) (h : Kd.over (Kd.sh 5 t).1 (Kd.sh 5 t).2 [ka, kb] = (k, 0)) : G k (comb 5 t [a, b]) := by
  by_cases e0 : t = [111, 114]
  · subst e0; exact kind_or ha hb h
  by_cases e1 : t = [97, 110, 100]
  · subst e1; exact kind_and ha hb h
  by_cases e2 : t = [61]
  · subst e2; exact kind_cmp0 ha hb h
  by_cases e3 : t = [33, 61]
  · subst e3; exact kind_cmp1 ha hb h
  by_cases e4 : t = [60]
  · subst e4; exact kind_cmp2 ha hb h
  by_cases e5 : t = [60, 61]
  · subst e5; exact kind_cmp3 ha hb h
  by_cases e6 : t = [62]
  · subst e6; exact kind_cmp4 ha hb h
  by_cases e7 : t = [62, 61]
  · subst e7; exact kind_cmp5 ha hb h
  by_cases e8 : t = [43]
  · subst e8; exact kind_num0 ha hb h
  by_cases e9 : t = [45]
  · subst e9; exact kind_num1 ha hb h
  by_cases e10 : t = [38]
  · subst e10; exact kind_amp ha hb h
  by_cases e11 : t = [42]
  · subst e11; exact kind_num2 ha hb h
  by_cases e12 : t = [47]
  · subst e12; exact kind_num3 ha hb h
  by_cases e13 : t = [37]
  · subst e13; exact kind_num4 ha hb h
  exfalso
  have h0 : Ex.lev t = 0 := by
    unfold Ex.lev
    simp only [beq_eq_false_iff_ne.2 e0, beq_eq_false_iff_ne.2 e1, beq_eq_false_iff_ne.2 e2, beq_eq_false_iff_ne.2 e3, beq_eq_false_iff_ne.2 e4, beq_eq_false_iff_ne.2 e5, beq_eq_false_iff_ne.2 e6, beq_eq_false_iff_ne.2 e7, beq_eq_false_iff_ne.2 e8, beq_eq_false_iff_ne.2 e9, beq_eq_false_iff_ne.2 e10, beq_eq_false_iff_ne.2 e11, beq_eq_false_iff_ne.2 e12, beq_eq_false_iff_ne.2 e13, cond_false]
  rw [h0] at ht
  exact absurd ht (by decide)
theorem kind_call {t : List UInt8} {l : List R} {kl : List Int} {k : Int} (hn : ((l.length : Nat) : Int) = Ex.arity t) (hl : kl.length = l.length) (hg : ∀ i (h : i < l.length) (h' : i < kl.length), G kl[i] l[i]) (h : Kd.over (Kd.sh 6 t).1 (Kd.sh 6 t).2 kl = (k, 0)) : G k (comb 6 t l) := by
  by_cases e0 : t = [108, 101, 110]
  · subst e0
    have hn' : l.length = 1 := by
      have : Ex.arity [108, 101, 110] = 1 := rfl
      omega
    obtain ⟨a, rfl⟩ := list1 hn'
    obtain ⟨ka, rfl⟩ := list1 (hl.trans hn')
    exact kind_len (hg 0 (by simp) (by simp)) h
  by_cases e1 : t = [115, 116, 114]
  · subst e1
    have hn' : l.length = 1 := by
      have : Ex.arity [115, 116, 114] = 1 := rfl
      omega
    obtain ⟨a, rfl⟩ := list1 hn'
    obtain ⟨ka, rfl⟩ := list1 (hl.trans hn')
    exact kind_str (hg 0 (by simp) (by simp)) h
  by_cases e2 : t = [110, 117, 109]
  · subst e2
    have hn' : l.length = 1 := by
      have : Ex.arity [110, 117, 109] = 1 := rfl
      omega
    obtain ⟨a, rfl⟩ := list1 hn'
    obtain ⟨ka, rfl⟩ := list1 (hl.trans hn')
    exact kind_num (hg 0 (by simp) (by simp)) h
  by_cases e3 : t = [105, 115, 110, 117, 108, 108]
  · subst e3
    have hn' : l.length = 1 := by
      have : Ex.arity [105, 115, 110, 117, 108, 108] = 1 := rfl
      omega
    obtain ⟨a, rfl⟩ := list1 hn'
    obtain ⟨ka, rfl⟩ := list1 (hl.trans hn')
    exact kind_isnull (hg 0 (by simp) (by simp)) h
  by_cases e4 : t = [110, 118, 108]
  · subst e4
    have hn' : l.length = 2 := by
      have : Ex.arity [110, 118, 108] = 2 := rfl
      omega
    obtain ⟨a, b, rfl⟩ := list2 hn'
    obtain ⟨ka, kb, rfl⟩ := list2 (hl.trans hn')
    exact kind_nvl (hg 0 (by simp) (by simp)) (hg 1 (by simp) (by simp)) h
  by_cases e5 : t = [108, 101, 102, 116]
  · subst e5
    have hn' : l.length = 2 := by
      have : Ex.arity [108, 101, 102, 116] = 2 := rfl
      omega
    obtain ⟨a, b, rfl⟩ := list2 hn'
    obtain ⟨ka, kb, rfl⟩ := list2 (hl.trans hn')
    exact kind_left (hg 0 (by simp) (by simp)) (hg 1 (by simp) (by simp)) h
  by_cases e6 : t = [114, 105, 103, 104, 116]
  · subst e6
    have hn' : l.length = 2 := by
      have : Ex.arity [114, 105, 103, 104, 116] = 2 := rfl
      omega
    obtain ⟨a, b, rfl⟩ := list2 hn'
    obtain ⟨ka, kb, rfl⟩ := list2 (hl.trans hn')
    exact kind_right (hg 0 (by simp) (by simp)) (hg 1 (by simp) (by simp)) h
  by_cases e7 : t = [105, 102]
  · subst e7
    have hn' : l.length = 3 := by
      have : Ex.arity [105, 102] = 3 := rfl
      omega
    obtain ⟨a, b, c, rfl⟩ := list3 hn'
    obtain ⟨ka, kb, kc, rfl⟩ := list3 (hl.trans hn')
    exact kind_if (hg 0 (by simp) (by simp)) (hg 1 (by simp) (by simp)) (hg 2 (by simp) (by simp)) h
  exfalso
  have h0 : Ex.arity t = -1 := by
    unfold Ex.arity
    simp only [beq_eq_false_iff_ne.2 e0, beq_eq_false_iff_ne.2 e1, beq_eq_false_iff_ne.2 e2, beq_eq_false_iff_ne.2 e3, beq_eq_false_iff_ne.2 e4, beq_eq_false_iff_ne.2 e5, beq_eq_false_iff_ne.2 e6, beq_eq_false_iff_ne.2 e7, cond_false]
  omega
/-- a right node over kids that have kinds. -/
theorem kind_node {op : Int} {t : List UInt8} {vk vn : Int} {vs : List UInt8} {l : List R} {kl : List Int} {k : Int} (hr : nodeB op t vk vn vs l.length = true) (h1 : op ≠ 1) (h2 : op ≠ 2) (hl : kl.length = l.length) (hg : ∀ i (h : i < l.length) (h' : i < kl.length), G kl[i] l[i])
    (h : Kd.over (Kd.sh op t).1 (Kd.sh op t).2 kl = (k, 0)) : G k (comb op t l) := by
  rw [nodeB, if_neg h1, if_neg h2] at hr
  by_cases h3 : op = 3
  · rw [if_pos (.inl h3)] at hr
    simp only [Bool.and_eq_true, beq_iff_eq, List.isEmpty_iff] at hr
    obtain ⟨rfl, -, hn⟩ := hr
    have hn' : l.length = 1 := by omega
    obtain ⟨a, rfl⟩ := list1 hn'
    obtain ⟨ka, rfl⟩ := list1 (hl.trans hn')
    subst h3
    exact kind_neg (hg 0 (by simp) (by simp)) h
  by_cases h4 : op = 4
  · rw [if_pos (.inr h4)] at hr
    simp only [Bool.and_eq_true, beq_iff_eq, List.isEmpty_iff] at hr
    obtain ⟨rfl, -, hn⟩ := hr
    have hn' : l.length = 1 := by omega
    obtain ⟨a, rfl⟩ := list1 hn'
    obtain ⟨ka, rfl⟩ := list1 (hl.trans hn')
    subst h4
    exact kind_not (hg 0 (by simp) (by simp)) h
  rw [if_neg (by omega)] at hr
  by_cases h5 : op = 5
  · rw [if_pos h5] at hr
    simp only [Bool.and_eq_true, beq_iff_eq, Bool.not_eq_true'] at hr
    have hn' : l.length = 2 := by omega
    obtain ⟨a, b, rfl⟩ := list2 hn'
    obtain ⟨ka, kb, rfl⟩ := list2 (hl.trans hn')
    subst h5
    exact kind_mark hr.1 (hg 0 (by simp) (by simp)) (hg 1 (by simp) (by simp)) h
  rw [if_neg h5] at hr
  by_cases h6 : op = 6
  · rw [if_pos h6] at hr
    simp only [Bool.and_eq_true, beq_iff_eq] at hr
    subst h6
    exact kind_call hr.1 hl hg h
  · rw [if_neg h6] at hr; cases hr
/-- a row over columns. -/
def rowKind (C : List Col) (W : List V) : Prop := W.length = C.length ∧ ∀ i (h : i < C.length) (h' : i < W.length), W[i].k = C[i].2 ∨ W[i].k = 0
mutual
theorem ev_kind {C : List Col} {W : List V} (hW : rowKind C W) : ∀ x : Tree, Ex.ones nodeB x = true → ∀ k, Kd.kd C x = (k, 0) → G k (ev C W x)
  | .node op t vk vn vs ks, hr, k, h => by
    rw [Ex.ones, Bool.and_eq_true] at hr
    rw [Kd.kd] at h
    rw [ev]
    by_cases h1 : op = 1
    · rw [if_pos h1] at h ⊢
      cases h
      exact G.ok_ (.inl rfl)
    rw [if_neg h1] at h ⊢
    by_cases h2 : op = 2
    · rw [if_pos h2] at h ⊢
      rcases Kd.fk_ix C t with ⟨e1, e2⟩ | ⟨i, hi, e1, e2⟩
      · rw [e2] at h; cases h
      · rw [e2] at h
        rw [e1]
        cases h
        show G C[i].2 (ok (W.getD i z))
        have hi' : i < W.length := by rw [hW.1]; exact hi
        rw [List.getD_eq_getElem?_getD, List.getElem?_eq_getElem hi']
        exact G.ok_ (hW.2 i hi hi')
    rw [if_neg h2] at h ⊢
    by_cases h3 : (Kd.kds C ks).1 = 0
    · rw [if_pos h3] at h
      have hl := evs_len C W ks
      exact kind_node (vk := vk) (vn := vn) (vs := vs) (by rw [hl]; exact hr.1) h1 h2 (by rw [hl, Kd.kds_len C ks h3]) (evs_kind hW ks hr.2 h3) h
    · rw [if_neg h3] at h
      exact absurd (congrArg Prod.snd h) h3
theorem evs_kind {C : List Col} {W : List V} (hW : rowKind C W) : ∀ l : List Tree, Ex.oness nodeB l = true → (Kd.kds C l).1 = 0 → ∀ i (h : i < (evs C W l).length) (h' : i < (Kd.kds C l).2.length), G (Kd.kds C l).2[i] (evs C W l)[i]
  | [], hr, hk, i, h, h' => absurd h (Nat.not_lt_zero _)
  | x :: l, hr, hk, i, h, h' => by
    rw [Ex.oness, Bool.and_eq_true] at hr
    have hx : (Kd.kd C x).2 = 0 := by
      rw [Kd.kds] at hk
      by_cases hx : (Kd.kd C x).2 = 0
      · exact hx
      · rw [if_neg hx] at hk; exact hk
    have e : Kd.kds C (x :: l) = ((Kd.kds C l).1, (Kd.kd C x).1 :: (Kd.kds C l).2) := by rw [Kd.kds, if_pos hx]
    have hk' : (Kd.kds C l).1 = 0 := by rw [e] at hk; exact hk
    have e2 : (Kd.kds C (x :: l)).2 = (Kd.kd C x).1 :: (Kd.kds C l).2 := by rw [e]
    have e3 : evs C W (x :: l) = ev C W x :: evs C W l := by rw [evs]
    have key : ∀ (A : List Int) (B : List R) (hA : A = (Kd.kd C x).1 :: (Kd.kds C l).2) (hB : B = ev C W x :: evs C W l) (h : i < B.length) (h' : i < A.length), G A[i] B[i] := by
      rintro _ _ rfl rfl h h'
      cases i with
      | zero => exact ev_kind hW x hr.1 _ (Prod.ext rfl hx)
      | succ i => exact evs_kind hW l hr.2 hk' i (by simpa using h) (by simpa using h')
    exact key _ _ e2 e3 h h'
end
end Ev
end Go.Proofs.YteghhmomhlnccaaGreatDoor

/- What a tree comes to is plain (stage 16). -/
namespace Go.Proofs.YteghhmomhlnccaaGreatDoor
open Go.Lib
set_option linter.unusedVariables false
set_option linter.unusedSimpArgs false
open Ex (Tree)
namespace Ev
/-- a plain value of 64 bits. -/
def Pl (v : V) : Prop := (v.k = 0 ∧ v.n = 0 ∧ v.s = []) ∨ (v.k = 1 ∧ Fits v.n ∧ v.s = []) ∨ (v.k = 2 ∧ v.n = 0 ∧ v.s.length ≤ 200) ∨ (v.k = 3 ∧ (v.n = 0 ∨ v.n = 1) ∧ v.s = [])
theorem Pl.z_ : Pl z := .inl ⟨rfl, rfl, rfl⟩
theorem Pl.tru_ (b : Bool) : Pl (tru b) := by
  refine .inr (.inr (.inr ⟨rfl, ?_, rfl⟩))
  cases b
  · exact .inl rfl
  · exact .inr rfl
theorem Pl.err_ (c : Int) : Pl (err c).v := Pl.z_
theorem Pl.num_ (n : Int) : Pl (num n).v := by
  rw [num]
  split
  · rename_i h; exact .inr (.inl ⟨rfl, h, rfl⟩)
  · exact Pl.z_
theorem Pl.text {v : V} (h : Pl v) (hk : v.k = 2) : v.s.length ≤ 200 := by
  rcases h with h | h | h | h
  · omega
  · omega
  · exact h.2.2
  · omega
theorem Pl.number {v : V} (h : Pl v) (hk : v.k = 1) : Fits v.n ∧ v.s = [] := by
  rcases h with h | h | h | h
  · omega
  · exact h.2
  · omega
  · omega
theorem Pl.truth {v : V} (h : Pl v) (hk : v.k = 3) : (v.n = 0 ∨ v.n = 1) ∧ v.s = [] := by
  rcases h with h | h | h | h
  · omega
  · omega
  · omega
  · exact h.2
theorem Pl.null {v : V} (h : Pl v) (hk : v.k = 0) : v = z := by
  obtain ⟨k, n, s⟩ := v
  rcases h with ⟨h1, h2, h3⟩ | h | h | h
  · dsimp only at h1 h2 h3; subst h1; subst h2; subst h3; rfl
  · dsimp only at h hk; omega
  · dsimp only at h hk; omega
  · dsimp only at h hk; omega
theorem fits_rv {l : List UInt8} (h : re l = 0) : Fits (rv l) := by
  rw [re] at h
  rw [rv]
  split at h
  · rename_i h1
    rw [if_pos h1]
    rw [se] at h
    rw [sv]
    split at h
    · rename_i h2; rw [if_pos h2]; exact h2
    · exact absurd h (by decide)
  · exact absurd h (by decide)
theorem Pl.bin_ (t : List UInt8) (a b : V) : Pl (bin t a b).v := by
  rw [bin]
  split
  · split
    · exact Pl.tru_ _
    · exact Pl.z_
  split
  · split
    · split
      · rename_i h
        exact .inr (.inr (.inl ⟨rfl, rfl, by show (a.s ++ b.s).length ≤ 200; rw [List.length_append]; exact h⟩))
      · exact Pl.z_
    · exact Pl.z_
  split
  · split
    · exact Pl.num_ _
    split
    · exact Pl.num_ _
    split
    · exact Pl.num_ _
    split
    · exact Pl.z_
    split <;> exact Pl.num_ _
  · exact Pl.z_
theorem Pl.side_ (t : List UInt8) {a : V} (b : V) (ha : Pl a) : Pl (side t a b).v := by
  rw [side]
  split
  · rename_i h
    have := ha.text h.1
    split
    · exact .inr (.inr (.inl ⟨rfl, rfl, by show (a.s.take _).length ≤ 200; rw [List.length_take]; omega⟩))
    · exact .inr (.inr (.inl ⟨rfl, rfl, by show (a.s.drop _).length ≤ 200; rw [List.length_drop]; omega⟩))
  · exact Pl.z_
theorem Pl.un_ (op : Int) (t : List UInt8) {a : V} (ha : Pl a) : Pl (un op t a).v := by
  rw [un]
  split
  · split
    · exact Pl.num_ _
    · exact Pl.z_
  split
  · split
    · exact Pl.tru_ _
    · exact Pl.z_
  split
  · split
    · rename_i h
      obtain ⟨f1, f2⟩ := (ha.number h).1
      have := itoa_length_le a.n f1 f2
      exact .inr (.inr (.inl ⟨rfl, rfl, by show (itoa a.n).length ≤ 200; omega⟩))
    · exact Pl.z_
  split
  · rename_i h
    split
    · have := ha.text h
      exact .inr (.inl ⟨rfl, by show Fits ((a.s.length : Nat) : Int); unfold Fits; omega, rfl⟩)
    split
    · rename_i h2
      exact .inr (.inl ⟨rfl, fits_rv h2, rfl⟩)
    · exact Pl.z_
  · exact Pl.z_
theorem Pl.logic_ (s : Bool) {a : V} {b : R} (ha : Pl a) (hb : Pl b.v) : Pl (logic s a b).v := by
  rw [logic]
  generalize (if s = true then (1 : Int) else 0) = q
  split
  · split
    · exact ha
    split
    · split
      · split
        · exact hb
        split
        · exact Pl.z_
        · exact Pl.tru_ _
      · exact Pl.z_
    · exact Pl.z_
  · exact Pl.z_
theorem getD_pl {l : List R} (h : ∀ r ∈ l, Pl r.v) (i : Nat) : Pl (l.getD i (ok z)).v := by
  rw [List.getD_eq_getElem?_getD]
  cases hx : l[i]? with
  | none => exact Pl.z_
  | some r => exact h r (List.mem_of_getElem? hx)
theorem Pl.comb_ (op : Int) (t : List UInt8) {l : List R} (h : ∀ r ∈ l, Pl r.v) : Pl (comb op t l).v := by
  have h0 := getD_pl h 0
  have h1 := getD_pl h 1
  have h2 := getD_pl h 2
  unfold comb
  dsimp only
  split
  · split
    · exact Pl.logic_ _ h0 h1
    split
    · exact Pl.logic_ _ h0 h1
    split
    · exact Pl.tru_ _
    split
    · split
      · exact h1
      · exact h0
    split
    · split
      · split
        · exact h1
        · exact h2
      · exact Pl.z_
    split
    · split
      · split
        · exact Pl.z_
        split
        · exact Pl.bin_ _ _ _
        · exact Pl.side_ _ _ h0
      · exact Pl.z_
    split
    · exact Pl.z_
    · exact Pl.un_ _ _ h0
  · exact Pl.z_
theorem plain_val {k n : Int} {s : List UInt8} (h : valB k n (tx s) = true) (hn : -9223372036854775808 ≤ n ∧ n ≤ 9223372036854775807) : Pl ⟨k, n, s⟩ := by
  have hs : (tx s).size = s.length := by simp [ByteArray.size, tx]
  rw [valB, Bool.and_eq_true] at h
  rcases plainB_iff.1 h.1 with ⟨h1, h2, h3⟩ | ⟨h1, h3⟩ | ⟨h1, h2, h3⟩ | ⟨h1, h3, h4, h5⟩
  · exact .inl ⟨h1, h2, List.eq_nil_of_length_eq_zero (by rw [← hs]; exact h3)⟩
  · exact .inr (.inl ⟨h1, hn, List.eq_nil_of_length_eq_zero (by rw [← hs]; exact h3)⟩)
  · exact .inr (.inr (.inl ⟨h1, h2, by rw [← hs]; exact h3⟩))
  · exact .inr (.inr (.inr ⟨h1, by show n = 0 ∨ n = 1; omega, List.eq_nil_of_length_eq_zero (by rw [← hs]; exact h3)⟩))
mutual
/-- what a right tree comes to over plain values is plain. -/
theorem ev_pl {C : List Col} {W : List V} (hW : ∀ v ∈ W, Pl v) : ∀ x : Tree, Ex.ones nodeB x = true → Ex.ones rngN x = true → Pl (ev C W x).v
  | .node op t vk vn vs ks, hr, hg => by
    rw [Ex.ones, Bool.and_eq_true] at hr hg
    rw [ev]
    by_cases h1 : op = 1
    · rw [if_pos h1]
      have h := hr.1
      rw [nodeB, if_pos h1] at h
      simp only [Bool.and_eq_true] at h
      exact plain_val h.2.1 (of_decide_eq_true hg.1)
    rw [if_neg h1]
    by_cases h2 : op = 2
    · rw [if_pos h2]
      cases hx : Kd.ix C t with
      | none => exact Pl.z_
      | some i =>
        show Pl (W.getD i z)
        rw [List.getD_eq_getElem?_getD]
        cases hy : W[i]? with
        | none => exact Pl.z_
        | some v => exact hW v (List.mem_of_getElem? hy)
    rw [if_neg h2]
    exact Pl.comb_ op t (evs_pl hW ks hr.2 hg.2)
theorem evs_pl {C : List Col} {W : List V} (hW : ∀ v ∈ W, Pl v) : ∀ l : List Tree, Ex.oness nodeB l = true → Ex.oness rngN l = true → ∀ r ∈ evs C W l, Pl r.v
  | [], hr, hg, r, h => by rw [evs] at h; cases h
  | x :: l, hr, hg, r, h => by
    rw [Ex.oness, Bool.and_eq_true] at hr hg
    rw [evs, List.mem_cons] at h
    rcases h with rfl | h
    · exact ev_pl hW x hr.1 hg.1
    · exact evs_pl hW l hr.2 hg.2 r h
end
/-- what has an error has no value. -/
theorem comb_err (op : Int) (t : List UInt8) {l : List R} (h : ∀ r ∈ l, r.e ≠ 0 → r.v = z) : (comb op t l).e ≠ 0 → (comb op t l).v = z := by
  have hg : ∀ i, (l.getD i (ok z)).e ≠ 0 → (l.getD i (ok z)).v = z := fun i => by
    rw [List.getD_eq_getElem?_getD]
    cases hx : l[i]? with
    | none => intro h; exact absurd rfl h
    | some r => exact h r (List.mem_of_getElem? hx)
  have hl : ∀ (s : Bool) (a : V) (b : R), (logic s a b).e ≠ 0 → (logic s a b).v = z := fun s a b => by
    rw [logic]
    repeat' split
    all_goals first | (intro h; exact absurd rfl h) | (intro _; rfl)
  have hn : ∀ n : Int, (num n).e ≠ 0 → (num n).v = z := fun n => by
    rw [num]
    split
    all_goals first | (intro h; exact absurd rfl h) | (intro _; rfl)
  have hb : ∀ (a b : V), (bin t a b).e ≠ 0 → (bin t a b).v = z := fun a b => by
    rw [bin]
    repeat' split
    all_goals first | exact hn _ | (intro h; exact absurd rfl h) | (intro _; rfl)
  have hs : ∀ (a b : V), (side t a b).e ≠ 0 → (side t a b).v = z := fun a b => by
    rw [side]
    repeat' split
    all_goals first | (intro h; exact absurd rfl h) | (intro _; rfl)
  have hu : ∀ (a : V), (un op t a).e ≠ 0 → (un op t a).v = z := fun a => by
    rw [un]
    repeat' split
    all_goals first | exact hn _ | (intro h; exact absurd rfl h) | (intro _; rfl)
  unfold comb
  dsimp only
  repeat' split
  all_goals first | exact hl _ _ _ | exact hb _ _ | exact hs _ _ | exact hu _ | exact hg _ | (intro h; exact absurd rfl h) | (intro _; rfl)
mutual
theorem ev_err {C : List Col} {W : List V} : ∀ x : Tree, (ev C W x).e ≠ 0 → (ev C W x).v = z
  | .node op t vk vn vs ks => by
    rw [ev]
    split
    · intro h; exact absurd rfl h
    split
    · cases Kd.ix C t with
      | none => intro _; rfl
      | some i => intro h; exact absurd rfl h
    · exact comb_err op t (evs_err ks)
theorem evs_err {C : List Col} {W : List V} : ∀ l : List Tree, ∀ r ∈ evs C W l, r.e ≠ 0 → r.v = z
  | [], r, h => by rw [evs] at h; cases h
  | x :: l, r, h => by
    rw [evs, List.mem_cons] at h
    rcases h with rfl | h
    · exact ev_err x
    · exact evs_err l r h
end
end Ev
end Go.Proofs.YteghhmomhlnccaaGreatDoor

/- Who decides decides: the four sources of EvalLogic, plain (stage 16). -/
namespace Go.Proofs.YteghhmomhlnccaaGreatDoor
open Go.Lib
set_option linter.unusedVariables false
set_option linter.unusedSimpArgs false
set_option maxRecDepth 100000
open Ex (Tree)
namespace Ev
abbrev opT (t : List UInt8) (x y : Tree) : Tree := .node 5 t 0 0 [] [x, y]
theorem awIf_parse : Ps.parse [105, 102, 40, 116, 114, 117, 101, 44, 32, 49, 44, 32, 49, 32, 47, 32, 48, 41] = .ok (.node 6 [105, 102] 0 0 [] [.node 1 [] 3 1 [] [], .node 1 [] 1 1 [] [], opT [47] (.node 1 [] 1 1 [] []) (.node 1 [] 1 0 [] [])]) 10 := by kernel_rfl
theorem awNvl_parse : Ps.parse [110, 118, 108, 40, 49, 32, 47, 32, 48, 44, 32, 49, 41] = .ok (.node 6 [110, 118, 108] 0 0 [] [opT [47] (.node 1 [] 1 1 [] []) (.node 1 [] 1 0 [] []), .node 1 [] 1 1 [] []]) 8 := by kernel_rfl
end Ev
end Go.Proofs.YteghhmomhlnccaaGreatDoor

/- Values in memory (three cells each); opened; rows of values of the call's own (stage 16). -/
namespace Go.Proofs.YteghhmomhlnccaaGreatDoor
open Go.RowKit Go.Lib
set_option linter.unusedVariables false
set_option maxRecDepth 100000
set_option linter.unusedSimpArgs false
open Ev (V)
def ValsAt (w : World) (A : Option Addr) (l : List V) : Prop := ∀ i (h : i < l.length), ∃ b o, A = some ⟨b, o, none⟩ ∧ b < w.heap.size ∧ w.cell? ⟨b, o + i * 3, none⟩ = some (.int .i64 l[i].k) ∧ w.cell? ⟨b, o + i * 3 + 1, none⟩ = some (.int .i64 l[i].n) ∧ w.cell? ⟨b, o + i * 3 + 2, none⟩ = some (.string (tx l[i].s))
abbrev vcells (v : V) : Array Value := #[.int .i64 v.k, .int .i64 v.n, .string (tx v.s)]
theorem ValsAt.below {w w' : World} {A : Option Addr} {l : List V} (h : ValsAt w A l) (hb : Below w.heap.size w w') : ValsAt w' A l := fun i hi => by
  obtain ⟨b, o, e, h1, h2, h3, h4⟩ := h i hi
  exact ⟨b, o, e, Nat.lt_of_lt_of_le h1 hb.size, (hb.cell (p := ⟨b, o + i * 3, none⟩) h1).trans h2, (hb.cell (p := ⟨b, o + i * 3 + 1, none⟩) h1).trans h3, (hb.cell (p := ⟨b, o + i * 3 + 2, none⟩) h1).trans h4⟩
theorem ValsAt.nil (w : World) (A : Option Addr) : ValsAt w A [] := fun i hi => absurd hi (Nat.not_lt_zero _)

/-! opened -/
/-- numbers of 64 bits, texts that fit. -/
def fitV (l : List V) : Prop := ∀ v ∈ l, v.s.length ≤ maxLen ∧ Fits v.n
theorem choose_val {n : Nat} {R : Nat → V → Prop} (h : ∀ i, i < n → ∃ x, R i x) : ∃ l : List V, l.length = n ∧ ∀ i (hi : i < l.length), R i l[i] := by
  induction n with
  | zero => exact ⟨[], rfl, fun i hi => absurd hi (by simp)⟩
  | succ n ih =>
    obtain ⟨l, h1, h2⟩ := ih fun i hi => h i (by omega)
    obtain ⟨x, hx⟩ := h n (by omega)
    refine ⟨l ++ [x], by simp [h1], fun i hi => ?_⟩
    by_cases e : i < l.length
    · rw [List.getElem_append_left e]; exact h2 i e
    · have : i = n := by simp at hi; omega
      subst this
      rw [List.getElem_append_right (by omega)]
      simpa [h1] using hx
section
open Go.Deep Go.Joins Go.WideShapes Go.ChangeShapes
variable {H : Type} {enc : TypeId × Value → H} {W : World} {base : Nat} {spare : Nat → Bool} {held : Bool}
theorem opens_val {fuel : Nat} {cs : List Value} {x : DataW H × List MemPlace} (h : DataW.trod enc Tryz.prog W base spare held fuel 23 cs = some x) : ∃ v : V, cs = (vcells v).toList ∧ v.s.length ≤ maxLen ∧ Fits v.n := by
  obtain ⟨y0, y1, y2, f, -, hl, h0, h1, h2⟩ := trod_struct3 Tryz.underlying23 h
  rw [cellsVal] at hl
  match cs, hl with
  | [c0, c1, c2], _ =>
    have z0 : Tryz.prog.cellsOf 3 = 1 := by kernel_rfl
    have z1 : Tryz.prog.cellsOf 2 = 1 := by kernel_rfl
    have z2 : Tryz.prog.cellsOf 9 = 1 := by kernel_rfl
    simp only [z0, z1, z2, List.drop, List.take] at h0 h1 h2
    obtain ⟨k, e0, -, -⟩ := DataW.trod_int Tryz.underlying3 h0
    obtain ⟨n, e1, -, w1⟩ := DataW.trod_int Tryz.underlying2 h1
    obtain ⟨s, e2, -, w2⟩ := DataW.trod_string Tryz.underlying9 h2
    cases e0; cases e1; cases e2
    have b1 := bounds_i64 w1
    refine ⟨⟨k, n, s.data.toList⟩, by simp [vcells, tx], ?_, by unfold Fits; show _ ≤ n ∧ n ≤ _; omega⟩
    have : s.data.toList.length = s.size := by simp
    show s.data.toList.length ≤ maxLen
    omega
theorem opens_vals {fuel : Nat} {cs : List Value} {x : DataW H × List MemPlace} (h : DataW.trod enc Tryz.prog W base spare held fuel 28 cs = some x) : ∃ (l : List V) (A : Option Addr) (c : Nat), cs = [.slice A l.length c] ∧ l.length ≤ c ∧ c ≤ maxLen ∧ ValsAt W A l ∧ fitV l ∧ (A = none → c = 0) := by
  rcases DataW.trod_slice Tryz.underlying28 h with ⟨hcs, _⟩ | ⟨a, len, cap, elems, rest, m, rfl, hcs, -, -, hle, hmx, hln, hel, -⟩
  · cases hcs
    exact ⟨[], none, 0, rfl, Nat.le_refl _, Nat.zero_le _, ValsAt.nil _ _, fun c hc => absurd hc (by simp), fun _ => rfl⟩
  · cases hcs
    have hk : ∀ i, i < len → ∃ x : V, (∃ b o, a = ⟨b, o, none⟩ ∧ b < W.heap.size ∧ W.cell? ⟨b, o + i * 3, none⟩ = some (.int .i64 x.k) ∧ W.cell? ⟨b, o + i * 3 + 1, none⟩ = some (.int .i64 x.n) ∧ W.cell? ⟨b, o + i * 3 + 2, none⟩ = some (.string (tx x.s))) ∧ (x.s.length ≤ maxLen ∧ Fits x.n) := by
      intro i hi
      have hh := hel i hi
      rw [cellsVal, List.getElem?_eq_getElem (by omega)] at hh
      obtain ⟨cs', h5, h6⟩ := Option.bind_eq_some_iff.1 hh
      obtain ⟨x, rfl, k4⟩ := opens_val h6
      obtain ⟨_, _, hat⟩ := World.cells?_some h5
      obtain ⟨b, o, spot⟩ := a
      have q0 := hat 0 (by show 0 < 3; omega)
      have q1 := hat 1 (by show 1 < 3; omega)
      have q2 := hat 2 (by show 2 < 3; omega)
      rw [Go.Deep.add_add] at q0 q1 q2
      have hspot : spot = none := by
        have hh := hel 0 (by omega)
        rw [cellsVal, List.getElem?_eq_getElem (by omega)] at hh
        obtain ⟨cs2, h52, h62⟩ := Option.bind_eq_some_iff.1 hh
        obtain ⟨x2, rfl, -⟩ := opens_val h62
        obtain ⟨_, _, hat2⟩ := World.cells?_some h52
        have := World.cell?_spot (hat2 0 (by show 0 < 3; omega))
        simpa [Addr.add] using this
      subst hspot
      rw [Addr.add_lit] at q0 q1 q2
      exact ⟨x, ⟨b, o, rfl, World.block_lt_of_cell? W _ q0, by simpa using q0, by simpa [Nat.add_assoc] using q1, by simpa [Nat.add_assoc] using q2⟩, k4⟩
    obtain ⟨l, hl1, hl2⟩ := choose_val hk
    refine ⟨l, some a, cap, by rw [hl1], by omega, hmx, fun i hi => ?_, fun c hc => ?_, fun h => by cases h⟩
    · obtain ⟨b, o, rfl, k⟩ := (hl2 i hi).1
      exact ⟨b, o, rfl, k⟩
    · obtain ⟨i, hi, rfl⟩ := List.getElem_of_mem hc
      exact (hl2 i hi).2
/-- values that came in. -/
theorem open_vals {r : Reach} {b0 : Nat} {v : Value} {d : DataW H} {p : List MemPlace} (hv : Value.okWide Tryz.prog W r b0 28 v) (h : DataW.Trod enc Tryz.prog W base spare held 28 v d p) : ∃ (l : List V) (A : Option Addr) (c : Nat), v = .slice A l.length c ∧ l.length ≤ c ∧ c ≤ maxLen ∧ ValsAt W A l ∧ fitV l ∧ (A = none → c = 0) := by
  obtain ⟨A, n, c, rfl⟩ : ∃ A n c, v = .slice A n c := okWide_slice Tryz.underlying28 hv
  obtain ⟨fuel, hf⟩ := h
  obtain ⟨l, A', c', hcs, h1, h2, h3, h4⟩ := opens_vals hf
  refine ⟨l, A', c', ?_, h1, h2, h3, h4⟩
  simpa [Value.cells] using hcs
end

/-! rows of the call's own -/
def valCells (l : List V) : List Value := l.flatMap fun v => [.int .i64 v.k, .int .i64 v.n, .string (tx v.s)]
theorem valCells_len : ∀ l : List V, (valCells l).length = l.length * 3
  | [] => rfl
  | c :: l => by
    have := valCells_len l
    rw [valCells, List.flatMap_cons, ← valCells, List.length_append, this]
    simp only [List.length_cons, List.length_nil]; omega
theorem valCells_at : ∀ (l : List V) (i : Nat) (h : i < l.length), (valCells l)[i * 3]? = some (.int .i64 l[i].k) ∧ (valCells l)[i * 3 + 1]? = some (.int .i64 l[i].n) ∧ (valCells l)[i * 3 + 2]? = some (.string (tx l[i].s))
  | c :: l, 0, h => ⟨rfl, rfl, rfl⟩
  | c :: l, i + 1, h => by
    have := valCells_at l i (by simpa using h)
    rw [valCells, List.flatMap_cons, ← valCells, show (i + 1) * 3 = i * 3 + 1 + 1 + 1 by omega]
    exact this
theorem valCells_one (l : List V) : ∀ v ∈ valCells l, v.oneCell' = true := by
  intro v hv
  rw [valCells, List.mem_flatMap] at hv
  obtain ⟨c, -, hc⟩ := hv
  simp only [List.mem_cons, List.not_mem_nil, or_false] at hc
  rcases hc with rfl | rfl | rfl <;> rfl
theorem valCells_append (l m : List V) : valCells (l ++ m) = valCells l ++ valCells m := by rw [valCells, List.flatMap_append]; rfl
theorem ValsAt.cells {w : World} {b o : Nat} {l : List V} (h : ValsAt w (some ⟨b, o, none⟩) l) : ∀ j u, (valCells l)[j]? = some u → w.cell? ⟨b, o + j, none⟩ = some u := by
  intro j u hu
  have hj : j < l.length * 3 := by rw [← valCells_len]; exact (List.getElem?_eq_some_iff.1 hu).1
  obtain ⟨b', o', e, h1, h2, h3, h4⟩ := h (j / 3) (by omega)
  cases e
  obtain ⟨k1, k2, k3⟩ := valCells_at l (j / 3) (by omega)
  have hm : j % 3 = 0 ∨ j % 3 = 1 ∨ j % 3 = 2 := by omega
  rcases hm with hm | hm | hm
  · rw [show j / 3 * 3 = j by omega] at k1 h2
    rw [h2, ← k1, hu]
  · rw [show j / 3 * 3 + 1 = j by omega] at k2
    rw [show o + j / 3 * 3 + 1 = o + j by omega] at h3
    rw [h3, ← k2, hu]
  · rw [show j / 3 * 3 + 2 = j by omega] at k3
    rw [show o + j / 3 * 3 + 2 = o + j by omega] at h4
    rw [h4, ← k3, hu]
theorem ValsAt.of_cells {w : World} {b o : Nat} {l : List V} (hb : b < w.heap.size) (h : ∀ j u, (valCells l)[j]? = some u → w.cell? ⟨b, o + j, none⟩ = some u) : ValsAt w (some ⟨b, o, none⟩) l := fun i hi => by
  obtain ⟨k1, k2, k3⟩ := valCells_at l i hi
  exact ⟨b, o, rfl, hb, h _ _ k1, by have := h _ _ k2; rwa [← Nat.add_assoc] at this, by have := h _ _ k3; rwa [← Nat.add_assoc] at this⟩
def RowV (w : World) (base : Nat) (v : Value) (l : List V) : Prop := w.ownsRow base 23 3 v l.length (valCells l)
theorem RowV.new (w : World) : RowV (w.alloc (.cells #[] 23)) w.heap.size (.slice (some ⟨w.heap.size, 0, none⟩) 0 0) [] :=
  ⟨rfl, .inr ⟨w.heap.size, 0, #[], rfl, Nat.le_refl _, heap_alloc_new w _, Nat.le_refl _, Nat.zero_le _, rfl, rfl⟩⟩
theorem RowV.of_heap {w w' : World} {base : Nat} {v : Value} {l : List V} (h : RowV w base v l) (hv : ∀ k, v.ownBlock = some k → w'.heap[k]? = w.heap[k]?) : RowV w' base v l := ownsRow_of_heap h hv
theorem RowV.block {w : World} {base : Nat} {v : Value} {l : List V} (h : RowV w base v l) : ∀ k, v.ownBlock = some k → base ≤ k ∧ k < w.heap.size := fun k e => by
  obtain ⟨cur, hc⟩ := row_kind h e
  exact ⟨own_ge h e, (Array.getElem?_eq_some_iff.1 hc).1⟩
theorem RowV.below {w w' : World} {base : Nat} {v : Value} {l : List V} (h : RowV w base v l) (hb : Below w.heap.size w w') : RowV w' base v l := h.of_heap fun k e => hb.block k (h.block k e).2
theorem RowV.shape {w : World} {base : Nat} {v : Value} {l : List V} (h : RowV w base v l) : ∃ A c, v = .slice A l.length c ∧ l.length ≤ c ∧ c ≤ maxLen ∧ ValsAt w A l := by
  rcases h.2 with ⟨rfl, h0⟩ | ⟨g, cap, cur, rfl, hb, hh, hn, hm, hs, ht⟩
  · have : l = [] := List.eq_nil_of_length_eq_zero h0
    subst this
    exact ⟨none, 0, rfl, Nat.le_refl _, Nat.zero_le _, ValsAt.nil _ _⟩
  · refine ⟨_, cap, rfl, hn, hm, ValsAt.of_cells (Array.getElem?_eq_some_iff.1 hh).1 fun j u hu => ?_⟩
    have hj : j < l.length * 3 := by rw [← valCells_len]; exact (List.getElem?_eq_some_iff.1 hu).1
    rw [Nat.zero_add, cell_of_row w g j cur 23 (0, 0) hh, ← hu, ← ht, List.getElem?_take, if_pos (by omega)]
    simp
theorem infoValue : (Tryz.prog.info? 23).map (fun i => (i.zero.map (fun z => z.cells.size), i.size, decide (i.bytes ≤ 1000))) = some (some 3, 3, true) := by kernel_rfl
/-- values are appended. -/
theorem append_vals {w : World} {base : Nat} {v : Value} {l m : List V} (h : RowV w base v l) {A : Option Addr} {c : Nat} (hm : ValsAt w A m) (hn : l.length + m.length ≤ 1000000) (hbase : base ≤ w.heap.size) :
    ∃ v' w', Sem.run Tryz.prog (Builtin.append_ #[28, 28] 28 #[v, .slice A m.length c]) w = .ok v' w' ∧ RowV w' base v' (l ++ m) ∧ Touch v.ownBlock.toList w w' ∧ (v'.ownBlock = v.ownBlock ∨ v'.ownBlock = some w.heap.size) := by
  have hinf := infoValue
  cases hi : Tryz.prog.info? 23 with
  | none => rw [hi] at hinf; simp at hinf
  | some i =>
    rw [hi] at hinf
    simp at hinf
    obtain ⟨⟨z, hz, i1⟩, i2, i3⟩ := hinf
    have hb : ∀ (a b : Nat), a ≤ 1000001 → b ≤ 1000 → a * b ≤ 140737488355328 := fun a b h1 h2 => Nat.le_trans (Nat.mul_le_mul h1 h2) (by omega)
    cases A with
    | none =>
      have hm0 : m = [] := by
        cases m with
        | nil => rfl
        | cons x r => obtain ⟨b, o, e, _⟩ := hm 0 (by simp); cases e
      subst hm0
      refine ⟨v, w, ?_, by simpa using h, Touch.refl _ _, .inl rfl⟩
      rcases h.2 with ⟨rfl, _⟩ | ⟨g, cap, cur, rfl, _, _, hnc, _⟩
      · simp [Builtin.append_, run_underlying Tryz.underlying28, sizeOf, typeInfo, hi, Builtin.lenOf, Builtin.firstCells]
      · simp [Builtin.append_, run_underlying Tryz.underlying28, sizeOf, typeInfo, hi, Builtin.lenOf, Builtin.firstCells, hnc, storeCells]
    | some a =>
      have key : ∀ j u, (valCells m)[j]? = some u → w.cell? (a.add j) = some u := fun j u hu => by
        have hj : j < m.length * 3 := by rw [← valCells_len]; exact (List.getElem?_eq_some_iff.1 hu).1
        obtain ⟨b, o, e, _⟩ := hm 0 (by omega)
        cases e
        rw [Addr.add_lit]
        exact hm.cells j u hu
      obtain ⟨v', w', hr, ho, hg, _, hb'⟩ := run_append_own_at (P := Tryz.prog) w base 28 28 23 i z 3 i.bytes Tryz.underlying28 hi hz i2 rfl i1 (by omega) v l.length (valCells l) h a m.length c (valCells m) (valCells_len m) key (valCells_one m) (by simp only [maxLen]; omega) (hb _ _ (by omega) i3) hbase
      exact ⟨v', w', hr, by unfold RowV; rw [List.length_append, valCells_append]; exact ho, Touch.of_grown hg, hb'⟩
end Go.Proofs.YteghhmomhlnccaaGreatDoor
