import Derived.Test.YthcfdggdippocaaGreatDoorGQD
import Derived.Test.YthcfdggdippocaaGreatDoorGQC

/- A tree's print is read by lex as its words: plain. -/
namespace Go.Proofs.YthcfdggdippocaaGreatDoor
set_option linter.unusedVariables false
open Ex (Tree)
open Go.Lib
namespace Ps
abbrev bares (A : List Lx.Tk) : List W2 := A.map Lx.Tk.bare
theorem par_lex {x : Tree} (IH : ∀ z p, OkZ z → ∃ A, bares A = ws x ∧ Lexes (pr x) z p A) (n : Nat) : ∀ z p, OkZ z → ∃ A, bares A = parW n (slev x, ws x) ∧ Lexes (par n (slev x, pr x)) z p A := fun z p hz => by
  unfold par parW
  by_cases h : n ≤ slev x
  · rw [if_pos h, if_pos h]; exact IH z p hz
  · rw [if_neg h, if_neg h]
    obtain ⟨A, e, hA⟩ := IH ([41] ++ z) (p + 1) (okZ_41 z)
    have h1 := mark1 40 ((pr x ++ [41]) ++ z) p (.inl rfl)
    have h2 := mark1 41 z (p + 1 + (pr x).length) (.inr (.inl rfl))
    have h3 := hA.append h2
    refine ⟨_, ?_, Lexes.append (a := [40]) h1 h3⟩
    simp [bares, Lx.Tk.bare] at e ⊢
    rw [e]
theorem commas_lex : ∀ (ks : List Tree), (∀ x ∈ ks, ∀ z p, OkZ z → ∃ A, bares A = ws x ∧ Lexes (pr x) z p A) → ∀ z p, OkZ z → ∃ A, bares A = commasW (wss ks) ∧ Lexes (commas (prs ks)) z p A
  | [], IH, z, p, hz => ⟨[], by simp [wss, commasW, bares], by simpa [prs, commas] using Lexes.nil z p⟩
  | [x], IH, z, p, hz => by simpa [prs, commas, wss, commasW] using IH x (by simp) z p hz
  | x :: y :: l, IH, z, p, hz => by
    obtain ⟨A, e1, hA⟩ := IH x (by simp) (44 :: 32 :: (commas (prs (y :: l)) ++ z)) p (okZ_44 _)
    obtain ⟨B, e2, hB⟩ := commas_lex (y :: l) (fun u hu => IH u (by simp [hu])) z (p + (pr x).length + 1 + 1) hz
    have h1 := mark1 44 (32 :: (commas (prs (y :: l)) ++ z)) (p + (pr x).length) (.inr (.inr (.inl rfl)))
    have h2 := Lexes.blank (commas (prs (y :: l)) ++ z) (p + (pr x).length + 1)
    have h3 : Lexes ([32] ++ commas (prs (y :: l))) z (p + (pr x).length + 1) ([] ++ B) := h2.append hB
    have h4 : Lexes ([44] ++ ([32] ++ commas (prs (y :: l)))) z (p + (pr x).length) _ := Lexes.append (a := [44]) (by simpa using h1) h3
    have h5 := Lexes.append (a := pr x) (by simpa using hA) h4
    refine ⟨_, ?_, by simpa [prs, commas] using h5⟩
    simp [wss, commasW, bares, Lx.Tk.bare] at e1 e2 ⊢
    rw [e1, e2]
theorem val_lex {k n : Int} {s : List UInt8} (hb : valB k n (tx s) = true) (hn : Fits n) (z : List UInt8) (p : Nat) (hz : OkZ z) : ∃ A, bares A = [vw k n s] ∧ Lexes (vpr k n s) z p A := by
  have hp : plainB k n (tx s) = true ∧ (k = 1 → 0 ≤ n) := by
    simp only [valB, Bool.and_eq_true, Bool.or_eq_true] at hb
    refine ⟨hb.1, fun e => ?_⟩
    subst e
    simpa using hb.2
  have e : (tx s).size = s.length := by simp [ByteArray.size]
  rcases plainB_iff.1 hp.1 with ⟨rfl, rfl, h⟩ | ⟨rfl, h⟩ | ⟨rfl, rfl, h⟩ | ⟨rfl, h, h4, h5⟩
  · exact ⟨[⟨2, nullL, p⟩], by simp [vw, bares, Lx.Tk.bare], by simpa [vpr] using resLx (t := nullL) p hz rfl (by decide) (by decide) (by decide)⟩
  · exact ⟨[⟨3, itoa n, p⟩], by simp [vw, bares, Lx.Tk.bare], by simpa [vpr] using intLx p hz (hp.2 rfl) hn⟩
  · exact ⟨[⟨4, s, p⟩], by simp [vw, bares, Lx.Tk.bare], by simpa [vpr] using quoLx p hz (by omega)⟩
  · by_cases h1 : n = 1
    · subst h1
      exact ⟨[⟨2, trueL, p⟩], by simp [vw, bares, Lx.Tk.bare], by simpa [vpr] using resLx (t := trueL) p hz rfl (by decide) (by decide) (by decide)⟩
    · exact ⟨[⟨2, falseL, p⟩], by simp [vw, bares, Lx.Tk.bare, h1], by simpa [vpr, h1] using resLx (t := falseL) p hz rfl (by decide) (by decide) (by decide)⟩
theorem pr_lex : ∀ (k : Nat) (T : Tree), Ex.count T ≤ k → Ex.ones nodeB T = true → rngT T = true → ∀ z p, OkZ z → ∃ A, bares A = ws T ∧ Lexes (pr T) z p A
  | 0, T, h, _, _ => by have := Ex.count_pos T; omega
  | k + 1, .node op t vk vn vs ks, h, h1, h2 => fun z p hz => by
    obtain ⟨g1, g2⟩ := node_cases h1
    have hr : rngN op t vk vn vs ks.length = true ∧ Ex.oness rngN ks = true := by
      have := h2
      rw [rngT, Ex.ones, Bool.and_eq_true] at this
      exact this
    have hf : Fits vn := by have := hr.1; simpa [rngN, Fits] using this
    rw [Ex.count] at h
    have IH : ∀ x ∈ ks, ∀ z p, OkZ z → ∃ A, bares A = ws x ∧ Lexes (pr x) z p A := fun x hx => pr_lex k x (by have := counts_mem hx; omega) (oness_mem g1 hx) (oness_mem hr.2 hx)
    rcases g2 with ⟨rfl, rfl, e1, rfl⟩ | ⟨rfl, e1, rfl, rfl, rfl, rfl⟩ | ⟨e0, rfl, rfl, rfl, rfl, x, rfl⟩ | ⟨rfl, e1, rfl, rfl, rfl, x, y, rfl⟩ | ⟨rfl, e1, rfl, rfl, rfl⟩
    · rw [show pr (.node 1 [] vk vn vs []) = vpr vk vn vs by simp [pr, prN], show ws (.node 1 [] vk vn vs []) = [vw vk vn vs] by simp [ws, wsN]]
      exact val_lex e1 hf z p hz
    · rw [show pr (.node 2 t 0 0 [] []) = t by simp [pr, prN], show ws (.node 2 t 0 0 [] []) = [(1, t)] by simp [ws, wsN]]
      exact ⟨_, rfl, nameLx p hz e1⟩
    · rcases e0 with rfl | rfl
      · rw [show pr (.node 3 [] 0 0 [] [x]) = [45] ++ par 6 (slev x, pr x) by simp [pr, prs, prN], show ws (.node 3 [] 0 0 [] [x]) = (5, [45]) :: parW 6 (slev x, ws x) by simp [ws, wss, wsN]]
        obtain ⟨A, e, hA⟩ := par_lex (IH x (by simp)) 6 z (p + 1) hz
        refine ⟨_, ?_, Lexes.append (mark1 45 (par 6 (slev x, pr x) ++ z) p (.inr (.inr (.inr rfl)))) hA⟩
        simp [bares, Lx.Tk.bare] at e ⊢
        rw [e]
      · rw [show pr (.node 4 [] 0 0 [] [x]) = notL ++ ([32] ++ par 2 (slev x, pr x)) by simp [pr, prs, prN], show ws (.node 4 [] 0 0 [] [x]) = (2, notL) :: parW 2 (slev x, ws x) by simp [ws, wss, wsN]]
        obtain ⟨A, e, hA⟩ := par_lex (IH x (by simp)) 2 z (p + 3 + 1) hz
        have h1 := resLx (t := notL) (z := [32] ++ par 2 (slev x, pr x) ++ z) p (okZ_32 _) rfl (by decide) (by decide) (by decide)
        have h2 : Lexes ([32] ++ par 2 (slev x, pr x)) z (p + 3) ([] ++ A) := (Lexes.blank _ _).append hA
        refine ⟨_, ?_, h1.append h2⟩
        simp [bares, Lx.Tk.bare] at e ⊢
        rw [e]
    · rw [show pr (.node 5 t 0 0 [] [x, y]) = par (fl (mlev t)) (slev x, pr x) ++ ([32] ++ (t ++ ([32] ++ par (mlev t + 1) (slev y, pr y)))) by simp [pr, prs, prN], show ws (.node 5 t 0 0 [] [x, y]) = parW (fl (mlev t)) (slev x, ws x) ++ markW t :: parW (mlev t + 1) (slev y, ws y) by simp [ws, wss, wsN]]
      obtain ⟨A, ea, hA⟩ := par_lex (IH x (by simp)) (fl (mlev t)) (([32] ++ (t ++ ([32] ++ par (mlev t + 1) (slev y, pr y)))) ++ z) p (okZ_32 _)
      obtain ⟨B, eb, hB⟩ := par_lex (IH y (by simp)) (mlev t + 1) z (p + (par (fl (mlev t)) (slev x, pr x)).length + 1 + t.length + 1) hz
      have h4 : Lexes ([32] ++ par (mlev t + 1) (slev y, pr y)) z (p + (par (fl (mlev t)) (slev x, pr x)).length + 1 + t.length) ([] ++ B) := (Lexes.blank _ _).append hB
      have h3 := Lexes.append (a := t) (b := [32] ++ par (mlev t + 1) (slev y, pr y)) (z := z) (p := p + (par (fl (mlev t)) (slev x, pr x)).length + 1) (by simpa using markLx (par (mlev t + 1) (slev y, pr y) ++ z) _ e1) h4
      have h2 : Lexes ([32] ++ (t ++ ([32] ++ par (mlev t + 1) (slev y, pr y)))) z (p + (par (fl (mlev t)) (slev x, pr x)).length) ([] ++ _) := (Lexes.blank _ _).append h3
      refine ⟨_, ?_, hA.append h2⟩
      simp [bares, Lx.Tk.bare] at ea eb ⊢
      rw [ea, eb]
      simp [markW]
    · have hnm := fn_name t (by omega)
      rw [show pr (.node 6 t 0 0 [] ks) = t ++ ([40] ++ (commas (prs ks) ++ [41])) by simp [pr, prN], show ws (.node 6 t 0 0 [] ks) = (1, t) :: (5, [40]) :: (commasW (wss ks) ++ [(5, [41])]) by simp [ws, wsN]]
      obtain ⟨A, ea, hA⟩ := commas_lex ks IH ([41] ++ z) (p + t.length + 1) (okZ_41 _)
      have h4 := hA.append (mark1 41 z (p + t.length + 1 + (commas (prs ks)).length) (.inr (.inl rfl)))
      have h3 : Lexes ([40] ++ (commas (prs ks) ++ [41])) z (p + t.length) _ := Lexes.append (a := [40]) (mark1 40 ((commas (prs ks) ++ [41]) ++ z) (p + t.length) (.inl rfl)) h4
      have h2 := (nameLx (z := [40] ++ (commas (prs ks) ++ [41]) ++ z) p (okZ_40 _) hnm).append h3
      refine ⟨_, ?_, h2⟩
      simp [bares, Lx.Tk.bare] at ea ⊢
      rw [ea]
theorem pr_lx {T : Tree} (h1 : Ex.ones nodeB T = true) (h2 : rngT T = true) (hl : (pr T).length ≤ 4000) : ∃ A, bares A = ws T ∧ Lx.lx (pr T) = .ok (A ++ [⟨0, [], (pr T).length⟩]) := by
  obtain ⟨A, e, hA⟩ := pr_lex _ T (Nat.le_refl _) h1 h2 [] 0 okZ_nil
  refine ⟨A, e, ?_⟩
  have := hA ((pr T).length + 1) 1 (by simp) (by simp)
  unfold Lx.lx
  rw [if_neg (by omega)]
  rw [List.append_nil] at this
  rw [this, Lx.lex_nil, puts_ok, Nat.zero_add]
end Ps
end Go.Proofs.YthcfdggdippocaaGreatDoor

/- The parser as a plain function: a tree's words are read as the tree. Plain. -/
namespace Go.Proofs.YthcfdggdippocaaGreatDoor
set_option linter.unusedVariables false
open Ex (Tree)
open Go.Lib
namespace Ps
/-! how many brackets (and not, and minus, and calls) are open at most -/
def np (n : Nat) (p : Nat × Nat) : Nat := if n ≤ p.1 then p.2 else p.2 + 1
def maxl : List (Nat × Nat) → Nat
  | [] => 0
  | x :: l => max x.2 (maxl l)
abbrev zn : Nat × Nat := (7, 0)
def ndN (op : Int) (t : List UInt8) (kl : List (Nat × Nat)) : Nat :=
  if op = 3 then np 6 (kl.headD zn) + 1 else if op = 4 then np 2 (kl.headD zn) + 1 else if op = 5 then max (np (fl (mlev t)) (kl.headD zn)) (np (mlev t + 1) (kl.tail.headD zn)) else if op = 6 then maxl kl + 1 else 0
mutual
def need : Tree → Nat
  | .node op t _ _ _ ks => ndN op t (nds ks)
def nds : List Tree → List (Nat × Nat)
  | [] => []
  | x :: l => (slev x, need x) :: nds l
end
def Ru.rk : Ru → Nat
  | .or => 0 | .and => 1 | .not => 2 | .cmp => 3 | .sum => 4 | .prod => 5 | .neg => 6 | .single => 7
theorem rk_inj {u v : Ru} (h : u.rk = v.rk) : u = v := by cases u <;> cases v <;> first | rfl | cases h
theorem rk_le (u : Ru) : u.rk ≤ 7 := by cases u <;> decide
theorem rk_below {u : Ru} (h : u ≠ .single) : u.below.rk = u.rk + 1 := by cases u <;> first | rfl | exact absurd rfl h
theorem left_not {u : Ru} (h : u.isLeft = true) : u ≠ .single := by rintro rfl; cases h
theorem mlev_of {u : Ru} (hu : u.isLeft = true) {s : List UInt8} (h : Ex.lev s = u.of) : mlev s = u.rk := by
  cases u <;> first | exact absurd hu (by decide) | simp [mlev, h, Ru.of, Ru.rk]
theorem mark_lev {t : List UInt8} (h : Ex.lev t ≠ 0) : (Ex.lev t = 3 ∧ mlev t = 3) ∨ ∃ u : Ru, u.isLeft = true ∧ Ex.lev t = u.of ∧ mlev t = u.rk := by
  have hm := marks t h
  simp only [List.mem_cons, List.not_mem_nil, or_false] at hm
  rcases hm with rfl | rfl | rfl | rfl | rfl | rfl | rfl | rfl | rfl | rfl | rfl | rfl | rfl | rfl
  · exact .inr ⟨.or, rfl, by decide, by decide⟩
  · exact .inr ⟨.and, rfl, by decide, by decide⟩
  · exact .inl (by decide)
  · exact .inl (by decide)
  · exact .inl (by decide)
  · exact .inl (by decide)
  · exact .inl (by decide)
  · exact .inl (by decide)
  · exact .inr ⟨.sum, rfl, by decide, by decide⟩
  · exact .inr ⟨.sum, rfl, by decide, by decide⟩
  · exact .inr ⟨.sum, rfl, by decide, by decide⟩
  · exact .inr ⟨.prod, rfl, by decide, by decide⟩
  · exact .inr ⟨.prod, rfl, by decide, by decide⟩
  · exact .inr ⟨.prod, rfl, by decide, by decide⟩
theorem mark_ne {t : List UInt8} (h : Ex.lev t ≠ 0) : t ≠ [40] := by rintro rfl; exact h (by decide)
/-! words that stand somewhere -/
def Has (L : List Lx.Tk) : Nat → List W2 → Prop
  | _, [] => True
  | i, w :: W => (tk L i).bare = w ∧ Has L (i + 1) W
theorem has_append {L : List Lx.Tk} : ∀ (A B : List W2) (i : Nat), Has L i (A ++ B) ↔ Has L i A ∧ Has L (i + A.length) B
  | [], B, i => by simp [Has]
  | a :: A, B, i => by
    rw [List.cons_append, Has, Has, has_append A B (i + 1), List.length_cons, show i + 1 + A.length = i + (A.length + 1) by omega, and_assoc]
theorem sgn_bare {t : Lx.Tk} {k : Nat} {s : List UInt8} (h : t.bare = (k, s)) : sgn t = if k = 5 ∨ k = 2 then s else [] := by
  cases t; cases h; rfl
theorem kind_bare {t : Lx.Tk} {k : Nat} {s : List UInt8} (h : t.bare = (k, s)) : t.kind = k := by cases t; cases h; rfl
theorem text_bare {t : Lx.Tk} {k : Nat} {s : List UInt8} (h : t.bare = (k, s)) : t.text = s := by cases t; cases h; rfl
theorem sgn_mark {t : Lx.Tk} {s : List UInt8} (h : t.bare = markW s) : sgn t = s := by
  unfold markW at h
  by_cases hm : mlev s ≤ 1
  · rw [if_pos hm] at h; rw [sgn_bare h]; rfl
  · rw [if_neg hm] at h; rw [sgn_bare h]; rfl
/-- what stands behind does not go on. -/
structure J (L : List Lx.Tk) (n j : Nat) : Prop where
  lev : Ex.lev (sgn (tk L j)) = 0 ∨ mlev (sgn (tk L j)) < n
  ne : sgn (tk L j) ≠ [40]
theorem J.mono {L : List Lx.Tk} {n m j : Nat} (h : J L n j) (hm : n ≤ m) : J L m j := ⟨h.lev.imp id fun h => by omega, h.ne⟩
theorem J.left {L : List Lx.Tk} {u : Ru} {j : Nat} (h : J L u.rk j) (hu : u.isLeft = true) : Ex.lev (sgn (tk L j)) ≠ u.of := fun e => by
  rcases h.lev with h1 | h1
  · exact of_ne u (by rw [← e, h1])
  · rw [mlev_of hu e] at h1; omega
theorem J.cmp {L : List Lx.Tk} {j : Nat} (h : J L 3 j) : Ex.lev (sgn (tk L j)) ≠ 3 := fun e => by
  rcases h.lev with h1 | h1
  · omega
  · have : mlev (sgn (tk L j)) = 3 := by simp [mlev, e]
    omega
theorem J.of41 {L : List Lx.Tk} {n j : Nat} (h : sgn (tk L j) = [41]) : J L n j := ⟨.inl (by rw [h]; decide), by rw [h]; decide⟩
theorem J.of44 {L : List Lx.Tk} {n j : Nat} (h : sgn (tk L j) = [44]) : J L n j := ⟨.inl (by rw [h]; decide), by rw [h]; decide⟩
/-! what is read -/
def Rd (M : Nat) (L : List Lx.Tk) (d : Nat) (q : Q) (i : Nat) (T : Tree) (j k : Nat) : Prop := ∀ f r, rd M L f d q i = some r → r = .ok T j ∨ ((∃ a, r = .bad 18 a) ∧ M < d + k)
def LRd (M : Nat) (L : List Lx.Tk) (d : Nat) (u : Ru) (i : Nat) (T : Tree) (j k : Nat) : Prop := ∀ f r, rd M L f d (.rule u) i = some r → (∃ f', rd M L f' d (.left u T) j = some r) ∨ ((∃ a, r = .bad 18 a) ∧ M < d + k)
section
variable {M : Nat} {L : List Lx.Tk} {d i j k : Nat} {T : Tree}
theorem Rd.mono {q : Q} (h : Rd M L d q i T j k) {k' : Nat} (hk : k ≤ k') : Rd M L d q i T j k' := fun f r hr => (h f r hr).imp id fun h => ⟨h.1, by omega⟩
theorem LRd.mono {u : Ru} (h : LRd M L d u i T j k) {k' : Nat} (hk : k ≤ k') : LRd M L d u i T j k' := fun f r hr => (h f r hr).imp id fun h => ⟨h.1, by omega⟩
theorem LRd.of_below {u : Ru} (hu : u.isLeft = true) (h : Rd M L d (.rule u.below) i T j k) : LRd M L d u i T j k := fun f r hr => by
  cases f with
  | zero => cases hr
  | succ f =>
  rw [rd_left_rule hu] at hr
  rcases bindR_some hr with ⟨T', j', h1, h2⟩ | ⟨c, a, h1, rfl⟩
  · rcases h _ _ h1 with e | ⟨⟨a, e⟩, -⟩
    · cases e; exact .inl ⟨f, h2⟩
    · cases e
  · rcases h _ _ h1 with e | e
    · cases e
    · exact .inr e
theorem LRd.rd {u : Ru} (hu : u.isLeft = true) (h : LRd M L d u i T j k) (hJ : J L u.rk j) : Rd M L d (.rule u) i T j k := fun f r hr => by
  rcases h f r hr with ⟨f', h1⟩ | h1
  · cases f' with
    | zero => cases h1
    | succ f' => rw [rd_left, if_neg (hJ.left hu)] at h1; cases h1; exact .inl rfl
  · exact .inr h1
theorem LRd.bin {u : Ru} {X Y : Tree} {m : Nat} (h : LRd M L d u i X m k) (hm : Ex.lev (sgn (tk L m)) = u.of) (h2 : Rd M L d (.rule u.below) (m + 1) Y j k) : LRd M L d u i (binT (tk L m).text X Y) j k := fun f r hr => by
  rcases h f r hr with ⟨f', h1⟩ | h1
  · cases f' with
    | zero => cases h1
    | succ f' =>
    rw [rd_left, if_pos hm] at h1
    rcases bindR_some h1 with ⟨Y', j', h3, h4⟩ | ⟨c, a, h3, rfl⟩
    · rcases h2 _ _ h3 with e | ⟨⟨a, e⟩, -⟩
      · cases e; exact .inl ⟨f', h4⟩
      · cases e
    · rcases h2 _ _ h3 with e | e
      · cases e
      · exact .inr e
  · exact .inr h1
theorem Rd.cmp {X Y : Tree} {m : Nat} (h : Rd M L d (.rule .sum) i X m k) (hm : Ex.lev (sgn (tk L m)) = 3) (h2 : Rd M L d (.rule .sum) (m + 1) Y j k) : Rd M L d (.rule .cmp) i (binT (tk L m).text X Y) j k := fun f r hr => by
  cases f with
  | zero => cases hr
  | succ f =>
  rw [rd_cmp] at hr
  rcases bindR_some hr with ⟨T', j', h1, h3⟩ | ⟨c, a, h1, rfl⟩
  · rcases h _ _ h1 with e | ⟨⟨a, e⟩, -⟩
    · cases e
      rw [if_pos hm] at h3
      rcases bindR_some h3 with ⟨Y', j', h4, h5⟩ | ⟨c, a, h4, rfl⟩
      · rcases h2 _ _ h4 with e | ⟨⟨a, e⟩, -⟩
        · cases e; cases h5; exact .inl rfl
        · cases e
      · rcases h2 _ _ h4 with e | e
        · cases e
        · exact .inr e
    · cases e
  · rcases h _ _ h1 with e | e
    · cases e
    · exact .inr e
theorem Rd.one {u : Ru} (hu : u ≠ .single) (h : Rd M L d (.rule u.below) i T j k) (hJ : J L u.rk j) (hn : u = .not → sgn (tk L i) ≠ notL) (hm : u = .neg → sgn (tk L i) ≠ [45]) : Rd M L d (.rule u) i T j k := by
  by_cases hl : u.isLeft = true
  · exact (LRd.of_below hl h).rd hl hJ
  · intro f r hr
    cases f with
    | zero => cases hr
    | succ f =>
    cases u with
    | not => rw [rd_not, if_neg (hn rfl)] at hr; exact h _ _ hr
    | neg => rw [rd_neg, if_neg (hm rfl)] at hr; exact h _ _ hr
    | cmp =>
      rw [rd_cmp] at hr
      rcases bindR_some hr with ⟨T', j', h1, h3⟩ | ⟨c, a, h1, rfl⟩
      · rcases h _ _ h1 with e | ⟨⟨a, e⟩, -⟩
        · cases e
          rw [if_neg hJ.cmp] at h3
          cases h3; exact .inl rfl
        · cases e
      · rcases h _ _ h1 with e | e
        · cases e
        · exact .inr e
    | single => exact absurd rfl hu
    | or => exact absurd rfl hl
    | and => exact absurd rfl hl
    | sum => exact absurd rfl hl
    | prod => exact absurd rfl hl
theorem lift {v : Ru} (h : Rd M L d (.rule v) i T j k) : ∀ (n : Nat) (u : Ru), u.rk + n = v.rk → J L u.rk j → (2 < v.rk → sgn (tk L i) ≠ notL) → (6 < v.rk → sgn (tk L i) ≠ [45]) → Rd M L d (.rule u) i T j k
  | 0, u, hn, hJ, h1, h2 => by rw [show u = v from rk_inj (by omega)]; exact h
  | n + 1, u, hn, hJ, h1, h2 => by
    have hv := rk_le v
    have hu : u ≠ .single := by rintro rfl; rw [show Ru.single.rk = 7 from rfl] at hn; omega
    have hb := rk_below hu
    refine (lift h n u.below (by omega) (hJ.mono (by omega)) h1 h2).one hu hJ ?_ ?_
    · rintro rfl; exact h1 (by rw [show Ru.not.rk = 2 from rfl] at hn; omega)
    · rintro rfl; exact h2 (by rw [show Ru.neg.rk = 6 from rfl] at hn; omega)
theorem bracket (h1 : sgn (tk L i) = [40]) (h : Rd M L (d + 1) (.rule .or) (i + 1) T j k) (h2 : sgn (tk L j) = [41]) : Rd M L d (.rule .single) i T (j + 1) (k + 1) := fun f r hr => by
  cases f with
  | zero => cases hr
  | succ f =>
  rw [rd_single, if_pos h1] at hr
  split at hr
  · cases hr; exact .inr ⟨⟨_, rfl⟩, by omega⟩
  · rcases bindR_some hr with ⟨T', j', h3, h4⟩ | ⟨c, a, h3, rfl⟩
    · rcases h _ _ h3 with e | ⟨⟨a, e⟩, -⟩
      · cases e
        rw [if_pos h2] at h4
        cases h4; exact .inl rfl
      · cases e
    · rcases h _ _ h3 with e | ⟨e, hM⟩
      · cases e
      · exact .inr ⟨e, by omega⟩
theorem not_rd (h1 : sgn (tk L i) = notL) (h : Rd M L (d + 1) (.rule .not) (i + 1) T j k) : Rd M L d (.rule .not) i (.node 4 [] 0 0 [] [T]) j (k + 1) := fun f r hr => by
  cases f with
  | zero => cases hr
  | succ f =>
  rw [rd_not, if_pos h1] at hr
  split at hr
  · cases hr; exact .inr ⟨⟨_, rfl⟩, by omega⟩
  · rcases bindR_some hr with ⟨T', j', h3, h4⟩ | ⟨c, a, h3, rfl⟩
    · rcases h _ _ h3 with e | ⟨⟨a, e⟩, -⟩
      · cases e; cases h4; exact .inl rfl
      · cases e
    · rcases h _ _ h3 with e | ⟨e, hM⟩
      · cases e
      · exact .inr ⟨e, by omega⟩
theorem neg_rd (h1 : sgn (tk L i) = [45]) (h : Rd M L (d + 1) (.rule .neg) (i + 1) T j k) : Rd M L d (.rule .neg) i (.node 3 [] 0 0 [] [T]) j (k + 1) := fun f r hr => by
  cases f with
  | zero => cases hr
  | succ f =>
  rw [rd_neg, if_pos h1] at hr
  split at hr
  · cases hr; exact .inr ⟨⟨_, rfl⟩, by omega⟩
  · rcases bindR_some hr with ⟨T', j', h3, h4⟩ | ⟨c, a, h3, rfl⟩
    · rcases h _ _ h3 with e | ⟨⟨a, e⟩, -⟩
      · cases e; cases h4; exact .inl rfl
      · cases e
    · rcases h _ _ h3 with e | ⟨e, hM⟩
      · cases e
      · exact .inr ⟨e, by omega⟩
theorem leaf_rd (h1 : sgn (tk L i) ≠ [40]) (h2 : ¬ ((tk L i).kind = 1 ∧ sgn (tk L (i + 1)) = [40])) (h3 : leafT (tk L i) = T) (h4 : Ex.rightB nodeB T = true) : Rd M L d (.rule .single) i T (i + 1) k := fun f r hr => by
  cases f with
  | zero => cases hr
  | succ f =>
  rw [rd_single, if_neg h1, if_neg h2, h3, if_pos h4] at hr
  cases hr; exact .inl rfl
theorem call_rd {t : List UInt8} {ks : List Tree} (h0 : sgn (tk L i) ≠ [40]) (h1 : (tk L i).kind = 1) (ht : (tk L i).text = t) (h2 : sgn (tk L (i + 1)) = [40]) (ha : (ks.length : Int) = Ex.arity t) (h : Rd M L (d + 1) (.list []) (i + 2) (.node 0 [] 0 0 [] ks) j k) : Rd M L d (.rule .single) i (.node 6 t 0 0 [] ks) j (k + 1) := fun f r hr => by
  cases f with
  | zero => cases hr
  | succ f =>
  rw [rd_single, if_neg h0, if_pos ⟨h1, h2⟩, ht, if_neg (by omega)] at hr
  split at hr
  · cases hr; exact .inr ⟨⟨_, rfl⟩, by omega⟩
  · rcases bindR_some hr with ⟨T', j', h3, h4⟩ | ⟨c, a, h3, rfl⟩
    · rcases h _ _ h3 with e | ⟨⟨a, e⟩, -⟩
      · cases e
        rw [show (Tree.node 0 [] 0 0 [] ks).kids = ks from rfl, if_pos ha] at h4
        cases h4; exact .inl rfl
      · cases e
    · rcases h _ _ h3 with e | ⟨e, hM⟩
      · cases e
      · exact .inr ⟨e, by omega⟩
end
/-- a tree's words are read as the tree. -/
structure Rs (M : Nat) (L : List Lx.Tk) (T : Tree) : Prop where
  S : ∀ d i (u : Ru), u.rk ≤ slev T → Has L i (ws T) → J L u.rk (i + (ws T).length) → Rd M L d (.rule u) i T (i + (ws T).length) (need T)
  LS : ∀ d i (u : Ru), u.isLeft = true → u.rk ≤ slev T → Has L i (ws T) → J L (u.rk + 1) (i + (ws T).length) → LRd M L d u i T (i + (ws T).length) (need T)
section
variable {M : Nat} {L : List Lx.Tk} {T : Tree}
theorem Rs.of (v : Ru) (hv : v.rk = slev T) (hS : ∀ d i, Has L i (ws T) → J L v.rk (i + (ws T).length) → Rd M L d (.rule v) i T (i + (ws T).length) (need T))
    (hL : v.isLeft = true → ∀ d i, Has L i (ws T) → J L (v.rk + 1) (i + (ws T).length) → LRd M L d v i T (i + (ws T).length) (need T))
    (hf : ∀ i, Has L i (ws T) → (2 < v.rk → sgn (tk L i) ≠ notL) ∧ (6 < v.rk → sgn (tk L i) ≠ [45])) : Rs M L T := by
  have hS' : ∀ d i (u : Ru), u.rk ≤ slev T → Has L i (ws T) → J L u.rk (i + (ws T).length) → Rd M L d (.rule u) i T (i + (ws T).length) (need T) := fun d i u hu hh hJ =>
    lift (hS d i hh (hJ.mono (by omega))) (v.rk - u.rk) u (by omega) hJ (hf i hh).1 (hf i hh).2
  refine ⟨hS', fun d i u hl hu hh hJ => ?_⟩
  by_cases h : u.rk = v.rk
  · have := rk_inj h
    subst this
    exact hL hl d i hh hJ
  · have hb := rk_below (left_not hl)
    exact LRd.of_below hl (hS' d i u.below (by omega) hh (by rw [hb]; exact hJ))
theorem Rs.br (h : Rs M L T) {d i : Nat} (hh : Has L i ((5, [40]) :: (ws T ++ [(5, [41])]))) {u : Ru} (hJ : J L u.rk (i + ((5, [40]) :: (ws T ++ [(5, [41])])).length)) : Rd M L d (.rule u) i T (i + ((5, [40]) :: (ws T ++ [(5, [41])])).length) (need T + 1) := by
  obtain ⟨h1, h2⟩ := hh
  obtain ⟨h2, h3, -⟩ := (has_append _ _ _).1 h2
  have s1 : sgn (tk L i) = [40] := by rw [sgn_bare h1]; rfl
  have s3 : sgn (tk L (i + 1 + (ws T).length)) = [41] := by rw [sgn_bare h3]; rfl
  have e : i + ((5, [40]) :: (ws T ++ [(5, [41])])).length = i + 1 + (ws T).length + 1 := by simp; omega
  rw [e] at hJ ⊢
  have hv := rk_le u
  exact lift (bracket s1 (h.S (d + 1) (i + 1) .or (Nat.zero_le _) h2 (J.of41 s3)) s3) (7 - u.rk) u (by simp only [Ru.rk] at *; omega) hJ (fun _ => by rw [s1]; decide) (fun _ => by rw [s1]; decide)
theorem Rs.P (h : Rs M L T) {d i : Nat} {u : Ru} {n : Nat} (hn : n = u.rk) (hh : Has L i (parW n (slev T, ws T))) (hJ : J L n (i + (parW n (slev T, ws T)).length)) : Rd M L d (.rule u) i T (i + (parW n (slev T, ws T)).length) (np n (slev T, need T)) := by
  subst hn
  unfold parW np at *
  by_cases hl : u.rk ≤ slev T
  · simp only [if_pos hl] at *
    exact h.S d i u hl hh hJ
  · simp only [if_neg hl] at *
    exact h.br hh hJ
theorem Rs.PL (h : Rs M L T) {d i : Nat} {u : Ru} (hu : u.isLeft = true) {n : Nat} (hn : n = u.rk) (hh : Has L i (parW n (slev T, ws T))) (hJ : J L (n + 1) (i + (parW n (slev T, ws T)).length)) : LRd M L d u i T (i + (parW n (slev T, ws T)).length) (np n (slev T, need T)) := by
  subst hn
  unfold parW np at *
  by_cases hl : u.rk ≤ slev T
  · simp only [if_pos hl] at *
    exact h.LS d i u hu hl hh hJ
  · simp only [if_neg hl] at *
    exact LRd.of_below hu (h.br hh (by rw [rk_below (left_not hu)]; exact hJ))
theorem list_rd : ∀ (ks acc : List Tree) (d i : Nat), ks ≠ [] → (∀ x ∈ ks, Rs M L x) → Has L i (commasW (wss ks) ++ [(5, [41])]) → Rd M L d (.list acc) i (.node 0 [] 0 0 [] (acc ++ ks)) (i + (commasW (wss ks)).length + 1) (maxl (nds ks))
  | [], acc, d, i, h0, h, hh => absurd rfl h0
  | [x], acc, d, i, h0, h, hh => fun f r hr => by
    simp only [wss, commasW, nds, maxl] at *
    obtain ⟨h1, h2, -⟩ := (has_append _ _ _).1 hh
    have s2 : sgn (tk L (i + (ws x).length)) = [41] := by rw [sgn_bare h2]; rfl
    cases f with
    | zero => cases hr
    | succ f =>
    rw [rd_list] at hr
    have H := (h x (by simp)).S d i .or (Nat.zero_le _) h1 (J.of41 s2)
    rcases bindR_some hr with ⟨T', j', h3, h4⟩ | ⟨c, a, h3, rfl⟩
    · rcases H _ _ h3 with e | ⟨⟨a, e⟩, -⟩
      · cases e
        rw [s2, if_neg (by decide), if_pos rfl] at h4
        cases h4; exact .inl rfl
      · cases e
    · rcases H _ _ h3 with e | ⟨e, hM⟩
      · cases e
      · exact .inr ⟨e, by omega⟩
  | x :: y :: l, acc, d, i, h0, h, hh => fun f r hr => by
    have IH := list_rd (y :: l) (acc ++ [x]) d (i + (ws x).length + 1) (by simp) (fun z hz => h z (by simp [hz]))
    have e1 : commasW (wss (x :: y :: l)) = ws x ++ (5, [44]) :: commasW (wss (y :: l)) := by simp [wss, commasW]
    rw [e1] at hh ⊢
    have e2 : maxl (nds (x :: y :: l)) = max (need x) (maxl (nds (y :: l))) := by rw [nds, maxl]
    rw [e2]
    rw [List.append_assoc] at hh
    obtain ⟨h1, h2, h3⟩ := (has_append _ _ _).1 hh
    have s2 : sgn (tk L (i + (ws x).length)) = [44] := by rw [sgn_bare h2]; rfl
    have H := (h x (by simp)).S d i .or (Nat.zero_le _) h1 (J.of44 s2)
    have IH := IH h3
    rw [List.append_assoc, List.singleton_append] at IH
    have e3 : i + (ws x ++ (5, [44]) :: commasW (wss (y :: l))).length + 1 = i + (ws x).length + 1 + (commasW (wss (y :: l))).length + 1 := by simp; omega
    rw [e3]
    cases f with
    | zero => cases hr
    | succ f =>
    rw [rd_list] at hr
    rcases bindR_some hr with ⟨T', j', h5, h4⟩ | ⟨c, a, h5, rfl⟩
    · rcases H _ _ h5 with e | ⟨⟨a, e⟩, -⟩
      · cases e
        rw [if_pos s2] at h4
        rcases IH _ _ h4 with e | ⟨e, hM⟩
        · exact .inl e
        · exact .inr ⟨e, by omega⟩
      · cases e
    · rcases H _ _ h5 with e | ⟨e, hM⟩
      · cases e
      · exact .inr ⟨e, by omega⟩
theorem par_has {L : List Lx.Tk} {x : Tree} {i n : Nat} {B : List W2} (h : Has L i (parW n (slev x, ws x) ++ B)) : sgn (tk L i) = [40] ∨ (n ≤ slev x ∧ Has L i (ws x)) := by
  obtain ⟨h1, -⟩ := (has_append _ _ _).1 h
  unfold parW at h1
  by_cases hl : n ≤ slev x
  · rw [if_pos hl] at h1; exact .inr ⟨hl, h1⟩
  · rw [if_neg hl] at h1; exact .inl (by rw [sgn_bare h1.1]; rfl)
theorem first : ∀ (k : Nat) (T : Tree), Ex.count T ≤ k → Ex.ones nodeB T = true → ∀ i, Has L i (ws T) → (2 < slev T → sgn (tk L i) ≠ notL) ∧ (6 < slev T → sgn (tk L i) ≠ [45])
  | 0, T, h, _ => by have := Ex.count_pos T; omega
  | k + 1, .node op t vk vn vs ks, h, h1 => fun i hh => by
    obtain ⟨g1, g2⟩ := node_cases h1
    rw [Ex.count] at h
    rcases g2 with ⟨rfl, rfl, e1, rfl⟩ | ⟨rfl, e1, rfl, rfl, rfl, rfl⟩ | ⟨e0, rfl, rfl, rfl, rfl, x, rfl⟩ | ⟨rfl, e1, rfl, rfl, rfl, x, y, rfl⟩ | ⟨rfl, e1, rfl, rfl, rfl⟩
    · rw [show ws (.node 1 [] vk vn vs []) = [vw vk vn vs] by simp [ws, wsN]] at hh
      have hh := hh.1
      unfold vw at hh
      split at hh
      · rw [sgn_bare hh]; exact ⟨fun _ => by decide, fun _ => by decide⟩
      · split at hh
        · split at hh <;> rw [sgn_bare hh] <;> exact ⟨fun _ => by decide, fun _ => by decide⟩
        · split at hh <;> rw [sgn_bare hh] <;> simp
    · rw [show ws (.node 2 t 0 0 [] []) = [(1, t)] by simp [ws, wsN]] at hh
      rw [sgn_bare hh.1]; simp
    · rcases e0 with rfl | rfl
      · rw [show ws (.node 3 [] 0 0 [] [x]) = (5, [45]) :: parW 6 (slev x, ws x) by simp [ws, wss, wsN]] at hh
        rw [sgn_bare hh.1, show slev (.node 3 [] 0 0 [] [x]) = 6 by simp [slev]]; decide
      · rw [show slev (.node 4 [] 0 0 [] [x]) = 2 by simp [slev]]
        exact ⟨fun h => by omega, fun h => by omega⟩
    · rw [show ws (.node 5 t 0 0 [] [x, y]) = parW (fl (mlev t)) (slev x, ws x) ++ markW t :: parW (mlev t + 1) (slev y, ws y) by simp [ws, wss, wsN]] at hh
      have es : slev (.node 5 t 0 0 [] [x, y]) = mlev t := by simp [slev]
      rw [es]
      have hm : mlev t ≤ 5 := by
        rcases mark_lev e1 with ⟨-, h⟩ | ⟨u, hu, -, h⟩
        · omega
        · rw [h]; cases u <;> first | exact absurd hu (by decide) | decide
      refine ⟨fun h2 => ?_, fun h2 => by omega⟩
      rcases par_has hh with e | ⟨hl, hx⟩
      · rw [e]; decide
      · refine (first k x (by simp only [Ex.counts] at h; omega) (oness_mem g1 (by simp)) i hx).1 ?_
        unfold fl at hl
        split at hl <;> omega
    · rw [show ws (.node 6 t 0 0 [] ks) = (1, t) :: (5, [40]) :: (commasW (wss ks) ++ [(5, [41])]) by simp [ws, wsN]] at hh
      rw [sgn_bare hh.1]; simp
theorem told_itoa2 (n : Int) (h : Fits n) : told (itoa n) = ⟨1, n, [], 0⟩ := by
  obtain ⟨h1, h2⟩ := rv_itoa n h
  have hl : looks (itoa n) = true := by
    cases hq : looks (itoa n)
    · simp [re, hq] at h2
    · rfl
  generalize itoa n = l at *
  unfold told
  rw [if_neg (by rintro rfl; revert hl; decide), if_neg (by rintro rfl; revert hl; decide), if_neg (by rintro rfl; revert hl; decide), if_neg, toldInt, if_pos h2, h1]
  intro hh
  cases l with
  | nil => cases hh
  | cons c r =>
    simp only [List.head?_cons, Option.some.injEq] at hh
    subst hh
    have hm : minus (39 :: r) = false := by simp [minus]
    have hb : body (39 :: r) = 39 :: r := by simp [body, hm]
    simp only [looks, hb, Bool.and_eq_true, List.all_cons] at hl
    have : dig 39 = false := by decide
    simp [this] at hl
theorem leafT_val {k n : Int} {s : List UInt8} (hb : valB k n (tx s) = true) (hn : Fits n) {t : Lx.Tk} (h : t.bare = vw k n s) : leafT t = .node 1 [] k n s [] ∧ t.kind ≠ 1 ∧ sgn t ≠ [40] := by
  have hp : plainB k n (tx s) = true := by
    simp only [valB, Bool.and_eq_true] at hb
    exact hb.1
  have e : (tx s).size = s.length := by simp [ByteArray.size]
  have e0 : (tx s).size = 0 → s = [] := fun h => List.eq_nil_of_length_eq_zero (by omega)
  unfold leafT
  rcases plainB_iff.1 hp with ⟨rfl, rfl, h0⟩ | ⟨rfl, h0⟩ | ⟨rfl, rfl, h0⟩ | ⟨rfl, h0, h4, h5⟩
  · have h : t.bare = (2, nullL) := by simpa [vw] using h
    rw [kind_bare h, text_bare h, sgn_bare h, e0 h0, if_neg (by decide), if_neg (by decide), if_pos (by decide), show told nullL = ⟨0, 0, [], 0⟩ by unfold told; rw [if_pos rfl]]
    exact ⟨rfl, by decide, by decide⟩
  · have h : t.bare = (3, itoa n) := by simpa [vw] using h
    rw [kind_bare h, text_bare h, sgn_bare h, e0 h0, if_neg (by decide), if_neg (by decide), if_pos (by decide), told_itoa2 n hn]
    exact ⟨rfl, by decide, by simp⟩
  · have h : t.bare = (4, s) := by simpa [vw] using h
    rw [kind_bare h, text_bare h, sgn_bare h, if_neg (by decide), if_pos (by decide)]
    exact ⟨rfl, by decide, by simp⟩
  · by_cases h1 : n = 1
    · subst h1
      have h : t.bare = (2, trueL) := by simpa [vw] using h
      rw [kind_bare h, text_bare h, sgn_bare h, e0 (by omega), if_neg (by decide), if_neg (by decide), if_pos (by decide), show told trueL = ⟨3, 1, [], 0⟩ by unfold told; rw [if_neg (by decide), if_pos rfl]]
      exact ⟨rfl, by decide, by decide⟩
    · have hn0 : n = 0 := by omega
      subst hn0
      have h : t.bare = (2, falseL) := by simpa [vw] using h
      rw [kind_bare h, text_bare h, sgn_bare h, e0 (by omega), if_neg (by decide), if_neg (by decide), if_pos (by decide), show told falseL = ⟨3, 0, [], 0⟩ by unfold told; rw [if_neg (by decide), if_neg (by decide), if_pos rfl]]
      exact ⟨rfl, by decide, by decide⟩
end
theorem reads (M : Nat) (L : List Lx.Tk) : ∀ (k : Nat) (T : Tree), Ex.count T ≤ k → Ex.ones nodeB T = true → rngT T = true → Rs M L T
  | 0, T, h, _, _ => by have := Ex.count_pos T; omega
  | k + 1, .node op t vk vn vs ks, h, h1, h2 => by
    obtain ⟨g1, g2⟩ := node_cases h1
    have hr : rngN op t vk vn vs ks.length = true ∧ Ex.oness rngN ks = true := by
      have := h2
      rw [rngT, Ex.ones, Bool.and_eq_true] at this
      exact this
    have hf : Fits vn := by have := hr.1; simpa [rngN, Fits] using this
    have hfst := fun i => first (L := L) (k + 1) _ h h1 i
    have h' := h
    rw [Ex.count] at h
    have IH : ∀ x ∈ ks, Rs M L x := fun x hx => reads M L k x (by have := counts_mem hx; omega) (oness_mem g1 hx) (oness_mem hr.2 hx)
    rcases g2 with ⟨rfl, rfl, e1, rfl⟩ | ⟨rfl, e1, rfl, rfl, rfl, rfl⟩ | ⟨e0, rfl, rfl, rfl, rfl, x, rfl⟩ | ⟨rfl, e1, rfl, rfl, rfl, x, y, rfl⟩ | ⟨rfl, e1, rfl, rfl, rfl⟩
    · have es : slev (.node 1 [] vk vn vs []) = 7 := by simp [slev]
      rw [es] at hfst
      have ew : ws (.node 1 [] vk vn vs []) = [vw vk vn vs] := by simp [ws, wsN]
      refine Rs.of .single (by rw [es]; rfl) ?_ (fun h => by cases h) hfst
      rw [ew]
      intro d i hh hJ
      obtain ⟨a1, a2, a3⟩ := leafT_val e1 hf hh.1
      exact leaf_rd a3 (fun h => a2 h.1) a1 (by rw [Ex.rightB, h1]; simp [Ex.depth, Ex.depths, Ex.count, Ex.counts])
    · have es : slev (.node 2 t 0 0 [] []) = 7 := by simp [slev]
      rw [es] at hfst
      have ew : ws (.node 2 t 0 0 [] []) = [(1, t)] := by simp [ws, wsN]
      refine Rs.of .single (by rw [es]; rfl) ?_ (fun h => by cases h) hfst
      rw [ew]
      intro d i hh hJ
      refine leaf_rd (by rw [sgn_bare hh.1]; simp) (fun h => hJ.ne h.2) ?_ (by rw [Ex.rightB, h1]; simp [Ex.depth, Ex.depths, Ex.count, Ex.counts])
      unfold leafT
      rw [kind_bare hh.1, text_bare hh.1, if_pos rfl]
    · have IX := IH x (by simp)
      rcases e0 with rfl | rfl
      · have es : slev (.node 3 [] 0 0 [] [x]) = 6 := by simp [slev]
        rw [es] at hfst
        have ew : ws (.node 3 [] 0 0 [] [x]) = (5, [45]) :: parW 6 (slev x, ws x) := by simp [ws, wss, wsN]
        have en : need (.node 3 [] 0 0 [] [x]) = np 6 (slev x, need x) + 1 := by simp [need, nds, ndN]
        refine Rs.of .neg (by rw [es]; rfl) ?_ (fun h => by cases h) hfst
        rw [ew, en]
        intro d i hh hJ
        have e2 : i + ((5, [45]) :: parW 6 (slev x, ws x)).length = i + 1 + (parW 6 (slev x, ws x)).length := by simp; omega
        rw [e2] at hJ ⊢
        exact neg_rd (by rw [sgn_bare hh.1]; rfl) (IX.P rfl hh.2 hJ)
      · have es : slev (.node 4 [] 0 0 [] [x]) = 2 := by simp [slev]
        rw [es] at hfst
        have ew : ws (.node 4 [] 0 0 [] [x]) = (2, notL) :: parW 2 (slev x, ws x) := by simp [ws, wss, wsN]
        have en : need (.node 4 [] 0 0 [] [x]) = np 2 (slev x, need x) + 1 := by simp [need, nds, ndN]
        refine Rs.of .not (by rw [es]; rfl) ?_ (fun h => by cases h) hfst
        rw [ew, en]
        intro d i hh hJ
        have e2 : i + ((2, notL) :: parW 2 (slev x, ws x)).length = i + 1 + (parW 2 (slev x, ws x)).length := by simp; omega
        rw [e2] at hJ ⊢
        exact not_rd (by rw [sgn_bare hh.1]; rfl) (IX.P rfl hh.2 hJ)
    · have IX := IH x (by simp)
      have IY := IH y (by simp)
      have es : slev (.node 5 t 0 0 [] [x, y]) = mlev t := by simp [slev]
      rw [es] at hfst
      have ew : ws (.node 5 t 0 0 [] [x, y]) = parW (fl (mlev t)) (slev x, ws x) ++ markW t :: parW (mlev t + 1) (slev y, ws y) := by simp [ws, wss, wsN]
      have en : need (.node 5 t 0 0 [] [x, y]) = max (np (fl (mlev t)) (slev x, need x)) (np (mlev t + 1) (slev y, need y)) := by simp [need, nds, ndN]
      have hlen : ∀ i, i + (parW (fl (mlev t)) (slev x, ws x) ++ markW t :: parW (mlev t + 1) (slev y, ws y)).length = i + (parW (fl (mlev t)) (slev x, ws x)).length + 1 + (parW (mlev t + 1) (slev y, ws y)).length := fun i => by simp; omega
      rcases mark_lev e1 with ⟨hl, hm⟩ | ⟨u, hu, hl, hm⟩
      · refine Rs.of .cmp (by rw [es, hm]; rfl) ?_ (fun h => by cases h) (by rw [hm] at hfst; exact hfst)
        rw [ew, en]
        intro d i hh hJ
        rw [hlen] at hJ ⊢
        obtain ⟨b1, b2, b3⟩ := (has_append _ _ _).1 hh
        have sm := sgn_mark b2
        have := Rd.cmp (M := M) (d := d) (Y := y) ((IX.P (d := d) (u := .sum) (by rw [hm]; rfl) b1 ⟨.inr (by rw [sm, hm]; decide), by rw [sm]; exact mark_ne e1⟩).mono (Nat.le_max_left _ _)) (by rw [sm]; exact hl) ((IY.P (u := .sum) (by rw [hm]; rfl) b3 (hJ.mono (by rw [hm]; decide))).mono (Nat.le_max_right _ _))
        rw [show (tk L (i + (parW (fl (mlev t)) (slev x, ws x)).length)).text = t from text_bare b2] at this
        exact this
      · have hfl : fl (mlev t) = mlev t := by
          unfold fl
          rw [if_neg]
          rw [hm]; cases u <;> first | exact absurd hu (by decide) | decide
        have hb := rk_below (left_not hu)
        have HL : ∀ d i, Has L i (ws (.node 5 t 0 0 [] [x, y])) → J L (u.rk + 1) (i + (ws (.node 5 t 0 0 [] [x, y])).length) → LRd M L d u i (.node 5 t 0 0 [] [x, y]) (i + (ws (.node 5 t 0 0 [] [x, y])).length) (need (.node 5 t 0 0 [] [x, y])) := by
          rw [ew, en]
          intro d i hh hJ
          rw [hlen] at hJ ⊢
          rw [hfl] at hh hJ ⊢
          obtain ⟨b1, b2, b3⟩ := (has_append _ _ _).1 hh
          have sm := sgn_mark b2
          have := LRd.bin (M := M) (d := d) (Y := y) ((IX.PL (d := d) hu hm b1 ⟨.inr (by rw [sm]; omega), by rw [sm]; exact mark_ne e1⟩).mono (Nat.le_max_left _ _)) (by rw [sm]; exact hl) ((IY.P (u := u.below) (by rw [hb, hm]) b3 (hJ.mono (by omega))).mono (Nat.le_max_right _ _))
          rw [show (tk L (i + (parW (mlev t) (slev x, ws x)).length)).text = t from text_bare b2] at this
          exact this
        exact Rs.of u (by rw [es, hm]) (fun d i hh hJ => (HL d i hh (hJ.mono (Nat.le_succ _))).rd hu hJ) (fun _ => HL) (by rw [hm] at hfst; exact hfst)
    · have es : slev (.node 6 t 0 0 [] ks) = 7 := by simp [slev]
      rw [es] at hfst
      have ew : ws (.node 6 t 0 0 [] ks) = (1, t) :: (5, [40]) :: (commasW (wss ks) ++ [(5, [41])]) := by simp [ws, wsN]
      have en : need (.node 6 t 0 0 [] ks) = maxl (nds ks) + 1 := by simp [need, ndN]
      have hk0 : ks ≠ [] := by
        rintro rfl
        have h0 : Ex.arity t = 0 := by simpa using e1.symm
        have hm := fns t (by omega)
        simp only [List.mem_cons, List.not_mem_nil, or_false] at hm
        rcases hm with rfl | rfl | rfl | rfl | rfl | rfl | rfl | rfl <;> exact absurd h0 (by decide)
      refine Rs.of .single (by rw [es]; rfl) ?_ (fun h => by cases h) hfst
      rw [ew, en]
      intro d i hh hJ
      obtain ⟨b1, b2, b3⟩ := hh
      have e2 : i + ((1, t) :: (5, [40]) :: (commasW (wss ks) ++ [(5, [41])])).length = i + 2 + (commasW (wss ks)).length + 1 := by simp; omega
      rw [e2]
      exact call_rd (by rw [sgn_bare b1]; simp) (kind_bare b1) (text_bare b1) (by rw [sgn_bare b2]; rfl) e1 (list_rd ks [] (d + 1) (i + 2) hk0 IH b3)
/-! from the words of a print, of itself -/
theorem has_of {B : List Lx.Tk} : ∀ (A : List Lx.Tk) (P : List Lx.Tk), Has (P ++ (A ++ B)) P.length (bares A)
  | [], P => trivial
  | a :: A, P => by
    refine ⟨?_, ?_⟩
    · rw [tk_lt (by simp)]; simp
    · have := has_of (B := B) A (P ++ [a])
      simpa using this
theorem all_pr {T : Tree} (h1 : Ex.ones nodeB T = true) (h2 : rngT T = true) (A : List Lx.Tk) (hA : bares A = ws T) (p M : Nat) : all M (A ++ [⟨0, [], p⟩]) = .ok T A.length ∨ ((∃ a, all M (A ++ [⟨0, [], p⟩]) = .bad 18 a) ∧ M < need T) := by
  have hE : Ends (A ++ [⟨0, [], p⟩]) := by
    refine ⟨by simp, fun i hi => ?_⟩
    simp only [List.length_append, List.length_singleton] at hi
    by_cases h : i = A.length
    · subst h; rw [tk_lt (by simp)]; simp
    · rw [tk_ge (by simp; omega)]
  have hl : (ws T).length = A.length := by rw [← hA]; simp [bares]
  have hH : Has (A ++ [⟨0, [], p⟩]) 0 (ws T) := by
    have := has_of (B := [⟨0, [], p⟩]) A []
    rw [hA] at this
    exact this
  have hs : sgn (tk (A ++ [⟨0, [], p⟩]) (0 + (ws T).length)) = [] := by
    refine sgn_end ?_
    rw [hl, tk_lt (by simp)]; simp
  have := (reads M (A ++ [⟨0, [], p⟩]) _ T (Nat.le_refl _) h1 h2).S 0 0 .or (Nat.zero_le _) hH ⟨.inl (by rw [hs]; decide), by rw [hs]; decide⟩ _ _ (all_some hE)
  rw [hl, Nat.zero_add, Nat.zero_add] at this
  exact this
theorem parse_pr {T : Tree} (h1 : Ex.rightB nodeB T = true) (h2 : rngT T = true) (hl : (pr T).length ≤ 4000) : (∃ j, parse (pr T) = .ok T j) ∨ ((∃ a, parse (pr T) = .bad 18 a) ∧ 30 < need T) := by
  simp only [Ex.rightB, Bool.and_eq_true, decide_eq_true_eq] at h1
  obtain ⟨hd, hc, ho⟩ := h1
  obtain ⟨A, e, hA⟩ := pr_lx ho h2 hl
  unfold parse
  rw [hA]
  simp only [atR]
  rcases all_pr ho h2 A e (pr T).length 30 with e | ⟨⟨a, e⟩, h⟩
  · rw [e]
    simp only
    rw [if_neg (by omega), if_neg (by omega)]
    simp only
    rw [if_pos (by rw [tk_lt (by simp)]; simp)]
    exact .inl ⟨_, rfl⟩
  · rw [e]
    exact .inr ⟨⟨a, rfl⟩, h⟩
theorem pr_apart {x y : Tree} (hx : Ex.rightB nodeB x = true) (hx2 : rngT x = true) (hy : Ex.rightB nodeB y = true) (hy2 : rngT y = true) (hl : (pr x).length ≤ 4000) (h : pr x = pr y) : x = y := by
  simp only [Ex.rightB, Bool.and_eq_true, decide_eq_true_eq] at hx hy
  obtain ⟨A, e, hA⟩ := pr_lx hx.2.2 hx2 hl
  obtain ⟨B, e2, hB⟩ := pr_lx hy.2.2 hy2 (by rw [← h]; exact hl)
  rw [h, hB] at hA
  have hAB : A = B := by
    injection hA with hA
    exact (List.append_inj_left' hA (by simp)).symm
  subst hAB
  rcases all_pr hx.2.2 hx2 A e 0 (need x + need y) with e3 | ⟨-, e3⟩
  · rcases all_pr hy.2.2 hy2 A e2 0 (need x + need y) with e4 | ⟨-, e4⟩
    · rw [e3] at e4; cases e4; rfl
    · omega
  · omega
end Ps
end Go.Proofs.YthcfdggdippocaaGreatDoor

/- The parser as a plain function: what is read needs no more brackets than were open. Plain. -/
namespace Go.Proofs.YthcfdggdippocaaGreatDoor
set_option linter.unusedVariables false
open Ex (Tree)
namespace Ps
def nn (n : Nat) (T : Tree) : Nat := np n (slev T, need T)
theorem nn_of {T : Tree} {n k : Nat} (h : slev T = n) (hk : need T = k) : nn n T = k := by subst h; subst hk; simp [nn, np]
def Q.nb : Q → Nat
  | .rule _ => 0
  | .left u X => nn u.rk X
  | .list ks => maxl (nds ks)
def Q.nt : Q → Tree → Nat
  | .rule u, T => nn u.rk T
  | .left u _, T => nn u.rk T
  | .list _, T => maxl (nds T.kids)
theorem np_mono {n m : Nat} (h : n ≤ m) (p : Nat × Nat) : np n p ≤ np m p := by unfold np; split <;> split <;> omega
theorem nn_mono {n m : Nat} (h : n ≤ m) (T : Tree) : nn n T ≤ nn m T := np_mono h _
theorem need_le (T : Tree) : need T ≤ nn 0 T := by simp [nn, np]
theorem np_le (n : Nat) (p : Nat × Nat) : np n p ≤ p.2 + 1 := by unfold np; split <;> omega
theorem nn_le (n : Nat) (T : Tree) : nn n T ≤ need T + 1 := np_le n _
theorem maxl_snoc (X : Tree) : ∀ ks : List Tree, maxl (nds (ks ++ [X])) = max (maxl (nds ks)) (need X)
  | [] => by simp [nds, maxl]
  | y :: l => by rw [List.cons_append, nds, nds, maxl, maxl, maxl_snoc X l]; omega
theorem nn_bin {t : List UInt8} {X Y : Tree} {n : Nat} (h : mlev t = n) : nn n (binT t X Y) = max (nn (fl n) X) (nn (n + 1) Y) := by
  subst h
  exact nn_of (by simp [binT, slev]) (by simp [binT, need, nds, ndN, nn])
theorem nn_leaf (t : Lx.Tk) (n : Nat) (hn : n ≤ 7) : nn n (leafT t) = 0 := by
  unfold leafT
  split
  · simp [nn, slev, need, ndN, np, hn]
  · split
    · simp [nn, slev, need, ndN, np, hn]
    · split
      · split <;> simp [nn, slev, need, ndN, np, hn]
      · simp [nn, slev, need, ndN, np, hn]
theorem fl_left {u : Ru} (hu : u.isLeft = true) : fl u.rk = u.rk := by cases u <;> first | exact absurd hu (by decide) | decide
theorem text_lev {t : Lx.Tk} {k : Int} (h : Ex.lev (sgn t) = k) (hk : k ≠ 0) : Ex.lev t.text = k := by
  have hs : sgn t = t.text := by
    rw [sgn]
    split
    · rfl
    · next hn => rw [sgn, if_neg hn] at h; exact absurd h.symm hk
  rw [← hs, h]
theorem rd_need {M : Nat} {L : List Lx.Tk} : ∀ (f d : Nat) (q : Q) (i : Nat) (T : Tree) (j : Nat), d ≤ M → d + q.nb ≤ M → rd M L f d q i = some (.ok T j) → d + q.nt T ≤ M
  | 0, d, q, i, T, j, hd, hq, h => by cases h
  | f + 1, d, .left u X, i, T, j, hd, hq, h => by
    by_cases hu : u.isLeft = true
    · rw [rd_left] at h
      split at h
      · next hl =>
        rcases bindR_some h with ⟨Y, k, h1, h2⟩ | ⟨c, a, -, h2⟩
        · have c1 := rd_need f d _ _ _ _ hd (by simp only [Q.nb]; omega) h1
          refine rd_need f d (.left u (binT (tk L i).text X Y)) _ _ _ hd ?_ h2
          have hm := mlev_of hu (text_lev hl (of_ne u))
          simp only [Q.nb, Q.nt] at *
          rw [nn_bin hm, fl_left hu]
          rw [rk_below (left_not hu)] at c1
          omega
        · cases h2
      · cases h; exact hq
    · rw [rd_left, if_neg] at h
      · cases h; exact hq
      · cases u <;> first | exact absurd rfl hu | skip
        all_goals
          intro hl
          have : ∀ s : List UInt8, Ex.lev s ≠ -1 := fun s hs => by
            have h0 : Ex.lev s ≠ 0 := by omega
            have hm := marks s h0
            simp only [List.mem_cons, List.not_mem_nil, or_false] at hm
            rcases hm with rfl | rfl | rfl | rfl | rfl | rfl | rfl | rfl | rfl | rfl | rfl | rfl | rfl | rfl <;> exact absurd hs (by decide)
          exact this _ hl
  | f + 1, d, .list ks, i, T, j, hd, hq, h => by
    rw [rd_list] at h
    rcases bindR_some h with ⟨Y, k, h1, h2⟩ | ⟨c, a, -, h2⟩
    · have c1 := rd_need f d _ _ _ _ hd (by simp only [Q.nb]; omega) h1
      have hY := need_le Y
      have e0 : Ru.or.rk = 0 := rfl
      split at h2
      · refine rd_need f d (.list (ks ++ [Y])) _ _ _ hd ?_ h2
        simp only [Q.nb, Q.nt, maxl_snoc, e0] at *
        omega
      · split at h2
        · cases h2
          simp only [Q.nb, Q.nt, Tree.kids, maxl_snoc, e0] at *
          omega
        · cases h2
    · cases h2
  | f + 1, d, .rule .not, i, T, j, hd, hq, h => by
    have e0 : Ru.not.rk = 2 := rfl
    have e1 : Ru.cmp.rk = 3 := rfl
    rw [rd_not] at h
    split at h
    · split at h
      · cases h
      · rcases bindR_some h with ⟨Y, k, h1, h2⟩ | ⟨c, a, -, h2⟩
        · have c1 := rd_need f (d + 1) _ _ _ _ (by omega) (by simp only [Q.nb]; omega) h1
          cases h2
          simp only [Q.nt, e0] at *
          have : nn 2 (.node 4 [] 0 0 [] [Y]) = nn 2 Y + 1 := nn_of (by simp [slev]) (by simp [need, nds, ndN, nn])
          omega
        · cases h2
    · have c1 := rd_need f d _ _ _ _ hd (by simp only [Q.nb]; omega) h
      simp only [Q.nt, e0, e1] at *
      have := nn_mono (show 2 ≤ 3 by decide) T
      omega
  | f + 1, d, .rule .neg, i, T, j, hd, hq, h => by
    have e0 : Ru.neg.rk = 6 := rfl
    have e1 : Ru.single.rk = 7 := rfl
    rw [rd_neg] at h
    split at h
    · split at h
      · cases h
      · rcases bindR_some h with ⟨Y, k, h1, h2⟩ | ⟨c, a, -, h2⟩
        · have c1 := rd_need f (d + 1) _ _ _ _ (by omega) (by simp only [Q.nb]; omega) h1
          cases h2
          simp only [Q.nt, e0] at *
          have : nn 6 (.node 3 [] 0 0 [] [Y]) = nn 6 Y + 1 := nn_of (by simp [slev]) (by simp [need, nds, ndN, nn])
          omega
        · cases h2
    · have c1 := rd_need f d _ _ _ _ hd (by simp only [Q.nb]; omega) h
      simp only [Q.nt, e0, e1] at *
      have := nn_mono (show 6 ≤ 7 by decide) T
      omega
  | f + 1, d, .rule .cmp, i, T, j, hd, hq, h => by
    have e0 : Ru.cmp.rk = 3 := rfl
    have e1 : Ru.sum.rk = 4 := rfl
    rw [rd_cmp] at h
    rcases bindR_some h with ⟨Y, k, h1, h2⟩ | ⟨c, a, -, h2⟩
    · have c1 := rd_need f d _ _ _ _ hd (by simp only [Q.nb]; omega) h1
      split at h2
      · next hl =>
        rcases bindR_some h2 with ⟨Z, m, h3, h4⟩ | ⟨c, a, -, h4⟩
        · have c2 := rd_need f d _ _ _ _ hd (by simp only [Q.nb]; omega) h3
          cases h4
          have hm : mlev (tk L k).text = 3 := by simp [mlev, text_lev hl (by decide)]
          simp only [Q.nt, e0, e1] at *
          rw [nn_bin hm, show fl 3 = 4 from rfl]
          show d + max (nn 4 Y) (nn 4 Z) ≤ M
          omega
        · cases h4
      · cases h2
        simp only [Q.nt, e0, e1] at *
        have := nn_mono (show 3 ≤ 4 by decide) T
        omega
    · cases h2
  | f + 1, d, .rule .single, i, T, j, hd, hq, h => by
    have e0 : Ru.or.rk = 0 := rfl
    have e1 : Ru.single.rk = 7 := rfl
    rw [rd_single] at h
    split at h
    · split at h
      · cases h
      · rcases bindR_some h with ⟨Y, k, h1, h2⟩ | ⟨c, a, -, h2⟩
        · have c1 := rd_need f (d + 1) _ _ _ _ (by omega) (by simp only [Q.nb]; omega) h1
          split at h2
          · cases h2
            simp only [Q.nt, e0, e1] at *
            have h7 := nn_le 7 T
            have hY := need_le T
            omega
          · cases h2
        · cases h2
    · split at h
      · split at h
        · cases h
        · split at h
          · cases h
          · rcases bindR_some h with ⟨Y, k, h1, h2⟩ | ⟨c, a, -, h2⟩
            · have c1 := rd_need f (d + 1) _ _ _ _ (by omega) (by simp only [Q.nb, nds, maxl]; omega) h1
              split at h2
              · cases h2
                simp only [Q.nt, e1] at *
                have : nn 7 (.node 6 (tk L i).text 0 0 [] Y.kids) = maxl (nds Y.kids) + 1 := nn_of (by simp [slev]) (by simp [need, ndN])
                omega
              · cases h2
            · cases h2
      · split at h
        · cases h
          simp only [Q.nt, e1]
          rw [nn_leaf _ _ (by decide)]
          omega
        · cases h
  | f + 1, d, .rule .or, i, T, j, hd, hq, h => left_need (u := .or) rfl (fun Y k hk => rd_need f d _ _ _ _ hd (by simp only [Q.nb]; omega) hk) (fun Y k hY hk => rd_need f d (.left .or Y) _ _ _ hd hY hk) h
  | f + 1, d, .rule .and, i, T, j, hd, hq, h => left_need (u := .and) rfl (fun Y k hk => rd_need f d _ _ _ _ hd (by simp only [Q.nb]; omega) hk) (fun Y k hY hk => rd_need f d (.left .and Y) _ _ _ hd hY hk) h
  | f + 1, d, .rule .sum, i, T, j, hd, hq, h => left_need (u := .sum) rfl (fun Y k hk => rd_need f d _ _ _ _ hd (by simp only [Q.nb]; omega) hk) (fun Y k hY hk => rd_need f d (.left .sum Y) _ _ _ hd hY hk) h
  | f + 1, d, .rule .prod, i, T, j, hd, hq, h => left_need (u := .prod) rfl (fun Y k hk => rd_need f d _ _ _ _ hd (by simp only [Q.nb]; omega) hk) (fun Y k hY hk => rd_need f d (.left .prod Y) _ _ _ hd hY hk) h
where
  left_need {M : Nat} {L : List Lx.Tk} {f d i j : Nat} {T : Tree} {u : Ru} (hu : u.isLeft = true) (h1 : ∀ Y k, rd M L f d (.rule u.below) i = some (.ok Y k) → d + nn u.below.rk Y ≤ M) (h2 : ∀ Y k, d + nn u.rk Y ≤ M → rd M L f d (.left u Y) k = some (.ok T j) → d + nn u.rk T ≤ M) (h : rd M L (f + 1) d (.rule u) i = some (.ok T j)) : d + nn u.rk T ≤ M := by
    rw [rd_left_rule hu] at h
    rcases bindR_some h with ⟨Y, k, h3, h4⟩ | ⟨c, a, -, h4⟩
    · refine h2 Y k ?_ h4
      have := h1 Y k h3
      rw [rk_below (left_not hu)] at this
      have := nn_mono (show u.rk ≤ u.rk + 1 by omega) Y
      omega
    · cases h4
theorem parse_need {l : List UInt8} {T : Tree} {j : Nat} (h : parse l = .ok T j) : need T ≤ 30 := by
  unfold parse at h
  split at h
  · cases h
  · next L e =>
    have hE := (lx_end e).1
    split at h
    · cases h
    · next T' j' e2 =>
      split at h
      · cases h
        unfold atR at e2
        have hs := all_some (M := 30) hE
        split at e2
        · cases e2
        · next T2 j2 e3 =>
          split at e2
          · cases e2
          · split at e2
            · cases e2
            · cases e2
              rw [e3] at hs
              have := rd_need _ _ _ _ _ _ (Nat.zero_le _) (Nat.zero_le _) hs
              have hY := need_le T
              simp only [Q.nt, show Ru.or.rk = 0 from rfl] at this
              omega
      · cases h
/-- what is parsed is parsed again from its print. -/
theorem parse_once {l : List UInt8} {T : Tree} {j : Nat} (h : parse l = .ok T j) (hl : (pr T).length ≤ 4000) : ∃ j, parse (pr T) = .ok T j := by
  obtain ⟨h1, h2⟩ := parse_right h
  rcases parse_pr h1 h2 hl with h | ⟨-, h3⟩
  · exact h
  · have := parse_need h; omega
end Ps
end Go.Proofs.YthcfdggdippocaaGreatDoor

/- The example of the chapter: awake. -/
namespace Go.Proofs.YthcfdggdippocaaGreatDoor
open Go.RowKit Go.Lib
set_option linter.unusedVariables false
set_option linter.unusedSimpArgs false
set_option maxRecDepth 100000
open Ex (Tree)
abbrev awT : Tree := Ps.binT [42] (Ps.binT [43] (.node 2 [97] 0 0 [] []) (.node 2 [98] 0 0 [] [])) (.node 2 [99] 0 0 [] [])
theorem aw_parse : Ps.parse [40, 40, 97, 43, 98, 41, 41, 42, 99] = .ok awT 9 := by kernel_rfl
theorem aw_pr : prR awT = ([40, 97, 32, 43, 32, 98, 41, 32, 42, 32, 99], 0) := by kernel_rfl
theorem aw_fit : fitT awT := by simp [awT, Ps.binT, fitT, fitTs, maxLen]
theorem aw_lev : Ps.slev awT = 5 := by kernel_rfl
set_option maxHeartbeats 1000000 in
theorem awake14_any (w : World) (a : Addr) (m : Int) (hv : Env w a m) : Calls Tryz.prog 6 #[] w fun e w' => e = .returned (.bool true) ∧ Below w.heap.size w w' := by
  have ep := parse_any ⟨#[40, 40, 97, 43, 98, 41, 41, 42, 99]⟩ w a m hv
  rw [show (⟨#[40, 40, 97, 43, 98, 41, 41, 42, 99]⟩ : ByteArray).data.toList = [40, 40, 97, 43, 98, 41, 41, 42, 99] from rfl, aw_parse] at ep
  have EP := Lib.hid ep
  clear ep
  go_enter Tryz.func6, Tryz.ntmps6
  go_wp2_with fail
  refine EP.out.mono ?_
  rintro e W1 ⟨u, rfl, ⟨A, c, rfl, hc, hk⟩, hb⟩
  have b2 : Below w.heap.size w ((W1.alloc (.cells (ncells 5 [42] 0 0 [] A 2 c) 26)).alloc (.cells #[.int .i64 0, .int .i64 0] 36)) := (hb.alloc hb.size _).alloc (by have := hb.size; simp; omega) _
  have b1 : Below W1.heap.size W1 ((W1.alloc (.cells (ncells 5 [42] 0 0 [] A 2 c) 26)).alloc (.cells #[.int .i64 0, .int .i64 0] 36)) := ((Below.refl _ _).alloc (Nat.le_refl _) _).alloc (by simp) _
  have k0 := (Whole.new W1 26 (ncells 5 [42] 0 0 [] A 2 c)).alloc (.cells #[.int .i64 0, .int .i64 0] 36)
  have k1 := Whole.new (W1.alloc (.cells (ncells 5 [42] 0 0 [] A 2 c) 26)) 36 #[.int .i64 0, .int .i64 0]
  simp only [World.size_alloc] at k1
  have nv : NodeV ((W1.alloc (.cells (ncells 5 [42] 0 0 [] A 2 c) 26)).alloc (.cells #[.int .i64 0, .int .i64 0] 36)) (.agg (ncells 5 [42] 0 0 [] A 2 c)) awT := ⟨A, c, rfl, hc, (hk.below b1).at⟩
  have sp := shPrint_any awT _ _ nv aw_fit (by kernel_rfl) (by decide) (hv.below b2)
  rw [aw_pr] at sp
  have SP := Lib.hid sp
  have LV : Hid (∀ W, Calls Tryz.prog 9 #[.agg (ncells 5 [42] 0 0 [] A 2 c)] W fun e w' => e = .returned (.int .i64 5) ∧ Below W.heap.size W w') := Lib.hid (fun W => by
    have := shLevel_any (op := 5) (t := [42]) (vk := 0) (vn := 0) (vs := []) (A := A) (n := 2) (c := c) (w := W) awT.kids
    rw [show Ps.slev (.node 5 [42] 0 0 [] awT.kids) = 5 from aw_lev] at this
    exact this)
  unfold ncells at *
  obtain ⟨x0, x1, x2, x3, x4, x5⟩ := six_of k0
  have B2 := Lib.hid b2
  have K0 := Lib.hid k0
  have K1 := Lib.hid k1
  clear b2 b1 k0 k1 nv sp hk hb EP
  go_wp2_with fail
  refine SP.out.mono ?_
  rintro e W3 ⟨rfl, hb3⟩
  have k3 := K0.out.below hb3 K0.out.lt
  have v0 := (K1.out.below hb3 K1.out.lt).cell 0
  simp only [List.getElem?_toArray, List.getElem?_cons_zero, List.getElem?_cons_succ] at v0
  obtain ⟨x0, x1, x2, x3, x4, x5⟩ := six_of k3
  have B3 := Lib.hid (B2.out.trans (hb3.mono B2.out.size))
  clear SP hb3 k3
  go_wp2_with fail
  refine (LV.out _).mono ?_
  rintro e W4 ⟨rfl, hb4⟩
  have B4 := Lib.hid (bstep B3.out hb4)
  clear hb4
  go_wp2_with fail
  go_ret
  exact ⟨rfl, B4.out⟩
theorem laidOut : laidOutB Tryz.prog = true := by kernel_rfl
end Go.Proofs.YthcfdggdippocaaGreatDoor
