/- Words in memory: rows of them. -/
import Derived.Test.YtbpknainmefidaaGreatDoorWG
import Derived.Test.YtbpknainmefidaaGreatDoorPB0
namespace Go.Proofs.YtbpknainmefidaaGreatDoor
open Go.RowKit Go.Lib
set_option linter.unusedVariables false

abbrev flt (c p : Int) : Value := .agg #[.int .i64 c, .int .i64 p]
def encT (T : List Lx.Tk) : List Value := T.flatMap fun t => [.int .i64 (t.kind : Nat), .string (str t.text), .int .i64 (t.at_ : Nat)]
theorem encT_length : ∀ T : List Lx.Tk, (encT T).length = T.length * 3
  | [] => rfl
  | x :: T => by
    have := encT_length T
    unfold encT at *
    rw [List.flatMap_cons, List.length_append, this, List.length_cons]
    simp only [List.length_cons, List.length_nil]
    omega
theorem encT_append (T U : List Lx.Tk) : encT (T ++ U) = encT T ++ encT U := by simp [encT]
theorem encT_at : ∀ (T : List Lx.Tk) (i : Nat) (h : i < T.length), (encT T)[i * 3]? = some (.int .i64 (T[i].kind : Nat)) ∧ (encT T)[i * 3 + 1]? = some (.string (str T[i].text)) ∧ (encT T)[i * 3 + 2]? = some (.int .i64 (T[i].at_ : Nat))
  | [], i, h => absurd h (by simp)
  | x :: T, 0, h => ⟨rfl, rfl, rfl⟩
  | x :: T, i + 1, h => by
    have := encT_at T i (by simpa using h)
    have e : encT (x :: T) = Value.int .i64 (x.kind : Nat) :: .string (str x.text) :: .int .i64 (x.at_ : Nat) :: encT T := rfl
    rw [e]
    have e0 : (i + 1) * 3 = i * 3 + 1 + 1 + 1 := by omega
    rw [e0]
    simp only [List.getElem?_cons_succ, List.getElem_cons_succ]
    exact this
theorem cell?_setCell_far {w : World} {b j g k : Nat} {v : Value} (h : b ≠ g) : (w.setCell ⟨g, k, none⟩ v).cell? ⟨b, j, none⟩ = w.cell? ⟨b, j, none⟩ := by
  have := Below.heap_setCell w ⟨g, k, none⟩ v b h
  simp only [World.cell?, this]
/-- words in memory. -/
def TAt (w : World) (a : Option Addr) (T : List Lx.Tk) : Prop := ∀ i (h : i < T.length), ∃ b off, a = some ⟨b, off, none⟩ ∧ b < w.heap.size ∧ w.cell? ⟨b, off + i * 3, none⟩ = some (.int .i64 (T[i].kind : Nat)) ∧ w.cell? ⟨b, off + i * 3 + 1, none⟩ = some (.string (str T[i].text)) ∧ w.cell? ⟨b, off + i * 3 + 2, none⟩ = some (.int .i64 (T[i].at_ : Nat))
theorem TAt.below {w w' : World} {a : Option Addr} {T : List Lx.Tk} (h : TAt w a T) (hb : Below w.heap.size w w') : TAt w' a T := fun i hi => by
  obtain ⟨b, off, h1, h2, h3, h4, h5⟩ := h i hi
  exact ⟨b, off, h1, Nat.lt_of_lt_of_le h2 hb.size, (hb.cell h2).trans h3, (hb.cell h2).trans h4, (hb.cell h2).trans h5⟩
theorem TAt.setCell {w : World} {a : Option Addr} {T : List Lx.Tk} (h : TAt w a T) (g k : Nat) (v : Value) (hg : ∀ b o, a = some ⟨b, o, none⟩ → b ≠ g) : TAt (w.setCell ⟨g, k, none⟩ v) a T := fun i hi => by
  obtain ⟨b, off, h1, h2, h3, h4, h5⟩ := h i hi
  have e := fun j => cell?_setCell_far (w := w) (b := b) (j := j) (g := g) (k := k) (v := v) (hg b off h1)
  exact ⟨b, off, h1, by simpa using h2, (e _).trans h3, (e _).trans h4, (e _).trans h5⟩
/-- a row of words of the call's own. -/
def TRow (w : World) (base : Nat) (v : Value) (T : List Lx.Tk) : Prop := w.ownsRow base 60 3 v T.length (encT T)
theorem TRow.shape {w : World} {base : Nat} {v : Value} {T : List Lx.Tk} (h : TRow w base v T) : ∃ A c, v = .slice A T.length c ∧ T.length ≤ c ∧ TAt w A T ∧ ∀ b o, A = some ⟨b, o, none⟩ → base ≤ b := by
  obtain ⟨_, h2⟩ := h
  rcases h2 with ⟨rfl, h0⟩ | ⟨g, cap, cur, rfl, hb, hh, hn, hm, hs, ht⟩
  · exact ⟨none, 0, by rw [h0], by omega, fun i hi => absurd hi (by omega), fun b o e => by cases e⟩
  · refine ⟨_, cap, rfl, hn, fun i hi => ⟨g, 0, rfl, (Array.getElem?_eq_some_iff.1 hh).1, ?_⟩, fun b o e => by cases e; exact hb⟩
    obtain ⟨k0, k1, k2⟩ := encT_at T i hi
    have key : ∀ j u, j < T.length * 3 → (encT T)[j]? = some u → w.cell? ⟨g, 0 + j, none⟩ = some u := by
      intro j u hj hu
      rw [Nat.zero_add, cell_of_row w g j cur 60 (0, 0) hh, ← hu, ← ht, List.getElem?_take, if_pos hj]
      simp
    exact ⟨key _ _ (by omega) k0, key _ _ (by omega) k1, key _ _ (by omega) k2⟩
theorem TRow.below {w w' : World} {base : Nat} {v : Value} {T : List Lx.Tk} (h : TRow w base v T) (hb : Below w.heap.size w w') : TRow w' base v T := by
  obtain ⟨h1, h2⟩ := h
  refine ⟨h1, h2.imp id ?_⟩
  rintro ⟨g, cap, cur, hv, hg, hh, r⟩
  exact ⟨g, cap, cur, hv, hg, (hb.block g (Array.getElem?_eq_some_iff.1 hh).1).trans hh, r⟩
theorem TRow.block {w : World} {base : Nat} {v : Value} {T : List Lx.Tk} (h : TRow w base v T) : ∀ k, v.ownBlock = some k → base ≤ k ∧ k < w.heap.size := by
  rcases h.2 with ⟨rfl, _⟩ | ⟨g, cap, cur, rfl, hb, hh, _⟩
  · intro k e; simp [Value.ownBlock] at e
  · intro k e
    simp [Value.ownBlock] at e
    subst e
    exact ⟨hb, (Array.getElem?_eq_some_iff.1 hh).1⟩
theorem TRow.nil (w : World) (base : Nat) : TRow w base (.slice none 0 0) [] := ⟨rfl, .inl ⟨rfl, rfl⟩⟩
theorem TRow.new (w : World) : TRow (w.alloc (.cells #[] 60)) w.heap.size (.slice (some ⟨w.heap.size, 0, none⟩) 0 0) [] :=
  ⟨rfl, .inr ⟨w.heap.size, 0, #[], rfl, Nat.le_refl _, heap_alloc_new w _, Nat.le_refl _, Nat.zero_le _, rfl, rfl⟩⟩
theorem TRow.le {w : World} {base base' : Nat} {v : Value} {T : List Lx.Tk} (h : TRow w base v T) (hb : base' ≤ base) : TRow w base' v T :=
  ⟨h.1, h.2.imp id fun ⟨g, cap, cur, hv, hg, r⟩ => ⟨g, cap, cur, hv, Nat.le_trans hb hg, r⟩⟩
theorem zeroTok : (Tryz.prog.info? 60).map (fun i => (i.zero.map (fun z => z.cells.size), i.size, decide (i.bytes ≤ 1000))) = some (some 3, 3, true) := by kernel_rfl
abbrev tokObj (x : Lx.Tk) : Obj := .cells #[.int .i64 (x.kind : Nat), .string (str x.text), .int .i64 (x.at_ : Nat)] 60
/-- append of a word that was built. -/
theorem append_tok {w : World} {base : Nat} {v : Value} {T : List Lx.Tk} (h : TRow w base v T) (x : Lx.Tk) (hn : T.length ≤ 10000) (hbase : base ≤ w.heap.size) :
    ∃ v' w', Sem.run Tryz.prog (Builtin.append_ #[54, 54] 54 #[v, .slice (some ⟨w.heap.size, 0, none⟩) 1 1]) (w.alloc (tokObj x)) = .ok v' w' ∧ TRow w' base v' (T ++ [x]) ∧ (w.alloc (tokObj x)).grownBy w' v.ownBlock := by
  have hinf := zeroTok
  cases hi : Tryz.prog.info? 60 with
  | none => rw [hi] at hinf; simp at hinf
  | some i =>
    rw [hi] at hinf
    simp at hinf
    obtain ⟨⟨z, hz, i1⟩, i2, i3⟩ := hinf
    have hb : ∀ (a b : Nat), a ≤ 10001 → b ≤ 1000 → a * b ≤ 140737488355328 := fun a b h1 h2 => Nat.le_trans (Nat.mul_le_mul h1 h2) (by omega)
    obtain ⟨v', w', hr, ho, hg, _, _⟩ := run_append_own_at (P := Tryz.prog) (w.alloc (tokObj x)) base 54 54 60 i z 3 i.bytes Tryz.underlying54 hi hz i2 rfl i1 (by omega) v T.length (encT T) (h.below ((Below.refl _ _).alloc (Nat.le_refl _) _)) ⟨w.heap.size, 0, none⟩ 1 1 (encT [x]) rfl (by
      intro j u hu
      rw [Addr.add_lit, Nat.zero_add, cell_of_row _ w.heap.size j #[.int .i64 (x.kind : Nat), .string (str x.text), .int .i64 (x.at_ : Nat)] 60 (0, 0) (heap_alloc_new w _), ← hu, show encT [x] = [Value.int .i64 (x.kind : Nat), .string (str x.text), .int .i64 (x.at_ : Nat)] from rfl]
      simp) (by
      intro u hu
      simp [encT] at hu
      rcases hu with rfl | rfl | rfl <;> rfl) (by simp only [maxLen]; omega) (hb _ _ (by omega) i3) (by simp; omega)
    refine ⟨v', w', hr, ?_, hg⟩
    unfold TRow
    rw [List.length_append, encT_append]
    exact ho

/-- what Lex tells of words. -/
def LexOk (w : World) (T : List Lx.Tk) (e : Ending) (w' : World) : Prop := ∃ A c, e = .returned (.tuple #[.slice A T.length c, flt 0 0]) ∧ T.length ≤ c ∧ TAt w' A T ∧ Below w.heap.size w w' ∧ ∀ b o, A = some ⟨b, o, none⟩ → w.heap.size ≤ b
def LexBad (w : World) (c p : Int) (e : Ending) (w' : World) : Prop := e = .returned (.tuple #[.slice none 0 0, flt c p]) ∧ Below w.heap.size w w'
namespace Lx
def Out.puts (A : List Tk) : Out → Out
  | .ok l => .ok (A ++ l)
  | .bad c a => .bad c a
theorem puts_nil (o : Out) : o.puts [] = o := by cases o <;> rfl
theorem puts_put (A : List Tk) (t : Tk) (o : Out) : (o.put t).puts A = o.puts (A ++ [t]) := by cases o <;> simp [Out.puts, Out.put]
/-- where the words are looked for: at p, with A told. -/
def At (l : List UInt8) (A : List Tk) (p : Nat) : Prop := lx l = (lexF (l.length + 1) p (l.drop p)).puts A ∧ sk false (l.drop p) = l.drop p ∧ p ≤ l.length ∧ A.length ≤ p
theorem At.start {l : List UInt8} (h : l.length ≤ 4000) : At l [] (btw l) := by
  refine ⟨?_, ?_, btw_le l, Nat.zero_le _⟩
  · rw [puts_nil, lx, if_neg (by omega), lex_sk _ _ _ (Nat.lt_succ_self _), Nat.zero_add, btw_drop]
  · rw [btw_drop, sk_sk]
theorem At.done {l : List UInt8} {A : List Tk} {p : Nat} (h : At l A p) (hp : p = l.length) : lx l = .ok (A ++ [⟨0, [], l.length⟩]) := by
  obtain ⟨h1, -⟩ := h
  rw [h1, hp, List.drop_length]
  rfl
theorem At.next {l : List UInt8} {A : List Tk} {p : Nat} {c : UInt8} {r : List UInt8} (h : At l A p) (hd : l.drop p = c :: r) :
    ((word (c :: r)).err ≠ 0 → lx l = .bad (word (c :: r)).err p) ∧
    ((word (c :: r)).err = 0 → 1 ≤ (word (c :: r)).n ∧ p + (word (c :: r)).n ≤ l.length ∧
      At l (A ++ [⟨(word (c :: r)).kind, (word (c :: r)).text, p⟩]) (p + (word (c :: r)).n + btw (l.drop (p + (word (c :: r)).n)))) := by
  obtain ⟨h1, h2, h3, h4⟩ := h
  have hh := sk_head false (l.drop p) (c := c) (r := r) (by rw [h2, hd])
  have hlen : l.length - p = r.length + 1 := by have := congrArg List.length hd; simpa using this
  refine ⟨fun he => ?_, fun he => ?_⟩
  · rw [h1, hd, lex_bad _ _ _ hh.1 hh.2 he]; rfl
  · have hw := word_ok c r he
    generalize hn : (word (c :: r)).n = n at *
    have hdn : l.drop (p + n) = (c :: r).drop n := by rw [← hd, List.drop_drop]
    have hb := btw_le (l.drop (p + n))
    rw [List.length_drop] at hb
    have hdd : l.drop (p + n + btw (l.drop (p + n))) = sk false (l.drop (p + n)) := List.drop_drop.symm.trans (btw_drop _)
    refine ⟨hw.1, by omega, ?_, ?_, by omega, by simp; omega⟩
    · rw [h1, hd, lex_word _ _ _ hh.1 hh.2 he, puts_put, hn, ← hdn]
      congr 1
      rw [hdd, lex_sk _ _ _ (show (l.drop (p + n)).length < l.length by rw [List.length_drop]; omega)]
      have hs := sk_le false (l.drop (p + n))
      rw [List.length_drop] at hs
      exact lex_fuel _ _ _ _ (by omega) (by omega)
    · rw [hdd, sk_sk]
end Lx
end Go.Proofs.YtbpknainmefidaaGreatDoor
