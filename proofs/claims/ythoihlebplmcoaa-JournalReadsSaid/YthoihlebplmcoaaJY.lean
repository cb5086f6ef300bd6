/- A journal that lives on a disk on which nothing waits: its calls, told by its records. -/
import Derived.Test.YthoihlebplmcoaaJX
namespace Go.Proofs.Ythoihlebplmcoaa
open Go.RowKit
set_option linter.unusedVariables false
theorem LowS.puts (J : Jd) : ∀ (n i : Nat) (m : Mod) (k : Nat), LowS m (k + n) → LowS (putsM J m i n).1 k
  | 0, _, _, _, h => h
  | n + 1, i, m, k, h => by
    have hw : LowS (putM J m i) (k + n) := h.write _ _
    show LowS (if putR J m i = 0 then putsM J (putM J m i) (i + 1) n else (putM J m i, putR J m i)).1 k
    split
    · exact LowS.puts J n (i + 1) _ k hw
    · exact hw.mono (by omega)
theorem LowS.and {x : Mod × Int} {f : Mod → Mod × Int} {k k' : Nat} (h : LowS x.1 k') (hk : k ≤ k') (hf : LowS (f x.1).1 k) : LowS (andM x f).1 k := by
  unfold andM
  split
  · exact hf
  · exact h.mono hk
theorem LowS.wr {J : Jd} {m : Mod} {k : Nat} (h : LowS m (k + J.last + 3)) : LowS (wrM J m).1 k := by
  have h1 : LowS (putsM J m (J.first + 1) (J.last - (J.first + 1))).1 (k + 3) := LowS.puts J _ _ m (k + 3) (h.mono (by omega))
  unfold wrM
  refine LowS.and h1 (by omega) ?_
  generalize (putsM J m (J.first + 1) (J.last - (J.first + 1))).1 = m1 at *
  unfold tlM
  have h2 : LowS (if J.first + 1 < J.last then (m1.flush, m1.flushR) else (m1, 0) : Mod × Int).1 (k + 2) := by
    split
    · exact h1.flush
    · exact h1.mono (by omega)
  refine LowS.and h2 (by omega) ?_
  generalize (if J.first + 1 < J.last then (m1.flush, m1.flushR) else (m1, 0) : Mod × Int).1 = m2 at *
  unfold tl2
  have h3 : LowS (putM J m2 J.first) (k + 1) := h2.write _ _
  exact LowS.and (x := (putM J m2 J.first, putR J m2 J.first)) h3 (by omega) h3.flush
theorem LowS.clr (fr : Nat) (has : Nat → Bool) : ∀ (n i : Nat) (m : Mod) (wt : Bool) (k : Nat), LowS m (k + n + 1) → LowS (clrF fr has m wt i n).1 k
  | 0, i, m, wt, k, h => by
    show LowS (if wt then (m.flush, m.flushR) else (m, 0) : Mod × Int).1 k
    split
    · exact h.flush
    · exact h.mono (by omega)
  | n + 1, i, m, wt, k, h => by
    show LowS (if has i then (if m.writeR ((fr + i : Nat) : Int) (0 : Nat) = 0 then clrF fr has (m.write ((fr + i : Nat) : Int) []) true (i + 1) n else (m.write ((fr + i : Nat) : Int) [], m.writeR ((fr + i : Nat) : Int) (0 : Nat))) else clrF fr has m wt (i + 1) n).1 k
    have hw : LowS (m.write ((fr + i : Nat) : Int) []) (k + n + 1) := (show LowS m (k + n + 1 + 1) from h.mono (by omega)).write _ _
    split
    · split
      · exact LowS.clr fr has n (i + 1) _ true k hw
      · exact hw.mono (by omega)
    · exact LowS.clr fr has n (i + 1) m wt k (h.mono (by omega))
/-- a journal of these records, of which the first ones were committed. -/
structure Live (w0 w : World) (J : Jd) (m : Mod) (c : Nat → List UInt8) (R S : List (List UInt8)) : Prop where
  jp : JP w0 w J m
  quiet : Quiet m c
  row : J.row = rowR J.f J.e (R ++ S)
  kept : J.kept = (rowR J.f J.e R).length
  pend : J.pend = S.length
  clean : Clean (seen m.size J.fr c) J.e J.f (J.tt - J.fr) (rowR J.f J.e R)
  len : J.row.length ≤ (J.tt - J.fr) * J.f
  e0 : J.e ≠ 0
  room : (J.tt - J.fr) * J.f ≤ 10000
  small : ∀ b ∈ R ++ S, b.length ≤ 10000
/-- the same journal, but for its row. -/
structure SameJ (J J' : Jd) : Prop where
  p : J'.p = J.p
  dp : J'.dp = J.dp
  fr : J'.fr = J.fr
  tt : J'.tt = J.tt
  f : J'.f = J.f
  e : J'.e = J.e
theorem rowR_len12 (f e : Nat) (hf : 12 ≤ f) : ∀ (n : Nat) (R : List (List UInt8)), 12 * R.length ≤ (rowN f e n R).length
  | _, [] => Nat.zero_le _
  | n, b :: R => by
    have h := rowN_cons_len f e n b R hf
    have := rowR_len12 f e hf (beg f n + (b.length + 12)) R
    have := beg_bounds f n hf
    rw [List.length_cons]
    omega
section
variable {w0 w : World} {J : Jd} {m : Mod} {c : Nat → List UInt8} {R S : List (List UInt8)}
theorem Live.q (h : Live w0 w J m c R S) : ((J.tt : Int) - (J.fr : Int)) * (J.f : Int) = (((J.tt - J.fr) * J.f : Nat) : Nat) := by
  have := h.jp.ok.lo
  rw [Int.natCast_mul, Int.natCast_sub (by omega)]
theorem Live.below {w' : World} (h : Live w0 w J m c R S) (hb : Below w.heap.size w w') : Live w0 w' J m c R S :=
  ⟨h.jp.below hb, h.quiet, h.row, h.kept, h.pend, h.clean, h.len, h.e0, h.room, h.small⟩
theorem Live.few (h : Live w0 w J m c R S) : 12 * (R.length + S.length) ≤ 10000 := by
  have h1 := rowR_len12 J.f J.e (by have := h.jp.ok.f1; omega) 0 (R ++ S)
  have h2 := h.len
  have h3 := h.room
  have h4 : J.row.length = (rowN J.f J.e 0 (R ++ S)).length := by rw [h.row]; rfl
  rw [List.length_append] at h1
  omega
theorem Live.add_ok2 (h : Live w0 w J m c R S) (A : Option Addr) (d : Nat) (b : List UInt8) (hA : Holds w A b) (hAo : b = [] ∨ ∀ x : Addr, A = some x → ob J.A ≠ some x.block ∧ J.p ≠ x.block) (hroom : beg J.f J.row.length + (b.length + 12) ≤ (J.tt - J.fr) * J.f) :
    Calls Try.prog 12 #[J.ptr, .slice A b.length d] w fun e w' => e = .returned (.int .i64 0) ∧ ∃ J', Live w0 w' J' m c R (S ++ [b]) ∧ SameJ J J' ∧ J'.row.length = beg J.f J.row.length + (b.length + 12) ∧ Stay (ob J.A) w w' ∧ (ob J'.A = ob J.A ∨ ∃ g, ob J'.A = some g ∧ w.heap.size ≤ g) := by
  have hr := h.room
  have hfew := h.few
  have hp := h.pend
  refine (Go.Proofs.Ythoihlebplmcoaa.add_ok2 h.jp _ h.q (by omega) A d b hA hAo hroom (by omega) (by omega)).mono ?_
  rintro e w' ⟨rfl, A', c', p1, p2, p3⟩
  have hrow : addRow J b = rowR J.f J.e (R ++ (S ++ [b])) := by
    rw [← List.append_assoc, rowR_snoc J.f J.e (by have := h.jp.ok.f1; omega), ← h.row]
    rfl
  refine ⟨rfl, _, ⟨p1, h.quiet, hrow, h.kept, ?_, h.clean, ?_, h.e0, h.room, fun x hx => ?_⟩, ⟨rfl, rfl, rfl, rfl, rfl, rfl⟩, addRow_length J b h.jp.ok.f1, p2, p3⟩
  · show J.pend + 1 = _
    rw [hp, List.length_append, List.length_singleton]
  · show (addRow J b).length ≤ _
    rw [addRow_length J b h.jp.ok.f1]
    exact hroom
  · rw [← List.append_assoc] at hx
    rcases List.mem_append.1 hx with hx | hx
    · exact h.small x hx
    · have : x = b := by simpa using hx
      subst this
      omega
theorem Live.add_ok (h : Live w0 w J m c R S) (A : Option Addr) (d : Nat) (b : List UInt8) (hA : Holds w A b) (hAo : ∀ x : Addr, A = some x → ob J.A ≠ some x.block ∧ J.p ≠ x.block) (hroom : beg J.f J.row.length + (b.length + 12) ≤ (J.tt - J.fr) * J.f) :
    Calls Try.prog 12 #[J.ptr, .slice A b.length d] w fun e w' => e = .returned (.int .i64 0) ∧ ∃ J', Live w0 w' J' m c R (S ++ [b]) ∧ SameJ J J' ∧ J'.row.length = beg J.f J.row.length + (b.length + 12) ∧ Stay (ob J.A) w w' ∧ (ob J'.A = ob J.A ∨ ∃ g, ob J'.A = some g ∧ w.heap.size ≤ g) :=
  h.add_ok2 A d b hA (.inr hAo) hroom
theorem Live.add_full (h : Live w0 w J m c R S) (A : Option Addr) (d n : Nat) (hn : n ≤ 9223372036854775795) (hfull : (J.tt - J.fr) * J.f < beg J.f J.row.length + (n + 12)) :
    Calls Try.prog 12 #[J.ptr, .slice A n d] w fun e w' => e = .returned (.int .i64 12) ∧ ∃ k, w' = w.drewN k :=
  Go.Proofs.Ythoihlebplmcoaa.add_full h.jp _ h.q (by have := h.room; omega) A d n hn hfull
theorem Live.room_ (h : Live w0 w J m c R S) : Calls Try.prog 26 #[J.ptr] w fun e w' => e = .returned (.int .i64 (((J.tt - J.fr) * J.f - beg J.f J.row.length - 12 : Nat) : Nat)) ∧ ∃ k, w' = w.drewN k :=
  room_any h.jp _ h.q (by have := h.room; omega)
/-- what a crash may leave behind a commit that went dark. -/
def TornJ (m : Mod) (J : Jd) (R S : List (List UInt8)) : Prop := ∀ p, Stands (seen m.size J.fr fun k => m.cont p k) J.e J.f (J.tt - J.fr) (rowR J.f J.e R) ∨ Stands (seen m.size J.fr fun k => m.cont p k) J.e J.f (J.tt - J.fr) (rowR J.f J.e (R ++ S))
theorem Live.last (h : Live w0 w J m c R S) : J.last ≤ 200 := by
  have h1 : J.last * 60 ≤ J.last * J.f := Nat.mul_le_mul_left _ h.jp.ok.f1
  have h2 : J.last * J.f ≤ J.row.length + J.f - 1 := Nat.div_mul_le_self _ _
  have := h.len
  have := h.room
  have := h.jp.ok.f2
  omega
theorem Live.commit (h : Live w0 w J m c R S) (k : Nat) (hl : LowS m (k + 203)) :
    Calls Try.prog 13 #[J.ptr] w fun e w' => (∀ a, Stay a w w') ∧ ∃ m', LowS m' k ∧ m'.n = m.n ∧ m'.size = m.size ∧
      ((e = .returned (.int .i64 0) ∧ m'.fused = m.fused ∧ ∃ J' c', Live w0 w' J' m' c' (R ++ S) [] ∧ SameJ J J' ∧ J'.row = J.row ∧ J'.A = J.A) ∨
       (e = .returned (.int .i64 17) ∧ m.fused = true ∧ m'.dark = true ∧ JP w0 w' J m' ∧ TornJ m' J R S)) := by
  have hla := h.last
  have hfew := h.few
  have hpe := h.pend
  have hok := h.jp.ok
  have hn : J.fr + (J.tt - J.fr) ≤ m.n := by have := hok.lo; have := hok.hi; omega
  by_cases hS : S = []
  · subst hS
    have hp0 : J.pend = 0 := by rw [hpe]; rfl
    refine (commit_any h.jp (hl.mono (by omega)) (fun hh => absurd hp0 hh) (by omega)).mono ?_
    unfold cmM cmJ
    rw [if_pos hp0, if_pos hp0]
    rintro e w' ⟨rfl, p1, p2⟩
    refine ⟨p2, m.flush, (show LowS m (k + 1) from hl.mono (by omega)).flush, (mod_flush_n m).1, (mod_flush_n m).2, ?_⟩
    by_cases hr : m.flushR = 0
    · left
      obtain ⟨f1, f2, f3, f4, f5, f6⟩ := flush_ok hr
      refine ⟨by rw [hr], f3, J, c, ⟨p1, ⟨f5, f4, fun p j => by rw [f6]; exact h.quiet.cont _ _⟩, by rw [h.row, List.append_nil, List.append_nil], by rw [List.append_nil]; exact h.kept, hp0, ?_, h.len, h.e0, h.room, by simpa using h.small⟩, ⟨rfl, rfl, rfl, rfl, rfl, rfl⟩, rfl, rfl⟩
      rw [(mod_flush_n m).2, List.append_nil]
      exact h.clean
    · right
      obtain ⟨f1, f2⟩ := flush_no h.quiet.dark hr
      refine ⟨by rw [f1], ?_, by rw [f2], p1, fun p => .inl ?_⟩
      · cases hf : m.fused with
        | true => rfl
        | false => exact absurd (no_err_f h.quiet.dark hf) hr
      · have e1 : (fun j => m.flush.cont p j) = c := by
          funext j
          rw [f2]
          exact h.quiet.cont p j
        rw [(mod_flush_n m).2, e1]
        exact h.clean.stands
  · have hp0 : J.pend ≠ 0 := by
      rw [hpe]
      intro hh
      exact hS (List.eq_nil_of_length_eq_zero hh)
    obtain ⟨c1, c2, c3, c4, c5⟩ := commit_out h.quiet (J.tt - J.fr) R S hn hok.size hok.f1 h.row h.kept hS h.len h.clean
    refine (commit_any h.jp (hl.mono (by omega)) (fun _ => c1) (by omega)).mono ?_
    unfold cmM cmJ
    rw [if_neg hp0, if_neg hp0]
    rintro e w' ⟨rfl, p1, p2⟩
    refine ⟨p2, (wrM J m).1, LowS.wr (hl.mono (by omega)), c4, c5, ?_⟩
    by_cases hr : (wrM J m).2 = 0
    · left
      rw [if_pos hr] at p1
      obtain ⟨c', d1, d2, d3⟩ := c2 hr
      refine ⟨by rw [hr], d2, _, c', ⟨p1, d1, by rw [List.append_nil]; exact h.row, ?_, rfl, ?_, h.len, h.e0, h.room, by rw [List.append_nil]; exact h.small⟩, ⟨rfl, rfl, rfl, rfl, rfl, rfl⟩, rfl, rfl⟩
      · show J.row.length = _
        rw [h.row]
      · rw [c5]
        show Clean _ _ _ _ (rowR J.f J.e (R ++ S))
        rw [← h.row]
        exact d3
    · right
      rw [if_neg hr] at p1
      obtain ⟨d1, d2, d3, d4⟩ := c3 hr
      refine ⟨by rw [d1], d3, d2, p1, fun p => ?_⟩
      rw [c5, ← h.row]
      exact d4 p
/-- opened where records stand. -/
theorem openS {dp fr tt e f : Nat} (h : OwnA (fun _ => False) w0 w dp m) (hq : Quiet m c) (h1 : fr < tt) (h2 : tt ≤ m.n) (h3 : m.n ≤ 98) (hs : m.size = f + 4) (hf : 60 ≤ f) (hf2 : f ≤ 1020) (he : e < 4294967296) (h0 : e ≠ 0) (hR : ∀ b ∈ R, b.length ≤ 10000)
    (hroom : (tt - fr) * f ≤ 10000) (hlen : (rowR f e R).length ≤ (tt - fr) * f) (hst : Stands (seen m.size fr c) e f (tt - fr) (rowR f e R)) (k : Nat) (hl : LowS m (k + 700)) :
    Calls Try.prog 9 #[.pointer (some ⟨dp, 0, none⟩), .int .i64 (fr : Nat), .int .i64 (tt : Nat), .int .u32 (e : Nat)] w fun r w' => Still w w' ∧ ∃ m', LowS m' k ∧ m'.n = m.n ∧ m'.size = m.size ∧
      ((∃ J c', r = .returned (.tuple #[J.ptr, .int .i64 0]) ∧ m'.fused = m.fused ∧ Live w0 w' J m' c' R [] ∧ w.heap.size ≤ J.p ∧ J.dp = dp ∧ J.fr = fr ∧ J.tt = tt ∧ J.f = f ∧ J.e = e ∧ (∀ x, ob J.A = some x → w.heap.size ≤ x)) ∨
       (r = .returned (.tuple #[.pointer none, .int .i64 17]) ∧ m.fused = true ∧ m'.dark = true ∧ OwnA (fun _ => False) w0 w' dp m' ∧ ∀ p, Stands (seen m'.size fr fun k => m'.cont p k) e f (tt - fr) (rowR f e R))) := by
  obtain ⟨o1, o2, o3, o4, o5, o6, o7⟩ := open_out hq fr tt e f R h1 h2 hs hf he h0 hR hlen hst
  have hlow : LowS (opM m fr tt e).1 k := by
    unfold opM
    generalize (((opR m fr tt e).take (opE m fr tt e)).length + (m.size - 4) - 1) / (m.size - 4) = z
    exact LowS.clr _ _ _ _ _ _ _ (hl.mono (by omega))
  refine (jopen_good h fr tt e h1 h2 h3 (by omega) (by omega) he (hl.mono (by omega)) hq.dark).mono ?_
  rintro r w' ⟨s1, s2⟩
  refine ⟨s1, (opM m fr tt e).1, hlow, o6, o7, ?_⟩
  unfold Opened at s2
  by_cases hr : (opM m fr tt e).2 = 0
  · rw [if_pos hr] at s2
    obtain ⟨p, A, rfl, t1, t2, t3⟩ := s2
    obtain ⟨c', d1, d2, d3⟩ := o4 hr
    have hf4 : m.size - 4 = f := by omega
    left
    refine ⟨opJ m p dp fr tt e A, c', rfl, d2, ⟨t2, d1, ?_, ?_, rfl, ?_, ?_, h0, ?_, by simpa using hR⟩, t1, rfl, rfl, rfl, hf4, rfl, t3⟩
    · show (opR m fr tt e).take (opE m fr tt e) = rowR (m.size - 4) e (R ++ [])
      rw [o3, hf4, List.append_nil]
    · show opE m fr tt e = (rowR (m.size - 4) e R).length
      rw [o2, hf4]
    · show Clean (seen (opM m fr tt e).1.size fr c') e (m.size - 4) (tt - fr) (rowR (m.size - 4) e R)
      rw [o7, hf4]
      exact d3
    · show ((opR m fr tt e).take (opE m fr tt e)).length ≤ (tt - fr) * (m.size - 4)
      rw [o3, hf4]
      exact hlen
    · show (tt - fr) * (m.size - 4) ≤ 10000
      rw [hf4]
      exact hroom
  · rw [if_neg hr] at s2
    obtain ⟨rfl, t1⟩ := s2
    obtain ⟨d1, d2, d3, d4⟩ := o5 hr
    right
    refine ⟨by rw [d1], d3, d2, t1, fun p => ?_⟩
    rw [o7]
    exact d4 p
end
end Go.Proofs.Ythoihlebplmcoaa
