/- JournalLasts, at every input. -/
import Derived.Test.YthoihlebplmcoaaJ7
import Derived.Deep.CutBlock
namespace Go.Proofs.Ythoihlebplmcoaa
open Go.RowKit
set_option linter.unusedVariables false
theorem wpList_append_want {P : Program} (w : World) {ops : Array Oper} {rest : List Oper} {o : Oper} {a : Act} {Q : Exit → Act → World → Prop} (hw : Region.wanted o (yielded ops a.tmps) = true) (s x : Operand) (t tn : TypeId)
    (ho : o.op = .call { callee := .builtin .append, args := #[s, x], argTypes := #[t, tn] }) (vs vx : Value) (hs : a.eval s = vs) (hx : a.eval x = vx)
    (v' : Value) (w' : World) (hr : (Builtin.append_ #[t, tn] o.type #[vs, vx]).run P w = .ok v' w') (h : wpList P ops Q rest (a.put o.dst v') w') : wpList P ops Q (o :: rest) a w :=
  BigFrame.wpList_want hw fun _ hK => Lib.wp_append_run w s x t tn ho vs vx hs hx v' w' hr (hK _ _ h)
theorem Quiet.fuse {m : Mod} {c : Nat → List UInt8} (h : Quiet m c) (n : Int) : Quiet (m.fuseTo n) c := ⟨h.waits, h.dark, h.cont⟩
/-- one more is added, or there is no room; what else stands. -/
theorem Live.adds {w0 w : World} {J : Jd} {m : Mod} {c : Nat → List UInt8} {R S : List (List UInt8)} {dp fr tt f e : Nat} (h : Live w0 w J m c R S) (ha : At J dp fr tt f e) (B : Option Addr) (d : Nat) (b : List UInt8) (hB : Holds w B b) (hBo : b = [] ∨ ∀ x : Addr, B = some x → x.block < w0.heap.size) (hn : b.length ≤ 9223372036854775807) :
    Calls Try.prog 12 #[J.ptr, .slice B b.length d] w fun r w' => Stay (ob J.A) w w' ∧ ((r = .returned (.int .i64 0) ∧ ∃ J', Live w0 w' J' m c R (S ++ [b]) ∧ At J' dp fr tt f e ∧ J'.ptr = J.ptr) ∨ (r = .returned (.int .i64 12) ∧ Live w0 w' J m c R S)) := by
  by_cases hroom : beg J.f J.row.length + (b.length + 12) ≤ (J.tt - J.fr) * J.f
  · refine (h.add_ok2 B d b hB (hBo.imp id fun g x hx => h.off (g x hx)) hroom).mono ?_
    rintro r w' ⟨rfl, J', h1, h2, h3, h4, -⟩
    exact ⟨h4, .inl ⟨rfl, J', h1, ha.same h2, h2.ptr⟩⟩
  · refine (h.full B d b.length hn (by omega)).mono ?_
    rintro r w' ⟨rfl, k, rfl⟩
    exact ⟨(Still.of_below (below_drewN (Below.refl _ _) k)).stay _, .inr ⟨rfl, h.below (below_drewN (Below.refl _ _) k)⟩⟩
theorem dark_any {a : Nat → Prop} {w0 w : World} {p : Nat} {m : Mod} (h : OwnA a w0 w p m) : Calls Try.prog 11 #[.pointer (some ⟨p, 0, none⟩)] w fun e w' => e = .returned (.bool m.dark) ∧ w = w' := by
  obtain ⟨F, hF, _⟩ := h.own
  exact hF.dark.mono fun _ _ hh => ⟨hh.1, hh.2.symm⟩
/-- a byte string that came in is appended to the list. -/
theorem append_one {w0 w : World} {J : Jd} {m : Mod} {c : Nat → List UInt8} {R S : List (List UInt8)} {v : Value} {al : List (List UInt8)} (h : Live w0 w J m c R S) (ha : ARow w0 w w0.heap.size v al) (B : Option Addr) (d : Nat) (b : List UInt8) (hB : Holds w0 B b) (hn : al.length ≤ 1000) :
    ∃ A' c' w', Sem.run Try.prog (Builtin.append_ #[23, 23] 23 #[v, .slice (some ⟨w.heap.size, 0, none⟩) 1 1]) (w.alloc (.cells #[.slice B b.length d] 35)) = .ok (.slice A' (al.length + 1) c') w' ∧ ARow w0 w' w0.heap.size (.slice A' (al.length + 1) c') (al ++ [b]) ∧ Live w0 w' J m c R S := by
  have hb : Below w.heap.size w (w.alloc (.cells #[.slice B b.length d] 35)) := (Below.refl _ _).alloc (Nat.le_refl _) _
  have h1 := h.below hb
  have ha1 := ha.still (Still.of_below hb)
  obtain ⟨v', w', hr, ha2, hg⟩ := append_list ha1 ⟨w.heap.size, 0, none⟩ 1 [⟨B, d, b⟩] (fun i hi => by
    have h0 : i = 0 := by simp at hi; omega
    subst h0
    exact cell_one_new w _ _ 0 _ rfl) (fun y hy => by
    have : y = ⟨B, d, b⟩ := by simpa using hy
    subst this
    exact hB) (by simp; omega) h1.jp.own.bel.size
  have hl2 : Live w0 w' J m c R S := h1.elsewhere (Touch.of_grown hg) fun k hk => by
    have hk' : v.ownBlock = some k := by simpa using hk
    obtain ⟨xs, _, ho, _⟩ := ha1.rows
    obtain ⟨cs, hc⟩ := row_kind ho hk'
    exact ⟨own_ge ho hk', cs, _, hc⟩
  obtain ⟨A', c', rfl, -, -⟩ := ha2.lists hl2.jp.own.bel
  have e1 : (al ++ bbs [⟨B, d, b⟩]).length = al.length + 1 := by simp [bbs]
  rw [e1] at hr ha2
  exact ⟨A', c', w', hr, ha2, hl2⟩
/-- one byte that was built is added, or there is no room. -/
theorem Live.ones {w0 w : World} {J : Jd} {m : Mod} {c : Nat → List UInt8} {R S : List (List UInt8)} {dp fr tt f e : Nat} (h : Live w0 w J m c R S) (ha : At J dp fr tt f e) (x : UInt8) (mk : Nat × Nat) :
    Calls Try.prog 12 #[J.ptr, .slice (some ⟨w.heap.size, 0, none⟩) 1 1] (w.alloc (.cells #[.int .u8 (x.toNat : Nat)] 5 mk)) fun r w' => Stay (ob J.A) w w' ∧ Below w0.heap.size w0 w' ∧ ((r = .returned (.int .i64 0) ∧ ∃ J', Live w0 w' J' m c R (S ++ [[x]]) ∧ At J' dp fr tt f e ∧ J'.ptr = J.ptr) ∨ r = .returned (.int .i64 12)) := by
  have hb : Below w.heap.size w (w.alloc (.cells #[.int .u8 (x.toNat : Nat)] 5 mk)) := (Below.refl _ _).alloc (Nat.le_refl _) _
  by_cases hroom : beg J.f J.row.length + (1 + 12) ≤ (J.tt - J.fr) * J.f
  · refine ((h.below hb).add_ok (some ⟨w.heap.size, 0, none⟩) 1 [x] (one_held w x mk) (h.away (Nat.le_refl _)) hroom).mono ?_
    rintro r w' ⟨rfl, J', h1, h2, h3, h4, -⟩
    exact ⟨((Still.of_below hb).stay _).trans h4 (.inl rfl), h1.jp.own.bel, .inl ⟨rfl, J', h1, ha.same h2, h2.ptr⟩⟩
  · refine ((h.below hb).full (some ⟨w.heap.size, 0, none⟩) 1 1 (by omega) (by omega)).mono ?_
    rintro r w' ⟨rfl, k, rfl⟩
    have h2 := (h.below hb).below (below_drewN (Below.refl _ _) k)
    exact ⟨((Still.of_below hb).trans (Still.of_below (below_drewN (Below.refl _ _) k))).stay _, h2.jp.own.bel, .inr rfl⟩
theorem LRow.shape {w : World} {base : Nat} {v : Value} {l : List (List UInt8)} (h : LRow w base v l) : ∃ A c, v = .slice A l.length c ∧ Lists w A l ∧ ((A = none ∧ c = 0) ∨ ∃ a, A = some a) := by
  obtain ⟨A, c, rfl, h1, -⟩ := h.lists
  obtain ⟨ys, hy, hb⟩ := h.rows
  obtain ⟨-, h2⟩ := hb.row
  rcases h2 with ⟨e, -⟩ | ⟨g, cap, cur, e, -⟩
  · cases A with
    | none =>
      refine ⟨none, c, rfl, h1, .inl ⟨rfl, ?_⟩⟩
      simp at e
      exact e.2
    | some a => simp at e
  · cases A with
    | none => simp at e
    | some a => exact ⟨some a, c, rfl, h1, .inr ⟨a, rfl⟩⟩
/-- what the law appends: a list, and a byte string of one byte. -/
theorem append_two {w : World} (A : Option Addr) (c : Nat) (m : List (List UInt8)) (hA : (A = none ∧ c = 0) ∨ ∃ a, A = some a) (hm : Lists w A m) (hn : m.length ≤ 1000) (x : UInt8) :
    ∃ v1 w2, Sem.run Try.prog (Builtin.append_ #[23, 23] 23 #[.slice (some ⟨w.heap.size, 0, none⟩) 0 0, .slice A m.length c]) (w.alloc (.cells #[] 35)) = .ok v1 w2 ∧
    ∃ A' c' w4, Sem.run Try.prog (Builtin.append_ #[23, 23] 23 #[v1, .slice (some ⟨w2.heap.size + 1, 0, none⟩) 1 1]) ((w2.alloc (.cells #[.int .u8 (x.toNat : Nat)] 5)).alloc (.cells #[.slice (some ⟨w2.heap.size, 0, none⟩) 1 1] 35)) = .ok (.slice A' (m.length + 1) c') w4 ∧ Lists w4 A' (m ++ [[x]]) ∧ Below w.heap.size w w4 := by
  have b1 : Below w.heap.size w (w.alloc (.cells #[] 35)) := (Below.refl _ _).alloc (Nat.le_refl _) _
  have r1 : ARow w (w.alloc (.cells #[] 35)) w.heap.size (.slice (some ⟨w.heap.size, 0, none⟩) 0 0) [] := ⟨[], rfl, World.ownsRow_lit w #[] 0 (Nat.le_refl _) (by unfold maxLen; omega) rfl, by simp⟩
  obtain ⟨v1, w2, hr1, r2, g1⟩ := append_all r1 A c m hA (hm.below b1) (fun i hi B a d e hc => by
    obtain ⟨g, o, B', d', e', hlt, hc', hh⟩ := hm i hi
    rw [e] at e'
    cases e'
    rw [Addr.add_lit, (b1.cell (p := ⟨g, o + i, none⟩) hlt), hc'] at hc
    cases hc
    exact hh) (by simp; omega) b1.size
  rw [List.nil_append] at r2
  have own1 : ∀ k, (Value.slice (some ⟨w.heap.size, 0, none⟩) 0 0).ownBlock = some k → w.heap.size ≤ k := fun k hk => by
    cases hk
    exact Nat.le_refl _
  have b2 : Below w.heap.size w w2 := below_grown b1 g1 own1
  refine ⟨v1, w2, hr1, ?_⟩
  have b3 : Below w2.heap.size w2 ((w2.alloc (.cells #[.int .u8 (x.toNat : Nat)] 5)).alloc (.cells #[.slice (some ⟨w2.heap.size, 0, none⟩) 1 1] 35)) := ((Below.refl _ _).alloc (Nat.le_refl _) _).alloc (by simp) _
  obtain ⟨W3, hW3⟩ : ∃ W3, W3 = (w2.alloc (.cells #[.int .u8 (x.toNat : Nat)] 5)).alloc (.cells #[.slice (some ⟨w2.heap.size, 0, none⟩) 1 1] 35) := ⟨_, rfl⟩
  rw [← hW3] at b3 ⊢
  have hh : Holds W3 (some ⟨w2.heap.size, 0, none⟩) [x] := by
    rw [hW3]
    exact (one_held w2 x (0, 0)).below ((Below.refl _ _).alloc (Nat.le_refl _) _)
  have hc3 : W3.cell? ⟨w2.heap.size + 1, 0, none⟩ = some (.slice (some ⟨w2.heap.size, 0, none⟩) 1 1) := by
    rw [hW3]
    have := cell_one_new (w2.alloc (.cells #[.int .u8 (x.toNat : Nat)] 5)) (.slice (some ⟨w2.heap.size, 0, none⟩) 1 1) 35 0 _ rfl
    rw [World.size_alloc] at this
    exact this
  have r3 : ARow W3 W3 w.heap.size v1 m := by
    obtain ⟨xs, e, ho, he⟩ := (r2.still (Still.of_below b3)).rows
    exact ⟨xs, e, ho, fun y hy => (he y hy).below (below_next b2 b3)⟩
  obtain ⟨v4, w4, hr4, r4, g4⟩ := append_list r3 ⟨w2.heap.size + 1, 0, none⟩ 1 [⟨some ⟨w2.heap.size, 0, none⟩, 1, [x]⟩] (fun i hi => by
    have h0 : i = 0 := by simp at hi; omega
    subst h0
    exact hc3) (fun y hy => by
    have : y = ⟨some ⟨w2.heap.size, 0, none⟩, 1, [x]⟩ := by simpa using hy
    subst this
    exact hh) (by simp; omega) (below_next b2 b3).size
  have b4 : Below w.heap.size w w4 := by
    refine below_grown (below_next b2 b3) g4 fun k hk => ?_
    obtain ⟨xs, _, ho, _⟩ := r3.rows
    exact own_ge ho hk
  have hh4 : Holds w4 (some ⟨w2.heap.size, 0, none⟩) [x] := hh.touch (Touch.of_grown g4) fun a ha hm => by
    cases ha
    have hm' : v1.ownBlock = some w2.heap.size := by simpa using hm
    obtain ⟨xs, _, ho, _⟩ := r2.rows
    obtain ⟨cs, hc⟩ := row_kind ho hm'
    have := (Array.getElem?_eq_some_iff.1 hc).1
    omega
  have r5 : ARow w4 W3 w.heap.size v1 m := by
    obtain ⟨xs, e, ho, he⟩ := (r2.still (Still.of_below b3)).rows
    exact ⟨xs, e, ho, fun y hy => (he y hy).below b4⟩
  obtain ⟨v6, w6, hr6, r6, -⟩ := append_list r5 ⟨w2.heap.size + 1, 0, none⟩ 1 [⟨some ⟨w2.heap.size, 0, none⟩, 1, [x]⟩] (fun i hi => by
    have h0 : i = 0 := by simp at hi; omega
    subst h0
    exact hc3) (fun y hy => by
    have : y = ⟨some ⟨w2.heap.size, 0, none⟩, 1, [x]⟩ := by simpa using hy
    subst this
    exact hh4) (by simp; omega) (below_next b2 b3).size
  have hr7 := hr4.symm.trans hr6
  simp only [Result.ok.injEq] at hr7
  obtain ⟨rfl, rfl⟩ := hr7
  obtain ⟨A', c', rfl, hl, -⟩ := r6.lists (Below.refl _ _)
  have e1 : (m ++ bbs [⟨some ⟨w2.heap.size, 0, none⟩, 1, [x]⟩]).length = m.length + 1 := by simp [bbs]
  rw [e1] at hr4
  exact ⟨A', c', _, hr4, hl, b4⟩
set_option maxRecDepth 100000 in
set_option maxHeartbeats 2000000 in
theorem journalLasts_all (s0 : Int) (hs0 : -9223372036854775808 ≤ s0 ∧ s0 ≤ 9223372036854775807) (e : Nat) (he : e < 4294967296) (A : Option Addr) (c : Nat) (l : List (List UInt8)) (ev : Nat) (hev : ev < 256) (fu : Int) (hfu : -9223372036854775808 ≤ fu ∧ fu ≤ 9223372036854775807) (ag : Int) (hag : -9223372036854775808 ≤ ag ∧ ag ≤ 9223372036854775807) (pa : Nat) (hpa : pa < 18446744073709551616) (w : World) (hl : CameL w A l) :
    Calls Try.prog 3 #[.int .i64 s0, .int .u32 (e : Nat), .slice A l.length c, .int .u8 (ev : Nat), .int .i64 fu, .int .i64 ag, .int .u64 (pa : Nat)] w fun r w' => r = .returned (.bool true) ∧ Below w.heap.size w w' := by
  have AW := Lib.hid (awake9 w)
  by_cases hb : badNew 9 s0
  · have NB := Lib.hid fun W => new_bad 9 s0 W hb
    clear hb
    go_enter Try.func3, Try.ntmps3
    go_wp2_with fail
    with_reducible refine AW.out.mono ?_
    rintro r w1 ⟨rfl, b1⟩
    have B1 := Lib.hid b1
    clear b1 AW
    go_wp2_with fail
    with_reducible refine (NB.out _).mono ?_
    rintro r w2 ⟨rfl, rfl⟩
    clear NB
    go_wp2_with fail
    go_ret
    exact ⟨rfl, B1.out⟩
  have hz : 64 ≤ s0 ∧ s0 ≤ 1024 := by unfold badNew at hb; omega
  obtain ⟨z, rfl⟩ : ∃ z : Nat, s0 = (z : Nat) := ⟨s0.toNat, by omega⟩
  have hz1 : 64 ≤ z := by omega
  have hz2 : z ≤ 1024 := by omega
  clear hb hz
  have HL := Lib.hid hl
  have hfew := hl.few
  clear hl
  by_cases h0 : e = 0
  · subst h0
    go_enter Try.func3, Try.ntmps3
    go_wp2_with fail
    with_reducible refine AW.out.mono ?_
    rintro r w1 ⟨rfl, b1⟩
    have N := Lib.hid (OwnA.newA (a := fun _ => False) w 9 z w1 b1 (by omega) (by omega) hz1 hz2)
    clear b1 AW
    go_wp2_with fail
    refine N.out.mono ?_
    rintro r w2 ⟨p, rfl, o2, -⟩
    have B2 := Lib.hid o2.bel
    clear N o2
    go_wp2_with fail
    go_ret
    exact ⟨rfl, B2.out⟩
  have h0i : ¬ (e : Int) = 0 := by omega
  go_enter Try.func3, Try.ntmps3
  go_wp2_with fail
  with_reducible refine AW.out.mono ?_
  rintro r w1 ⟨rfl, b1⟩
  have N := Lib.hid (OwnA.newA (a := fun _ => False) w 9 z w1 b1 (by omega) (by omega) hz1 hz2)
  clear b1 AW
  go_wp2_with fail
  refine N.out.mono ?_
  rintro r w2 ⟨p, rfl, o2, -⟩
  have ON := Lib.hid (open_new o2 2 9 e (by omega) (by omega) (by omega) hz1 hz2 he h0 (by omega))
  clear N o2
  go_wp2_with fail
  refine ON.out.mono ?_
  rintro r w3 ⟨J0, rfl, v3, a3, -⟩
  have FU := v3.jp.fuse fu
  rw [a3.dp] at FU
  replace FU := Lib.hid FU
  have V3 := Lib.hid v3
  have A3 := Lib.hid a3
  clear ON v3 a3
  go_wp2_with fail
  refine FU.out.mono ?_
  rintro r w4 ⟨⟨v4, rfl⟩, j4, -⟩
  have V4 : Hid (Live w w4 J0 ((Mod.new 9 z).fuseTo fu) (fun _ => []) [] []) := Lib.hid ⟨j4, Quiet.fuse V3.out.quiet fu, V3.out.row, V3.out.kept, V3.out.pend, V3.out.clean, V3.out.len, V3.out.e0, V3.out.room, V3.out.small⟩
  have L4 : Hid (LowS ((Mod.new 9 z).fuseTo fu) 200000) := Lib.hid ⟨by show 0 + _ ≤ _; omega, by show 0 + _ ≤ _; omega, by show fu.toNat ≤ _; omega⟩
  have Z4 : Hid (((Mod.new 9 z).fuseTo fu).n = 9 ∧ ((Mod.new 9 z).fuseTo fu).size = z) := Lib.hid ⟨rfl, rfl⟩
  generalize (Mod.new 9 z).fuseTo fu = m4 at *
  clear FU V3 j4
  go_upto_block 0 with fail
  go_cut [19, 20, 21, 22] from 51 to 92 (fun s19 s20 s21 s22 wc => ∃ (al : List (List UInt8)) (k tr : Nat) (m : Mod), s20 = .int .i64 (k : Nat) ∧ s21 = .int .i64 (tr : Nat) ∧ ARow w wc w.heap.size s19 al ∧ Fell w wc p m z e al k tr)
  case first =>
    have R4 : Hid (ARow w (w4.alloc (.cells #[] 35)) w.heap.size (.slice (some ⟨w4.heap.size, 0, none⟩) 0 0) []) := Lib.hid ⟨[], rfl, World.ownsRow_lit w4 #[] 0 V4.out.jp.own.bel.size (by unfold maxLen; omega) rfl, by simp⟩
    have V5 : Hid (Live w (w4.alloc (.cells #[] 35)) J0 m4 (fun _ => []) [] []) := Lib.hid (V4.out.below ((Below.refl _ _).alloc (Nat.le_refl _) _))
    generalize w4.alloc (.cells #[] 35) = w5 at *
    clear V4
    go_wp2_with fail
    go_loopg [19, 20, 21, 22] 101 (fun j s19 s20 s21 s22 wr => ∃ (i k tr : Nat) (A19 : Option Addr) (c19 : Nat) (m : Mod), i ≤ 100 ∧ 100 < i + j ∧ i ≤ l.length ∧ s22 = .int .i64 (i : Nat) ∧ s20 = .int .i64 (k : Nat) ∧ s21 = .int .i64 (tr : Nat) ∧ s19 = .slice A19 i c19 ∧ ARow w wr w.heap.size (.slice A19 i c19) (l.take i) ∧
      ((m.dark = true ∧ Fell w wr p m z e (l.take i) k tr) ∨ (∃ J c R S, Live w wr J m c R S ∧ At J p 2 9 (z - 4) e ∧ J.ptr = J0.ptr ∧ LowS m (100000 + 500 * (100 - i)) ∧ m.n = 9 ∧ m.size = z ∧ l.take i = R ++ S ∧ k = R.length ∧ tr = R.length)))
    case atStart => exact ⟨0, 0, 0, _, _, m4, by omega, by omega, Nat.zero_le _, rfl, rfl, rfl, rfl, R4.out, .inr ⟨J0, _, [], [], V5.out, A3.out, rfl, L4.out.mono (by omega), Z4.out.1, Z4.out.2, rfl, rfl, rfl⟩⟩
    case round =>
      obtain ⟨i, k, tr, A19, c19, m, hi, hj, hil, rfl, rfl, rfl, rfl, har, hst⟩ := hrel
      have AR := Lib.hid har
      have FE : Fell w wr p m z e (l.take i) k tr := by
        rcases hst with ⟨-, h⟩ | ⟨J, c, R, S, h1, h2, h3, h4, h5, h6, h7, h8, h9⟩
        · exact h
        · have hlen := congrArg List.length h7
          rw [List.length_take, List.length_append] at hlen
          rw [h7, h8, h9]
          exact h1.fell h2 h5 h6 (h4.mono (by omega)) (by omega)
      replace FE := Lib.hid FE
      have D := Lib.hid (dark_any FE.out.own)
      replace hst := Lib.hid hst
      clear har R4 V5 L4 Z4
      by_cases hlt : i < l.length
      case neg =>
        have hge : ¬ (i : Int) < (l.length : Int) := by omega
        go_wp2_with fail
        go_meet
        exact ⟨_, k, tr, m, rfl, rfl, AR.out, FE.out⟩
      have hlti : (i : Int) < (l.length : Int) := by omega
      by_cases hlt2 : i < 100
      case neg =>
        have hge : ¬ (i : Int) < 100 := by omega
        go_wp2_with fail
        go_meet
        exact ⟨_, k, tr, m, rfl, rfl, AR.out, FE.out⟩
      have hlti2 : (i : Int) < 100 := by omega
      rcases hst.out with ⟨hdk, -⟩ | ⟨J, cc, R, S, v, a, hp, hlo, hn, hzz, hre, hk, htr⟩
      · rw [hdk] at D
        clear hst
        go_wp2_with fail
        with_reducible refine D.out.mono ?_
        rintro r w6 ⟨rfl, rfl⟩
        go_wp2_with fail
        go_meet
        exact ⟨_, k, tr, m, rfl, rfl, AR.out, FE.out⟩
      rw [v.quiet.dark] at D
      obtain ⟨g, o, B, cb, rfl, km, n1⟩ := HL.out.all hlt
      have hbn := HL.out.small l[i] (List.getElem_mem _)
      have htk : l.take (i + 1) = l.take i ++ [l[i]] := by rw [List.take_succ_eq_append_getElem hlt]
      have hli : (l.take i).length = i := by rw [List.length_take]; omega
      obtain ⟨b, hbe⟩ : ∃ b, l[i] = b := ⟨_, rfl⟩
      rw [hbe] at hbn n1 htk
      simp only [hbe] at km
      have kc := (km _ v.jp.own.bel).1
      have AD := v.adds a B cb b (km _ v.jp.own.bel).2 n1 hbn
      rw [hp] at AD
      replace AD := Lib.hid AD
      replace km := Lib.hid km
      have HX := Lib.hid (And.intro htk (And.intro hli (And.intro hre (And.intro hk htr))))
      have HM := Lib.hid (And.intro hlo (And.intro hn hzz))
      replace hp := Lib.hid hp
      have VV := Lib.hid v
      have AT := Lib.hid a
      clear hst v a hlo hn hzz hre hk htr htk hli hbe
      go_wp2_with fail
      with_reducible refine D.out.mono ?_
      rintro r w6 ⟨rfl, rfl⟩
      go_wp2_with fail
      with_reducible refine AD.out.mono ?_
      rintro r w7 ⟨st, ⟨rfl, J7, v7, a7, p7⟩ | ⟨rfl, v7⟩⟩
      case inr =>
        have AR7 := Lib.hid (AR.out.stay st fun k hk => (VV.out.jp.ob_lt hk).1)
        have FE7 : Hid (Fell w w7 p m z e (l.take i) k tr) := Lib.hid (by
          obtain ⟨-, hli, hre, hk, htr⟩ := HX.out
          have hlen := congrArg List.length hre
          rw [hli, List.length_append] at hlen
          rw [hre, hk, htr]
          exact v7.fell AT.out HM.out.2.1 HM.out.2.2 (HM.out.1.mono (by omega)) (by omega))
        clear st v7 AD D VV
        go_wp2_with fail
        go_meet
        exact ⟨_, k, tr, m, rfl, rfl, AR7.out, FE7.out⟩
      have AR7 := AR.out.stay st fun k hk => (VV.out.jp.ob_lt hk).1
      obtain ⟨A8, c8, w8, hap, ar8, v8⟩ := append_one v7 AR7 B cb b (km.out _ (Below.refl _ _)).2 (by rw [HX.out.2.1]; omega)
      rw [HX.out.2.1] at hap ar8
      rw [← HX.out.1] at ar8
      have kc7 := (km.out _ v7.jp.own.bel).1
      have HAP := Lib.hid hap
      have AR8 := Lib.hid ar8
      have V8 := Lib.hid v8
      have A7 := Lib.hid a7
      replace p7 := Lib.hid p7
      clear AD st AR7 v7 a7 hap ar8 v8 AR FE VV D
      have CM := V8.out.commit (100000 + 500 * (100 - (i + 1))) (HM.out.1.mono (by omega))
      rw [p7.out] at CM
      replace CM := Lib.hid CM
      go_wp2_with (at_builtin; refine Lib.wpList_append_run _ rfl (.tmp 73) (.tmp 78) 23 23 rfl _ _ rfl rfl _ _ HAP.out ?_)
      · refine CM.out.mono ?_
        rintro r w9 ⟨st9, m9, l9, n9, z9, ⟨rfl, f9, J9, c9, v9, s9, -, -⟩ | ⟨rfl, -, d9, j9, t9⟩⟩
        · have AR9 := Lib.hid (AR8.out.stay (st9 none) fun k hk => by cases hk)
          have V9 : Hid (∃ J c R S, Live w w9 J m9 c R S ∧ At J p 2 9 (z - 4) e ∧ J.ptr = J0.ptr ∧ LowS m9 (100000 + 500 * (100 - (i + 1))) ∧ m9.n = 9 ∧ m9.size = z ∧ l.take (i + 1) = R ++ S ∧ i + 1 = R.length ∧ i + 1 = R.length) := Lib.hid (by
            obtain ⟨htk, hli, hre, hk, htr⟩ := HX.out
            have hlen := congrArg List.length hre
            rw [hli, List.length_append] at hlen
            have hl2 : i + 1 = (R ++ (S ++ [b])).length := by rw [List.length_append, List.length_append, List.length_singleton]; omega
            exact ⟨J9, c9, R ++ (S ++ [b]), [], v9, A7.out.same s9, s9.ptr.trans p7.out, l9, n9.trans HM.out.2.1, z9.trans HM.out.2.2, by rw [htk, hre, List.append_nil, List.append_assoc], hl2, hl2⟩)
          clear CM V8 AR8 st9 l9 n9 z9 f9 v9 s9
          go_wp2_with fail
          go_roundg (100 - i)
          case measure => omega
          case rel => exact ⟨i + 1, i + 1, i + 1, A8, c8, m9, by omega, by omega, by omega, by go_num, by go_num, by go_num, rfl, AR9.out, .inr V9.out⟩
        · have AR9 := Lib.hid (AR8.out.stay (st9 none) fun k hk => by cases hk)
          have V9 : Hid (m9.dark = true ∧ Fell w w9 p m9 z e (l.take (i + 1)) k (i + 1)) := Lib.hid (by
            obtain ⟨htk, hli, hre, hk, htr⟩ := HX.out
            have hlen := congrArg List.length hre
            rw [hli, List.length_append] at hlen
            have h1 := V8.out.torn A7.out j9 t9 (n9.trans HM.out.2.1) (z9.trans HM.out.2.2) (l9.mono (by omega)) (by rw [List.length_append, List.length_singleton]; omega)
            have hl2 : (R ++ (S ++ [b])).length = i + 1 := by rw [List.length_append, List.length_append, List.length_singleton]; omega
            rw [hl2, ← hk] at h1
            rw [htk, hre, List.append_assoc]
            exact ⟨d9, h1⟩)
          clear CM V8 AR8 st9 l9 n9 z9 d9 j9 t9
          go_wp2_with fail
          go_roundg (100 - i)
          case measure => omega
          case rel => exact ⟨i + 1, k, i + 1, A8, c8, m9, by omega, by omega, by omega, by go_num, by go_num, by go_num, rfl, AR9.out, .inl V9.out⟩
      · have V9 : Hid (∃ J c R S, Live w w8 J m c R S ∧ At J p 2 9 (z - 4) e ∧ J.ptr = J0.ptr ∧ LowS m (100000 + 500 * (100 - (i + 1))) ∧ m.n = 9 ∧ m.size = z ∧ l.take (i + 1) = R ++ S ∧ k = R.length ∧ tr = R.length) := Lib.hid (by
          obtain ⟨htk, hli, hre, hk, htr⟩ := HX.out
          exact ⟨J7, cc, R, S ++ [b], V8.out, A7.out, p7.out, HM.out.1.mono (by omega), HM.out.2.1, HM.out.2.2, by rw [htk, hre, List.append_assoc], hk, htr⟩)
        clear CM V8
        go_roundg (100 - i)
        case measure => omega
        case rel => exact ⟨i + 1, k, tr, A8, c8, m, by omega, by omega, by omega, by go_num, by go_num, by go_num, rfl, AR8.out, .inr V9.out⟩
  case rest =>
    obtain ⟨al, k, tr, m, rfl, rfl, hal, hf⟩ := hcut
    obtain ⟨A19, c19, rfl, -, hle⟩ := hal.lists hf.own.bel
    obtain ⟨n0, hn0, hst⟩ : ∃ n0, (n0 = k ∨ n0 = tr) ∧ Stands (seen z 2 fun j => m.cont pa j) e (z - 4) 7 (rowR (z - 4) e (al.take n0)) := by
      rcases hf.st pa with h | h
      · exact ⟨k, .inl rfl, h⟩
      · exact ⟨tr, .inr rfl, h⟩
    have hn0l : n0 ≤ al.length := by
      rcases hn0 with h | h
      · rw [h]; exact hf.kl
      · rw [h]; exact hf.tl
    have hsm : ∀ b ∈ al.take n0, b.length ≤ 10000 := fun b hb => hf.small b (List.mem_of_mem_take hb)
    have hrl : (rowR (z - 4) e (al.take n0)).length ≤ (9 - 2) * (z - 4) := Nat.le_trans (rowR_take _ _ (by omega) _ _) hf.len
    have hfew0 : (al.take n0).length ≤ 100 := by rw [List.length_take]; have := hf.few; omega
    have C1 := Lib.hid (crash_quiet hf.own (by have := hf.low.waits; omega) pa hpa)
    have FF := Lib.hid hf
    have HAL := Lib.hid hal
    have NF := Lib.hid hn0
    have SM := Lib.hid (And.intro hsm (And.intro hrl hst))
    clear hf hal hn0 hsm hrl hst V4 L4 Z4
    go_wp2_with fail
    refine C1.out.mono ?_
    rintro r w6 ⟨⟨v6, rfl⟩, o6, s6, q6⟩
    have F1 := Lib.hid (o6.fuseA (fun _ hk => hk.elim) ag)
    have Q6 := Lib.hid (q6.fuse ag)
    have HAL6 := Lib.hid (HAL.out.still s6)
    clear C1 o6 s6 q6 HAL
    go_wp2_with fail
    refine F1.out.mono ?_
    rintro r w7 ⟨⟨v7, rfl⟩, o7, s7⟩
    have O1 := openS (R := al.take n0) (fr := 2) (tt := 9) (e := e) (f := z - 4) o7 Q6.out (by omega) (by show 9 ≤ m.n; rw [FF.out.n]; omega) (by show m.n ≤ 98; rw [FF.out.n]; omega) (by show m.size = _; rw [FF.out.size]; omega) (by omega) (by omega) he h0 SM.out.1 (by omega) SM.out.2.1 (by show Stands (seen m.size 2 _) _ _ _ _; rw [FF.out.size]; exact SM.out.2.2) 90000 ⟨by show 0 + _ ≤ _; omega, by have := FF.out.low.deeds; show m.deeds + _ ≤ _; omega, by show ag.toNat ≤ _; omega⟩
    replace O1 := Lib.hid O1
    have HAL7 := Lib.hid (HAL6.out.still s7)
    clear F1 o7 s7 HAL6 Q6
    go_wp2_with fail
    refine O1.out.mono ?_
    rintro r w8 ⟨s8, m8, l8, n8, z8, h8⟩
    have R8 : (∃ v, r = .returned v) ∧ Rose w w8 p m8 z e (al.take n0) := by
      have n8' : m8.n = 9 := n8.trans FF.out.n
      have z8' : m8.size = z := z8.trans FF.out.size
      rcases h8 with ⟨J, c', rfl, -, v, -, e1, e2, e3, e4, e5, -⟩ | ⟨rfl, -, -, o8, h8⟩
      · have a := At.mk e1 e2 e3 e4 e5
        have hd := v.disk
        rw [e1] at hd
        refine ⟨⟨_, rfl⟩, hd, n8', z8', l8, fun x => ?_⟩
        have := v.crashed a x
        rw [show (m8.crash x).size = z from z8'] at this
        exact this
      · refine ⟨⟨_, rfl⟩, o8, n8', z8', l8, fun x => ?_⟩
        have := h8 x
        rw [z8'] at this
        exact this
    obtain ⟨⟨v8, rfl⟩, r8⟩ := R8
    have C2 := Lib.hid (crash_quiet r8.own (by have := r8.low.waits; omega) pa hpa)
    have R8 := Lib.hid r8
    have HAL8 := Lib.hid (HAL7.out.still s8)
    clear O1 r8 s8 l8 n8 z8 h8 HAL7 FF
    go_wp2_with fail
    refine C2.out.mono ?_
    rintro r w9 ⟨⟨v9, rfl⟩, o9, s9, q9⟩
    have O2 := openS (R := al.take n0) (fr := 2) (tt := 9) (e := e) (f := z - 4) o9 q9 (by omega) (by show 9 ≤ m8.n; rw [R8.out.n]; omega) (by show m8.n ≤ 98; rw [R8.out.n]; omega) (by show m8.size = _; rw [R8.out.size]; omega) (by omega) (by omega) he h0 SM.out.1 (by omega) SM.out.2.1 (by show Stands (seen m8.size 2 _) _ _ _ _; rw [R8.out.size]; exact R8.out.st pa) 80000 ((R8.out.low.crash pa).mono (by omega))
    replace O2 := Lib.hid O2
    have HAL9 := Lib.hid (HAL8.out.still s9)
    clear C2 o9 s9 q9 HAL8
    go_wp2_with fail
    refine O2.out.mono ?_
    rintro r w10 ⟨s10, m10, l10, n10, z10, ⟨J, c10, rfl, f10, v10, -, e1, e2, e3, e4, e5, -⟩ | ⟨-, hf, -⟩⟩
    case inr => cases hf
    have A10 := Lib.hid (At.mk e1 e2 e3 e4 e5)
    have N10 := Lib.hid (And.intro l10 (And.intro (f10.trans rfl) (And.intro (n10.trans R8.out.n) (z10.trans R8.out.size))))
    have RC := Lib.hid v10.records
    have V10 := Lib.hid v10
    have OB := Lib.hid fun k (hk : ob J.A = some k) => (v10.jp.ob_lt hk).1.lt
    have HAL10 := Lib.hid (HAL9.out.still s10)
    clear O2 s10 l10 n10 z10 f10 v10 e1 e2 e3 e4 e5 HAL9 R8
    go_wp2_with fail
    refine RC.out.mono ?_
    rintro r w11 ⟨vg, rfl, lg, bg⟩
    rw [List.append_nil] at lg
    obtain ⟨Ag, cg, rfl, lsg, -⟩ := lg.lists
    have V11 := Lib.hid (V10.out.below bg)
    have HAL11 := Lib.hid (HAL10.out.still (Still.of_below bg))
    have LG := Lib.hid lg
    have LSG := Lib.hid lsg
    have BW := Lib.hid (below_next V10.out.jp.own.bel bg)
    obtain ⟨A', c', ev', la, -⟩ := HAL11.out.lists BW.out
    cases ev'
    have SA := Lib.hid (refSame_any Ag A19 cg c19 (al.take n0) (al.take n0) w11 lsg (la.take n0) (by omega))
    have hlt : (al.take n0).length = n0 := by rw [List.length_take]; omega
    rw [hlt] at SA
    rw [hlt]
    clear RC lsg lg bg V10 HAL10 la
    go_upto_region 25 with fail
    go_cut [135] (fun s135 wx => s135 = .bool false ∧ Below w11.heap.size w11 wx)
    case first =>
      have hn1 : n0 ≤ c19 := by omega
      rcases NF.out with rfl | rfl
      · go_wp2_with fail
        with_reducible refine SA.out.mono ?_
        rintro r w12 ⟨rfl, b12⟩
        simp only [decide_true]
        go_wp2_with fail
        go_meet
        exact ⟨rfl, b12⟩
      · by_cases hk : n0 = k
        · subst hk
          go_wp2_with fail
          with_reducible refine SA.out.mono ?_
          rintro r w12 ⟨rfl, b12⟩
          simp only [decide_true]
          go_wp2_with fail
          go_meet
          exact ⟨rfl, b12⟩
        · have hki : ¬ (n0 : Int) = (k : Nat) := by omega
          go_wp2_with fail
          with_reducible refine SA.out.mono ?_
          rintro r w12 ⟨rfl, b12⟩
          simp only [decide_true]
          go_wp2_with fail
          go_meet
          exact ⟨rfl, b12⟩
    case rest =>
      obtain ⟨rfl, hbx⟩ := hcut
      have V12 := V11.out.below hbx
      have T := Lib.hid (V12.ones A10.out 7 (0, 0))
      have LG12 := LG.out.below hbx
      rw [hlt] at LG12
      have LGH := Lib.hid LG12
      have OBB := Lib.hid fun k (hk : ob J.A = some k) => (V12.jp.ob_lt hk).1
      clear V11 HAL11 LG LSG BW SA NF V12 LG12 hbx
      go_wp2_with fail
      refine T.out.mono ?_
      rintro r w13 ⟨st, bl, ⟨rfl, J13, v13, a13, p13⟩ | rfl⟩
      case inr =>
        clear T
        go_wp2_with fail
        go_ret
        exact ⟨rfl, bl⟩
      have LG13 := Lib.hid (LGH.out.stay st fun k hk => ⟨OBB.out k hk, OB.out k hk⟩)
      have CM := v13.commit 70000 (N10.out.1.mono (by omega))
      rw [p13] at CM
      replace CM := Lib.hid CM
      have A13 := Lib.hid a13
      clear T st bl v13 a13 p13 LGH OBB OB
      go_wp2_with fail
      refine CM.out.mono ?_
      rintro r w14 ⟨st14, m14, l14, n14, z14, ⟨rfl, f14, J14, c14, v14, s14, -⟩ | ⟨-, hf, -⟩⟩
      case inr =>
        rw [N10.out.2.1] at hf
        cases hf
      have LG14 := Lib.hid (LG13.out.stay (st14 none) fun k hk => by cases hk)
      have a14 := A13.out.same s14
      have d14 := v14.disk
      rw [a14.dp] at d14
      have C3 := Lib.hid (crash_quiet d14 (by have := l14.waits; omega) 0 (by omega))
      have ST := Lib.hid (v14.crashed a14 0)
      have SL := Lib.hid (And.intro (v14.row_len a14) (fun b hb => v14.small b (by rw [List.append_nil]; exact hb)))
      have NN := Lib.hid (And.intro (n14.trans N10.out.2.2.1) (And.intro (z14.trans N10.out.2.2.2) l14))
      clear CM st14 n14 z14 l14 f14 v14 s14 a14 d14 LG13 N10 A13 A10
      go_wp2_with fail
      refine C3.out.mono ?_
      rintro r w15 ⟨⟨v15, rfl⟩, o15, s15, q15⟩
      have O3 := openS (R := al.take n0 ++ ([] ++ [[7]])) (fr := 2) (tt := 9) (e := e) (f := z - 4) o15 q15 (by omega) (by show 9 ≤ m14.n; rw [NN.out.1]; omega) (by show m14.n ≤ 98; rw [NN.out.1]; omega) (by show m14.size = _; rw [NN.out.2.1]; omega) (by omega) (by omega) he h0 SL.out.2 (by omega) SL.out.1 ST.out 60000 ((NN.out.2.2.crash 0).mono (by omega))
      replace O3 := Lib.hid O3
      have LG15 := Lib.hid (LG14.out.still s15)
      clear C3 ST SL o15 q15 s15 LG14 NN
      go_wp2_with fail
      refine O3.out.mono ?_
      rintro r w16 ⟨s16, m16, -, -, -, ⟨J16, c16, rfl, -, v16, -⟩ | ⟨-, hf, -⟩⟩
      case inr => cases hf
      have RC := Lib.hid v16.records
      have LG16 := Lib.hid (LG15.out.still s16)
      have B16 := Lib.hid v16.jp.own.bel
      clear O3 s16 v16 LG15
      go_wp2_with fail
      refine RC.out.mono ?_
      rintro r w17 ⟨v17, rfl, l17, b17⟩
      obtain ⟨A17, c17, rfl, ls17, -⟩ := l17.lists
      have B17 := below_next B16.out b17
      obtain ⟨Ag', cg', eg, lsg, hsh⟩ := (LG16.out.below b17).shape
      have eg2 := eg
      rw [hlt] at eg2
      cases eg2
      obtain ⟨v18, w18, h18, A20, c20, w20, h20, l20, b20⟩ := append_two (w := w17) Ag cg (al.take n0) hsh lsg (by omega) 7
      rw [hlt] at h18 h20
      have S20 := refSame_any A17 A20 c17 c20 (al.take n0 ++ ([] ++ [[7]]) ++ []) (al.take n0 ++ [[7]]) w20 (ls17.below b20) l20 (by simp; omega)
      have e17 : (al.take n0 ++ ([] ++ [[7]]) ++ []).length = n0 + 1 := by simp; omega
      have e20 : (al.take n0 ++ [[7]]).length = n0 + 1 := by simp; omega
      have ed : decide (al.take n0 ++ ([] ++ [[7]]) ++ [] = al.take n0 ++ [[7]]) = true := by simp
      rw [ed, e17, e20] at S20
      rw [e17]
      replace S20 := Lib.hid S20
      have H18 := Lib.hid h18
      have H20 := Lib.hid h20
      have BE := Lib.hid (below_next B17 b20)
      clear RC LG16 B16 B17 l17 b17 ls17 lsg hsh eg h18 h20 l20 b20 e17 e20 ed
      go_wp2_with (at_builtin; first | refine wpList_append_want _ (by rfl) (.tmp 156) (.tmp 157) 23 23 rfl _ _ rfl rfl _ _ H18.out ?_ | refine wpList_append_want _ (by rfl) (.tmp 158) (.tmp 160) 23 23 rfl _ _ rfl rfl _ _ H20.out ?_)
      refine S20.out.mono ?_
      rintro r w21 ⟨rfl, b21⟩
      have BF := Lib.hid (below_next BE.out b21)
      clear S20 H18 H20 BE b21
      go_wp2_with fail
      go_ret
      exact ⟨rfl, BF.out⟩
end Go.Proofs.Ythoihlebplmcoaa
