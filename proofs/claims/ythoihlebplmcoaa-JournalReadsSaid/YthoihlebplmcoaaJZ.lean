/- What is told of a live journal; the chapter's example. -/
import Derived.Test.YthoihlebplmcoaaJ1
namespace Go.Proofs.Ythoihlebplmcoaa
open Go.RowKit
set_option linter.unusedVariables false
theorem stand_row (f e : Nat) (hf : 12 ≤ f) (he : e < 4294967296) (R : List (List UInt8)) (hR : ∀ b ∈ R, b.length ≤ 10000) : standR e f (rowR f e R) = standN f 0 R := by
  have h := parseR f e hf he R [] hR (by rw [List.append_nil]; exact .inl (beg_bounds f _ hf).1)
  rwa [List.append_nil] at h
section
variable {w0 w : World} {J : Jd} {m : Mod} {c : Nat → List UInt8} {R S : List (List UInt8)}
theorem Live.records (h : Live w0 w J m c R S) : Calls Try.prog 15 #[J.ptr] w fun e w' => ∃ v, e = .returned v ∧ LRow w' w.heap.size v (R ++ S) ∧ Below w.heap.size w w' := by
  have hok := h.jp.ok
  refine (callsIn_wide.1 (records_in h.jp (by have := h.len; have := h.room; omega))).mono ?_
  rintro e w' ⟨v, ys, rfl, h1, h2, h3⟩
  refine ⟨v, rfl, ⟨ys, ?_, h2⟩, h3⟩
  rw [h.row, stand_row J.f J.e (by have := hok.f1; omega) hok.e _ h.small] at h1
  have := congrArg (List.map Prod.fst) h1
  rw [standN_fst, List.map_map] at this
  exact this
/-- nothing of a dead journal is left but its disk. -/
theorem Live.disk (h : Live w0 w J m c R S) : OwnA (fun _ => False) w0 w J.dp m := h.jp.own.avoid fun _ hk => hk.elim
theorem crash_quiet {dp : Nat} (h : OwnA (fun _ => False) w0 w dp m) (hw : m.waits ≤ 1000000) (x : Nat) (hx : x < 18446744073709551616) : Calls Try.prog 14 #[.pointer (some ⟨dp, 0, none⟩), .int .u64 (x : Nat)] w fun e w' => (∃ v, e = .returned v) ∧ OwnA (fun _ => False) w0 w' dp (m.crash x) ∧ Still w w' ∧ Quiet (m.crash x) (fun k => m.cont x k) :=
  (h.crashA (fun _ hk => hk.elim) hw x hx).mono fun _ _ hh => ⟨hh.1, hh.2.1, hh.2.2, Quiet.crash x⟩
end
theorem one_held (w : World) (x : UInt8) (mk : Nat × Nat) : Holds (w.alloc (.cells #[.int .u8 (x.toNat : Nat)] 5 mk)) (some ⟨w.heap.size, 0, none⟩) [x] := by
  intro i hi
  have h0 : i = 0 := by simp at hi; omega
  subst h0
  refine ⟨w.heap.size, 0, rfl, by simp, ?_⟩
  rw [World.cell?_alloc_mark]
  rfl
/-- which journal it is. -/
structure At (J : Jd) (dp fr tt f e : Nat) : Prop where
  dp : J.dp = dp
  fr : J.fr = fr
  tt : J.tt = tt
  f : J.f = f
  e : J.e = e
theorem At.same {J J' : Jd} {dp fr tt f e : Nat} (h : At J dp fr tt f e) (s : SameJ J J') : At J' dp fr tt f e :=
  ⟨s.dp.trans h.dp, s.fr.trans h.fr, s.tt.trans h.tt, s.f.trans h.f, s.e.trans h.e⟩
theorem SameJ.ptr {J J' : Jd} (s : SameJ J J') : J'.ptr = J.ptr := by
  show Value.pointer (some ⟨J'.p, 0, none⟩) = Value.pointer (some ⟨J.p, 0, none⟩)
  rw [s.p]
section
variable {w0 w : World} {J : Jd} {m : Mod} {c : Nat → List UInt8} {R S : List (List UInt8)} {dp fr tt f e : Nat}
theorem Live.away (h : Live w0 w J m c R S) {g : Nat} (hg : w.heap.size ≤ g) (x : Addr) (hx : (some ⟨g, 0, none⟩ : Option Addr) = some x) : ob J.A ≠ some x.block ∧ J.p ≠ x.block := by
  cases hx
  refine ⟨fun e => ?_, fun e => ?_⟩
  · have e' : ob J.A = some g := e
    have := (h.jp.ob_lt e').1.lt
    omega
  · have e' : J.p = g := e
    have := h.jp.is.lt
    omega
/-- one byte that was built is added. -/
theorem Live.one (h : Live w0 w J m c R S) (ha : At J dp fr tt f e) (x : UInt8) (mk : Nat × Nat) (k : Nat) (hk : J.row.length = k) (hroom : beg f k + 13 ≤ (tt - fr) * f) :
    Calls Try.prog 12 #[J.ptr, .slice (some ⟨w.heap.size, 0, none⟩) 1 1] (w.alloc (.cells #[.int .u8 (x.toNat : Nat)] 5 mk)) fun r w' => r = .returned (.int .i64 0) ∧ ∃ J', Live w0 w' J' m c R (S ++ [[x]]) ∧ At J' dp fr tt f e ∧ J'.row.length = beg f k + 13 ∧ J'.ptr = J.ptr ∧ Stay (ob J.A) w w' ∧ (ob J'.A = ob J.A ∨ ∃ g, ob J'.A = some g ∧ w.heap.size ≤ g) := by
  have hb : Below w.heap.size w (w.alloc (.cells #[.int .u8 (x.toNat : Nat)] 5 mk)) := (Below.refl _ _).alloc (Nat.le_refl _) _
  refine ((h.below hb).add_ok (some ⟨w.heap.size, 0, none⟩) 1 [x] (one_held w x mk) (h.away (Nat.le_refl _)) (by rw [ha.f, ha.tt, ha.fr, hk]; exact hroom)).mono ?_
  rintro r w' ⟨rfl, J', j1, j2, j3, j4, j5⟩
  refine ⟨rfl, J', j1, ha.same j2, ?_, j2.ptr, ((Still.of_below hb).stay _).trans j4 (.inl rfl), j5.imp id fun ⟨g, e, hg⟩ => ⟨g, e, Nat.le_trans hb.size hg⟩⟩
  rw [j3, ha.f, hk]
  rfl
theorem Live.crashed (h : Live w0 w J m c R S) (ha : At J dp fr tt f e) (x : Nat) : Stands (seen (m.crash x).size fr (fun k => m.cont x k)) e f (tt - fr) (rowR f e R) := by
  have h1 := h.clean.stands
  rw [ha.fr, ha.f, ha.e, ha.tt] at h1
  have h2 : (fun k => m.cont x k) = c := by funext k; exact h.quiet.cont x k
  rw [h2]
  exact h1
theorem Live.row_len (h : Live w0 w J m c R []) (ha : At J dp fr tt f e) : (rowR f e R).length ≤ (tt - fr) * f := by
  have h1 := h.len
  rw [h.row, List.append_nil, ha.f, ha.e, ha.tt, ha.fr] at h1
  exact h1
theorem LowS.crash {k : Nat} (h : LowS m k) (x : Nat) : LowS (m.crash x) k := ⟨by show 0 + k ≤ _; have := h.waits; omega, h.deeds, by show 0 ≤ _; omega⟩
end
/-- a new disk has no sector of an epoch that is not 0. -/
theorem new_quiet (n size : Nat) : Quiet (Mod.new n size) (fun _ => []) := ⟨rfl, rfl, fun _ _ => rfl⟩
theorem new_clean (size fr e f n : Nat) (hs : 4 ≤ size) (he : e < 4294967296) (h0 : e ≠ 0) : Clean (seen size fr fun _ => []) e f n (rowR f e []) :=
  ⟨fun i hi => by simp [rowR, rowN] at hi, fun i _ _ => word4_zero he h0 size hs⟩
set_option maxRecDepth 100000 in
set_option maxHeartbeats 2000000 in
theorem awake9 (w : World) : Calls Try.prog 7 #[] w fun e w' => e = .returned (.bool true) ∧ Below w.heap.size w w' := by
  have CV := fun (W : World) (C : Array Value) => Lib.run_convert_bytes_const (P := Try.prog) W 35 5 C 1 1 Try.underlying35 Try.underlying5
  have N := Lib.hid (OwnA.newA (a := fun _ => False) w 4 64 w (Below.refl _ _) (by omega) (by omega) (by omega) (by omega))
  go_enter Try.func7, Try.ntmps7
  go_wp2_with fail
  refine N.out.mono ?_
  rintro e w1 ⟨p, rfl, o1, b1⟩
  have OP := openS (R := []) (fr := 1) (tt := 4) (e := 7) (f := 60) o1 (new_quiet 4 64) (by omega) (by show 4 ≤ 4; omega) (by show 4 ≤ 98; omega) rfl (by omega) (by omega) (by omega) (by omega) (by simp) (by omega) (by simp [rowR, rowN]) (new_clean 64 1 7 60 3 (by omega) (by omega) (by omega)).stands 10000 ⟨by show 0 + 10700 ≤ _; omega, by show 0 + 10700 ≤ _; omega, by show 0 ≤ _; omega⟩
  replace OP := Lib.hid OP
  clear N o1 b1
  go_wp2_with fail
  refine OP.out.mono ?_
  rintro e w2 ⟨s2, m2, l2, n2, z2, ⟨J2, c2, rfl, f2, v2, -, e1, e2, e3, e4, e5, -⟩ | ⟨-, hf, -⟩⟩
  case inr => cases hf
  have A2 := Lib.hid (At.mk e1 e2 e3 e4 e5)
  have L2 := Lib.hid v2
  have F2 := Lib.hid (And.intro l2 (And.intro (f2.trans rfl) (And.intro n2 z2)))
  have hlen2 : J2.row.length = 0 := by rw [v2.row]; rfl
  have AD := Lib.hid (v2.one A2.out 97 (1, 2) 0 hlen2 (by decide))
  clear s2 l2 n2 z2 f2 v2 e1 e2 e3 e4 e5 OP hlen2
  go_wp2_with fail
  refine AD.out.mono ?_
  rintro e w3 ⟨rfl, J3, v3, a3, k3, p3, -⟩
  have AD3 := v3.one a3 98 (1, 2) 13 k3 (by decide)
  rw [p3] at AD3
  replace AD3 := Lib.hid AD3
  clear AD v3 a3 k3 L2 A2
  go_wp2_with fail
  refine AD3.out.mono ?_
  rintro e w4 ⟨rfl, J4, v4, a4, k4, p4, -⟩
  have CM := v4.commit 5000 (F2.out.1.mono (by omega))
  rw [p4] at CM
  replace CM := Lib.hid CM
  replace a4 := Lib.hid a4
  replace k4 := Lib.hid k4
  clear AD3 v4
  go_wp2_with fail
  refine CM.out.mono ?_
  rintro e w5 ⟨-, m5, l5, n5, z5, ⟨rfl, f5, J5, c5, v5, s5, r5, -⟩ | ⟨rfl, hf, -⟩⟩
  case inr =>
    rw [F2.out.2.1] at hf
    cases hf
  have a5 := a4.out.same s5
  have HL5 := Lib.hid (v5.row_len a5)
  have AD5 := v5.one a5 99 (1, 2) 26 (by rw [r5]; exact k4.out) (by decide)
  rw [s5.ptr.trans p4] at AD5
  replace AD5 := Lib.hid AD5
  have F5 := Lib.hid (And.intro l5 (And.intro (f5.trans F2.out.2.1) (And.intro (n5.trans F2.out.2.2.1) (z5.trans F2.out.2.2.2))))
  clear CM a4 k4 F2 l5 f5 n5 z5 v5 s5 r5 a5
  go_wp2_with fail
  refine AD5.out.mono ?_
  rintro e w6 ⟨rfl, J6, v6, a6, k6, -⟩
  have D6 := v6.disk
  rw [a6.dp] at D6
  have CR := Lib.hid (crash_quiet D6 (by have := F5.out.1.waits; omega) 0 (by omega))
  replace v6 := Lib.hid v6
  replace a6 := Lib.hid a6
  clear AD5 D6 k6
  go_wp2_with fail
  refine CR.out.mono ?_
  rintro e w7 ⟨⟨v, rfl⟩, o7, -, q7⟩
  have ST := v6.out.crashed a6.out 0
  have LL := F5.out.1.crash 0
  have OP := openS (R := [] ++ ([] ++ [[97]] ++ [[98]])) (fr := 1) (tt := 4) (e := 7) (f := 60) o7 q7 (by omega) (by show 4 ≤ m5.n; rw [F5.out.2.2.1]; show 4 ≤ 4; omega) (by show m5.n ≤ 98; rw [F5.out.2.2.1]; show 4 ≤ 98; omega) (by show m5.size = 64; rw [F5.out.2.2.2]; rfl) (by omega) (by omega) (by omega) (by omega) (by simp) (by omega) HL5.out ST 1000 (LL.mono (by omega))
  have FU := F5.out.2.1
  replace OP := Lib.hid OP
  clear CR ST LL o7 q7 v6 a6 F5 HL5
  go_wp2_with fail
  refine OP.out.mono ?_
  rintro e w8 ⟨-, m8, -, -, -, ⟨J8, c8, rfl, -, v8, -⟩ | ⟨-, hf, -⟩⟩
  case inr => cases hf
  have RC := Lib.hid v8.records
  have b8 := v8.jp.own.bel
  replace b8 := Lib.hid b8
  clear OP v8
  go_wp2_with fail
  refine RC.out.mono ?_
  rintro e w9 ⟨v9, rfl, l9, b9⟩
  obtain ⟨A9, c9, rfl, L9, -⟩ := l9.lists
  obtain ⟨g, o, B, cb, rfl, -, k9, h9⟩ := L9 1 (by simp)
  have CB : Sem.run Try.prog (convert 35 9 (.slice B 1 cb)) w9 = .ok (.string ⟨#[98]⟩) w9 := conv_bytes (l := [98]) h9 cb
  have BE := Lib.hid (below_next b8.out b9)
  replace k9 : w9.cell? ⟨g, o + 1, none⟩ = some (.slice B 1 cb) := k9
  clear L9 l9 h9 RC b8 b9
  go_wp2_with fail
  go_ret
  exact ⟨rfl, BE.out⟩
end Go.Proofs.Ythoihlebplmcoaa
