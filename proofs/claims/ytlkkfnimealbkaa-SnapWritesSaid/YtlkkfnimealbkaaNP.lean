/- Read. -/
import Derived.Test.YtlkkfnimealbkaaNP0
namespace Go.Proofs.Ytlkkfnimealbkaa
open Go.RowKit Go.Shelf
open Pag (Pg PgAt IsPage HF Bx bvs bbs)
set_option linter.unusedVariables false
attribute [local go_sem] Oper.semAt_some
theorem results_le {fn : Func} {p q : Tmp} (h : fn.results = #[.cell p 22, .cell q 25]) (tmps : Array Value) (w : World) (g g' : Nat) (v u : Value)
    (hp : tmps.getD p undef = .pointer (some ⟨g, 0, none⟩)) (hq : tmps.getD q undef = .pointer (some ⟨g', 0, none⟩)) (hg : Whole w g 22 #[v]) (hg' : Whole w g' 25 #[u]) :
    (results fn tmps).run Try.prog w = .ok (.tuple #[v, u]) w := by
  have hp' : tmps[p]?.getD undef = .pointer (some ⟨g, 0, none⟩) := by simpa using hp
  have hq' : tmps[q]?.getD undef = .pointer (some ⟨g', 0, none⟩) := by simpa using hq
  have hc := hg'.cell 0
  have h0 := hg.cell 0
  simp only [List.getElem?_toArray, List.getElem?_cons_zero] at hc h0
  simp [results, h, hp', hq', asAddr, go_sem, h0, hc]
theorem Acc.shape {b B : Nat} {L : List (List UInt8)} {R : List UInt8} {wh : Bool} {lv rv : Value} {ys : List Bx} {W : World} (h : Acc b B L R wh lv rv ys W) : ∃ A c, lv = .slice A ys.length c := by
  rcases h.row.2 with ⟨rfl, h0⟩ | ⟨g, cap, cur, rfl, -⟩
  · exact ⟨none, 0, by rw [h0]⟩
  · exact ⟨_, _, rfl⟩
set_option maxRecDepth 100000 in
theorem sread_nil (fr k : Int) (w : World) : Calls Try.prog 15 #[.pointer none, .int .i64 fr, .int .i64 k] w fun e w' => e = .returned (.tuple #[.slice none 0 0, .int .i64 2]) ∧ Below w.heap.size w w' := by
  have k0 := (Whole.new w 22 #[.slice none 0 0]).alloc (.cells #[.int .i64 2] 25)
  have k1 := Whole.new (w.alloc (.cells #[.slice none 0 0] 22)) 25 #[.int .i64 2]
  rw [World.size_alloc] at k1
  have b1 : Below w.heap.size w ((w.alloc (.cells #[.slice none 0 0] 22)).alloc (.cells #[.int .i64 2] 25)) := ((Below.refl _ w).alloc (Nat.le_refl _) _).alloc (by simp) _
  have FIN := Lib.hid (And.intro k0 (And.intro k1 b1))
  clear k0 k1 b1
  go_enter Try.func15, Try.ntmps15
  go_wp2_with fail
  refine bodyPost_ret (results_le rfl _ _ w.heap.size (w.heap.size + 1) _ _ rfl rfl FIN.out.1 FIN.out.2.1) rfl ?_
  exact ⟨rfl, FIN.out.2.2⟩
set_option maxRecDepth 100000 in
theorem sread_arg {w : World} {p : Nat} {F : List Nat} {m : Mod} (h : IsD w p F m) (hn : m.n ≤ 600) (fr k : Int) (hfr9 : fr ≤ 9223372036854775807) (hbad : fr < 0 ∨ k < 0 ∨ (m.n : Int) - fr < k) : Calls Try.prog 15 #[.pointer (some ⟨p, 0, none⟩), .int .i64 fr, .int .i64 k] w fun e w' => e = .returned (.tuple #[.slice none 0 0, .int .i64 1]) ∧ Below w.heap.size w w' := by
  have b0 : Below w.heap.size w ((w.alloc (.cells #[.slice none 0 0] 22)).alloc (.cells #[.int .i64 0] 25)) := ((Below.refl _ w).alloc (Nat.le_refl _) _).alloc (by simp) _
  have k0 := (Whole.new w 22 #[.slice none 0 0]).alloc (.cells #[.int .i64 1] 25)
  have k1 := Whole.new (w.alloc (.cells #[.slice none 0 0] 22)) 25 #[.int .i64 1]
  rw [World.size_alloc] at k1
  have b1 : Below w.heap.size w ((w.alloc (.cells #[.slice none 0 0] 22)).alloc (.cells #[.int .i64 1] 25)) := ((Below.refl _ w).alloc (Nat.le_refl _) _).alloc (by simp) _
  have FIN := Lib.hid (And.intro k0 (And.intro k1 b1))
  have SC := Lib.hid ((h.below b0).sectors)
  have hni : (m.n : Int) ≤ 600 := by omega
  clear k0 k1 b1 b0 h
  by_cases h1 : fr < 0
  · clear hbad
    go_enter Try.func15, Try.ntmps15
    go_wp2_with fail
    refine bodyPost_ret (results_le rfl _ _ w.heap.size (w.heap.size + 1) _ _ rfl rfl FIN.out.1 FIN.out.2.1) rfl ?_
    exact ⟨rfl, FIN.out.2.2⟩
  · by_cases h2 : k < 0
    · clear hbad
      go_enter Try.func15, Try.ntmps15
      go_wp2_with fail
      refine bodyPost_ret (results_le rfl _ _ w.heap.size (w.heap.size + 1) _ _ rfl rfl FIN.out.1 FIN.out.2.1) rfl ?_
      exact ⟨rfl, FIN.out.2.2⟩
    · have h3 : (m.n : Int) - fr < k := by omega
      clear hbad
      go_enter Try.func15, Try.ntmps15
      go_wp2_with fail
      refine SC.out.mono ?_
      rintro e w1 ⟨rfl, rfl⟩
      go_wp2_with fail
      refine bodyPost_ret (results_le rfl _ _ w.heap.size (w.heap.size + 1) _ _ rfl rfl FIN.out.1 FIN.out.2.1) rfl ?_
      exact ⟨rfl, FIN.out.2.2⟩
/-- what the rounds of Read keep. -/
structure RdI (w : World) (Os : List (Int × List (List UInt8))) (pre : List Rt) (G : List Nat) (W : World) : Prop where
  acc : ∃ lv rv ys, Acc w.heap.size (w.heap.size + 8) (stJ (tbs pre)).1 (stJ (tbs pre)).2.1 (stJ (tbs pre)).2.2 lv rv ys W ∧ G = accG w.heap.size lv rv ys
  noErr : ∀ t ∈ tbs pre, t.e = 0
  pre_ : tbs pre <+: tellS Os
  below : Below w.heap.size w W
  big : w.heap.size + 8 ≤ W.heap.size
theorem rdI_abides {w : World} {Os : List (Int × List (List UInt8))} {B0 : Nat} (hB : w.heap.size ≤ B0) (s : List Rt) (G H : List Nat) (W W' : World) (h : RdI w Os s G W) (ht : Touch H W W') (hH : ∀ k ∈ H, B0 ≤ k ∧ k ∉ G) : RdI w Os s G W' := by
  obtain ⟨⟨lv, rv, ys, ha, rfl⟩, h2, h3, h4, h5⟩ := h
  exact ⟨⟨lv, rv, ys, Acc.touch (by omega) ha ht (fun k hk => (hH k hk).2), rfl⟩, h2, h3, Touch.fresh h4 ht (fun k hk => Nat.le_trans hB (hH k hk).1), Nat.le_trans h5 ht.size⟩
theorem rdI_kinds {w : World} {Os : List (Int × List (List UInt8))} {R : List Nat} (hR : ∀ k ∈ R, w.heap.size + 5 ≤ k ∧ k < w.heap.size + 8) (s : List Rt) (G : List Nat) (W : World) (h : RdI w Os s G W) : ∀ k ∈ G, w.heap.size ≤ k ∧ k < W.heap.size ∧ k ∉ R ∧ ∃ (cs : Array Value) (t : TypeId) (z : Nat × Nat), W.heap[k]? = some (Obj.cells cs t z) := by
  obtain ⟨⟨lv, rv, ys, ha, rfl⟩, h2, h3, h4, h5⟩ := h
  intro k hk
  obtain ⟨k1, k2, k3⟩ := Acc.kinds (by omega) ha k hk
  refine ⟨k1, k2, fun hr => ?_, k3⟩
  have := hR k hr
  have := ha.where_ k hk
  omega
theorem rdX_own {w : World} {Os : List (Int × List (List UInt8))} (B : Nat) (hB : w.heap.size ≤ B) (c : Code) : OwnFrom B (fun (_ : List Rt) W => c = .ret ∧ ∃ e : Int, Below w.heap.size w W ∧ Whole W w.heap.size 22 #[.slice none 0 0] ∧ Whole W (w.heap.size + 1) 25 #[.int .i64 e] ∧ e ≠ 0 ∧ resS Os = (e, [])) := by
  rintro s W W' row ⟨h1, e, h2, h3, h4, h5⟩ hg hr
  have key : ∀ {k : Nat} {cs : Array Value} {t : TypeId}, Whole W k t cs → Whole W' k t cs := fun {k cs t} hw => (hg.block k hw.lt (fun e' => by
    obtain ⟨-, o, ho, hc⟩ := hr k e'.symm
    unfold Whole at hw
    rw [hw] at ho
    cases ho
    simp [Obj.isCells] at hc)).trans hw
  exact ⟨h1, e, h2.grown hg h2.size (fun k e => Nat.le_trans hB (hr k e).1), key h3, key h4, h5⟩
theorem rdA_own {Os : List (Int × List (List UInt8))} (B : Nat) {F : Rt → Nat → Act} (pre : List Rt) (x : Rt) (a' : Act) : OwnFrom B (fun (_ : Unit) W => RtIn Os pre x W ∧ ∃ Bx, Whole W Bx 73 #[.slice x.A x.t.b.length x.c, .bool x.t.last] ∧ a' = F x Bx) := by
  rintro s W W' row ⟨⟨h1, h0⟩, Bx, h2, h3⟩ hg hr
  refine ⟨⟨h1, fun j hj => ?_⟩, Bx, ?_, h3⟩
  · obtain ⟨b, o, e, hlt, hc⟩ := h0 j hj
    exact ⟨b, o, e, Nat.lt_of_lt_of_le hlt hg.size, cell_kept hc hg (fun r e => (hr r e).2)⟩
  · exact (hg.block Bx h2.lt (fun e' => by
      obtain ⟨-, o, ho, hc⟩ := hr Bx e'.symm
      unfold Whole at h2
      rw [h2] at ho
      cases ho
      simp [Obj.isCells] at hc)).trans h2
set_option maxRecDepth 100000 in
set_option maxHeartbeats 4000000 in
theorem sread_in {w : World} {p : Nat} {F : List Nat} {m : Mod} (h : IsD w p F m) (hw : m.waits ≤ 1000000) (hs1 : 64 ≤ m.size) (hs2 : m.size ≤ 1024) (hn : m.n ≤ 600) (fr nn : Nat) (hfn : fr + nn ≤ m.n) (Os : List (Int × List (List UInt8))) (hOs : SecsAre m fr Os) (hOl : Os.length = nn) :
    CallsIn Fence.wide 5 Try.prog 15 #[.pointer (some ⟨p, 0, none⟩), .int .i64 (fr : Nat), .int .i64 (nn : Nat)] w fun e w' => Below w.heap.size w w' ∧
      (((resS Os).1 = 0 ∧ ∃ v, e = .returned (.tuple #[v, .int .i64 0]) ∧ MRow w' w.heap.size v (resS Os).2) ∨ ((resS Os).1 ≠ 0 ∧ e = .returned (.tuple #[.slice none 0 0, .int .i64 (resS Os).1]))) := by
  have hni : (m.n : Int) ≤ 600 := by omega
  have hfni : (nn : Int) ≤ (m.n : Nat) - (fr : Nat) := by omega
  have hfrn : (fr : Int) ≤ 600 := by omega
  have hnn : (nn : Int) ≤ 600 := by omega
  have b1 : Below w.heap.size w ((w.alloc (.cells #[.slice none 0 0] 22)).alloc (.cells #[.int .i64 0] 25)) := ((Below.refl _ w).alloc (Nat.le_refl _) _).alloc (by simp) _
  have SC := Lib.hid ((h.below b1).sectors)
  have HD := Lib.hid (And.intro h hOs)
  clear h hOs b1
  refine callsIn_of_wp_marks Try.func15 rfl trivial ?_ rfl
  simp only [Try.ntmps15, List.size_toArray, List.length_cons, List.length_nil, Nat.reduceAdd, Nat.reduceSub, Array.replicate_succ, Array.replicate_zero, List.push_toArray, List.append_toArray, List.nil_append, List.cons_append]
  gi_wp2_with (first
    | ((try refine ⟨trivial, ?_⟩); gi_at_call 22; refine (callsIn_wide.2 SC.out).mono ?_; rintro e w' ⟨rfl, rfl⟩)
    | ((try refine ⟨trivial, ?_⟩); gi_at_call 29; refine (standing_in Fence.wide _ trivial rfl _ _ _ _).mono ?_; rintro e w' ⟨rfl, rfl⟩))
  generalize Value.bool (decide ((fr : Int) < 0) || decide ((nn : Int) < 0) || decide ((m.n : Int) - (fr : Int) < (nn : Int))) = q5
  generalize Value.bool (decide ((fr : Int) < 0) || decide ((nn : Int) < 0)) = q3
  generalize Value.bool (decide ((m.n : Int) - (fr : Int) < (nn : Int))) = q4
  generalize Value.bool (decide ((fr : Int) < 0)) = q1
  generalize Value.bool (decide ((nn : Int) < 0)) = q2
  generalize Value.int IntKind.i64 ((m.n : Int) - (fr : Int)) = q6
  have b0 : Below w.heap.size w ((((((((w.alloc (.cells #[.slice none 0 0] 22)).alloc (.cells #[.int .i64 0] 25)).alloc (.cells #[.slice none 0 0] 22)).alloc (.cells #[.slice none 0 0] 35)).alloc (.cells #[.bool true] 4)).alloc (.cells #[.pointer (some ⟨p, 0, none⟩)] 24)).alloc (.cells #[.int .i64 (fr : Nat)] 3)).alloc (.cells #[.int .i64 (nn : Nat)] 3)) := (((((((((Below.refl _ w).alloc (by simp <;> omega) (.cells #[.slice none 0 0] 22)).alloc (by simp <;> omega) (.cells #[.int .i64 0] 25)).alloc (by simp <;> omega) (.cells #[.slice none 0 0] 22)).alloc (by simp <;> omega) (.cells #[.slice none 0 0] 35)).alloc (by simp <;> omega) (.cells #[.bool true] 4)).alloc (by simp <;> omega) (.cells #[.pointer (some ⟨p, 0, none⟩)] 24)).alloc (by simp <;> omega) (.cells #[.int .i64 (fr : Nat)] 3)).alloc (by simp <;> omega) (.cells #[.int .i64 (nn : Nat)] 3))
  have k0 := ((((((((Whole.new w 22 #[.slice none 0 0]).alloc (.cells #[.int .i64 0] 25)).alloc (.cells #[.slice none 0 0] 22)).alloc (.cells #[.slice none 0 0] 35)).alloc (.cells #[.bool true] 4)).alloc (.cells #[.pointer (some ⟨p, 0, none⟩)] 24)).alloc (.cells #[.int .i64 (fr : Nat)] 3)).alloc (.cells #[.int .i64 (nn : Nat)] 3))
  have k1 := (((((((Whole.new (w.alloc (.cells #[.slice none 0 0] 22)) 25 #[.int .i64 0]).alloc (.cells #[.slice none 0 0] 22)).alloc (.cells #[.slice none 0 0] 35)).alloc (.cells #[.bool true] 4)).alloc (.cells #[.pointer (some ⟨p, 0, none⟩)] 24)).alloc (.cells #[.int .i64 (fr : Nat)] 3)).alloc (.cells #[.int .i64 (nn : Nat)] 3))
  have k2 := ((((((Whole.new ((w.alloc (.cells #[.slice none 0 0] 22)).alloc (.cells #[.int .i64 0] 25)) 22 #[.slice none 0 0]).alloc (.cells #[.slice none 0 0] 35)).alloc (.cells #[.bool true] 4)).alloc (.cells #[.pointer (some ⟨p, 0, none⟩)] 24)).alloc (.cells #[.int .i64 (fr : Nat)] 3)).alloc (.cells #[.int .i64 (nn : Nat)] 3))
  have k3 := (((((Whole.new (((w.alloc (.cells #[.slice none 0 0] 22)).alloc (.cells #[.int .i64 0] 25)).alloc (.cells #[.slice none 0 0] 22)) 35 #[.slice none 0 0]).alloc (.cells #[.bool true] 4)).alloc (.cells #[.pointer (some ⟨p, 0, none⟩)] 24)).alloc (.cells #[.int .i64 (fr : Nat)] 3)).alloc (.cells #[.int .i64 (nn : Nat)] 3))
  have k4 := ((((Whole.new ((((w.alloc (.cells #[.slice none 0 0] 22)).alloc (.cells #[.int .i64 0] 25)).alloc (.cells #[.slice none 0 0] 22)).alloc (.cells #[.slice none 0 0] 35)) 4 #[.bool true]).alloc (.cells #[.pointer (some ⟨p, 0, none⟩)] 24)).alloc (.cells #[.int .i64 (fr : Nat)] 3)).alloc (.cells #[.int .i64 (nn : Nat)] 3))
  have k5 := (((Whole.new (((((w.alloc (.cells #[.slice none 0 0] 22)).alloc (.cells #[.int .i64 0] 25)).alloc (.cells #[.slice none 0 0] 22)).alloc (.cells #[.slice none 0 0] 35)).alloc (.cells #[.bool true] 4)) 24 #[.pointer (some ⟨p, 0, none⟩)]).alloc (.cells #[.int .i64 (fr : Nat)] 3)).alloc (.cells #[.int .i64 (nn : Nat)] 3))
  have k6 := ((Whole.new ((((((w.alloc (.cells #[.slice none 0 0] 22)).alloc (.cells #[.int .i64 0] 25)).alloc (.cells #[.slice none 0 0] 22)).alloc (.cells #[.slice none 0 0] 35)).alloc (.cells #[.bool true] 4)).alloc (.cells #[.pointer (some ⟨p, 0, none⟩)] 24)) 3 #[.int .i64 (fr : Nat)]).alloc (.cells #[.int .i64 (nn : Nat)] 3))
  have k7 := (Whole.new (((((((w.alloc (.cells #[.slice none 0 0] 22)).alloc (.cells #[.int .i64 0] 25)).alloc (.cells #[.slice none 0 0] 22)).alloc (.cells #[.slice none 0 0] 35)).alloc (.cells #[.bool true] 4)).alloc (.cells #[.pointer (some ⟨p, 0, none⟩)] 24)).alloc (.cells #[.int .i64 (fr : Nat)] 3)) 3 #[.int .i64 (nn : Nat)])
  simp only [World.size_alloc] at k0 k1 k2 k3 k4 k5 k6 k7
  have hsz0 : ((((((((w.alloc (.cells #[.slice none 0 0] 22)).alloc (.cells #[.int .i64 0] 25)).alloc (.cells #[.slice none 0 0] 22)).alloc (.cells #[.slice none 0 0] 35)).alloc (.cells #[.bool true] 4)).alloc (.cells #[.pointer (some ⟨p, 0, none⟩)] 24)).alloc (.cells #[.int .i64 (fr : Nat)] 3)).alloc (.cells #[.int .i64 (nn : Nat)] 3)).heap.size = w.heap.size + 8 := by simp
  generalize ((((((((w.alloc (.cells #[.slice none 0 0] 22)).alloc (.cells #[.int .i64 0] 25)).alloc (.cells #[.slice none 0 0] 22)).alloc (.cells #[.slice none 0 0] 35)).alloc (.cells #[.bool true] 4)).alloc (.cells #[.pointer (some ⟨p, 0, none⟩)] 24)).alloc (.cells #[.int .i64 (fr : Nat)] 3)).alloc (.cells #[.int .i64 (nn : Nat)] 3)) = W0 at *
  have hA0 : Acc w.heap.size (w.heap.size + 8) [] [] true (.slice none 0 0) (.slice none 0 0) [] W0 := ⟨k0, k1, k2, k3, k4, World.ownsRow_nil _ _ _ _, rfl, fun _ h => absurd h (by simp), Row.nil _ _, fun _ h => absurd h (by simp)⟩
  have hfit := secs_fit HD.out.1 hw hs2 HD.out.2
  have htot := tellS_tot Os hfit
  refine wpIn_rangeFunc_G rfl (by omega) (gf := 45) rfl trivial (enters_of Try.func45 (by kernel_rfl) rfl)
    (standing_seq 4 (by omega) (w.heap.size + 1 + 1 + 1 + 1 + 1) w W0 p F m HD.out.1 hw hs1 hs2 fr nn (by omega) (by omega) Os HD.out.2 hOl ⟨k5, k6, k7, b0⟩) (Below.refl _ _) b0.size (by simp <;> omega) (fun _ => rfl)
    (RdI w Os) (fun s G H W W' h ht hH => rdI_abides b0.size s G H W W' h ht hH) (fun s G W h => rdI_kinds (by simp <;> omega) s G W h)
    (fun c _ W => c = .ret ∧ ∃ e : Int, Below w.heap.size w W ∧ Whole W w.heap.size 22 #[.slice none 0 0] ∧ Whole W (w.heap.size + 1) 25 #[.int .i64 e] ∧ e ≠ 0 ∧ resS Os = (e, [])) (rdX_own _ b0.size)
    ⟨_, ⟨_, _, _, hA0, rfl⟩, fun _ h => absurd h (by simp [tbs]), List.nil_prefix, b0, Nat.le_of_eq hsz0.symm⟩
    (fun pre x a' W => RtIn Os pre x W ∧ ∃ Bx, Whole W Bx 73 #[.slice x.A x.t.b.length x.c, .bool x.t.last] ∧ a' = { tmps := #[.pointer (some ⟨p, 0, none⟩), .int .i64 (fr : Nat), .int .i64 (nn : Nat), undef, undef, undef, .pointer (some ⟨w.heap.size, 0, none⟩), .pointer (some ⟨w.heap.size + 1, 0, none⟩), .pointer (some ⟨w.heap.size + 1 + 1, 0, none⟩), .pointer (some ⟨w.heap.size + 1 + 1 + 1, 0, none⟩), .pointer (some ⟨w.heap.size + 1 + 1 + 1 + 1, 0, none⟩), .pointer (some ⟨Bx, 0, none⟩), .int .i64 x.t.e, .pointer (some ⟨p, 0, none⟩), .bool false, .int .i64 (fr : Nat), q1, q1, .int .i64 (nn : Nat), q2, q3, q3, .int .i64 (nn : Nat), .pointer (some ⟨p, 0, none⟩), .int .i64 (m.n : Nat), .int .i64 (fr : Nat), q6, q4, q5, .pointer (some ⟨p, 0, none⟩), .int .i64 (fr : Nat), .int .i64 (nn : Nat), .func (.func 45) #[] #[.pointer (some ⟨w.heap.size + 1 + 1 + 1 + 1 + 1 + 2, 0, none⟩), .pointer (some ⟨w.heap.size + 1 + 1 + 1 + 1 + 1, 0, none⟩), .pointer (some ⟨w.heap.size + 1 + 1 + 1 + 1 + 1 + 1, 0, none⟩)], x.v, .int .i64 x.t.e, undef, undef, undef, undef, undef, undef, undef, undef, undef, undef, undef, undef, undef, undef, undef, undef, undef], defers := [] })
    (rdA_own _)
    ?assign ?body ?done ?stop
  case assign =>
    rintro l pre G x W K hI hx hK
    gi_wp2
    have al : Below W.heap.size W (W.alloc (.cells #[.slice x.A x.t.b.length x.c, .bool x.t.last] 73)) := (Below.refl _ _).alloc (Nat.le_refl _) _
    exact hK _ _ al ⟨⟨hx.1, hx.2.below al⟩, W.heap.size, Whole.new W _ _, rfl⟩
  case body =>
    rintro l pre G x a' W hI ⟨⟨hpre, hheld⟩, Bx, hB, rfl⟩
    obtain ⟨⟨lv, rv, ys, ha, rfl⟩, hnoe, hpp, hbel, hbig⟩ := hI
    obtain ⟨Ar, cr, hrv, -, -, -⟩ := ha.cur.shape
    subst hrv
    have htp := totB_pre hpre
    rw [totB_append] at htp
    have hst := stJ_tot (tbs pre)
    simp only [totB] at htp
    have hob : Os.length ≤ 600 := by omega
    have HG := Lib.hid fun k hk => (Acc.kinds (by omega) ha k hk).1
    have hx0 := hB.cell 0
    have hx1 := hB.cell 1
    have c3 := ha.b3.cell 0
    simp only [List.getElem?_toArray, List.getElem?_cons_zero, List.getElem?_cons_succ] at hx0 hx1 c3
    by_cases he : x.t.e = 0
    · have hnew : stJ (tbs (pre ++ [x])) = stepJ (stJ (tbs pre)) x.t := by rw [tbs_snoc, stJ_snoc]
      have hnoe' : ∀ t ∈ tbs (pre ++ [x]), t.e = 0 := fun t ht => by
        rw [tbs_snoc] at ht
        rcases List.mem_append.1 ht with ht | ht
        · exact hnoe t ht
        · have : t = x.t := by simpa using ht
          rw [this]; exact he
      have hpre' : tbs (pre ++ [x]) <+: tellS Os := by rw [tbs_snoc]; exact hpre
      have heb : (x.t.e == 0) = true := by simp [he]
      obtain ⟨rv', w2, hr, ho, hg, hob2⟩ := append_bytes ha.cur x.A x.c x.t.b hheld (by omega) hbig
      obtain ⟨A2, c2, hrv', -, -, -⟩ := ho.shape
      subst hrv'
      obtain ⟨acc2, tch2, g2⟩ := ha.more (by omega) ho hg hob2 x.t.last
      have k2 : ∀ k, k < W.heap.size → (∀ cs z, W.heap[k]? ≠ some (.cells cs 5 z)) → w2.heap[k]? = W.heap[k]? := fun k hk hn => hg.block k hk (fun e => by
        obtain ⟨cs, hc⟩ := row_kind ha.cur e.symm
        exact hn _ _ hc)
      have w2b3 : Whole w2 (w.heap.size + 1 + 1 + 1) 35 #[.slice Ar (stJ (tbs pre)).2.1.length cr] := (k2 _ ha.b3.lt (fun cs z e => by have := ha.b3; unfold Whole at this; rw [this] at e; simp at e)).trans ha.b3
      have w2b4 : Whole w2 (w.heap.size + 1 + 1 + 1 + 1) 4 #[.bool (stJ (tbs pre)).2.2] := (k2 _ ha.b4.lt (fun cs z e => by have := ha.b4; unfold Whole at this; rw [this] at e; simp at e)).trans ha.b4
      have w2x : Whole w2 Bx 73 #[.slice x.A x.t.b.length x.c, .bool x.t.last] := (k2 _ hB.lt (fun cs z e => by have := hB; unfold Whole at this; rw [this] at e; simp at e)).trans hB
      have hBx3 : Bx ≠ w.heap.size + 1 + 1 + 1 := fun e => by subst e; have := ha.b3; unfold Whole at this hB; rw [this] at hB; simp at hB
      have d3 := w2b3.cell 0
      have e3 := w2b3.frozen 0
      have w2x' := w2x.far (p := ⟨w.heap.size + 1 + 1 + 1, 0, none⟩) hBx3 (.slice A2 ((stJ (tbs pre)).2.1 ++ x.t.b).length c2)
      have w2b4' := w2b4.far (p := ⟨w.heap.size + 1 + 1 + 1, 0, none⟩) (by simp) (.slice A2 ((stJ (tbs pre)).2.1 ++ x.t.b).length c2)
      have d4 := w2x'.cell 1
      have d5 := w2b4'.cell 0
      have e5 := w2b4'.frozen 0
      simp only [List.getElem?_toArray, List.getElem?_cons_zero, List.getElem?_cons_succ] at d3 d4 d5
      have HR := Lib.hid hr
      have HX := Lib.hid (And.intro hnew (And.intro hnoe' (And.intro hpre' (And.intro hbel hbig))))
      cases hlast : x.t.last with
      | false =>
        rw [hlast] at acc2 tch2 hx1 d4
        have HA := Lib.hid (And.intro acc2 (And.intro tch2 g2))
        have hstep : Hid (stepJ (stJ (tbs pre)) x.t = ((stJ (tbs pre)).1, (stJ (tbs pre)).2.1 ++ x.t.b, false)) := Lib.hid (by unfold stepJ; rw [hlast]; rfl)
        have hxe : Hid (x.t.e = 0) := Lib.hid he
        rw [he]
        clear acc2 tch2 g2 ha hnoe hpp hbel hnew hnoe' hpre' hr ho hg hob2 k2 w2b3 w2b4 w2x w2x' w2b4' hB hheld hpre htp hst he heb hlast hbig
        generalize ((stJ (tbs pre)).2.1 ++ x.t.b).length = ln at *
        gi_wp2_with (gi_at_builtin; refine wpListIn_run_append rfl _ _ 35 rfl rfl rfl HR.out ?_)
        obtain ⟨hnew, hnoe', hpre', hbel, hbig⟩ := HX.out
        obtain ⟨acc2, tch2, g2⟩ := HA.out
        rw [hstep.out] at hnew
        exact ⟨tch2, _, ⟨⟨_, _, _, by rw [hnew]; exact acc2, rfl⟩, hnoe', hpre', Touch.fresh hbel tch2 (fun k hk => HG.out k hk), Nat.le_trans hbig tch2.size⟩, g2⟩
      | true =>
        rw [hlast] at acc2 tch2 hx1 d4
        have hstep : Hid (stepJ (stJ (tbs pre)) x.t = ((stJ (tbs pre)).1 ++ [(stJ (tbs pre)).2.1 ++ x.t.b], [], true)) := Lib.hid (by unfold stepJ; rw [hlast]; rfl)
        have hsz3 : ((w2.setCell ⟨w.heap.size + 1 + 1 + 1, 0, none⟩ (.slice A2 ((stJ (tbs pre)).2.1 ++ x.t.b).length c2)).setCell ⟨w.heap.size + 1 + 1 + 1 + 1, 0, none⟩ (.bool true)).heap.size = w2.heap.size := by simp
        have hg2 := hg.size
        obtain ⟨i0, hi, hz0, hz1, hz2⟩ := info_parts Pag.infoBs
        have hysl : ys.length ≤ 1000000 := by
          have := congrArg List.length ha.ls
          rw [Pag.bbs_len] at this
          omega
        obtain ⟨lv', w4, hr4, ho4, hg4, -, hob4⟩ := run_append_own_at (P := Try.prog) (((w2.setCell ⟨w.heap.size + 1 + 1 + 1, 0, none⟩ (.slice A2 ((stJ (tbs pre)).2.1 ++ x.t.b).length c2)).setCell ⟨w.heap.size + 1 + 1 + 1 + 1, 0, none⟩ (.bool true)).alloc (.cells #[.slice A2 ((stJ (tbs pre)).2.1 ++ x.t.b).length c2] 35)) (w.heap.size + 8) 22 22 35 i0 (.slice none 0 0) 1 24 Try.underlying22 hi hz0 hz1 hz2 rfl (by decide) lv ys.length (bvs ys) (acc2.row.alloc _) ⟨w2.heap.size, 0, none⟩ 1 1 [.slice A2 ((stJ (tbs pre)).2.1 ++ x.t.b).length c2] rfl (by
          have := cell_one_new ((w2.setCell ⟨w.heap.size + 1 + 1 + 1, 0, none⟩ (.slice A2 ((stJ (tbs pre)).2.1 ++ x.t.b).length c2)).setCell ⟨w.heap.size + 1 + 1 + 1 + 1, 0, none⟩ (.bool true)) (.slice A2 ((stJ (tbs pre)).2.1 ++ x.t.b).length c2) 35
          rw [hsz3] at this
          exact this) (by simp [Value.oneCell']) (by unfold maxLen; omega) (by omega) (by simp; omega)
        obtain ⟨g4, cap4, hlv'⟩ := Go.ownsRow_succ ho4
        subst hlv'
        obtain ⟨acc4, tch4, g5⟩ := acc2.push (by omega) ho4 hg4 hob4
        have m2 := acc2.b2.cell 0
        have m3 := acc2.b3.cell 0
        have k4 : ∀ k, k < w.heap.size + 8 → w4.heap[k]? = ((w2.setCell ⟨w.heap.size + 1 + 1 + 1, 0, none⟩ (.slice A2 ((stJ (tbs pre)).2.1 ++ x.t.b).length c2)).setCell ⟨w.heap.size + 1 + 1 + 1 + 1, 0, none⟩ (.bool true)).heap[k]? := fun k hk =>
          (hg4.block k (by simp; omega) (fun e => by have := own_ge acc2.row e.symm; omega)).trans (Below.heap_alloc _ _ _ (by rw [hsz3]; omega))
        have w4b2 : Whole w4 (w.heap.size + 1 + 1) 22 #[lv] := (k4 _ (by omega)).trans acc2.b2
        have w4b3 : Whole w4 (w.heap.size + 1 + 1 + 1) 35 #[.slice A2 ((stJ (tbs pre)).2.1 ++ x.t.b).length c2] := (k4 _ (by omega)).trans acc2.b3
        have n2 := w4b2.cell 0
        have n2f := w4b2.frozen 0
        have w4b3' := w4b3.far (p := ⟨w.heap.size + 1 + 1, 0, none⟩) (by simp) (.slice (some ⟨g4, 0, none⟩) (ys.length + 1) cap4)
        have n3 := w4b3'.cell 0
        have n3f := w4b3'.frozen 0
        simp only [List.getElem?_toArray, List.getElem?_cons_zero] at m2 m3 n2 n3
        have HR4 := Lib.hid hr4
        have hbs4 : Hid (∀ k ∈ accG w.heap.size lv (.slice A2 ((stJ (tbs pre)).2.1 ++ x.t.b).length c2) ys, k ∈ accG w.heap.size lv (.slice Ar (stJ (tbs pre)).2.1.length cr) ys ∨ W.heap.size ≤ k) := Lib.hid g2
        have HA := Lib.hid (And.intro acc4 (And.intro tch2 (And.intro tch4 g5)))
        rw [he]
        clear acc2 tch2 g2 ha hnoe hpp hbel hnew hnoe' hpre' hr ho hg hob2 k2 w2b3 w2b4 w2x w2x' w2b4' hB hheld hpre htp hst he heb hlast hbig acc4 tch4 g5 hr4 ho4 hg4 hob4 k4 w4b2 w4b3 w4b3' hi hz0 hz1 hz2 hg2
        generalize ((stJ (tbs pre)).2.1 ++ x.t.b).length = ln at *
        gi_wp2_with (first | (gi_at_builtin; refine wpListIn_run_append rfl _ _ 35 rfl rfl rfl HR.out ?_) | (gi_at_builtin; refine wpListIn_run_append rfl _ _ 22 rfl rfl rfl HR4.out ?_))
        obtain ⟨hnew, hnoe', hpre', hbel, hbig⟩ := HX.out
        obtain ⟨acc4, tch2, tch4, g5⟩ := HA.out
        rw [hstep.out] at hnew
        have tch : Touch _ W _ := tch2.trans tch4 (fun k hk => hbs4.out k hk)
        refine ⟨tch, _, ⟨⟨_, _, _, by rw [hnew]; exact acc4, rfl⟩, hnoe', hpre', Touch.fresh hbel tch (fun k hk => HG.out k hk), Nat.le_trans hbig tch.size⟩, fun k hk => ?_⟩
        rcases g5 k hk with h5 | h5
        · exact hbs4.out k h5
        · exact .inr (Nat.le_trans tch2.size h5)
    · have heb : (x.t.e == 0) = false := by simpa using he
      have c0 := ha.b0.frozen 0
      have c1 := ha.b1.frozen 0
      have c0' := ha.b0.cell 0
      have c1' := ha.b1.cell 0
      simp only [List.getElem?_toArray, List.getElem?_cons_zero] at c0' c1'
      have hres : Hid (resS Os = (x.t.e, [])) := Lib.hid (by
        obtain ⟨r, hr⟩ := hpre
        unfold resS
        rw [← hr, List.append_assoc, resF_pre _ _ _ hnoe]
        simp only [List.singleton_append, resF]
        rw [if_neg he])
      have FIN : Hid (KeepsFrom W0.heap.size W ((W.setCell ⟨w.heap.size, 0, none⟩ (.slice none 0 0)).setCell ⟨w.heap.size + 1, 0, none⟩ (.int .i64 x.t.e)) ∧ Below w.heap.size w ((W.setCell ⟨w.heap.size, 0, none⟩ (.slice none 0 0)).setCell ⟨w.heap.size + 1, 0, none⟩ (.int .i64 x.t.e)) ∧ Whole ((W.setCell ⟨w.heap.size, 0, none⟩ (.slice none 0 0)).setCell ⟨w.heap.size + 1, 0, none⟩ (.int .i64 x.t.e)) w.heap.size 22 #[.slice none 0 0] ∧ Whole ((W.setCell ⟨w.heap.size, 0, none⟩ (.slice none 0 0)).setCell ⟨w.heap.size + 1, 0, none⟩ (.int .i64 x.t.e)) (w.heap.size + 1) 25 #[.int .i64 x.t.e]) :=
        Lib.hid ⟨((KeepsOthers.setCell _ _ _).trans (KeepsOthers.setCell _ _ _)).from _, (hbel.setCell (p := ⟨w.heap.size, 0, none⟩) (Nat.le_refl _) _).setCell (p := ⟨w.heap.size + 1, 0, none⟩) (by simp) _, (ha.b0.set_ 0 _).far (p := ⟨w.heap.size + 1, 0, none⟩) (by simp) _, (ha.b1.far (p := ⟨w.heap.size, 0, none⟩) (by simp) _).set_ 0 _⟩
      have HE := Lib.hid he
      clear ha hnoe hpp hbel hpre htp hst hB hheld HG hbig he c3 hx0 hx1
      gi_wp2
      exact ⟨FIN.out.1, rfl, _, FIN.out.2.1, FIN.out.2.2.1, FIN.out.2.2.2, HE.out, hres.out⟩
  case done =>
    rintro D zs G W hD hS hI hK
    obtain ⟨⟨lv, rv, ys, ha, rfl⟩, hnoe, hpp, hbel, hbig⟩ := hI
    have hres : resS Os = if (stJ (tbs zs)).2.2 then (0, (stJ (tbs zs)).1) else (7, []) := by
      unfold resS
      rw [← hS, ← List.append_nil (tbs zs), resF_pre _ _ _ hnoe, List.append_nil]
      rfl
    obtain ⟨Al, cl, hlv⟩ := Acc.shape ha
    subst hlv
    have f0 := ha.b0.frozen 0
    have f1 := ha.b1.frozen 0
    have g0 := ha.b0.cell 0
    have g1 := ha.b1.cell 0
    have g2 := ha.b2.cell 0
    have g4 := ha.b4.cell 0
    simp only [List.getElem?_toArray, List.getElem?_cons_zero] at g0 g1 g2 g4
    have hne : ∀ {k : Nat} {cs : Array Value} {t : TypeId}, Whole W k t cs → D ≠ k := fun {k cs t} hw e => by unfold Whole at hw; rw [← e, hK] at hw; cases hw
    have hD0 := hne ha.b0
    have hD1 := hne ha.b1
    have fin : ∀ (u v : Value), Hid (∃ Wf, Wf = (W.setCell ⟨w.heap.size, 0, none⟩ u).setCell ⟨w.heap.size + 1, 0, none⟩ v ∧ Wf.heap[D]? = some (.deferred (some [])) ∧ Whole (Wf.putObj D (.deferred none)) w.heap.size 22 #[u] ∧ Whole (Wf.putObj D (.deferred none)) (w.heap.size + 1) 25 #[v] ∧ Below w.heap.size w (Wf.putObj D (.deferred none)) ∧
        ∀ k, k ≠ D → k ≠ w.heap.size → k ≠ w.heap.size + 1 → (Wf.putObj D (.deferred none)).heap[k]? = W.heap[k]?) := fun u v => by
      have q1 : ((W.setCell ⟨w.heap.size, 0, none⟩ u).setCell ⟨w.heap.size + 1, 0, none⟩ v).heap[D]? = some (.deferred (some [])) := (heap_set_other _ _ _ _ _ hD1).trans ((heap_set_other _ _ _ _ _ hD0).trans hK)
      have q2 : Whole ((W.setCell ⟨w.heap.size, 0, none⟩ u).setCell ⟨w.heap.size + 1, 0, none⟩ v) w.heap.size 22 #[u] := (ha.b0.set_ 0 _).far (p := ⟨w.heap.size + 1, 0, none⟩) (by simp) _
      have q3 : Whole ((W.setCell ⟨w.heap.size, 0, none⟩ u).setCell ⟨w.heap.size + 1, 0, none⟩ v) (w.heap.size + 1) 25 #[v] := (ha.b1.far (p := ⟨w.heap.size, 0, none⟩) (by simp) _).set_ 0 _
      have q4 : Below w.heap.size w ((W.setCell ⟨w.heap.size, 0, none⟩ u).setCell ⟨w.heap.size + 1, 0, none⟩ v) := (hbel.setCell (p := ⟨w.heap.size, 0, none⟩) (Nat.le_refl _) _).setCell (p := ⟨w.heap.size + 1, 0, none⟩) (by simp) _
      exact Lib.hid ⟨_, rfl, q1, (World.putObj_heap_other (Ne.symm hD0)).trans q2, (World.putObj_heap_other (Ne.symm hD1)).trans q3, q4.trans (belowK_b (w := W0) b0.size _ D _ _ hD q1 rfl rfl), fun k k1 k2 k3 => (World.putObj_heap_other k1).trans ((heap_set_other _ _ _ _ _ k3).trans (heap_set_other _ _ _ _ _ k2))⟩
    have HA := Lib.hid (And.intro ha hK)
    clear hne hD0 hD1 hK
    cases hwh : (stJ (tbs zs)).2.2 with
    | false =>
      rw [hwh] at g4 hres
      have FIN := fin (.slice none 0 0) (.int .i64 7)
      have HRES := Lib.hid hres
      clear ha fin hres hwh hnoe hpp hbel hbig HD hfit htot hA0 k0 k1 k2 k3 k4 k5 k6 k7
      gi_wp2
      obtain ⟨Wf, rfl, q1, q2, q3, q4, -⟩ := FIN.out
      refine ⟨by simp, .inl ⟨_, _, rfl, run_takeDeferred q1, ?_⟩⟩
      refine ⟨_, results_le rfl _ _ w.heap.size (w.heap.size + 1) _ _ rfl rfl q2 q3, q4, .inr ?_⟩
      rw [HRES.out]
      exact ⟨by simp, rfl⟩
    | true =>
      rw [hwh] at g4 hres
      have FIN := fin (.slice Al ys.length cl) (.int .i64 0)
      have HRES := Lib.hid hres
      clear ha fin hres hwh hnoe hpp hbel hbig HD hfit htot hA0 k0 k1 k2 k3 k4 k5 k6 k7
      gi_wp2
      obtain ⟨ha, hK⟩ := HA.out
      obtain ⟨Wf, rfl, q1, q2, q3, q4, q5⟩ := FIN.out
      refine ⟨by simp, .inl ⟨_, _, rfl, run_takeDeferred q1, ?_⟩⟩
      refine ⟨_, results_le rfl _ _ w.heap.size (w.heap.size + 1) _ _ rfl rfl q2 q3, q4, .inl ?_⟩
      rw [HRES.out]
      refine ⟨by simp, _, rfl, ys, ha.ls, rebase3 (ownsRow_of_heap ha.row fun k e => ?_) (by omega), fun y hy => Row.le ((ha.each y hy).of_heap fun k e => ?_) (by omega)⟩
      · obtain ⟨cs, hc⟩ := row_kind ha.row e
        have := own_ge ha.row e
        exact q5 k (fun ek => by subst ek; rw [hK] at hc; cases hc) (by omega) (by omega)
      · obtain ⟨cs, hc⟩ := row_kind (ha.each y hy) e
        have := own_ge (ha.each y hy) e
        exact q5 k (fun ek => by subst ek; rw [hK] at hc; cases hc) (by omega) (by omega)
  case stop =>
    rintro D c pre W hD ⟨rfl, e, hb, h2, h3, hne, hres⟩ hK
    have HH := Lib.hid (And.intro hb (And.intro h2 (And.intro h3 (And.intro hne hres))))
    clear hb h2 h3 hne hres
    gi_wp2
    obtain ⟨hb, h2, h3, hne, hres⟩ := HH.out
    refine ⟨by simp, .inl ⟨_, _, rfl, run_takeDeferred hK, ?_⟩⟩
    have hn2 : w.heap.size ≠ D := fun e => by unfold Whole at h2; rw [e, hK] at h2; cases h2
    have hn3 : w.heap.size + 1 ≠ D := fun e => by unfold Whole at h3; rw [e, hK] at h3; cases h3
    refine ⟨_, results_le rfl _ _ w.heap.size (w.heap.size + 1) _ _ rfl rfl ((World.putObj_heap_other hn2).trans h2) ((World.putObj_heap_other hn3).trans h3), hb.trans (belowK_b (w := W0) b0.size _ D _ _ hD hK rfl rfl), .inr ?_⟩
    rw [hres]
    exact ⟨hne, rfl⟩
theorem sread_any {w : World} {p : Nat} {F : List Nat} {m : Mod} (h : IsD w p F m) (hw : m.waits ≤ 1000000) (hs1 : 64 ≤ m.size) (hs2 : m.size ≤ 1024) (hn : m.n ≤ 600) (fr nn : Nat) (hfn : fr + nn ≤ m.n) (Os : List (Int × List (List UInt8))) (hOs : SecsAre m fr Os) (hOl : Os.length = nn) :
    Calls Try.prog 15 #[.pointer (some ⟨p, 0, none⟩), .int .i64 (fr : Nat), .int .i64 (nn : Nat)] w fun e w' => Below w.heap.size w w' ∧
      (((resS Os).1 = 0 ∧ ∃ v, e = .returned (.tuple #[v, .int .i64 0]) ∧ MRow w' w.heap.size v (resS Os).2) ∨ ((resS Os).1 ≠ 0 ∧ e = .returned (.tuple #[.slice none 0 0, .int .i64 (resS Os).1]))) := callsIn_wide.1 (sread_in h hw hs1 hs2 hn fr nn hfn Os hOs hOl)
end Go.Proofs.Ytlkkfnimealbkaa
