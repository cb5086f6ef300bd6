/- parts told as a sequence; Sectors. -/
import Derived.Test.YtlkkfnimealbkaaNE
namespace Go.Proofs.Ytlkkfnimealbkaa
open Go.RowKit Go.Shelf
set_option linter.unusedVariables false
attribute [local go_sem] Oper.semAt_some
theorem abidesT_below {β : Type} {t : TypeId} {B : Nat} {J : β → World → Prop} (h : AbidesT t B J) (s : β) (W W' : World) (hs : J s W) (hb : Below W.heap.size W W') : J s W' :=
  h s W W' none hs ⟨hb.os, hb.tape, hb.output, hb.size, fun k hk _ => hb.block k hk⟩ (fun r e => by cases e)
theorem abidesT_touch {β : Type} {t : TypeId} {B : Nat} {J : β → World → Prop} (h : AbidesT t B J) (s : β) (W W' : World) (r : Nat) (hs : J s W) (hr : B ≤ r) (hc : ∃ (cs : Array Value) (z : Nat × Nat), W.heap[r]? = some (Obj.cells cs t z)) (ht : Touch [r] W W') : J s W' :=
  h s W W' (some r) hs ⟨ht.os, ht.tape, ht.output, ht.size, fun k hk hn => ht.block k hk (by simp; exact fun e => hn (by rw [e]))⟩ (fun r' e => by cases e; exact ⟨hr, hc⟩)
theorem parts_seq (n : Nat) (hn : 1 ≤ n) (Bn : Nat) (w0 W0 : World) (size : Nat) (h1 : 64 ≤ size) (h2 : size ≤ 1024) (A : Option Addr) (c : Nat) (rs : List (List UInt8)) (hR : Recs w0 A rs) (hrs : rs.length ≤ 1000000) (hrl : ∀ r ∈ rs, r.length ≤ 1000000) (hT : (partsL size rs).length ≤ 1000000000)
    (hB : Below w0.heap.size w0 W0) (hb0 : Whole W0 Bn 3 #[.int .i64 (size : Nat)]) (hb1 : Whole W0 (Bn + 1) 22 #[.slice A rs.length c]) :
    SeqX 85 Fence.wide n Try.prog 35 #[.pointer (some ⟨Bn, 0, none⟩), .pointer (some ⟨Bn + 1, 0, none⟩)] encP (PtIn w0 size rs) (KpS w0.heap.size) (fun ys => pbs ys = partsL size rs) W0 := fun l J Jx W hW hJ hJx hY h0 =>
  parts1_in n hn l Bn w0 size h1 h2 A c rs hR hrs hrl hT J Jx hY W (fun s W1 W2 hs hb => abidesT_below hJ s W1 W2 hs hb) (fun s W1 W2 r hs hr hc ht => abidesT_touch hJ s W1 W2 r hs hr hc ht) (hB.trans (hW.mono hB.size)) (hb0.below hW hb0.lt) (hb1.below hW hb1.lt) h0
theorem parts1_bad (n : Nat) (hn : 1 ≤ n) (l Bn : Nat) (size : Int) (h : size < 64 ∨ 1024 < size) (W : World) (hb0 : Whole W Bn 3 #[.int .i64 size]) (q : Value) :
    CallsIn Fence.wide n Try.prog 35 #[.func (.yield l) #[] #[], .pointer (some ⟨Bn, 0, none⟩), q] W fun r W' => (∃ v, r = .returned v) ∧ W' = W := by
  have c0 := hb0.cell 0
  simp only [List.getElem?_toArray, List.getElem?_cons_zero] at c0
  have NEW := Lib.hid (Pag.new_bad size h W)
  clear hb0 h
  refine callsIn_of_wp Try.func35 rfl trivial ?_ rfl
  simp only [Try.ntmps35, List.size_toArray, List.length_cons, List.length_nil, Nat.reduceAdd, Nat.reduceSub, Array.replicate_succ, Array.replicate_zero, List.push_toArray, List.append_toArray, List.nil_append, List.cons_append]
  gi_wp2
  refine ⟨trivial, ?_⟩
  refine (callsIn_wide.2 NEW.out).mono ?_
  rintro e w1 ⟨rfl, rfl⟩
  gi_wp2
  refine bodyPost_ret (results_none rfl _ _ _) rfl ?_
  exact ⟨⟨_, rfl⟩, rfl⟩
theorem parts_seq_bad (n : Nat) (hn : 1 ≤ n) (Bn : Nat) (W0 : World) (size : Int) (h : size < 64 ∨ 1024 < size) (n₀ : Nat) (hb0 : Whole W0 Bn 3 #[.int .i64 size]) :
    SeqX 85 Fence.wide n Try.prog 35 #[.pointer (some ⟨Bn, 0, none⟩), .pointer (some ⟨Bn + 1, 0, none⟩)] encP (fun _ _ _ => False) (KpS n₀) (fun ys => ys = []) W0 := fun l J Jx W hW hJ hJx hY h0 => by
  refine (parts1_bad n hn l Bn size h W (hb0.below hW hb0.lt) _).mono ?_
  rintro r W' ⟨hv, rfl⟩
  exact ⟨hv, .inl ⟨[], rfl, h0⟩⟩
/-- how many pages were told. -/
def upTo (pre : List Pb) : Nat := match pre.getLast? with
  | none => 0
  | some x => x.n + 1
theorem upTo_snoc (pre : List Pb) (x : Pb) : upTo (pre ++ [x]) = x.n + 1 := by simp [upTo]
theorem upTo_pages {size : Nat} (h : 64 ≤ size) (l : List (List UInt8)) : upTo (partsL size l) = nPages size l := by
  have hp := partsL_pages h l
  unfold nPages
  generalize partsL size l = T at *
  revert hp
  refine snoc_ind (P := fun T => PgsOk (size - 1) T → upTo T = (pagesOf T).length) (fun _ => rfl) (fun pre x _ hp => ?_) T
  rw [upTo_snoc, (hp.some (by simp)).1, stA_append]
  rfl
theorem upTo_le {whole : Nat} : ∀ (l : List Pb) (s : Nat × Nat) (pre : List Pb) (x : Pb), OkT whole s l → pre ++ [x] <+: l → x.n ≤ s.1 + pre.length + 1
  | [], s, pre, x, _, hp => by
    have := hp.length_le
    simp at this
  | y :: l, s, pre, x, h, hp => by
    obtain ⟨hy, hl⟩ := h
    have hyn : y.n ≤ s.1 + 1 := by rcases hy with ⟨a, -⟩ | ⟨a, -⟩ <;> omega
    cases pre with
    | nil =>
      obtain ⟨r, hr⟩ := hp
      simp at hr
      rw [hr.1]
      omega
    | cons z pre =>
      obtain ⟨r, hr⟩ := hp
      simp at hr
      have := upTo_le l _ pre x hl ⟨r, by simpa using hr.2⟩
      show x.n ≤ s.1 + (pre.length + 1) + 1
      have e1 : (st1 whole s y).1 = y.n := rfl
      omega
theorem parts_num {size : Nat} (h : 64 ≤ size) {rs : List (List UInt8)} {pre : List Pt} {x : Pb} (hp : pbs pre ++ [x] <+: partsL size rs) : x.n ≤ (partsL size rs).length := by
  have h1 := upTo_le (whole := size - 1) _ _ _ _ (partsL_ok h rs) hp
  have h2 := hp.length_le
  rw [List.length_append, List.length_singleton] at h2
  have h3 : ((0 : Nat), size - 1).1 = 0 := rfl
  omega
theorem whole_ownT {β : Type} (t t' : TypeId) (hne : t' ≠ t) (B n : Nat) (f : β → Array Value) : OwnT t B (fun s W => Whole W n t' (f s)) := fun s X Y row hs hg hrow =>
  (hg.block n (Whole.lt hs) (fun e => by
    obtain ⟨_, o, ho, hc⟩ := hrow n e.symm
    rw [show X.heap[n]? = _ from hs] at ho
    cases ho
    rcases hc with hc | ⟨cs, z, hc⟩
    · simp [Obj.isCells] at hc
    · cases hc; exact hne rfl)).trans hs
theorem below_ownT {β : Type} (t : TypeId) (w : World) (B : Nat) (hB : w.heap.size ≤ B) : OwnT t B (fun (_ : β) W => Below w.heap.size w W) := fun s X Y row hs hg hrow =>
  hs.grown hg hs.size (fun k e => Nat.le_trans hB (hrow k e).1)
set_option maxRecDepth 100000 in
set_option maxHeartbeats 2000000 in
theorem sectors_in {w : World} (size : Nat) (h1 : 64 ≤ size) (h2 : size ≤ 1024) (A : Option Addr) (c : Nat) (rs : List (List UInt8)) (hR : Recs w A rs) (hrs : rs.length ≤ 1000000) (hrl : ∀ r ∈ rs, r.length ≤ 1000000) (hT : (partsL size rs).length ≤ 1000000000) :
    CallsIn Fence.wide 5 Try.prog 9 #[.int .i64 (size : Nat), .slice A rs.length c] w fun e w' => e = .returned (.int .i64 (nPages size rs : Nat)) ∧ Below w.heap.size w w' := by
  refine callsIn_of_wp_marks Try.func9 rfl trivial ?_ rfl
  simp only [Try.ntmps9, List.size_toArray, List.length_cons, List.length_nil, Nat.reduceAdd, Nat.reduceSub, Array.replicate_succ, Array.replicate_zero, List.push_toArray, List.append_toArray, List.nil_append, List.cons_append]
  gi_wp2_with ((try refine ⟨trivial, ?_⟩); gi_at_call 21; refine (parts_in Fence.wide _ trivial rfl _ _ _ _ _).mono ?_; rintro e w' ⟨rfl, rfl⟩)
  have b0 : Below w.heap.size w (((w.alloc (.cells #[.int .i64 0] 3)).alloc (.cells #[.int .i64 (size : Nat)] 3)).alloc (.cells #[.slice A rs.length c] 22)) := (((Below.refl _ w).alloc (Nat.le_refl _) _).alloc (by simp) _).alloc (by simp; omega) _
  have k0 := ((Whole.new w 3 #[.int .i64 0]).alloc (.cells #[.int .i64 (size : Nat)] 3)).alloc (.cells #[.slice A rs.length c] 22)
  have k1 := (Whole.new (w.alloc (.cells #[.int .i64 0] 3)) 3 #[.int .i64 (size : Nat)]).alloc (.cells #[.slice A rs.length c] 22)
  have k2 := Whole.new ((w.alloc (.cells #[.int .i64 0] 3)).alloc (.cells #[.int .i64 (size : Nat)] 3)) 22 #[.slice A rs.length c]
  simp only [World.size_alloc] at k1 k2
  generalize (((w.alloc (.cells #[.int .i64 0] 3)).alloc (.cells #[.int .i64 (size : Nat)] 3)).alloc (.cells #[.slice A rs.length c] 22)) = W0 at *
  refine wpIn_rangeFunc_X rfl (by omega) (gf := 35) rfl trivial (enters_of Try.func35 (by kernel_rfl) rfl)
    (parts_seq 4 (by omega) (w.heap.size + 1) w W0 size h1 h2 A c rs hR hrs hrl hT b0 k1 k2) KpS.trans (kpS_b b0.size) (Below.refl _ _) (fun _ => rfl)
    (fun pre W => Whole W w.heap.size 3 #[.int .i64 (upTo (pbs pre) : Nat)] ∧ Below w.heap.size w W) (fun _ _ _ => False)
    (OwnT.and (whole_ownT _ _ (by decide) _ _ _) (below_ownT _ w _ b0.size)) (fun _ _ _ _ _ hs _ _ => hs) ⟨k0, b0⟩
    (fun pre x a' W => pbs pre ++ [x.p] <+: partsL size rs ∧ a' = { tmps := #[.int .i64 (size : Nat), .slice A rs.length c, undef, undef, .int .i64 0, .pointer (some ⟨w.heap.size, 0, none⟩), .int .i64 (x.p.n : Nat), .int .i64 (size : Nat), .slice A rs.length c, .func (.func 35) #[] #[.pointer (some ⟨w.heap.size + 1, 0, none⟩), .pointer (some ⟨w.heap.size + 1 + 1, 0, none⟩)], .int .i64 (x.p.n : Nat), x.v, undef, undef, undef], defers := [] }) (fun _ _ _ _ _ _ _ hs _ _ => hs)
    ?assign ?body ?done ?stop
  case assign =>
    rintro l pre x W K hI ⟨hp, -⟩ hK
    gi_wp2
    exact hK _ _ (KeepsFrom.refl _ _) ⟨Below.refl _ _, fun _ _ _ _ => rfl⟩ hI ⟨hp, rfl⟩
  case body =>
    rintro l pre x a' W ⟨hb, hB⟩ ⟨hp, rfl⟩
    have f0 := hb.frozen 0
    have c0 := hb.cell 0
    simp only [List.getElem?_toArray, List.getElem?_cons_zero] at c0
    have hnum := parts_num h1 hp
    have hni : (x.p.n : Int) ≤ 1000000000 := by omega
    have HH := Lib.hid (And.intro hb hB)
    clear hb hB
    gi_wp2
    refine ⟨(KeepsOthers.setCell _ _ _).from _, ⟨(Below.refl w.heap.size W).setCell (p := ⟨w.heap.size, 0, none⟩) (Nat.le_refl _) _, fun k cs z e => heap_set_other _ _ _ _ _ (fun e' => ?_)⟩, ?_, HH.out.2.setCell (p := ⟨w.heap.size, 0, none⟩) (Nat.le_refl _) _⟩
    · subst e'
      have h3 := HH.out.1
      unfold Whole at h3
      rw [e] at h3
      simp at h3
    · rw [pbs_snoc, upTo_snoc]
      exact HH.out.1.set_ 0 _
  case done =>
    rintro D ys W hD hys ⟨hb, hB⟩ hK
    have c0 := hb.cell 0
    simp only [List.getElem?_toArray, List.getElem?_cons_zero] at c0
    rw [hys, upTo_pages h1] at c0
    have HB := Lib.hid (And.intro hB hK)
    clear hb hB hK
    gi_wp2
    refine ⟨by simp, .inl ⟨_, _, rfl, run_takeDeferred HB.out.2, ?_⟩⟩
    exact ⟨_, results_tmp rfl _ _ _, rfl, HB.out.1.trans (belowK_b (w := W0) b0.size _ D _ _ hD HB.out.2 rfl rfl)⟩
  case stop =>
    rintro D c pre W _ h _
    exact h.elim
theorem sectors_any {w : World} (size : Nat) (h1 : 64 ≤ size) (h2 : size ≤ 1024) (A : Option Addr) (c : Nat) (rs : List (List UInt8)) (hR : Recs w A rs) (hrs : rs.length ≤ 1000000) (hrl : ∀ r ∈ rs, r.length ≤ 1000000) (hT : (partsL size rs).length ≤ 1000000000) :
    Calls Try.prog 9 #[.int .i64 (size : Nat), .slice A rs.length c] w fun e w' => e = .returned (.int .i64 (nPages size rs : Nat)) ∧ Below w.heap.size w w' := callsIn_wide.1 (sectors_in size h1 h2 A c rs hR hrs hrl hT)
set_option maxRecDepth 100000 in
set_option maxHeartbeats 2000000 in
theorem sectors_bad_in {w : World} (size : Int) (h : size < 64 ∨ 1024 < size) (A : Option Addr) (m c : Nat) :
    CallsIn Fence.wide 5 Try.prog 9 #[.int .i64 size, .slice A m c] w fun e w' => e = .returned (.int .i64 0) ∧ Below w.heap.size w w' := by
  refine callsIn_of_wp_marks Try.func9 rfl trivial ?_ rfl
  simp only [Try.ntmps9, List.size_toArray, List.length_cons, List.length_nil, Nat.reduceAdd, Nat.reduceSub, Array.replicate_succ, Array.replicate_zero, List.push_toArray, List.append_toArray, List.nil_append, List.cons_append]
  gi_wp2_with ((try refine ⟨trivial, ?_⟩); gi_at_call 21; refine (parts_in Fence.wide _ trivial rfl _ _ _ _ _).mono ?_; rintro e w' ⟨rfl, rfl⟩)
  have b0 : Below w.heap.size w (((w.alloc (.cells #[.int .i64 0] 3)).alloc (.cells #[.int .i64 size] 3)).alloc (.cells #[.slice A m c] 22)) := (((Below.refl _ w).alloc (Nat.le_refl _) _).alloc (by simp) _).alloc (by simp; omega) _
  have k0 := ((Whole.new w 3 #[.int .i64 0]).alloc (.cells #[.int .i64 size] 3)).alloc (.cells #[.slice A m c] 22)
  have k1 := (Whole.new (w.alloc (.cells #[.int .i64 0] 3)) 3 #[.int .i64 size]).alloc (.cells #[.slice A m c] 22)
  simp only [World.size_alloc] at k1
  generalize (((w.alloc (.cells #[.int .i64 0] 3)).alloc (.cells #[.int .i64 size] 3)).alloc (.cells #[.slice A m c] 22)) = W0 at *
  refine wpIn_rangeFunc_X rfl (by omega) (gf := 35) rfl trivial (enters_of Try.func35 (by kernel_rfl) rfl)
    (parts_seq_bad 4 (by omega) (w.heap.size + 1) W0 size h w.heap.size k1) KpS.trans (kpS_b b0.size) (Below.refl _ _) (fun _ => rfl)
    (fun _ W => Whole W w.heap.size 3 #[.int .i64 0] ∧ Below w.heap.size w W) (fun _ _ _ => False)
    (OwnT.and (whole_ownT _ _ (by decide) _ _ _) (below_ownT _ w _ b0.size)) (fun _ _ _ _ _ hs _ _ => hs) ⟨k0, b0⟩
    (fun _ _ _ _ => False) (fun _ _ _ _ _ _ _ hs _ _ => hs)
    ?assign ?body ?done ?stop
  case assign =>
    rintro l pre x W K hI hf hK
    exact hf.elim
  case body =>
    rintro l pre x a' W hI hf
    exact hf.elim
  case done =>
    rintro D ys W hD hys ⟨hb, hB⟩ hK
    have c0 := hb.cell 0
    simp only [List.getElem?_toArray, List.getElem?_cons_zero] at c0
    have HB := Lib.hid (And.intro hB hK)
    clear hb hB hK
    gi_wp2
    refine ⟨by simp, .inl ⟨_, _, rfl, run_takeDeferred HB.out.2, ?_⟩⟩
    exact ⟨_, results_tmp rfl _ _ _, rfl, HB.out.1.trans (belowK_b (w := W0) b0.size _ D _ _ hD HB.out.2 rfl rfl)⟩
  case stop =>
    rintro D c pre W _ h _
    exact h.elim
theorem sectors_bad {w : World} (size : Int) (h : size < 64 ∨ 1024 < size) (A : Option Addr) (m c : Nat) :
    Calls Try.prog 9 #[.int .i64 size, .slice A m c] w fun e w' => e = .returned (.int .i64 0) ∧ Below w.heap.size w w' := callsIn_wide.1 (sectors_bad_in size h A m c)
end Go.Proofs.Ytlkkfnimealbkaa
