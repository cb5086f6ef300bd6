/- The reader's value. -/
import Derived.Test.YtmpiknaoocflcaaR5
import Derived.Test.YtmpiknaoocflcaaV2
namespace Go.Proofs.Ytmpiknaoocflcaa
open Go.RowKit

/-- a value: its kind, its number, its text. -/
abbrev Tri := Int × Int × ByteArray
def tval (x : Tri) : Value := Val.val x.1 x.2.1 x.2.2
def valOf : List UInt8 → Option (Tri × List UInt8)
  | [] => none
  | x :: l =>
    if x.toNat = 0 then some (((0, 0, ⟨#[]⟩) : Tri), l)
    else if x.toNat = 1 then (match wholeOf l with | some (n, l') => some ((1, n, ⟨#[]⟩), l') | none => none)
    else if x.toNat = 2 then (match textOf 200 l with | some (s, l') => some ((2, 0, s), l') | none => none)
    else if x.toNat = 3 then (match l with | [] => none | y :: l' => if y.toNat ≤ 1 then some ((3, (y.toNat : Int), ⟨#[]⟩), l') else none)
    else none

theorem Rdr.lt {w0 w1 W : World} {r : Nat} {l : List UInt8} {b : Bool} (h : Rdr w0 w1 W r l b) : r < W.heap.size := by
  obtain ⟨A, c, hw, -⟩ := h
  exact hw.lt
/-- what is new may turn. -/
theorem Rdr.over {w0 w1 W W' : World} {r : Nat} {l : List UInt8} {b : Bool} (h : Rdr w0 w1 W r l b) (hb : Below W.heap.size W W') : Rdr w0 w1 W' r l b := by
  obtain ⟨A, c, hw, hh, hc, hf, hg, hg1⟩ := h
  exact ⟨A, c, hw.below hb hw.lt, hh, hc, hf, grown_below hg hb, grown_below hg1 hb⟩
theorem grown_trans' {a b c : World} {r : Nat} (h : a.grownBy b (some r)) (k : b.grownBy c (some r)) : a.grownBy c (some r) :=
  ⟨k.os.trans h.os, k.tape.trans h.tape, k.output.trans h.output, Nat.le_trans h.size k.size, fun i hi hn => (k.block i (Nat.lt_of_lt_of_le hi h.size) hn).trans (h.block i hi hn)⟩
theorem Rdr.back {w0 w1 W W' : World} {r : Nat} {l : List UInt8} {b : Bool} (h : Rdr w0 W W' r l b) (hg : w1.grownBy W (some r)) : Rdr w0 w1 W' r l b := by
  obtain ⟨A, c, hw, hh, hc, hf, hg0, hg1⟩ := h
  exact ⟨A, c, hw, hh, hc, hf, hg0, grown_trans' hg hg1⟩
theorem grown_row {w0 W : World} {r q : Nat} (h : w0.grownBy W (some r)) (hq : w0.heap.size ≤ q) (cs : Array Value) : w0.grownBy (W.setRow q cs) (some r) :=
  ⟨h.os, h.tape, h.output, by simpa using h.size, fun k hk hn => (setRow_other W q k cs (by omega)).trans (h.block k hk hn)⟩
/-- where the answer is laid. -/
theorem grown_at {w0 W : World} {r q : Nat} (h : w0.grownBy W (some r)) (hq : w0.heap.size ≤ q) (i : Nat) (u : Value) : w0.grownBy (W.setCell ⟨q, i, none⟩ u) (some r) :=
  ⟨h.os, h.tape, h.output, by simpa using h.size, fun k hk hn => (Below.heap_setCell W ⟨q, i, none⟩ u k (by show k ≠ q; omega)).trans (h.block k hk hn)⟩
theorem Rdr.lay {w0 w1 W : World} {r q : Nat} {l : List UInt8} {b : Bool} (h : Rdr w0 w1 W r l b) (h0 : w0.heap.size ≤ q) (h1 : w1.heap.size ≤ q) (hq : q ≠ r) (i : Nat) (u : Value) : Rdr w0 w1 (W.setCell ⟨q, i, none⟩ u) r l b := by
  obtain ⟨A, c, hw, hh, hc, hf, hg, hg1⟩ := h
  exact ⟨A, c, hw.far (fun e => hq e.symm) u, hh, hc, hf, grown_at hg h0 i u, grown_at hg1 h1 i u⟩
theorem Rdr.lay3 {w0 w1 W : World} {r q : Nat} {l : List UInt8} {b : Bool} (h : Rdr w0 w1 W r l b) (h0 : w0.heap.size ≤ q) (h1 : w1.heap.size ≤ q) (hq : q ≠ r) (u v x : Value) : Rdr w0 w1 (((W.setCell ⟨q, 0, none⟩ u).setCell ⟨q, 1, none⟩ v).setCell ⟨q, 2, none⟩ x) r l b :=
  ((h.lay h0 h1 hq 0 u).lay h0 h1 hq 1 v).lay h0 h1 hq 2 x
theorem three {W : World} {q : Nat} {u v x a b c : Value} (h : Whole W q 42 #[a, b, c]) : (((W.setCell ⟨q, 0, none⟩ u).setCell ⟨q, 1, none⟩ v).setCell ⟨q, 2, none⟩ x).heap[q]? = some (.cells #[u, v, x] 42) := by
  have := ((h.set_ 0 u).set_ 1 v).set_ 2 x
  simpa [Whole] using this
theorem Read.to {α : Type} {w0 w1 w2 w w' : World} {r n : Nat} {b : Bool} {want : Option (α × List UInt8)} {is : α → Prop} (h : Read w0 w2 r b n want is w) (hf : ∀ l' b', Rdr w0 w2 w r l' b' → Rdr w0 w1 w' r l' b') : Read w0 w1 r b n want is w' := by
  cases want with
  | none => obtain ⟨l', h1, h2⟩ := h; exact ⟨l', h1, hf _ _ h2⟩
  | some p => obtain ⟨x, l'⟩ := p; exact ⟨h.1, h.2.1, hf _ _ h.2.2⟩
/-- to make the walk stand still. -/
def Still (p : Prop) : Prop := p
theorem Still.go {p : Prop} (h : Still p) : p := h
theorem size42 : (Try.prog.info? 42).map (·.size) = some 3 := by kernel_rfl
/-- block q, which the call made, with nothing in it yet. -/
def Empty3 (W : World) (q : Nat) : Prop := Whole W q 42 #[.int .i64 0, .int .i64 0, .string ⟨#[]⟩]
theorem Empty3.grown {W W' : World} {q r : Nat} (h : Empty3 W q) (hg : W.grownBy W' (some r)) (hq : q ≠ r) : Empty3 W' q := by
  unfold Empty3 Whole at *
  rw [hg.block q (Whole.lt h) (fun e => hq (by injection e))]
  exact h
theorem Read.of {α : Type} {w0 w1 w : World} {r n : Nat} {b b1 : Bool} {l1 : List UInt8} {want : Option (α × List UInt8)} {is : α → Prop} (hl : l1.length ≤ n)
    (hc : (∃ x, want = some (x, l1) ∧ is x ∧ b1 = b) ∨ (want = none ∧ b1 = true)) (hr : Rdr w0 w1 w r l1 b1) : Read w0 w1 r b n want is w := by
  rcases hc with ⟨x, rfl, hx, rfl⟩ | ⟨rfl, rfl⟩
  · exact ⟨hx, hl, hr⟩
  · exact ⟨l1, hl, hr⟩
theorem valOf_cons (x : UInt8) (l : List UInt8) : valOf (x :: l) = (if x.toNat = 0 then some (((0, 0, ⟨#[]⟩) : Tri), l)
    else if x.toNat = 1 then (match wholeOf l with | some (n, l') => some ((1, n, ⟨#[]⟩), l') | none => none)
    else if x.toNat = 2 then (match textOf 200 l with | some (s, l') => some ((2, 0, s), l') | none => none)
    else if x.toNat = 3 then (match l with | [] => none | y :: l' => if y.toNat ≤ 1 then some ((3, (y.toNat : Int), ⟨#[]⟩), l') else none)
    else none) := rfl
theorem textOf_size {most : Nat} {l l' : List UInt8} {s : ByteArray} (h : textOf most l = some (s, l')) : s.size ≤ most := by
  unfold textOf at h
  cases hq : numOf l with
  | none => rw [hq] at h; cases h
  | some p =>
    obtain ⟨n, l1⟩ := p
    rw [hq] at h
    simp only at h
    split at h
    · cases h
    · injection h with h
      injection h with h1 h2
      subst h1
      show (l1.take n).toArray.size ≤ most
      simp
      omega

section
variable {w0 w1 W : World} {r : Nat} {l : List UInt8} {b : Bool}
set_option maxRecDepth 100000 in
set_option maxHeartbeats 1000000 in
theorem value_null (x : UInt8) (l : List UInt8) (h : Rdr w0 w1 W r (x :: l) b) (hl : (x :: l).length ≤ 9000000) (hx : x.toNat = 0) :
    Calls Try.prog 46 #[.pointer (some ⟨r, 0, none⟩)] W fun e w' => ∃ v : Tri, e = .returned (tval v) ∧ Read w0 w1 r b (x :: l).length (valOf (x :: l)) (fun x => v = x) w' := by
  have hq : W.heap.size ≠ r := by have := h.lt; omega
  have h0 : w0.heap.size ≤ W.heap.size := h.grown.1.size
  have h1 : w1.heap.size ≤ W.heap.size := h.grown.2.size
  have hE : Empty3 (W.alloc (.cells #[.int .i64 0, .int .i64 0, .string ⟨#[]⟩] 42)) W.heap.size := Whole.new W 42 _
  have bal : Below W.heap.size W (W.alloc (.cells #[.int .i64 0, .int .i64 0, .string ⟨#[]⟩] 42)) := (Below.refl _ _).alloc (Nat.le_refl _) _
  have hR := (h.over bal).rebase
  have HG := Lib.hid (grown_below h.grown.2 bal)
  have H := Lib.hid h
  clear h
  generalize hW' : W.alloc (.cells #[.int .i64 0, .int .i64 0, .string ⟨#[]⟩] 42) = W' at *
  have S := Lib.hid (single_some hR hl)
  clear hR
  go_enter Try.func46, Try.ntmps46
  go_wp2_with fail
  try simp only [hW']
  clear hW'
  refine S.out.mono ?_
  rintro e u1 ⟨rfl, hr1⟩
  rw [hx]
  have HE1 := hE.grown hr1.grown.2 hq
  have R1 := Lib.hid hr1
  clear hr1 S
  go_wp2_with fail
  refine (Val.null_any _).mono ?_
  rintro e u2 ⟨rfl, b2⟩
  have HQ : Hid (Empty3 u2 W.heap.size) := Lib.hid (Whole.below HE1 b2 (Whole.lt HE1))
  have R2 := Lib.hid (R1.out.over b2)
  clear b2 R1 HE1
  have c0 := HQ.out.cell 0
  have c1 := HQ.out.cell 1
  have c2 := HQ.out.cell 2
  have f0 := HQ.out.frozen 0
  have f1 := HQ.out.frozen 1
  have f2 := HQ.out.frozen 2
  simp only [List.getElem?_toArray, List.getElem?_cons_zero, List.getElem?_cons_succ] at c0 c1 c2
  go_wp2_with fail
  refine bodyPost_ret (results_cell_row rfl _ _ W.heap.size 42 #[.int .i64 0, .int .i64 0, .string ⟨#[]⟩] (0, 0) _ rfl (three HQ.out) Val.fieldsVal rfl size42) rfl ⟨(0, 0, ⟨#[]⟩), rfl, ?_⟩
  exact (by rw [valOf_cons, if_pos hx]; exact ⟨rfl, by simp, (R2.out.back HG.out).lay3 h0 h1 hq _ _ _⟩)

set_option maxRecDepth 100000 in
set_option maxHeartbeats 1000000 in
theorem value_int (x : UInt8) (l : List UInt8) (h : Rdr w0 w1 W r (x :: l) b) (hl : (x :: l).length ≤ 9000000) (hx : x.toNat = 1) :
    Calls Try.prog 46 #[.pointer (some ⟨r, 0, none⟩)] W fun e w' => ∃ v : Tri, e = .returned (tval v) ∧ Read w0 w1 r b (x :: l).length (valOf (x :: l)) (fun x => v = x) w' := by
  have hq : W.heap.size ≠ r := by have := h.lt; omega
  have h0 : w0.heap.size ≤ W.heap.size := h.grown.1.size
  have h1 : w1.heap.size ≤ W.heap.size := h.grown.2.size
  have hE : Empty3 (W.alloc (.cells #[.int .i64 0, .int .i64 0, .string ⟨#[]⟩] 42)) W.heap.size := Whole.new W 42 _
  have bal : Below W.heap.size W (W.alloc (.cells #[.int .i64 0, .int .i64 0, .string ⟨#[]⟩] 42)) := (Below.refl _ _).alloc (Nat.le_refl _) _
  have hR := (h.over bal).rebase
  have HG := Lib.hid (grown_below h.grown.2 bal)
  have H := Lib.hid h
  clear h
  generalize hW' : W.alloc (.cells #[.int .i64 0, .int .i64 0, .string ⟨#[]⟩] 42) = W' at *
  have S := Lib.hid (single_some hR hl)
  clear hR
  go_enter Try.func46, Try.ntmps46
  go_wp2_with fail
  try simp only [hW']
  clear hW'
  refine S.out.mono ?_
  rintro e u1 ⟨rfl, hr1⟩
  rw [hx]
  have hl' : l.length ≤ 9000000 := by rw [List.length_cons] at hl; omega
  have C := Lib.hid (whole_any hr1 hl')
  clear hr1 S
  go_wp2_with fail
  refine C.out.mono ?_
  rintro e u2 ⟨z, rfl, hr2⟩
  obtain ⟨l1, b1, hl1, hrd, hcase⟩ := read_state hr2
  have HE2 := hE.grown hrd.grown.2 hq
  have HC := Lib.hid hcase
  have R2 := Lib.hid hrd
  clear hr2 C hcase hrd
  go_wp2_with fail
  refine (Val.int_any _ _).mono ?_
  rintro e u3 ⟨rfl, b3⟩
  have HQ : Hid (Empty3 u3 W.heap.size) := Lib.hid (Whole.below HE2 b3 (Whole.lt HE2))
  have R3 := Lib.hid (R2.out.over b3)
  clear b3 R2 HE2
  have c0 := HQ.out.cell 0
  have c1 := HQ.out.cell 1
  have c2 := HQ.out.cell 2
  have f0 := HQ.out.frozen 0
  have f1 := HQ.out.frozen 1
  have f2 := HQ.out.frozen 2
  simp only [List.getElem?_toArray, List.getElem?_cons_zero, List.getElem?_cons_succ] at c0 c1 c2
  go_wp2_with fail
  refine bodyPost_ret (results_cell_row rfl _ _ W.heap.size 42 #[.int .i64 1, .int .i64 z, .string ⟨#[]⟩] (0, 0) _ rfl (three HQ.out) Val.fieldsVal rfl size42) rfl ⟨(1, z, ⟨#[]⟩), rfl, ?_⟩
  exact (by
    refine Read.of (by show l1.length ≤ l.length + 1; omega) ?_ ((R3.out.back HG.out).lay3 h0 h1 hq _ _ _)
    rw [valOf_cons, if_neg (by omega), if_pos hx]
    rcases HC.out with ⟨y, hy, hz, hb⟩ | ⟨hy, hb⟩
    · left
      simp only [hy]
      exact ⟨_, rfl, by rw [hz], hb⟩
    · right
      simp only [hy]
      exact ⟨trivial, hb⟩)

set_option maxRecDepth 100000 in
set_option maxHeartbeats 1000000 in
theorem value_text (x : UInt8) (l : List UInt8) (h : Rdr w0 w1 W r (x :: l) b) (hl : (x :: l).length ≤ 9000000) (hx : x.toNat = 2) :
    Calls Try.prog 46 #[.pointer (some ⟨r, 0, none⟩)] W fun e w' => ∃ v : Tri, e = .returned (tval v) ∧ Read w0 w1 r b (x :: l).length (valOf (x :: l)) (fun x => v = x) w' := by
  have hq : W.heap.size ≠ r := by have := h.lt; omega
  have h0 : w0.heap.size ≤ W.heap.size := h.grown.1.size
  have h1 : w1.heap.size ≤ W.heap.size := h.grown.2.size
  have hE : Empty3 (W.alloc (.cells #[.int .i64 0, .int .i64 0, .string ⟨#[]⟩] 42)) W.heap.size := Whole.new W 42 _
  have bal : Below W.heap.size W (W.alloc (.cells #[.int .i64 0, .int .i64 0, .string ⟨#[]⟩] 42)) := (Below.refl _ _).alloc (Nat.le_refl _) _
  have hR := (h.over bal).rebase
  have HG := Lib.hid (grown_below h.grown.2 bal)
  have H := Lib.hid h
  clear h
  generalize hW' : W.alloc (.cells #[.int .i64 0, .int .i64 0, .string ⟨#[]⟩] 42) = W' at *
  have S := Lib.hid (single_some hR hl)
  clear hR
  go_enter Try.func46, Try.ntmps46
  go_wp2_with fail
  try simp only [hW']
  clear hW'
  refine S.out.mono ?_
  rintro e u1 ⟨rfl, hr1⟩
  rw [hx]
  have hl' : l.length ≤ 9000000 := by rw [List.length_cons] at hl; omega
  have C := Lib.hid (text_sized hr1 hl' 200)
  clear hr1 S
  go_wp2_with fail
  refine C.out.mono ?_
  rintro e u2 ⟨z, hz9, rfl, hr2⟩
  obtain ⟨l1, b1, hl1, hrd, hcase⟩ := read_state hr2
  have HE2 := hE.grown hrd.grown.2 hq
  have HC := Lib.hid hcase
  have R2 := Lib.hid hrd
  clear hr2 C hcase hrd
  go_wp2_with fail
  refine (Val.text_any _ _ (by omega)).mono ?_
  rintro e u3 ⟨rfl, b3⟩
  have HQ : Hid (Empty3 u3 W.heap.size) := Lib.hid (Whole.below HE2 b3 (Whole.lt HE2))
  have R3 := Lib.hid (R2.out.over b3)
  clear b3 R2 HE2
  have c0 := HQ.out.cell 0
  have c1 := HQ.out.cell 1
  have c2 := HQ.out.cell 2
  have f0 := HQ.out.frozen 0
  have f1 := HQ.out.frozen 1
  have f2 := HQ.out.frozen 2
  simp only [List.getElem?_toArray, List.getElem?_cons_zero, List.getElem?_cons_succ] at c0 c1 c2
  go_wp2_with fail
  refine bodyPost_ret (results_cell_row rfl _ _ W.heap.size 42 #[.int .i64 2, .int .i64 0, .string (Val.cut z)] (0, 0) _ rfl (three HQ.out) Val.fieldsVal rfl size42) rfl ⟨(2, 0, (Val.cut z)), rfl, ?_⟩
  exact (by
    refine Read.of (by show l1.length ≤ l.length + 1; omega) ?_ ((R3.out.back HG.out).lay3 h0 h1 hq _ _ _)
    rw [valOf_cons, if_neg (by omega), if_neg (by omega), if_pos hx]
    rcases HC.out with ⟨y, hy, hz, hb⟩ | ⟨hy, hb⟩
    · left
      simp only [hy]
      exact ⟨_, rfl, by rw [← hz, Val.cut_small (by rw [hz]; exact textOf_size hy)], hb⟩
    · right
      simp only [hy]
      exact ⟨trivial, hb⟩)

set_option maxRecDepth 100000 in
set_option maxHeartbeats 1000000 in
theorem value_bool_none (x : UInt8) (h : Rdr w0 w1 W r (x :: []) b) (hl : (x :: ([] : List UInt8)).length ≤ 9000000) (hx : x.toNat = 3) :
    Calls Try.prog 46 #[.pointer (some ⟨r, 0, none⟩)] W fun e w' => ∃ v : Tri, e = .returned (tval v) ∧ Read w0 w1 r b [x].length (valOf [x]) (fun x => v = x) w' := by
  have hq : W.heap.size ≠ r := by have := h.lt; omega
  have h0 : w0.heap.size ≤ W.heap.size := h.grown.1.size
  have h1 : w1.heap.size ≤ W.heap.size := h.grown.2.size
  have hE : Empty3 (W.alloc (.cells #[.int .i64 0, .int .i64 0, .string ⟨#[]⟩] 42)) W.heap.size := Whole.new W 42 _
  have bal : Below W.heap.size W (W.alloc (.cells #[.int .i64 0, .int .i64 0, .string ⟨#[]⟩] 42)) := (Below.refl _ _).alloc (Nat.le_refl _) _
  have hR := (h.over bal).rebase
  have HG := Lib.hid (grown_below h.grown.2 bal)
  have H := Lib.hid h
  clear h
  generalize hW' : W.alloc (.cells #[.int .i64 0, .int .i64 0, .string ⟨#[]⟩] 42) = W' at *
  have S := Lib.hid (single_some hR hl)
  clear hR
  go_enter Try.func46, Try.ntmps46
  go_wp2_with fail
  try simp only [hW']
  clear hW'
  refine S.out.mono ?_
  rintro e u1 ⟨rfl, hr1⟩
  skip
  rw [hx]
  have C := Lib.hid (single_none hr1)
  clear hr1 S
  go_wp2_with fail
  refine C.out.mono ?_
  rintro e u2 ⟨rfl, hr2⟩
  have C2 := Lib.hid (must_any hr2 ((0 : Int) ≤ 1))
  clear hr2 C
  go_wp2_with fail
  refine C2.out.mono ?_
  rintro e u4 ⟨rfl, hr4⟩
  have HE2 := hE.grown hr4.grown.2 hq
  have R2 := Lib.hid hr4
  clear hr4 C2
  go_wp2_with fail
  refine (Val.bool_any _ _).mono ?_
  rintro e u3 ⟨rfl, b3⟩
  have HQ : Hid (Empty3 u3 W.heap.size) := Lib.hid (Whole.below HE2 b3 (Whole.lt HE2))
  have R3 := Lib.hid (R2.out.over b3)
  clear b3 R2 HE2
  have c0 := HQ.out.cell 0
  have c1 := HQ.out.cell 1
  have c2 := HQ.out.cell 2
  have f0 := HQ.out.frozen 0
  have f1 := HQ.out.frozen 1
  have f2 := HQ.out.frozen 2
  simp only [List.getElem?_toArray, List.getElem?_cons_zero, List.getElem?_cons_succ] at c0 c1 c2
  go_wp2_with fail
  refine bodyPost_ret (results_cell_row rfl _ _ W.heap.size 42 #[.int .i64 3, .int .i64 (Val.bit ((0 : Int) == 1)), .string ⟨#[]⟩] (0, 0) _ rfl (three HQ.out) Val.fieldsVal rfl size42) rfl ⟨(3, (Val.bit ((0 : Int) == 1)), ⟨#[]⟩), rfl, ?_⟩
  exact (by
    refine Read.of (l1 := []) (b1 := true) (by simp) ?_ ((R3.out.back HG.out).lay3 h0 h1 hq _ _ _)
    right
    exact ⟨by rw [valOf_cons, if_neg (by omega), if_neg (by omega), if_neg (by omega), if_pos hx], rfl⟩)

set_option maxRecDepth 100000 in
set_option maxHeartbeats 1000000 in
theorem value_bool (x y : UInt8) (l : List UInt8) (h : Rdr w0 w1 W r (x :: y :: l) b) (hl : (x :: y :: l).length ≤ 9000000) (hx : x.toNat = 3) :
    Calls Try.prog 46 #[.pointer (some ⟨r, 0, none⟩)] W fun e w' => ∃ v : Tri, e = .returned (tval v) ∧ Read w0 w1 r b (x :: y :: l).length (valOf (x :: y :: l)) (fun x => v = x) w' := by
  have hq : W.heap.size ≠ r := by have := h.lt; omega
  have h0 : w0.heap.size ≤ W.heap.size := h.grown.1.size
  have h1 : w1.heap.size ≤ W.heap.size := h.grown.2.size
  have hE : Empty3 (W.alloc (.cells #[.int .i64 0, .int .i64 0, .string ⟨#[]⟩] 42)) W.heap.size := Whole.new W 42 _
  have bal : Below W.heap.size W (W.alloc (.cells #[.int .i64 0, .int .i64 0, .string ⟨#[]⟩] 42)) := (Below.refl _ _).alloc (Nat.le_refl _) _
  have hR := (h.over bal).rebase
  have HG := Lib.hid (grown_below h.grown.2 bal)
  have H := Lib.hid h
  clear h
  generalize hW' : W.alloc (.cells #[.int .i64 0, .int .i64 0, .string ⟨#[]⟩] 42) = W' at *
  have S := Lib.hid (single_some hR hl)
  clear hR
  go_enter Try.func46, Try.ntmps46
  go_wp2_with fail
  try simp only [hW']
  clear hW'
  refine S.out.mono ?_
  rintro e u1 ⟨rfl, hr1⟩
  skip
  rw [hx]
  have C := Lib.hid (single_some hr1 (by rw [List.length_cons] at hl; omega))
  clear hr1 S
  go_wp2_with fail
  refine C.out.mono ?_
  rintro e u2 ⟨rfl, hr2⟩
  have C2 := Lib.hid (must_any hr2 (((y.toNat : Nat) : Int) ≤ 1))
  clear hr2 C
  go_wp2_with fail
  refine C2.out.mono ?_
  rintro e u4 ⟨rfl, hr4⟩
  have HE2 := hE.grown hr4.grown.2 hq
  have R2 := Lib.hid hr4
  clear hr4 C2
  go_wp2_with fail
  refine (Val.bool_any _ _).mono ?_
  rintro e u3 ⟨rfl, b3⟩
  have HQ : Hid (Empty3 u3 W.heap.size) := Lib.hid (Whole.below HE2 b3 (Whole.lt HE2))
  have R3 := Lib.hid (R2.out.over b3)
  clear b3 R2 HE2
  have c0 := HQ.out.cell 0
  have c1 := HQ.out.cell 1
  have c2 := HQ.out.cell 2
  have f0 := HQ.out.frozen 0
  have f1 := HQ.out.frozen 1
  have f2 := HQ.out.frozen 2
  simp only [List.getElem?_toArray, List.getElem?_cons_zero, List.getElem?_cons_succ] at c0 c1 c2
  go_wp2_with fail
  refine bodyPost_ret (results_cell_row rfl _ _ W.heap.size 42 #[.int .i64 3, .int .i64 (Val.bit (((y.toNat : Nat) : Int) == 1)), .string ⟨#[]⟩] (0, 0) _ rfl (three HQ.out) Val.fieldsVal rfl size42) rfl ⟨(3, (Val.bit (((y.toNat : Nat) : Int) == 1)), ⟨#[]⟩), rfl, ?_⟩
  exact (by
    refine Read.of (l1 := l) (by show l.length ≤ l.length + 1 + 1; omega) ?_ ((R3.out.back HG.out).lay3 h0 h1 hq _ _ _)
    rw [valOf_cons, if_neg (by omega), if_neg (by omega), if_neg (by omega), if_pos hx]
    simp only
    by_cases hy : y.toNat ≤ 1
    · left
      rw [if_pos hy]
      have hy' : ((y.toNat : Nat) : Int) ≤ 1 := by omega
      refine ⟨_, rfl, ?_, by simp [hy']⟩
      rcases Nat.lt_or_ge y.toNat 1 with hy0 | hy0
      · have : y.toNat = 0 := by omega
        rw [this]; rfl
      · have : y.toNat = 1 := by omega
        rw [this]; rfl
    · right
      rw [if_neg hy]
      exact ⟨rfl, by simp; right; omega⟩)

set_option maxRecDepth 100000 in
set_option maxHeartbeats 1000000 in
theorem value_else (x : UInt8) (l : List UInt8) (h : Rdr w0 w1 W r (x :: l) b) (hl : (x :: l).length ≤ 9000000) (hx : 3 < x.toNat) :
    Calls Try.prog 46 #[.pointer (some ⟨r, 0, none⟩)] W fun e w' => ∃ v : Tri, e = .returned (tval v) ∧ Read w0 w1 r b (x :: l).length (valOf (x :: l)) (fun x => v = x) w' := by
  have hq : W.heap.size ≠ r := by have := h.lt; omega
  have h0 : w0.heap.size ≤ W.heap.size := h.grown.1.size
  have h1 : w1.heap.size ≤ W.heap.size := h.grown.2.size
  have hE : Empty3 (W.alloc (.cells #[.int .i64 0, .int .i64 0, .string ⟨#[]⟩] 42)) W.heap.size := Whole.new W 42 _
  have bal : Below W.heap.size W (W.alloc (.cells #[.int .i64 0, .int .i64 0, .string ⟨#[]⟩] 42)) := (Below.refl _ _).alloc (Nat.le_refl _) _
  have hR := (h.over bal).rebase
  have HG := Lib.hid (grown_below h.grown.2 bal)
  have H := Lib.hid h
  clear h
  generalize hW' : W.alloc (.cells #[.int .i64 0, .int .i64 0, .string ⟨#[]⟩] 42) = W' at *
  have S := Lib.hid (single_some hR hl)
  clear hR
  go_enter Try.func46, Try.ntmps46
  go_wp2_with fail
  try simp only [hW']
  clear hW'
  refine S.out.mono ?_
  rintro e u1 ⟨rfl, hr1⟩
  have hl' : l.length ≤ 9000000 := by rw [List.length_cons] at hl; omega
  have hxb : ((x.toNat : Nat) : Int) < 256 := by have := x.toNat_lt; omega
  have hx0 : ¬ ((x.toNat : Nat) : Int) = 0 := by omega
  have hx1 : ¬ ((x.toNat : Nat) : Int) = 1 := by omega
  have hx2 : ¬ ((x.toNat : Nat) : Int) = 2 := by omega
  have hx3 : ¬ ((x.toNat : Nat) : Int) = 3 := by omega
  obtain ⟨A, c, k0, k1, g0, g1, -⟩ := hr1.cells
  have hw := hr1.wrongly true
  have HE1 := (hE.grown hr1.grown.2 hq)
  have HE2 : Empty3 (u1.setCell ⟨r, 1, none⟩ (.bool true)) W.heap.size := Whole.far HE1 (p := ⟨r, 1, none⟩) hq _
  clear hr1 S HE1
  go_wp2_with fail
  refine (Val.null_any _).mono ?_
  rintro e u3 ⟨rfl, b3⟩
  have HQ : Hid (Empty3 u3 W.heap.size) := Lib.hid (Whole.below HE2 b3 (Whole.lt HE2))
  have R3 := Lib.hid (hw.over b3)
  clear b3 hw HE2 k1 g1
  have c0 := HQ.out.cell 0
  have c1 := HQ.out.cell 1
  have c2 := HQ.out.cell 2
  have f0 := HQ.out.frozen 0
  have f1 := HQ.out.frozen 1
  have f2 := HQ.out.frozen 2
  simp only [List.getElem?_toArray, List.getElem?_cons_zero, List.getElem?_cons_succ] at c0 c1 c2
  go_wp2_with fail
  refine bodyPost_ret (results_cell_row rfl _ _ W.heap.size 42 #[.int .i64 0, .int .i64 0, .string ⟨#[]⟩] (0, 0) _ rfl (three HQ.out) Val.fieldsVal rfl size42) rfl ⟨(0, 0, ⟨#[]⟩), rfl, ?_⟩
  exact (by
    refine Read.of (l1 := l) (b1 := true) (by simp) ?_ ((R3.out.back HG.out).lay3 h0 h1 hq _ _ _)
    right
    exact ⟨by rw [valOf_cons, if_neg (by omega), if_neg (by omega), if_neg (by omega), if_neg (by omega)], rfl⟩)

set_option maxRecDepth 100000 in
set_option maxHeartbeats 1000000 in
theorem value_nil (h : Rdr w0 w1 W r [] b) :
    Calls Try.prog 46 #[.pointer (some ⟨r, 0, none⟩)] W fun e w' => ∃ v : Tri, e = .returned (tval v) ∧ Read w0 w1 r b ([] : List UInt8).length (valOf ([] : List UInt8)) (fun x => v = x) w' := by
  have hq : W.heap.size ≠ r := by have := h.lt; omega
  have h0 : w0.heap.size ≤ W.heap.size := h.grown.1.size
  have h1 : w1.heap.size ≤ W.heap.size := h.grown.2.size
  have hE : Empty3 (W.alloc (.cells #[.int .i64 0, .int .i64 0, .string ⟨#[]⟩] 42)) W.heap.size := Whole.new W 42 _
  have bal : Below W.heap.size W (W.alloc (.cells #[.int .i64 0, .int .i64 0, .string ⟨#[]⟩] 42)) := (Below.refl _ _).alloc (Nat.le_refl _) _
  have hR := (h.over bal).rebase
  have HG := Lib.hid (grown_below h.grown.2 bal)
  have H := Lib.hid h
  clear h
  generalize hW' : W.alloc (.cells #[.int .i64 0, .int .i64 0, .string ⟨#[]⟩] 42) = W' at *
  have S := Lib.hid (single_none hR)
  clear hR
  go_enter Try.func46, Try.ntmps46
  go_wp2_with fail
  try simp only [hW']
  clear hW'
  refine S.out.mono ?_
  rintro e u1 ⟨rfl, hr1⟩
  have HE1 := hE.grown hr1.grown.2 hq
  have R1 := Lib.hid hr1
  clear hr1 S
  go_wp2_with fail
  refine (Val.null_any _).mono ?_
  rintro e u2 ⟨rfl, b2⟩
  have HQ : Hid (Empty3 u2 W.heap.size) := Lib.hid (Whole.below HE1 b2 (Whole.lt HE1))
  have R2 := Lib.hid (R1.out.over b2)
  clear b2 R1 HE1
  have c0 := HQ.out.cell 0
  have c1 := HQ.out.cell 1
  have c2 := HQ.out.cell 2
  have f0 := HQ.out.frozen 0
  have f1 := HQ.out.frozen 1
  have f2 := HQ.out.frozen 2
  simp only [List.getElem?_toArray, List.getElem?_cons_zero, List.getElem?_cons_succ] at c0 c1 c2
  go_wp2_with fail
  refine bodyPost_ret (results_cell_row rfl _ _ W.heap.size 42 #[.int .i64 0, .int .i64 0, .string ⟨#[]⟩] (0, 0) _ rfl (three HQ.out) Val.fieldsVal rfl size42) rfl ⟨(0, 0, ⟨#[]⟩), rfl, ?_⟩
  exact (Read.of (l1 := []) (by simp) (.inr ⟨rfl, rfl⟩) ((R2.out.back HG.out).lay3 h0 h1 hq _ _ _))

theorem value_any (h : Rdr w0 w1 W r l b) (hl : l.length ≤ 9000000) :
    Calls Try.prog 46 #[.pointer (some ⟨r, 0, none⟩)] W fun e w' => ∃ v : Tri, e = .returned (tval v) ∧ Read w0 w1 r b l.length (valOf l) (fun x => v = x) w' := by
  cases l with
  | nil => exact value_nil h
  | cons x l =>
    by_cases h0 : x.toNat = 0
    · exact value_null x l h hl h0
    · by_cases h1 : x.toNat = 1
      · exact value_int x l h hl h1
      · by_cases h2 : x.toNat = 2
        · exact value_text x l h hl h2
        · by_cases h3 : x.toNat = 3
          · cases l with
            | nil => exact value_bool_none x h hl h3
            | cons y l => exact value_bool x y l h hl h3
          · exact value_else x l h hl (by omega)
end
end Go.Proofs.Ytmpiknaoocflcaa
