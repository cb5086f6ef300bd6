/- addValue of any value, addRow, Row. -/
import Derived.Test.YtmpiknaoocflcaaS4
namespace Go.Proofs.Ytmpiknaoocflcaa
open Go.RowKit

def InRange (n : Int) : Prop := -9223372036854775808 ≤ n ∧ n ≤ 9223372036854775807
theorem norm_bad {k n : Int} {s : ByteArray} (h : Val.plainB k n s = false) : norm (k, n, s) = (0, 0, ⟨#[]⟩) := by
  unfold norm
  rw [if_neg (by simp [h])]
theorem norm_plain {k n : Int} {s : ByteArray} (h : Val.plainB k n s = true) : norm (k, n, s) = (k, n, s) := if_pos h
theorem addValue_any {w0 w : World} {v0 : Value} {l : List UInt8} (x : Tri) (h : Ready w0 w v0 l) (hl : l.length ≤ 800000) (hn : InRange x.2.1) (hs : x.2.2.size ≤ 9000000) :
    Calls Try.prog 44 #[v0, tval x] w fun r w' => ∃ v, r = .returned v ∧ Row w' w0.heap.size v (l ++ vb (norm x)) ∧ Below w0.heap.size w0 w' := by
  obtain ⟨k, n, s⟩ := x
  show Calls Try.prog 44 #[v0, Val.val k n s] w _
  cases hp : Val.plainB k n s with
  | false =>
    rw [norm_bad hp]
    exact addValue_bad k n s hs hp h hl
  | true =>
    rw [norm_plain hp]
    rcases plain_cases hp with ⟨rfl, rfl, rfl⟩ | ⟨rfl, rfl⟩ | ⟨rfl, rfl, h2⟩ | ⟨rfl, rfl | rfl, rfl⟩
    · exact addValue_null h hl
    · exact addValue_int n hn.1 hn.2 h hl
    · exact addValue_text s h2 h hl
    · exact addValue_bool0 h hl
    · exact addValue_bool1 h hl

/-- values that came in. -/
structure VIn (w : World) (a : Option Addr) (xs : List Tri) : Prop where
  cell : ∀ i (h : i < xs.length), ∃ b off, a = some ⟨b, off, none⟩ ∧ b < w.heap.size ∧ w.cell? ⟨b, off + i * 3, none⟩ = some (.int .i64 xs[i].1) ∧ w.cell? ⟨b, off + i * 3 + 1, none⟩ = some (.int .i64 xs[i].2.1) ∧ w.cell? ⟨b, off + i * 3 + 2, none⟩ = some (.string xs[i].2.2)
  fits : ∀ i (h : i < xs.length), InRange xs[i].2.1 ∧ xs[i].2.2.size ≤ 9223372036854775807
theorem VIn.below {w w' : World} {a : Option Addr} {xs : List Tri} (h : VIn w a xs) (hb : Below w.heap.size w w') : VIn w' a xs :=
  ⟨fun i hi => by
    obtain ⟨b, off, h1, h2, h3, h4, h5⟩ := h.cell i hi
    exact ⟨b, off, h1, Nat.lt_of_lt_of_le h2 hb.size, (hb.cell h2).trans h3, (hb.cell h2).trans h4, (hb.cell h2).trans h5⟩, h.fits⟩
/-- values, packed one behind the other. -/
def packs (xs : List Tri) : List UInt8 := (xs.map (fun x => vb (norm x))).flatten
def rowB (xs : List Tri) : List UInt8 := grp xs.length ++ packs xs
theorem packs_take (xs : List Tri) (i : Nat) (h : i < xs.length) : packs (xs.take (i + 1)) = packs (xs.take i) ++ vb (norm xs[i]) := by
  unfold packs
  rw [List.take_succ_eq_append_getElem h, List.map_append, List.flatten_append]
  simp
theorem vb_length (x : Tri) (hn : InRange x.2.1) : (vb (norm x)).length ≤ 300 := by
  obtain ⟨k, n, s⟩ := x
  cases hp : Val.plainB k n s with
  | false => rw [norm_bad hp]; decide
  | true =>
    rw [norm_plain hp]
    rcases plain_cases hp with ⟨rfl, rfl, rfl⟩ | ⟨rfl, rfl⟩ | ⟨rfl, rfl, h2⟩ | ⟨rfl, rfl | rfl, rfl⟩
    · decide
    · have : (grp (zig n)).length ≤ 10 := grp_ten (zig_lt hn.1 hn.2)
      simp [vb]
      omega
    · have h1 : (grp s.size).length ≤ 10 := grp_ten (by omega)
      have hs : s.data.toList.length = s.size := Array.length_toList
      have : (txt s).length ≤ 210 := by unfold txt; rw [List.length_append, hs]; omega
      simp [vb]
      omega
    · decide
    · decide
theorem packs_length (xs : List Tri) (h : ∀ i (h : i < xs.length), InRange xs[i].2.1) : ∀ i, i ≤ xs.length → (packs (xs.take i)).length ≤ 300 * i
  | 0, _ => by simp [packs]
  | i + 1, hi => by
    rw [packs_take xs i hi, List.length_append]
    have := packs_length xs h i (by omega)
    have := vb_length xs[i] (h i hi)
    omega

set_option maxRecDepth 100000 in
set_option maxHeartbeats 1000000 in
theorem addRow_any (w0 : World) (A : Option Addr) (c : Nat) (xs : List Tri) (hV : VIn w0 A xs) (hx : xs.length ≤ 1000) (hs : ∀ i (h : i < xs.length), xs[i].2.2.size ≤ 9000000) (v0 : Value) (l : List UInt8) (w : World) (h : Ready w0 w v0 l) (hl : l.length ≤ 400000) :
    Calls Try.prog 47 #[v0, .slice A xs.length c] w fun r w' => ∃ v, r = .returned v ∧ Row w' w0.heap.size v (l ++ rowB xs) ∧ Below w0.heap.size w0 w' := by
  have AU := Lib.hid (addUint_any w0 xs.length (by omega) v0 l w h (by omega))
  have hg10 : (grp xs.length).length ≤ 10 := grp_ten (by omega)
  have hpl := Lib.hid (packs_length xs (fun i hi => (hV.fits i hi).1))
  have HV := Lib.hid hV
  clear h hV
  go_enter Try.func47, Try.ntmps47
  go_wp2_with fail
  refine AU.out.mono ?_
  rintro e w1 ⟨v1, rfl, hr1, hb1⟩
  have R1 := Lib.hid hr1
  have B1 := Lib.hid hb1
  clear hr1 hb1 AU
  go_wp2_with fail
  go_loopg [0, 13] (xs.length + 1) (fun j s0 s13 wr => ∃ i : Nat, i ≤ xs.length ∧ xs.length < i + j ∧ s13 = .int .i64 (i : Nat) ∧ Row wr w0.heap.size s0 (l ++ (grp xs.length ++ packs (xs.take i))) ∧ Below w0.heap.size w0 wr)
  case atStart => exact ⟨0, by omega, by omega, rfl, by simpa [packs] using R1.out, B1.out⟩
  case round =>
    obtain ⟨i, hi, hj, rfl, hr, hb⟩ := hrel
    clear R1 B1
    have HR := Lib.hid hr
    have HB := Lib.hid hb
    clear hr hb
    by_cases hend : i = xs.length
    · subst hend
      have hno : ¬ (xs.length : Int) < (xs.length : Int) := by omega
      go_wp2_with fail
      go_ret
      exact ⟨_, rfl, by have := HR.out; rw [List.take_length] at this; exact this, HB.out⟩
    · have hlt : i < xs.length := by omega
      have hlt' : (i : Int) < (xs.length : Int) := by omega
      obtain ⟨b, off, hA, hbl, c0, c1, c2⟩ := (HV.out.below HB.out).cell i hlt
      subst hA
      have hlen : (l ++ (grp xs.length ++ packs (xs.take i))).length ≤ 800000 := by
        have := hpl.out i hi
        rw [List.length_append, List.length_append]
        omega
      generalize hv : xs[i] = x at c0 c1 c2
      obtain ⟨k, n, s⟩ := x
      dsimp only at c0 c1 c2
      have AV := (addValue_any xs[i] (Ready.of_row HR.out HB.out) hlen (HV.out.fits i hlt).1 (hs i hlt))
      rw [hv] at AV
      dsimp only [tval, Val.val] at AV
      replace AV := Lib.hid AV
      replace hv := Lib.hid hv
      go_wp2_with fail
      refine AV.out.mono ?_
      rintro e w2 ⟨v2, rfl, hr2, hb2⟩
      have R2 := Lib.hid hr2
      have B2 := Lib.hid hb2
      clear hr2 hb2 AV HR HB
      go_wp2_with fail
      go_roundg (xs.length - i)
      case measure => omega
      case rel => exact ⟨i + 1, by omega, by omega, rfl, by rw [packs_take xs i hlt, hv.out]; simpa using R2.out, B2.out⟩

set_option maxRecDepth 100000 in
set_option maxHeartbeats 1000000 in
theorem Row_any (B : Option Addr) (cb : Nat) (l : List UInt8) (A : Option Addr) (c : Nat) (xs : List Tri) (w : World) (hB : Holds w B l) (hcb : l.length ≤ cb) (hl : l.length ≤ 400000) (hV : VIn w A xs) (hx : xs.length ≤ 1000) (hs : ∀ i (h : i < xs.length), xs[i].2.2.size ≤ 9000000) :
    Calls Try.prog 22 #[.slice B l.length cb, .slice A xs.length c] w fun r w' => ∃ v, r = .returned v ∧ Row w' w.heap.size v (l ++ rowB xs) ∧ Below w.heap.size w w' := by
  have AR := Lib.hid (addRow_any w A c xs hV hx hs _ l w (Ready.clipped hB) hl)
  clear hB hV
  go_enter Try.func22, Try.ntmps22
  go_wp2_with fail
  refine (clip_any B cb l.length _ hcb).mono ?_
  rintro e w1 ⟨rfl, rfl⟩
  go_wp2_with fail
  refine AR.out.mono ?_
  rintro e w2 ⟨v2, rfl, hr2, hb2⟩
  have R2 := Lib.hid hr2
  have B2 := Lib.hid hb2
  clear hr2 hb2 AR
  go_wp2_with fail
  go_ret
  exact ⟨_, rfl, R2.out, B2.out⟩
end Go.Proofs.Ytmpiknaoocflcaa
