/- value.Least. -/
import Derived.Test.YthomkdgpmmgdoaaDoorV8
import Derived.Deep.LoopGhost
namespace Go.Proofs.YthomkdgpmmgdoaaDoor
open Go.RowKit

/-- a value, as three things. -/
abbrev Tri := Int × Int × ByteArray
/-- values that came in: a slice, and what its cells hold. -/
structure CameV (w : World) (a : Option Addr) (xs : List Tri) : Prop where
  cell : ∀ i (h : i < xs.length), ∃ b off, a = some ⟨b, off, none⟩ ∧ b < w.heap.size ∧ w.cell? ⟨b, off + i * 3, none⟩ = some (.int .i64 xs[i].1) ∧ w.cell? ⟨b, off + i * 3 + 1, none⟩ = some (.int .i64 xs[i].2.1) ∧ w.cell? ⟨b, off + i * 3 + 2, none⟩ = some (.string xs[i].2.2)
  fits : ∀ i (h : i < xs.length), xs[i].2.2.size ≤ 9223372036854775807
theorem CameV.below {w w' : World} {a : Option Addr} {xs : List Tri} (h : CameV w a xs) (hb : Below w.heap.size w w') : CameV w' a xs :=
  ⟨fun i hi => by
    obtain ⟨b, off, h1, h2, h3, h4, h5⟩ := h.cell i hi
    exact ⟨b, off, h1, Nat.lt_of_lt_of_le h2 hb.size, (hb.cell h2).trans h3, (hb.cell h2).trans h4, (hb.cell h2).trans h5⟩, h.fits⟩
def plainT (x : Tri) : Bool := plainB x.1 x.2.1 x.2.2
def cmpT (x y : Tri) : Int := cmpV x.1 x.2.1 x.2.2 y.1 y.2.1 y.2.2
def stepL : Option Tri → Tri → Option Tri
  | none, x => if plainT x then some x else none
  | some b, x => if plainT x && decide (cmpT x b < 0) then some x else some b
def leastOf (xs : List Tri) : Option Tri := xs.foldl stepL none
theorem leastOf_take (xs : List Tri) (i : Nat) (h : i < xs.length) : leastOf (xs.take (i + 1)) = stepL (leastOf (xs.take i)) xs[i] := by
  rw [List.take_succ_eq_append_getElem h, leastOf, List.foldl_append]; rfl
theorem stepL_some {o : Option Tri} {x b : Tri} (h : stepL o x = some b) (ho : ∀ c, o = some c → c.2.2.size ≤ 9223372036854775807) (hx : x.2.2.size ≤ 9223372036854775807) : b.2.2.size ≤ 9223372036854775807 := by
  cases o with
  | none =>
    simp only [stepL] at h
    split at h
    · cases h; exact hx
    · cases h
  | some c =>
    simp only [stepL] at h
    split at h
    · cases h; exact hx
    · cases h; exact ho _ rfl

/-- a value's block. -/
def Row3 (w : World) (g : Nat) (k n : Int) (s : ByteArray) : Prop := w.heap[g]? = some (.cells #[.int .i64 k, .int .i64 n, .string s] 23 (0, 0))
theorem Row3.lt {w : World} {g : Nat} {k n : Int} {s : ByteArray} (h : Row3 w g k n s) : g < w.heap.size := by
  rcases Nat.lt_or_ge g w.heap.size with hlt | hge
  · exact hlt
  · unfold Row3 at h; rw [Array.getElem?_eq_none hge] at h; cases h
theorem Row3.new (w : World) (k n : Int) (s : ByteArray) : Row3 (w.alloc (.cells #[.int .i64 k, .int .i64 n, .string s] 23)) w.heap.size k n s := heap_alloc_new w _
theorem Row3.below {w w' : World} {g : Nat} {k n : Int} {s : ByteArray} {B : Nat} (h : Row3 w g k n s) (hb : Below B w w') (hg : g < B) : Row3 w' g k n s := (hb.block g hg).trans h
theorem Row3.alloc {w : World} {g : Nat} {k n : Int} {s : ByteArray} (h : Row3 w g k n s) (o : Obj) : Row3 (w.alloc o) g k n s := (Below.heap_alloc w o g h.lt).trans h
theorem Row3.holds {w : World} {g : Nat} {k n : Int} {s : ByteArray} (h : Row3 w g k n s) : Holds3 w g k n s :=
  ⟨cell_of_row w g 0 _ _ _ h, cell_of_row w g 1 _ _ _ h, cell_of_row w g 2 _ _ _ h⟩
theorem Row3.frozen {w : World} {g : Nat} {k n : Int} {s : ByteArray} (h : Row3 w g k n s) (i : Nat) : w.frozen? ⟨g, i, none⟩ = false := by
  unfold Row3 at h
  simp [World.frozen?, h]
theorem Row3.set3 {w : World} {g : Nat} {k n : Int} {s : ByteArray} (h : Row3 w g k n s) (k' n' : Int) (s' : ByteArray) :
    Row3 (((w.setCell ⟨g, 0, none⟩ (.int .i64 k')).setCell ⟨g, 1, none⟩ (.int .i64 n')).setCell ⟨g, 2, none⟩ (.string s')) g k' n' s' := by
  have h0 := heap_setCell_same w g 0 _ _ (.int .i64 k') h
  have h1 := heap_setCell_same _ g 1 _ _ (.int .i64 n') h0
  have h2 := heap_setCell_same _ g 2 _ _ (.string s') h1
  simpa [Row3] using h2

theorem world_gen {F : World → Prop} {W : World} (P : World → Prop) (hP : P W) (h : ∀ W', P W' → F W') : F W := h W hP

def noVal : Tri := (0, 0, ⟨#[]⟩)
/-- what holds at a round's head: the least one so far, the result's block, nothing else turned. -/
structure LeastIn (w : World) (g : Nat) (wr : World) (x : Tri) : Prop where
  r : Row3 wr g x.1 x.2.1 x.2.2
  q : Row3 wr w.heap.size 0 0 ⟨#[]⟩
  b : Below w.heap.size w wr
  lt : w.heap.size < g
  z : x.2.2.size ≤ 9223372036854775807
theorem LeastIn.step {w : World} {g : Nat} {wr wr' : World} {x : Tri} (h : LeastIn w g wr x) (hb : Below wr.heap.size wr wr') : LeastIn w g wr' x :=
  ⟨h.r.below hb h.r.lt, h.q.below hb h.q.lt, h.b.trans (hb.mono h.b.size), h.lt, h.z⟩
theorem LeastIn.set {w : World} {g : Nat} {wr : World} {x : Tri} (h : LeastIn w g wr x) (k n : Int) (s : ByteArray) (hz : s.size ≤ 9223372036854775807) :
    LeastIn w g (((wr.setCell ⟨g, 0, none⟩ (.int .i64 k)).setCell ⟨g, 1, none⟩ (.int .i64 n)).setCell ⟨g, 2, none⟩ (.string s)) (k, n, s) := by
  have hl := h.lt
  have hge : w.heap.size ≤ g := Nat.le_of_lt hl
  refine ⟨h.r.set3 k n s, ?_, ((h.b.setCell hge _).setCell hge _).setCell hge _, hl, hz⟩
  have hne : w.heap.size ≠ g := by omega
  unfold Row3
  rw [Below.heap_setCell _ _ _ _ hne, Below.heap_setCell _ _ _ _ hne, Below.heap_setCell _ _ _ _ hne]
  exact h.q

set_option maxRecDepth 100000 in
set_option maxHeartbeats 1000000 in
theorem least_any (a : Option Addr) (c : Nat) (xs : List Tri) (w : World) (h : CameV w a xs) (hn : xs.length ≤ 1000000) :
    Calls Tryd.prog 18 #[.slice a xs.length c] w fun e w' => e = .returned (.tuple #[val ((leastOf xs).getD noVal).1 ((leastOf xs).getD noVal).2.1 ((leastOf xs).getD noVal).2.2, .bool (leastOf xs).isSome]) ∧ Below w.heap.size w w' := by
  have H := Lib.hid h
  clear h
  go_enter Tryd.func18, Tryd.ntmps18
  go_wp2_with fail
  refine (null_any _).mono ?_
  rintro e w1 ⟨rfl, hb1⟩
  have R1 := Lib.hid ((Row3.new w 0 0 ⟨#[]⟩).below hb1 (by simp))
  have B1 := Lib.hid (bstep ((Below.refl _ _).alloc (Nat.le_refl _) _) hb1)
  clear hb1
  go_wp2_with fail
  have L0 : Hid (LeastIn w w1.heap.size (w1.alloc (.cells #[.int .i64 0, .int .i64 0, .string ⟨#[]⟩] 23)) ((leastOf (xs.take 0)).getD noVal)) :=
    Lib.hid ⟨Row3.new w1 0 0 ⟨#[]⟩, R1.out.alloc _, B1.out.alloc B1.out.size _, R1.out.lt, by show (⟨#[]⟩ : ByteArray).size ≤ _; decide⟩
  go_loopg [5, 11] xs.length (fun j s5 s11 wr => ∃ i : Nat, i + j = xs.length ∧ s11 = .int .i64 (i : Nat) ∧ s5 = .bool (leastOf (xs.take i)).isSome ∧ LeastIn w w1.heap.size wr ((leastOf (xs.take i)).getD noVal))
  case atStart => exact ⟨0, by omega, rfl, rfl, L0.out⟩
  case round =>
    obtain ⟨i, hij, rfl, rfl, hm⟩ := hrel
    have M := Lib.hid hm
    have HIJ := Lib.hid hij
    clear hm L0
    by_cases hi : i < xs.length
    · have LT := Lib.hid (leastOf_take xs i hi)
      obtain ⟨b, off, rfl, hb, c1, c2, c3⟩ := (H.out.below M.out.b).cell i hi
      have FX := Lib.hid (H.out.fits i hi)
      generalize xs[i] = x at *
      obtain ⟨k, n, s⟩ := x
      simp only at c1 c2 c3
      have hii : (i : Int) < (xs.length : Int) := by omega
      generalize leastOf (xs.take i) = o at *
      clear hij R1 B1
      cases hp : plainB k n s
      · have PP := Lib.hid (fun w => hp ▸ plain_any k n s w FX.out)
        have SL : Hid (stepL o (k, n, s) = o) := Lib.hid (by cases o <;> simp [stepL, plainT, hp])
        clear hp
        go_wp2_with fail
        refine (PP.out _).mono ?_
        rintro e w2 ⟨rfl, hb2⟩
        have L2 := Lib.hid ((M.out.step ((Below.refl _ _).alloc (Nat.le_refl _) _)).step hb2)
        clear hb2
        go_wp2
        go_roundg (xs.length - (i + 1))
        case measure => have := HIJ.out; omega
        case rel => exact ⟨i + 1, by have := HIJ.out; omega, by go_num, by rw [LT.out, SL.out], by rw [LT.out, SL.out]; exact L2.out⟩
      · have PP := Lib.hid (fun w => hp ▸ plain_any k n s w FX.out)
        cases o with
        | none =>
          have SL : Hid (stepL none (k, n, s) = some (k, n, s)) := Lib.hid (by simp [stepL, plainT, hp])
          clear hp
          go_wp2_with fail
          refine (PP.out _).mono ?_
          rintro e w2 ⟨rfl, hb2⟩
          have H7 := Lib.hid ((Holds3.new wr k n s 23).below hb2 (by simp))
          have L2 := Lib.hid ((M.out.step ((Below.refl _ _).alloc (Nat.le_refl _) _)).step hb2)
          clear hb2 c1 c2 c3
          obtain ⟨c1, c2, c3⟩ := H7.out
          obtain ⟨c4, c5, c6⟩ := L2.out.r.holds
          have f0 := L2.out.r.frozen 0
          have f1 := L2.out.r.frozen 1
          have f2 := L2.out.r.frozen 2
          simp only [noVal, Option.getD] at c4 c5 c6
          go_wp2
          go_roundg (xs.length - (i + 1))
          case measure => have := HIJ.out; omega
          case rel => exact ⟨i + 1, by have := HIJ.out; omega, by go_num, by rw [LT.out, SL.out]; rfl, by rw [LT.out, SL.out]; exact L2.out.set k n s FX.out⟩
        | some b' =>
          obtain ⟨k', n', s'⟩ := b'
          have hz' : s'.size ≤ 9223372036854775807 := M.out.z
          have CC := Lib.hid (fun w => compare_any k n s k' n' s' w FX.out hz')
          have HC : Hid (stepL (some (k', n', s')) (k, n, s) = if decide (cmpV k n s k' n' s' < 0) = true then some (k, n, s) else some (k', n', s')) := Lib.hid (by simp only [stepL, plainT, hp, cmpT, Bool.true_and]; congr)
          clear hp hz'
          generalize cmpV k n s k' n' s' = y at *
          go_wp2_with fail
          refine (PP.out _).mono ?_
          rintro e w2 ⟨rfl, hb2⟩
          have H7 := Lib.hid ((Holds3.new wr k n s 23).below hb2 (by simp))
          have L2 := Lib.hid ((M.out.step ((Below.refl _ _).alloc (Nat.le_refl _) _)).step hb2)
          clear hb2 c1 c2 c3 M
          obtain ⟨c1, c2, c3⟩ := H7.out
          obtain ⟨c4, c5, c6⟩ := L2.out.r.holds
          simp only [Option.getD] at c4 c5 c6
          go_wp2_with fail
          clear c1 c2 c3 c4 c5 c6
          refine (CC.out _).mono ?_
          rintro e w3 ⟨rfl, hb3⟩
          have H8 := Lib.hid (H7.out.below hb3 H7.out.lt)
          have L3 := Lib.hid (L2.out.step hb3)
          clear hb3 H7 L2
          obtain ⟨c1, c2, c3⟩ := H8.out
          obtain ⟨c4, c5, c6⟩ := L3.out.r.holds
          have f0 := L3.out.r.frozen 0
          have f1 := L3.out.r.frozen 1
          have f2 := L3.out.r.frozen 2
          simp only [Option.getD] at c4 c5 c6
          by_cases hy : y < 0
          · have SL : Hid (stepL (some (k', n', s')) (k, n, s) = some (k, n, s)) := Lib.hid (by rw [HC.out, if_pos (by simpa using hy)])
            go_wp2
            go_roundg (xs.length - (i + 1))
            case measure => have := HIJ.out; omega
            case rel => exact ⟨i + 1, by have := HIJ.out; omega, by go_num, by rw [LT.out, SL.out]; rfl, by rw [LT.out, SL.out]; exact L3.out.set k n s FX.out⟩
          · have SL : Hid (stepL (some (k', n', s')) (k, n, s) = some (k', n', s')) := Lib.hid (by rw [HC.out, if_neg (by simpa using hy)])
            have hd : decide (y < 0) = false := decide_eq_false hy
            go_wp2
            go_roundg (xs.length - (i + 1))
            case measure => have := HIJ.out; omega
            case rel => exact ⟨i + 1, by have := HIJ.out; omega, by go_num, by rw [LT.out, SL.out]; rfl, by rw [LT.out, SL.out]; exact L3.out⟩
    · have TK : Hid (xs.take i = xs) := Lib.hid (List.take_of_length_le (by omega))
      have L4 : Hid (LeastIn w w1.heap.size wr ((leastOf xs).getD noVal)) := by rw [← TK.out]; exact M
      have e : (leastOf (xs.take i)).isSome = (leastOf xs).isSome := by rw [TK.out]
      rw [e]
      clear e M
      have hii : ¬ (i : Int) < (xs.length : Int) := by omega
      obtain ⟨k, n, s, hx⟩ : ∃ k n s, (leastOf xs).getD noVal = (k, n, s) := ⟨_, _, _, rfl⟩
      obtain ⟨fl, hf⟩ : ∃ fl, (leastOf xs).isSome = fl := ⟨_, rfl⟩
      rw [hf]
      rw [hx] at L4
      have HX := Lib.hid hx
      have HF := Lib.hid hf
      clear hx hf
      obtain ⟨c4, c5, c6⟩ := L4.out.r.holds
      obtain ⟨d1, d2, d3⟩ := L4.out.q.holds
      have f0 := L4.out.q.frozen 0
      have f1 := L4.out.q.frozen 1
      have f2 := L4.out.q.frozen 2
      simp only at c4 c5 c6
      go_wp2
      have hb := ((L4.out.b.setCell (p := ⟨w.heap.size, 0, none⟩) (Nat.le_refl _) (.int .i64 k)).setCell (p := ⟨w.heap.size, 1, none⟩) (Nat.le_refl _) (.int .i64 n)).setCell (p := ⟨w.heap.size, 2, none⟩) (Nat.le_refl _) (.string s)
      have hq := L4.out.q.set3 k n s
      generalize ((wr.setCell ⟨w.heap.size, 0, none⟩ (.int .i64 k)).setCell ⟨w.heap.size, 1, none⟩ (.int .i64 n)).setCell ⟨w.heap.size, 2, none⟩ (.string s) = W at hb hq ⊢
      obtain ⟨q1, q2, q3⟩ := hq.holds
      refine bodyPost_ret (v := .tuple #[val k n s, .bool fl]) (by simp [results, Tryd.results18, go_sem, q1, q2, q3]) rfl ⟨by rw [HX.out, HF.out], hb⟩
end Go.Proofs.YthomkdgpmmgdoaaDoor
