/- New: the disk of zeros; and slices of bytes that are made. -/
import Derived.Test.YtmcgjlidfgbdfaaDK4
namespace Go.Proofs.Ytmcgjlidfgbdfaa
open Go.RowKit

def zeros (n : Nat) : List UInt8 := List.replicate n 0
theorem zeros_enc (n : Nat) : (encB (zeros n)).toArray = Array.replicate n (.int .u8 0) := by
  simp [encB, zeros]
/-- a slice of bytes that is made. -/
theorem make_bytes (n : Nat) (z : Int) (hz : z = n) (hn : n ≤ 100000) (W : World) :
    Sem.run Try.prog (Instr.makeSlice 30 (.int .i64 z) (.int .i64 z)) W = .ok (.slice (some ⟨W.heap.size, 0, none⟩) n n) (W.alloc (.cells (encB (zeros n)).toArray 5)) := by
  subst hz
  have h := info5
  cases hi : Try.prog.info? 5 with
  | none => rw [hi] at h; simp at h
  | some i =>
    rw [hi] at h
    simp at h
    obtain ⟨h1, h2, h3⟩ := h
    have := run_make (P := Try.prog) W 30 5 i _ Try.underlying30 hi h1 .i64 .i64 (n : Int) (n : Int) (by omega) (by omega) (by rw [h3]; omega) (by omega)
    rw [this, h2, zeros_enc]
    have e : madeCells (Value.int .u8 0).cells (n * 1) = Array.replicate n (.int .u8 0) := by
      apply Array.ext
      · simp [madeCells]
      · intro i h1 h2
        simp [madeCells, Value.cells, Nat.mod_one]
    rw [show ((n : Int)).toNat = n by omega, e]

def sec0 : Sec := ⟨none, 0, [], .slice none 0 0, []⟩
theorem encS_zero : ∀ n : Nat, encS (List.replicate n sec0) = List.replicate (n * 2) (.slice none 0 0)
  | 0 => rfl
  | n + 1 => by
    have := encS_zero n
    have e : ∀ (y : Sec) (xs : List Sec), encS (y :: xs) = y.lv :: y.wv :: encS xs := fun y xs => rfl
    rw [List.replicate_succ, e, this, show (n + 1) * 2 = n * 2 + 1 + 1 by omega, List.replicate_succ, List.replicate_succ]
    rfl
theorem infoS : (Try.prog.info? 63).map (fun i => (i.zero.map (fun z => z.cells), i.size, decide (i.bytes ≤ 1000))) = some (some #[.slice none 0 0, .slice none 0 0], 2, true) := by kernel_rfl
theorem make_secs (n : Nat) (z : Int) (hz : z = n) (hn : n ≤ 100000) (W : World) :
    Sem.run Try.prog (Instr.makeSlice 54 (.int .i64 z) (.int .i64 z)) W = .ok (.slice (some ⟨W.heap.size, 0, none⟩) n n) (W.alloc (.cells (encS (List.replicate n sec0)).toArray 63)) := by
  subst hz
  have h := infoS
  cases hi : Try.prog.info? 63 with
  | none => rw [hi] at h; simp at h
  | some i =>
    rw [hi] at h
    simp at h
    obtain ⟨⟨z, hz, h1⟩, h2, h3⟩ := h
    have hb : (i.bytes : Int) * (n : Int) ≤ 1000 * 100000 := Int.mul_le_mul (by omega) (by omega) (by omega) (by omega)
    have := run_make (P := Try.prog) W 54 63 i z Try.underlying54 hi hz .i64 .i64 (n : Int) (n : Int) (by omega) (by omega) (by omega) (by omega)
    rw [this, h2, encS_zero, h1]
    have e : madeCells #[Value.slice none 0 0, .slice none 0 0] (n * 2) = (List.replicate (n * 2) (Value.slice none 0 0)).toArray := by
      apply Array.ext
      · simp [madeCells]
      · intro i h1 h2
        have : i % 2 = 0 ∨ i % 2 = 1 := by omega
        rcases this with h | h <;> simp [madeCells, h]
    rw [show ((n : Int)).toNat = n by omega, e]

/-- the disk that New makes. -/
def newD (p q sectors size : Nat) : Dsk := ⟨p, q, size, List.replicate sectors sec0, 0, 0, false, 0, false⟩
theorem newD_at {w : World} {p q sectors size : Nat} (hp : Whole w p 56 (dcells (newD p q sectors size))) (hq : Whole w q 63 (encS (List.replicate sectors sec0)).toArray) (h1 : sectors ≤ 600) (h2 : size ≤ 1024) : DiskAt w (newD p q sectors size) := by
  refine ⟨hp, hq, ?_, ?_, by simpa [newD] using h1, h2⟩
  · intro s hs
    have : s = sec0 := by simp [newD] at hs; exact hs.2
    subst this
    exact ⟨Row.nil _ _, Nat.zero_le _, WRow.nil _, Nat.zero_le _, fun x hx => absurd hx (by simp [sec0])⟩
  · intro i j hi hj k hk
    have : ((newD p q sectors size).secs[i]'hi) = sec0 := by simp [newD]
    rw [this] at hk
    simp [sec0, Value.ownBlock] at hk
def badNew (sectors size : Int) : Prop := sectors < 1 ∨ 600 < sectors ∨ size < 64 ∨ 1024 < size
theorem new_bad (a b : Int) (w : World) (h : badNew a b) : Calls Try.prog 9 #[.int .i64 a, .int .i64 b] w fun e w' => e = .returned (.tuple #[.pointer none, .int .i64 1]) ∧ w' = w := by
  unfold badNew at h
  by_cases h1 : a < 1
  · clear h
    go_enter Try.func9, Try.ntmps9
    go_wp2_with fail
    go_ret2
    exact ⟨rfl, rfl⟩
  · by_cases h2 : 600 < a
    · clear h
      go_enter Try.func9, Try.ntmps9
      go_wp2_with fail
      go_ret2
      exact ⟨rfl, rfl⟩
    · by_cases h3 : b < 64
      · clear h
        go_enter Try.func9, Try.ntmps9
        go_wp2_with fail
        go_ret2
        exact ⟨rfl, rfl⟩
      · have h4 : 1024 < b := by omega
        clear h
        go_enter Try.func9, Try.ntmps9
        go_wp2_with fail
        go_ret2
        exact ⟨rfl, rfl⟩
theorem new_good (a b : Nat) (w : World) (h1 : 1 ≤ a) (h2 : a ≤ 600) (h3 : 64 ≤ b) (h4 : b ≤ 1024) : Calls Try.prog 9 #[.int .i64 (a : Nat), .int .i64 (b : Nat)] w fun e w' => ∃ p, e = .returned (.tuple #[.pointer (some ⟨p, 0, none⟩), .int .i64 0]) ∧ ∃ q, DiskAt w' (newD p q a b) ∧ (∀ k ∈ foot (newD p q a b), w.heap.size ≤ k) ∧ Below w.heap.size w w' := by
  have MK := fun W => make_secs a a rfl (by omega) W
  have q1 : ¬ (a : Int) < 1 := by omega
  have q2 : ¬ (600 : Int) < (a : Int) := by omega
  have q3 : ¬ (b : Int) < 64 := by omega
  have q4 : ¬ (1024 : Int) < (b : Int) := by omega
  have W1 := Whole.new w 63 (encS (List.replicate a sec0)).toArray
  have b1 : Below w.heap.size w (w.alloc (.cells (encS (List.replicate a sec0)).toArray 63)) := (Below.refl _ _).alloc (Nat.le_refl _) _
  have hsz : (w.alloc (.cells (encS (List.replicate a sec0)).toArray 63)).heap.size = w.heap.size + 1 := by simp
  generalize hW1 : w.alloc (.cells (encS (List.replicate a sec0)).toArray 63) = w1 at *
  have H1 := Lib.hid W1
  have B1 := Lib.hid b1
  have HZ := Lib.hid hsz
  clear W1 b1 hsz
  go_enter Try.func9, Try.ntmps9
  go_wp2_with fail
  go_ret2
  have hd : dcells (newD w1.heap.size w.heap.size a b) = #[.int .i64 b, .slice (some ⟨w.heap.size, 0, none⟩) a a, .int .i64 0, .int .i64 0, .bool false, .int .i64 0, .bool false] := by simp [dcells, newD]
  refine ⟨w1.heap.size, rfl, w.heap.size, newD_at ?_ (H1.out.alloc _) h2 h4, ?_, below_next B1.out ((Below.refl _ _).alloc (Nat.le_refl _) _)⟩
  · rw [hd]
    exact Whole.new _ _ _
  · intro k hk
    have hz := HZ.out
    rcases foot_cases hk with rfl | rfl | ⟨s, hs, e⟩
    · simp only [newD]; omega
    · exact Nat.le_refl _
    · have : s = sec0 := by simp [newD] at hs; exact hs.2
      subst this
      simp [sec0, Value.ownBlock] at e
end Go.Proofs.Ytmcgjlidfgbdfaa
