/- Words of a source: the law's example. -/
import Derived.Test.YtpffechllcnnaaaGreatDoorWI
namespace Go.Proofs.YtpffechllcnnaaaGreatDoor
open Go.RowKit Go.Lib
set_option linter.unusedVariables false

theorem lx_awake : Lx.lx [97, 60, 61, 98] = .ok [⟨1, [97], 0⟩, ⟨5, [60, 61], 1⟩, ⟨1, [98], 3⟩, ⟨0, [], 4⟩] := by decide +kernel
theorem Env.max' {w : World} {a : Addr} {m : Int} (h : Env w a m) : MaxAt w m := h.max
set_option maxRecDepth 100000 in
set_option maxHeartbeats 1000000 in
theorem awake_any (w : World) (a : Addr) (m : Int) (hv : Env w a m) :
    Calls Tryz.prog 7 #[] w fun e w' => e = .returned (.bool true) ∧ Below w.heap.size w w' := by
  have L := lex_any ⟨#[97, 60, 61, 98]⟩ w a m hv
  rw [show (⟨#[97, 60, 61, 98]⟩ : ByteArray).data.toList = [97, 60, 61, 98] from rfl, lx_awake] at L
  have LL : Hid (Calls Tryz.prog 8 #[.string ⟨#[97, 60, 61, 98]⟩] w fun e w' => LexOk w [⟨1, [97], 0⟩, ⟨5, [60, 61], 1⟩, ⟨1, [98], 3⟩, ⟨0, [], 4⟩] e w') := Lib.hid L
  clear L hv
  go_enter Tryz.func7, Tryz.ntmps7
  go_wp2_with fail
  refine (LL.out).mono ?_
  rintro e w1 ⟨A, c, rfl, hc, hT, hb, -⟩
  have bw : Below w1.heap.size w1 (w1.alloc (.cells #[.int .i64 0, .int .i64 0] 26)) := (Below.refl _ _).alloc (Nat.le_refl _) _
  have hT2 := hT.below bw
  have B2 := Lib.hid (bstep hb bw)
  obtain ⟨b, off, rfl, hlt, -, h1, -⟩ := hT2 1 (by decide)
  obtain ⟨b', off', hbe, -, -, -, h3⟩ := hT2 3 (by decide)
  cases hbe
  simp only [List.getElem_cons_succ, List.getElem_cons_zero, Nat.reduceMul] at h1 h3
  dsimp only [List.length_cons, List.length_nil]
  dsimp only [List.length_cons, List.length_nil] at hc
  clear hT hT2 bw hb LL
  go_wp2
  go_ret
  exact ⟨rfl, B2.out⟩
end Go.Proofs.YtpffechllcnnaaaGreatDoor
