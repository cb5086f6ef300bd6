/- The reference's Bytes. -/
import Derived.Test.YtjoenmmjpmnkfaaMU3
import Derived.Test.YtjoenmmjpmnkfaaUV
import Derived.Deep.RegionLaw
namespace Go.Proofs.Ytjoenmmjpmnkfaa
open Go.RowKit
set_option maxRecDepth 100000 in
set_option maxHeartbeats 1000000 in
theorem refBytes_any (s : Sup) (h : s.Ok) (size : Nat) (hs : 64 ≤ size) (hs2 : size ≤ 1024) (w : World) : Calls Try.prog 12 #[s.v, .int .i64 (size : Nat)] w fun r w' => ∃ v, r = .returned v ∧ Row w' w.heap.size v (pad size s.bytes) ∧ Below w.heap.size w w' := by
  have h1 := h.e; have h2 := h.a; have h3 := h.u
  have hbl := h.body_len
  have S0 : Hid (Sup3 w w.heap.size s.e s.a s.u (w.alloc (.cells #[.int .u32 (s.e : Nat), .int .i64 (s.a : Nat), .int .i64 (s.u : Nat)] 30)).drew) := Lib.hid (Sup3.drew (Sup3.new w s.e s.a s.u _))
  have hwrap : IntKind.u8.wrap (s.a : Int) = (s.a : Int) := by simp only [IntKind.wrap_u8]; omega
  have hwrap2 : IntKind.u64.wrap (s.u : Int) = (s.u : Int) := by simp only [IntKind.wrap_u64]; omega
  obtain ⟨n, hn⟩ : ∃ n, n = (grp s.u).length := ⟨_, rfl⟩
  have hb1 : s.body.length = n + 1 := by rw [hn]; rfl
  have RU : Hid (∀ W, Calls Try.prog 26 #[.int .u64 (s.u : Nat)] W fun r w' => ∃ A c, r = .returned (.slice A n c) ∧ Hid (Holds w' A (grp s.u)) ∧ Below W.heap.size W w') :=
    Lib.hid (fun W => (refUint s.u (by omega) W).mono fun r w' ⟨v, hv, hr, hb⟩ => by
      obtain ⟨A, c, e, k1, _⟩ := hr.shape
      exact ⟨A, c, by rw [hv, e, hn], Lib.hid k1, hb⟩)
  have APP : ∀ (w4 : World) (g : Nat) (A : Option Addr) (c : Nat), Holds w4 (some ⟨g, 0, none⟩) [UInt8.ofNat s.a] → Holds w4 A (grp s.u) → ∃ v5 w5, Sem.run Try.prog (Builtin.append_ #[33, 33] 33 #[.slice (some ⟨g, 0, none⟩) 1 1, .slice A n c]) w4 = .ok v5 w5 ∧ (∃ A5 c5, v5 = .slice A5 (n + 1 : Nat) c5 ∧ Hid (Holds w5 A5 s.body)) ∧ Below w4.heap.size w4 w5 := by
    intro w4 g A c k1 k2
    have hne : grp s.u ≠ [] := fun e => by have := grp_pos s.u; rw [e] at this; exact absurd this (by simp)
    obtain ⟨v5, w5, r1, r2, r3⟩ := append_full (w := w4) (v := .slice (some ⟨g, 0, none⟩) 1 1) ⟨_, rfl, k1⟩ A c (grp s.u) k2 hne (by simp; omega)
    obtain ⟨A5, c5, e5, k5, _⟩ := r2.shape
    rw [hn]
    exact ⟨v5, w5, r1, ⟨A5, c5, by rw [e5]; simp, Lib.hid k5⟩, r3⟩
  have P1 : Hid (∀ (w4 : World) (A : Option Addr) (c : Nat), Below ((w.alloc (.cells #[.int .u32 (s.e : Nat), .int .i64 (s.a : Nat), .int .i64 (s.u : Nat)] 30)).alloc (.cells #[.int .u8 (s.a : Nat)] 5)).drew.heap.size ((w.alloc (.cells #[.int .u32 (s.e : Nat), .int .i64 (s.a : Nat), .int .i64 (s.u : Nat)] 30)).alloc (.cells #[.int .u8 (s.a : Nat)] 5)).drew w4 → Hid (Holds w4 A (grp s.u)) → ∃ v5 w5, Sem.run Try.prog (Builtin.append_ #[33, 33] 33 #[.slice (some ⟨w.heap.size + 1, 0, none⟩) 1 1, .slice A n c]) w4 = .ok v5 w5 ∧ (∃ A5 c5, v5 = .slice A5 (n + 1 : Nat) c5 ∧ Hid (Holds w5 A5 s.body)) ∧ Below w4.heap.size w4 w5) :=
    Lib.hid (fun w4 A c hb k2 => APP w4 _ A c ((byte_holds _ h2 _ (by simp)).below hb) k2.out)
  have P2 : Hid (∀ (w4 : World) (A : Option Addr) (c : Nat), Hid (Holds w4 A (grp s.u)) → ∃ v5 w5, Sem.run Try.prog (Builtin.append_ #[33, 33] 33 #[.slice (some ⟨w4.heap.size, 0, none⟩) 1 1, .slice A n c]) (w4.alloc (.cells #[.int .u8 (s.a : Nat)] 5)) = .ok v5 w5 ∧ (∃ A5 c5, v5 = .slice A5 (n + 1 : Nat) c5 ∧ Hid (Holds w5 A5 s.body)) ∧ Below (w4.alloc (.cells #[.int .u8 (s.a : Nat)] 5)).heap.size (w4.alloc (.cells #[.int .u8 (s.a : Nat)] 5)) w5) :=
    Lib.hid (fun w4 A c k2 => APP _ _ A c (byte_holds w4 h2 _ rfl) (k2.out.below ((Below.refl _ _).alloc (Nat.le_refl _) _)))
  have SL1 : Hid (∀ (A : Option Addr) (c : Nat) (W : World) (hh : Hid (Holds W A s.body)), Calls Try.prog 25 #[.int .u32 (s.e : Nat), .slice A (n + 1 : Nat) c] W fun r w' => ∃ A6 c6, r = .returned (.slice A6 s.bytes.length c6) ∧ Hid (Row w' W.heap.size (.slice A6 s.bytes.length c6) s.bytes) ∧ Below W.heap.size W w') :=
    Lib.hid (fun A c W hh => by
      have := refSeal_any s.e (by omega) A c s.body W hh.out (by omega)
      rw [hb1] at this
      refine this.mono ?_
      rintro r w' ⟨v, rfl, k2, k3⟩
      obtain ⟨A6, c6, e6, _⟩ := k2.shape
      exact ⟨A6, c6, by rw [e6]; rfl, Lib.hid (by have k2' := k2; rw [e6] at k2'; exact k2'), k3⟩)
  clear APP hn hb1
  go_enter Try.func12, Try.ntmps12
  go_wp2_with fail
  go_region_held3 (fun W => W.cell? ⟨w.heap.size, 0, none⟩ = some (.int .u32 (s.e : Nat)) ∧ W.cell? ⟨w.heap.size, 1, none⟩ = some (.int .i64 (s.a : Nat)) ∧ W.cell? ⟨w.heap.size, 2, none⟩ = some (.int .i64 (s.u : Nat)) ∧ w.heap.size < W.heap.size ∧ Below w.heap.size w W)
    (first | exact S0.out | exact Sup3.alloc (by assumption) _ | exact Sup3.on (by assumption) b4 | exact Sup3.on (by assumption) b5 | exact Sup3.on (by assumption) b6)
    (first
      | (go_at_call 26; refine (RU.out _).mono ?_; rintro r w4 ⟨A4, c4, rfl, h4, b4⟩; (first | have XX := P1.out w4 A4 c4 b4 h4 | have XX := P2.out w4 A4 c4 h4); obtain ⟨v5, w5, q2, ⟨A5, c5, e5, h5⟩, b5⟩ := XX; subst e5)
      | (go_at_call 25; refine (SL1.out _ _ _ h5).mono ?_; rintro r w6 ⟨A6, c6, rfl, h6, b6⟩)
      | (refine step_append_runI rfl _ _ 33 33 rfl _ _ ?h3 ?h4 q2 ?_; (case h3 => rfl); (case h4 => rfl)))
  all_goals
    rename_i hHeld
    have HB := Lib.hid hHeld.2.2.2.2
    have hsz5 : w.heap.size ≤ w5.heap.size := by
      have i1 := b4.size
      have i2 := b5.size
      try simp at i1
      try simp at i2
      omega
    have hl12 : 12 ≤ s.bytes.length ∧ s.bytes.length ≤ 15 := by have := h.len; omega
    have h6r := h6.out.le hsz5
    have hA6 : ∃ g6, A6 = some ⟨g6, 0, none⟩ := by
      rcases h6r.2 with ⟨e, e0⟩ | ⟨g6, cap6, cur6, e, _⟩
      · omega
      · cases e
        exact ⟨g6, rfl⟩
    obtain ⟨g6, rfl⟩ := hA6
    have hg6 : w.heap.size ≤ g6 := h6r.block g6 rfl
    obtain ⟨v7, w7, q7, r7, b7⟩ := append_zeros h6r (size - s.bytes.length) ((size : Int) - (s.bytes.length : Int)) (by omega) (by omega) (by omega) HB.out.size
    have Q7 := Lib.hid q7
    have R7 : Hid (Row w7 w.heap.size v7 (pad size s.bytes)) := Lib.hid r7
    have B7 := Lib.hid (below_grown (w0 := w) (v := .slice (some ⟨g6, 0, none⟩) 0 0) HB.out b7 (fun k e => by cases e; exact hg6))
    clear hHeld hwrap hwrap2 b4 b5 b6 h6 S0 RU P1 P2 SL1 q2 h4 h5 q7 r7 b7 h6r
    generalize s.bytes.length = bl at *
    go_wp2_with (at_builtin; refine Lib.wpList_append_run _ rfl _ _ 33 3 rfl _ _ rfl rfl _ _ Q7.out ?_)
    go_ret
    exact ⟨_, rfl, R7.out, B7.out⟩
end Go.Proofs.Ytjoenmmjpmnkfaa
