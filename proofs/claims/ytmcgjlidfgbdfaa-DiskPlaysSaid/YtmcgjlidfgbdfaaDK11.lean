/- Write. -/
import Derived.Test.YtmcgjlidfgbdfaaDKa
namespace Go.Proofs.Ytmcgjlidfgbdfaa
open Go.RowKit

/-- a slice that came from elsewhere. -/
def Off (A : Option Addr) (F : List Nat) : Prop := ∀ p : Addr, A = some p → p.block ∉ F
theorem Holds.touch {w w' : World} {A : Option Addr} {l : List UInt8} {F : List Nat} (h : Holds w A l) (ht : Touch F w w') (ho : Off A F) : Holds w' A l := fun i hi => by
  obtain ⟨b, o, e, hlt, hc⟩ := h i hi
  have hh := ht.block b hlt (ho _ e)
  refine ⟨b, o, e, Nat.lt_of_lt_of_le hlt ht.size, ?_⟩
  rw [← hc]
  simp only [World.cell?, hh]
theorem write_nil (i : Int) (A : Option Addr) (n c : Nat) (w : World) : Calls Try.prog 19 #[.pointer none, .int .i64 i, .slice A n c] w fun e w' => e = .returned (.int .i64 2) ∧ w' = w := by
  have T := takes_nil i n w
  go_enter Try.func19, Try.ntmps19
  go_wp2_with fail
  refine T.mono ?_
  rintro e w1 ⟨rfl, rfl⟩
  go_wp2_with fail
  go_ret
  exact ⟨rfl, rfl⟩
theorem write_err {w : World} {d : Dsk} (h : DiskAt w d) (i t : Int) (A : Option Addr) (n c : Nat) (ht : takesOf d i n = t) (h0 : ¬ t = 0) : Calls Try.prog 19 #[.pointer (some ⟨d.p, 0, none⟩), .int .i64 i, .slice A n c] w fun e w' => e = .returned (.int .i64 t) ∧ w' = w := by
  have T := takes_at h i n
  rw [ht] at T
  replace T := Lib.hid T
  clear h ht
  go_enter Try.func19, Try.ntmps19
  go_wp2_with fail
  refine T.out.mono ?_
  rintro e w1 ⟨rfl, rfl⟩
  go_wp2_with fail
  go_ret
  exact ⟨rfl, rfl⟩
/-- the fuse is over. -/
theorem write_blown {w : World} {d : Dsk} (h : DiskAt w d) (hl : Low d) (i : Int) (A : Option Addr) (n c : Nat) (ht : takesOf d i n = 0) (hb : blown d = true) : Calls Try.prog 19 #[.pointer (some ⟨d.p, 0, none⟩), .int .i64 i, .slice A n c] w fun e w' => e = .returned (.int .i64 17) ∧ Goes w w' d (deedOf d) := by
  have T := takes_at h i n
  rw [ht] at T
  have DD := deed_at h hl
  simp only [hb, if_true] at DD
  replace T := Lib.hid T
  replace DD := Lib.hid DD
  clear h ht hb hl
  go_enter Try.func19, Try.ntmps19
  go_wp2_with fail
  refine T.out.mono ?_
  rintro e w1 ⟨rfl, rfl⟩
  go_wp2_with fail
  refine DD.out.mono ?_
  rintro e w2 ⟨rfl, h1, h2, h3⟩
  have G := Lib.hid (show Goes _ w2 d (deedOf d) from ⟨h1, fun k hk => .inl (h2 ▸ hk), h3⟩)
  clear h1 h2 h3
  go_wp2_with fail
  go_ret
  exact ⟨rfl, G.out⟩
set_option maxRecDepth 100000 in
set_option maxHeartbeats 4000000 in
theorem write_at {w : World} {d : Dsk} (h : DiskAt w d) (hl : Low d) (hd : d.dark = false) (hbl : blown d = false) (k : Nat) (hk : k < d.secs.length) (A : Option Addr) (c : Nat) (b : List UInt8) (hA : Holds w A b) (hAo : b = [] ∨ Off A (foot d)) (hAb : b.length ≤ d.size) (hlow : d.waits + 1 ≤ 1000000) :
    Calls Try.prog 19 #[.pointer (some ⟨d.p, 0, none⟩), .int .i64 (k : Nat), .slice A b.length c] w fun e w' => e = .returned (.int .i64 0) ∧ ∃ a cc wv, Goes w w' d (writeD (deedOf d) k (by rw [deedOf_secs]; exact hk) wv ⟨d.waits, a, cc, b⟩) := by
  have T := takes_at h (k : Nat) b.length
  rw [takes_ok hd hk (by omega)] at T
  have DD := deed_at h hl
  simp only [hbl, if_false, Bool.false_eq_true] at DD
  have hsm := h.small
  have hkl : (k : Int) < (d.secs.length : Int) := by omega
  have hfew : (d.secs.length : Int) ≤ 600 := by have := h.few; omega
  have H := Lib.hid h
  have HA := Lib.hid hA
  have hAi : (b.length : Int) ≤ 1024 := by omega
  replace T := Lib.hid T
  replace DD := Lib.hid DD
  clear h hl hA hd hbl
  go_enter Try.func19, Try.ntmps19
  go_wp2_with fail
  refine T.out.mono ?_
  rintro e w1 ⟨rfl, rfl⟩
  go_wp2_with fail
  refine DD.out.mono ?_
  rintro e w2 ⟨rfl, h1, h2, h3⟩
  have G := Lib.hid (show Goes _ w2 d (deedOf d) from ⟨h1, fun k hk => .inl (h2 ▸ hk), h3⟩)
  have hA2 : Holds w2 A b := by
    rcases hAo with e | ho
    · rw [e]; exact Holds.nil _ _
    · exact HA.out.touch h3 ho
  have hk2 : k < (deedOf d).secs.length := by rw [deedOf_secs]; exact hk
  have c1 := h1.c 1
  simp only [dcells, List.getElem?_toArray, List.getElem?_cons_zero, List.getElem?_cons_succ] at c1
  have c2 := h1.c 2
  simp only [dcells, List.getElem?_toArray, List.getElem?_cons_zero, List.getElem?_cons_succ] at c2
  have k1 := (encS_at (deedOf d).secs k hk2).2
  have cw := (Whole.cell h1.sec (k * 2 + 1)).trans (show _ = some (deedOf d).secs[k].wv by simpa using k1)
  have hap : (deedOf d).p = d.p := deedOf_p d
  have haw : (deedOf d).waits = d.waits := deedOf_waits d
  have hal : (deedOf d).secs.length = d.secs.length := by rw [deedOf_secs]
  have has : (deedOf d).size = d.size := deedOf_size d
  have STEP := fun (w3 : World) (hb : Below w2.heap.size w2 w3) (a : Option Addr) (cc : Nat) (hx : Row w3 0 (.slice a b.length cc) b) => write_step h1 k hk2 hb ⟨d.waits, a, cc, b⟩ hx (by rw [has]; exact hAb) (by rw [haw]) (by rw [haw]; omega)
  have DL := h1
  generalize hDe : deedOf d = D at *
  have HDE := Lib.hid hDe
  clear hDe
  obtain ⟨a5, c5, e5, -, -⟩ := (h1.ok _ (List.getElem_mem hk2)).wrow.shape
  rw [hap, hal] at c1
  rw [hap, haw] at c2
  rw [e5] at cw
  rw [hap, haw] at STEP
  rw [e5] at STEP
  have hqlt := h1.sec.lt
  have hplt : d.p < w2.heap.size := hap ▸ h1.top.lt
  generalize D.secs[k].ws.length = n5 at *
  have call : Calls Try.prog 31 #[.slice A b.length c] w2.drew fun e w3 => ∃ a cc, e = .returned (.slice a b.length cc) ∧ w3.cell? ⟨D.q, k * 2 + 1, none⟩ = some (.slice a5 n5 c5) ∧ w3.cell? ⟨d.p, 2, none⟩ = some (.int .i64 d.waits) ∧
      ∃ a' c' w4, Sem.run Try.prog (Builtin.append_ #[61, 61] 61 #[.slice a5 n5 c5, .slice (some ⟨w3.heap.size, 0, none⟩) 1 1]) (w3.alloc (.cells #[.int .i64 d.waits, .slice a b.length cc] 68)) = .ok (.slice a' (n5 + 1) c') w4 ∧
      w4.cell? ⟨D.q, k * 2 + 1, none⟩ = some (.slice a5 n5 c5) ∧ w4.frozen? ⟨D.q, k * 2 + 1, none⟩ = false ∧
      (w4.setCell ⟨D.q, k * 2 + 1, none⟩ (.slice a' (n5 + 1) c')).cell? ⟨d.p, 2, none⟩ = some (.int .i64 d.waits) ∧ (w4.setCell ⟨D.q, k * 2 + 1, none⟩ (.slice a' (n5 + 1) c')).frozen? ⟨d.p, 2, none⟩ = false ∧
      Hid (∃ a cc wv, Goes w2 ((w4.setCell ⟨D.q, k * 2 + 1, none⟩ (.slice a' (n5 + 1) c')).setCell ⟨d.p, 2, none⟩ (.int .i64 (d.waits + 1))) D (writeD D k hk2 wv ⟨d.waits, a, cc, b⟩)) := by
    have b0 : Below w2.heap.size w2 w2.drew := (Below.refl _ _).drew
    refine (clone_any A c b w2.drew (hA2.below b0) (by omega)).mono ?_
    rintro e w3 ⟨v, rfl, hr, hb⟩
    have hb2 : Below w2.heap.size w2 w3 := below_next b0 hb
    obtain ⟨a, cc, rfl, -, -, -⟩ := hr.shape
    obtain ⟨a', c', w4, s1, s2, s3, s4, s5, s6⟩ := STEP w3 hb2 a cc (hr.le (Nat.zero_le _))
    exact ⟨a, cc, rfl, (hb2.cell (p := ⟨D.q, k * 2 + 1, none⟩) hqlt).trans cw, (hb2.cell (p := ⟨d.p, 2, none⟩) hplt).trans c2, a', c', w4, s1, s2, s3, s4, s5, Lib.hid ⟨a, cc, _, s6⟩⟩
  have CALL := Lib.hid call
  clear call STEP hA2 h1 h2 h3 T DD k1 e5 hap haw hal has DL HA H
  go_wp2_with fail
  go_region_law (first
    | (refine step_append_runI rfl _ _ 61 61 rfl _ _ ?h3 ?h4 s1 ?_; (case h3 => rfl); (case h4 => rfl))
    | (refine step_call_any rfl 31 #[.slice A b.length c] ?h1 CALL.out ?_; (case h1 => kernel_rfl); rintro e w3 ⟨a, cc, rfl, q1, q2, a', c', w4, s1, s2, s3, s4, s5, FIN⟩; have q5 : (w3.alloc (.cells #[.int .i64 d.waits, .slice a b.length cc] 68)).cell? ⟨D.q, k * 2 + 1, none⟩ = some (.slice a5 n5 c5) := (((Below.refl _ w3).alloc (Nat.le_refl _) _).cell (p := ⟨D.q, k * 2 + 1, none⟩) (World.block_lt_of_cell? w3 _ q1)).trans q1; refine ⟨_, rfl, ?_⟩))
  all_goals
    clear q1 q2 q5 s1 s2 s3
    go_wp2_with fail
    go_ret
    obtain ⟨a9, c9, w9, F9⟩ := FIN.out
    have G9 := G.out.trans F9
    have e9 := HDE.out
    subst e9
    exact ⟨rfl, a9, c9, w9, G9⟩
end Go.Proofs.Ytmcgjlidfgbdfaa
