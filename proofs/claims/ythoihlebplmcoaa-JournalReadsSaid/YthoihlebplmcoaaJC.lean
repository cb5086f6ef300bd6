/- A journal on its disk; put. -/
import Derived.Test.YthoihlebplmcoaaJB
namespace Go.Proofs.Ythoihlebplmcoaa
open Go.RowKit
set_option linter.unusedVariables false
theorem Holds.still {w w' : World} {A : Option Addr} {l : List UInt8} (h : Holds w A l) (hb : ∀ a : Addr, A = some a → Bytes w a.block) (hs : Still w w') : Holds w' A l := fun i hi => by
  obtain ⟨b, o, e, hlt, hc⟩ := h i hi
  obtain ⟨cs, z, he⟩ := hb _ e
  have hh := hs.block _ cs 5 z he (by decide) (by decide) (by decide)
  refine ⟨b, o, e, Nat.lt_of_lt_of_le hlt hs.size, ?_⟩
  rw [← hc]
  simp only [World.cell?, hh]
theorem Bytes.still {w w' : World} {k : Nat} (h : Bytes w k) (hs : Still w w') : Bytes w' k := by
  obtain ⟨cs, z, he⟩ := h
  exact ⟨cs, z, (hs.block k cs _ z he (by decide) (by decide) (by decide)).trans he⟩
theorem Bytes.below {w w' : World} {k : Nat} (h : Bytes w k) (hb : Below w.heap.size w w') : Bytes w' k := h.still (Still.of_below hb)
/-- a row that is the journal's own, or one that can't grow where it stands. -/
structure JRow (w : World) (A : Option Addr) (c : Nat) (l : List UInt8) : Prop where
  held : Holds w A l
  le : l.length ≤ c
  top : c ≤ maxLen
  bytes : ∀ a : Addr, A = some a → Bytes w a.block
  own : Row w 0 (.slice A l.length c) l ∨ c = l.length
theorem JRow.still {w w' : World} {A : Option Addr} {c : Nat} {l : List UInt8} (h : JRow w A c l) (hs : Still w w') : JRow w' A c l :=
  ⟨h.held.still h.bytes hs, h.le, h.top, fun a e => (h.bytes a e).still hs, h.own.imp (fun r => r.of_heap fun k hk => by obtain ⟨cs, z, he⟩ := r.bytes hk; exact hs.block k cs _ z he (by decide) (by decide) (by decide)) id⟩
/-- the numbers go together. -/
structure Jd.Ok (J : Jd) (n size : Nat) : Prop where
  lo : J.fr < J.tt
  hi : J.tt ≤ n
  n : n ≤ 600
  size : size = J.f + 4
  f1 : 60 ≤ J.f
  f2 : J.f ≤ 1020
  e : J.e < 4294967296
  len : J.row.length ≤ 700000
structure JP (w0 w : World) (J : Jd) (m : Mod) : Prop where
  own : OwnA (fun k => J.v.ownBlock = some k) w0 w J.dp m
  is : JIs w J
  new : w0.heap.size ≤ J.p
  rowNew : ∀ k, J.v.ownBlock = some k → w0.heap.size ≤ k
  row : JRow w J.A J.c J.row
  ok : J.Ok m.n m.size
section
variable {w0 w w' : World} {J : Jd} {m m' : Mod}
theorem JP.below (h : JP w0 w J m) (hb : Below w.heap.size w w') : JP w0 w' J m :=
  ⟨h.own.below hb, h.is.below hb, h.new, h.rowNew, h.row.still (Still.of_below hb), h.ok⟩
theorem JP.a (h : JP w0 w J m) : ∀ k, J.v.ownBlock = some k → k < w.heap.size := fun k hk => by
  have hr := h.row
  unfold Jd.v at hk
  cases hA : J.A with
  | none => rw [hA] at hk; cases hk
  | some a =>
    rw [hA] at hk
    have := (hr.bytes a hA).lt
    injection hk with hk
    omega
theorem JP.next (h : JP w0 w J m) (ho : OwnA (fun k => J.v.ownBlock = some k) w0 w' J.dp m') (hs : Still w w') (hn : m'.n = m.n) (hz : m'.size = m.size) : JP w0 w' J m' :=
  ⟨ho, h.is.still hs, h.new, h.rowNew, h.row.still hs, by rw [hn, hz]; exact h.ok⟩
end
theorem mod_write_n (m : Mod) (i : Int) (b : List UInt8) : (m.write i b).n = m.n ∧ (m.write i b).size = m.size := by
  unfold Mod.write Mod.deed
  split
  · split
    · exact ⟨rfl, rfl⟩
    · exact ⟨rfl, rfl⟩
  · exact ⟨rfl, rfl⟩
theorem mod_flush_n (m : Mod) : m.flush.n = m.n ∧ m.flush.size = m.size := by
  unfold Mod.flush Mod.deed
  split
  · exact ⟨rfl, rfl⟩
  · split
    · exact ⟨rfl, rfl⟩
    · exact ⟨rfl, rfl⟩
/-- what stands in a sector, by its number in the journal. -/
def Jd.sec (J : Jd) (i : Nat) : List UInt8 := word4 J.e ++ (J.row.drop (i * J.f)).take J.f
set_option maxRecDepth 100000 in
set_option maxHeartbeats 1000000 in
theorem put_any {w0 w : World} {J : Jd} {m : Mod} (h : JP w0 w J m) (hl : m.Low) (i : Nat) (hi : i * J.f < J.row.length) :
    Calls Try.prog 55 #[J.ptr, .int .i64 (i : Nat)] w fun e w' => e = .returned (.int .i64 (m.writeR ((J.fr + i : Nat) : Int) (J.sec i).length)) ∧ JP w0 w' J (m.write ((J.fr + i : Nat) : Int) (J.sec i)) ∧ Still w w' := by
  have hok := h.ok
  have hf1 := hok.f1
  have hf2 := hok.f2
  have hlen := hok.len
  have hle := h.row.le
  have htop := h.row.top
  obtain ⟨b, o, hA, hblt, -⟩ := h.row.held 0 (by omega)
  obtain ⟨k, hk⟩ : ∃ k, i * J.f = k := ⟨_, rfl⟩
  have hki : (i : Int) * (J.f : Int) = (k : Nat) := by rw [← hk, Int.natCast_mul]
  rw [hk] at hi
  have c0 := h.is.c0
  have c1 := h.is.c1
  have c3 := h.is.c3
  have c5 := h.is.c5
  have H := Lib.hid h
  have HR : Hid (Holds w (some ⟨b, o + k, none⟩) (J.row.drop k)) := Lib.hid (by
    have := h.row.held.drop k J.c hle
    rw [if_neg (by omega), hA] at this
    simpa only [Option.map_some, Addr.add_lit] using this)
  unfold Jd.v at c5
  rw [hA] at c5
  have hi1 : i ≤ 700000 := by
    have : i * 1 ≤ i * J.f := Nat.mul_le_mul_left _ (by omega)
    omega
  have hfr := hok.lo
  have hn := hok.n
  have hhi := hok.hi
  unfold maxLen at htop
  clear h
  go_enter Try.func55, Try.ntmps55
  go_wp2_with fail
  go_quiet (fail)
  have hb1 : Below w.heap.size w (w.drewN nq) := below_drewN (Below.refl _ _) nq
  have H1 := Lib.hid (H.out.below hb1)
  have HR1 := Lib.hid (HR.out.below hb1)
  have S1 := Lib.hid (Still.of_below hb1)
  generalize hW : w.drewN nq = W at *
  clear hW H HR hb1
  obtain ⟨q, hq⟩ : ∃ q, min (J.row.length - k) J.f = q := ⟨_, rfl⟩
  have hql : ((J.row.drop k).take J.f).length = q := by rw [List.length_take, List.length_drop, Nat.min_comm]; exact hq
  have hq1 : q ≤ 1020 := by omega
  have CALL : Hid (Calls Try.prog 50 #[J.ptr] W.drew fun e w3 => ∃ g, e = .returned (.slice (some ⟨g, 0, none⟩) 4 4) ∧ w3.cell? ⟨J.p, 3, none⟩ = some (.int .i64 (J.f : Nat)) ∧
      ∃ a' c' w4, Sem.run Try.prog (Builtin.append_ #[35, 35] 35 #[.slice (some ⟨g, 0, none⟩) 4 4, .slice (some ⟨b, o + k, none⟩) q (J.c - k)]) w3 = .ok (.slice a' (4 + q) c') w4 ∧ Hid (Holds w4 a' (J.sec i) ∧ (∀ x : Addr, a' = some x → Bytes w4 x.block) ∧ JP w0 w4 J m ∧ Still W w4)) := by
    have hd : Below W.heap.size W W.drew := (Below.refl _ _).drew
    refine Lib.hid ((mark_any J.p J.e hok.e W.drew (H1.out.below hd).is.c4).mono ?_)
    rintro e w3 ⟨g, rfl, hg, hbb, hb3⟩
    have hb3' : Below W.heap.size W w3 := below_next hd hb3
    obtain ⟨v', w4, hr, ho, hgr, hbl⟩ := append_bytes (Row.of_block (base := W.heap.size) hbb hg (by simp [word4_length, maxLen])) (some ⟨b, o + k, none⟩) (J.c - k) ((J.row.drop k).take J.f) (((HR1.out.below hb3').take _)) (by rw [hql, word4_length]; omega) hb3'.size
    obtain ⟨a', c', rfl, hh, -, -⟩ := ho.shape
    have hb4 : Below W.heap.size W w4 := below_grown hb3' hgr (fun k hk => by cases hk; exact hg)
    have hsec : J.sec i = word4 J.e ++ (J.row.drop k).take J.f := by unfold Jd.sec; rw [hk]
    refine ⟨g, rfl, (H1.out.below hb3').is.c3, a', c', w4, ?_, Lib.hid ⟨by rw [hsec]; exact hh, fun x hx => ?_, H1.out.below hb4, Still.of_below hb4⟩⟩
    · rw [hql, word4_length] at hr
      rw [List.length_append, hql, word4_length] at hr
      exact hr
    · subst hx
      exact ho.bytes rfl
  have c3W := H1.out.is.c3
  clear c0 c1 c3 c5 HR1
  generalize hL : J.row.length - k = L at *
  have hcap : (q : Int) ≤ ((J.c - k : Nat) : Int) := by omega
  generalize J.c - k = C2 at *
  have WR : Hid (∀ (w4 : World) (a' : Option Addr) (c' : Nat), (Hid (Holds w4 a' (J.sec i) ∧ (∀ x : Addr, a' = some x → Bytes w4 x.block) ∧ JP w0 w4 J m ∧ Still W w4)) →
      Calls Try.prog 17 #[.pointer (some ⟨J.dp, 0, none⟩), .int .i64 ((J.fr : Nat) + (i : Nat)), .slice a' (4 + q) c'] w4.drew fun e w' => e = .returned (.int .i64 (m.writeR ((J.fr + i : Nat) : Int) (J.sec i).length)) ∧ JP w0 w' J (m.write ((J.fr + i : Nat) : Int) (J.sec i)) ∧ Still w w') := by
    refine Lib.hid fun w4 a' c' F => ?_
    obtain ⟨f1, f2, f3, f4⟩ := F.out
    have hd : Below w4.heap.size w4 w4.drew := (Below.refl _ _).drew
    have f3d := f3.below hd
    have hsl : (J.sec i).length = 4 + q := by unfold Jd.sec; rw [List.length_append, hk, hql, word4_length]
    have WA := f3d.own.writeA f3d.a hl ((J.fr + i : Nat) : Int) a' c' (J.sec i) (f1.below hd) (.inr fun p hp => .inr ((f2 p hp).below hd))
    rw [hsl] at WA
    rw [hsl]
    refine WA.mono ?_
    rintro e w' ⟨rfl, ho, hs⟩
    exact ⟨rfl, f3d.next ho hs (mod_write_n _ _ _).1 (mod_write_n _ _ _).2, S1.out.trans (f4.trans ((Still.of_below hd).trans hs))⟩
  have IS : Hid (∀ (w4 : World) (a' : Option Addr), (Hid (Holds w4 a' (J.sec i) ∧ (∀ x : Addr, a' = some x → Bytes w4 x.block) ∧ JP w0 w4 J m ∧ Still W w4)) → w4.cell? ⟨J.p, 0, none⟩ = some (.pointer (some ⟨J.dp, 0, none⟩)) ∧ w4.cell? ⟨J.p, 1, none⟩ = some (.int .i64 (J.fr : Nat))) := Lib.hid fun w4 a' F => ⟨F.out.2.2.1.is.c0, F.out.2.2.1.is.c1⟩
  have hql2 : q ≤ L ∧ q ≤ J.f ∧ (q = L ∨ q = J.f) := by omega
  clear H1 S1 hql hok hA hblt hk hki hL hlen hle htop hi
  by_cases hmin : J.f < L
  · have hqf : q = J.f := by omega
    rw [hqf] at CALL WR hcap
    clear hqf hq hql2
    have hF0 : 0 ≤ (J.f : Int) := by omega
    go_wp2_with fail
    go_region_law (first
      | (refine step_append_runI rfl _ _ 35 35 rfl _ _ ?h3 ?h4 s1 ?_; (case h3 => rfl); (case h4 => rfl))
      | (refine step_call_any (o := ⟨some 19, _, _, _, _, _⟩) rfl 50 #[J.ptr] ?h1 CALL.out ?_; (case h1 => kernel_rfl); rintro e w3 ⟨g, rfl, q1, a', c', w4, s1, FIN⟩; refine ⟨_, rfl, ?_⟩))
    all_goals
      obtain ⟨i0, i1⟩ := IS.out _ _ FIN
      have WR1 := Lib.hid (WR.out _ _ c' FIN)
      clear s1 WR IS CALL FIN q1 c3W
      go_wp2_with fail
      go_still_tail 11, (by kernel_rfl)
      change wpList _ _ _ _ _ (World.drew _)
      go_wp2_with fail
      with_reducible refine WR1.out.mono ?_
      rintro e w9 ⟨rfl, o9⟩
      have O9 := Lib.hid o9
      clear o9 WR1
      go_wp2_with fail
      go_ret
      exact ⟨rfl, O9.out⟩
  · have hqf : q = L := by omega
    rw [hqf] at CALL WR hcap
    clear hqf hq hql2
    have hF0 : 0 ≤ (L : Int) := by omega
    go_wp2_with fail
    go_region_law (first
      | (refine step_append_runI rfl _ _ 35 35 rfl _ _ ?h3 ?h4 s1 ?_; (case h3 => rfl); (case h4 => rfl))
      | (refine step_call_any (o := ⟨some 19, _, _, _, _, _⟩) rfl 50 #[J.ptr] ?h1 CALL.out ?_; (case h1 => kernel_rfl); rintro e w3 ⟨g, rfl, q1, a', c', w4, s1, FIN⟩; refine ⟨_, rfl, ?_⟩))
    all_goals
      obtain ⟨i0, i1⟩ := IS.out _ _ FIN
      have WR1 := Lib.hid (WR.out _ _ c' FIN)
      clear s1 WR IS CALL FIN q1 c3W
      go_wp2_with fail
      go_still_tail 11, (by kernel_rfl)
      change wpList _ _ _ _ _ (World.drew _)
      go_wp2_with fail
      with_reducible refine WR1.out.mono ?_
      rintro e w9 ⟨rfl, o9⟩
      have O9 := Lib.hid o9
      clear o9 WR1
      go_wp2_with fail
      go_ret
      exact ⟨rfl, O9.out⟩
end Go.Proofs.Ythoihlebplmcoaa
