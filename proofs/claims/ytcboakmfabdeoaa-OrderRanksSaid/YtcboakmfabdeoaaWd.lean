/- recount. -/
import Derived.Test.YtcboakmfabdeoaaWc
namespace Go.Proofs.Ytcboakmfabdeoaa
open Go.RowKit

def total (ks : List Kid) : Nat := (ks.map fun z => z.l.length).sum

set_option maxHeartbeats 400000 in
theorem recount_inner (p m gk nk ck np : Nat) (vp : Value) (a : Option Addr) (cp : Nat) (hvp : vp = .slice a np cp) (ks : List Kid) (w : World) (hr : Rec w p vp (.slice (some ⟨gk, 0, none⟩) nk ck) m) (hk : KRow w (.slice (some ⟨gk, 0, none⟩) nk ck) ks)
    (hz : ∀ z ∈ ks, z.p ≠ p ∧ ∃ a b, Rec w z.p a b z.l.length) (hgp : gk ≠ p) (hb : np + total ks ≤ 1000000000) :
    Calls Try.prog 61 #[.pointer (some ⟨p, 0, none⟩)] w fun e w' => e = .returned (.tuple #[]) ∧ Rec w' p vp (.slice (some ⟨gk, 0, none⟩) nk ck) (np + total ks) ∧ Touch [p] w w' := by
  have c0 := hr.c0
  have c1 := hr.c1
  have c2 := hr.c2
  have f2 := hr.fr 2
  rw [hvp] at c0
  go_enter Try.func61, Try.ntmps61
  go_wp2
  have hK : Touch [p] w (w.setCell ⟨p, 2, none⟩ (.int .i64 np)) := (Touch.refl _ w).setCell (.inl (by simp)) _
  have hR : Rec (w.setCell ⟨p, 2, none⟩ (.int .i64 np)) p vp (.slice (some ⟨gk, 0, none⟩) nk ck) np := rec_size hr np
  have HZ := Lib.hid hz
  have HB := Lib.hid hb
  have KO := Lib.hid hk
  have nkl : nk = ks.length := by
    rcases hk.cases with ⟨h, _⟩ | ⟨g, cap, cur, h, _⟩
    · cases h
    · simp at h; exact h.2.1
  have NK := Lib.hid nkl
  have gl := hk.lt
  have hnk : nk ≤ 9223372036854775807 := by
    rcases hk.cases with ⟨h, _⟩ | ⟨g, cap, cur, h, _, h3, h4, _⟩
    · cases h
    · unfold maxLen at h4; omega
  clear hz hb hk nkl c0 c1 c2 f2 hr
  have RR := Lib.hid hR
  have TT := Lib.hid hK
  clear hR hK
  subst hvp
  go_loopw [17] (fun s17 wr => ∃ j : Nat, s17 = .int .i64 j ∧ j ≤ nk ∧ Hid (Rec wr p (.slice a np cp) (.slice (some ⟨gk, 0, none⟩) nk ck) (np + total (ks.take j))) ∧ Hid (Touch [p] w wr)) (fun s17 wr => nk - (intOf s17).toNat)
  case atStart => exact ⟨0, rfl, Nat.zero_le _, RR.out, TT.out⟩
  case round =>
    clear RR TT
    obtain ⟨j, rfl, hj, RR, TT⟩ := hrel
    by_cases hlt : j < nk
    · obtain ⟨z, hzj⟩ : ∃ z, ks[j]? = some z := ⟨ks[j]'(by have := NK.out; omega), List.getElem?_eq_getElem _⟩
      have hzm := List.mem_of_getElem? hzj
      obtain ⟨hzp, za, zb, hzr⟩ := HZ.out z hzm
      have kc : wr.cell? ⟨gk, j, none⟩ = some (.pointer (some ⟨z.p, 0, none⟩)) := by
        rw [World.cell?_of_block (TT.out.block gk (gl gk rfl).2 (by simpa using hgp))]; exact KO.out.cell j z hzj
      have zc : wr.cell? ⟨z.p, 2, none⟩ = some (.int .i64 z.l.length) := (Rec.touch hzr TT.out (by simpa using hzp)).c2
      have c0 := RR.out.c0
      have c1 := RR.out.c1
      have c2 := RR.out.c2
      have f2 := RR.out.fr 2
      have tk : total (ks.take (j + 1)) = total (ks.take j) + z.l.length := by
        unfold total
        rw [List.take_add_one, hzj]; simp
      have tb : total (ks.take (j + 1)) ≤ total ks := by
        have : total ks = total (ks.take (j + 1)) + total (ks.drop (j + 1)) := by
          unfold total
          rw [← List.sum_append, ← List.map_append, List.take_append_drop]
        omega
      have TK := Lib.hid tk
      have b1 : (np : Int) + (total (ks.take j) : Nat) + (z.l.length : Nat) ≤ 1000000000 := by have := HB.out; omega
      have hsame : ∀ v, Rec (wr.drew.setCell ⟨p, 2, none⟩ (.int .i64 (v : Nat))) p (.slice a np cp) (.slice (some ⟨gk, 0, none⟩) nk ck) v := fun v => rec_size (w := wr.drew) RR.out v
      have HS := Lib.hid hsame
      clear hsame tk tb hzj hzm hzr
      generalize total (ks.take j) = tj at *
      generalize z.l.length = zl at *
      go_wp2
      go_region
      all_goals
        go_wp2
        go_roundw
        case rel =>
          refine ⟨j + 1, by go_num, by omega, ?_, TT.out.trans (((Touch.refl [p] wr).setCell (q := ⟨p, 2, none⟩) (.inl (by simp)) _).drew) (fun x hx => .inl hx)⟩
          rw [TK.out, show ((np : Int) + tj + zl) = ((np + (tj + zl) : Nat) : Int) by omega]
          exact HS.out (np + (tj + zl))
        case measure => simp [intOf]; omega
    · have e : j = nk := by omega
      have E : Hid (total (ks.take j) = total ks) := by rw [e, NK.out, List.take_length]; exact rfl
      clear e
      go_wp2
      go_end0
      exact ⟨rfl, by rw [← E.out]; exact RR.out, TT.out⟩

set_option maxHeartbeats 400000 in
theorem recount_leaf (p m np cp : Nat) (a : Option Addr) (w : World) (hr : Rec w p (.slice a np cp) (.slice none 0 0) m) (hb : np ≤ 1000000000) :
    Calls Try.prog 61 #[.pointer (some ⟨p, 0, none⟩)] w fun e w' => e = .returned (.tuple #[]) ∧ Rec w' p (.slice a np cp) (.slice none 0 0) np ∧ Touch [p] w w' := by
  have c0 := hr.c0
  have c1 := hr.c1
  have c2 := hr.c2
  have f2 := hr.fr 2
  go_enter Try.func61, Try.ntmps61
  go_wp2
  have hK : Touch [p] w (w.setCell ⟨p, 2, none⟩ (.int .i64 np)) := (Touch.refl _ w).setCell (.inl (by simp)) _
  have hR : Rec (w.setCell ⟨p, 2, none⟩ (.int .i64 np)) p (.slice a np cp) (.slice none 0 0) np := rec_size hr np
  clear c0 c1 c2 f2 hr
  have RR := Lib.hid hR
  have TT := Lib.hid hK
  clear hR hK
  go_loopw [17] (fun s17 wr => s17 = .int .i64 0 ∧ wr = w.setCell ⟨p, 2, none⟩ (.int .i64 np)) (fun _ _ => 0)
  case atStart => exact ⟨rfl, rfl⟩
  case round =>
    obtain ⟨rfl, rfl⟩ := hrel
    go_wp2
    go_end0
    exact ⟨rfl, RR.out, TT.out⟩

theorem join_length : ∀ (ks : List Kid) (ps : List Pr), ks.length = ps.length + 1 → (join (ks.map Kid.l) ps).length = ps.length + total ks
  | [], _, h => by simp at h
  | x :: ks, ps, h => by
    have : ∀ (ps : List Pr) (ks : List Kid), ks.length = ps.length → (joinR ps (ks.map Kid.l)).length = ps.length + total ks := by
      intro ps
      induction ps with
      | nil => intro ks h; cases ks with | nil => rfl | cons _ _ => simp at h
      | cons p ps ih =>
        intro ks h
        cases ks with
        | nil => simp at h
        | cons k ks => have := ih ks (by simpa using h); simp [joinR, total] at this ⊢; omega
    have h2 := this ps ks (by simpa using h)
    simp [join, total] at h2 ⊢
    omega
end Go.Proofs.Ytcboakmfabdeoaa
