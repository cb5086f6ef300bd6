/- Plain: what is told of sectors; pageIn. -/
import Derived.Test.YtlkkfnimealbkaaNL
namespace Go.Proofs.Ytlkkfnimealbkaa
open Go.RowKit
open Pag (Pg PgAt IsPage HF)
set_option linter.unusedVariables false
/-- what is told of a page's pieces. -/
def tellP : List (List UInt8) → List Tb
  | [] => []
  | q :: r => tellK q :: (if (tellK q).e = 0 then tellP r else [])
def okP : List (List UInt8) → Bool
  | [] => true
  | q :: r => decide ((tellK q).e = 0) && okP r
/-- what is told of sectors: an error, or pieces. -/
def tellS : List (Int × List (List UInt8)) → List Tb
  | [] => []
  | o :: r => if o.1 = 0 then tellP o.2 ++ (if okP o.2 then tellS r else []) else [⟨[], false, o.1⟩]
theorem tellP_at (L : List (List UInt8)) (j : Nat) (h : j < L.length) : tellP (L.drop j) = tellK L[j] :: (if (tellK L[j]).e = 0 then tellP (L.drop (j + 1)) else []) := by
  rw [List.drop_eq_getElem_cons h]
  rfl
theorem okP_append : ∀ a b : List (List UInt8), okP (a ++ b) = (okP a && okP b)
  | [], b => by simp [okP]
  | q :: a, b => by simp [okP, okP_append a b, Bool.and_assoc]
theorem okP_take {L : List (List UInt8)} {j : Nat} (hj : j < L.length) (h : okP (L.take j) = true) (he : (tellK L[j]).e = 0) : okP (L.take (j + 1)) = true := by
  rw [List.take_add_one, List.getElem?_eq_getElem hj, okP_append, h]
  simp [okP, he]
theorem okP_bad {L : List (List UInt8)} {j : Nat} (hj : j < L.length) (he : (tellK L[j]).e ≠ 0) : okP L = false := by
  have : L = L.take j ++ (L[j] :: L.drop (j + 1)) := by
    rw [← List.drop_eq_getElem_cons hj, List.take_append_drop]
  rw [this, okP_append]
  simp [okP, he]
/-- a sector's bytes, as they are seen. -/
def secB (m : Mod) (k : Nat) : List UInt8 := pad m.size (m.cont ones k)
/-- what a sector is: an error, or a page. -/
def SecIs (m : Mod) (k : Nat) (o : Int × List (List UInt8)) : Prop :=
  (m.dark = false ∧ k < m.n ∧ ((o.1 = 0 ∧ IsPage (secB m k) o.2) ∨ (o.1 = 7 ∧ ∀ M, ¬ IsPage (secB m k) M))) ∨ (m.takes (k : Nat) 0 = o.1 ∧ o.1 ≠ 0)
theorem secIs_ex (m : Mod) (k : Nat) : ∃ o, SecIs m k o := by
  by_cases h : m.takes (k : Nat) 0 = 0
  · have hd : m.dark = false := by
      unfold Mod.takes at h
      cases hd : m.dark with
      | false => rfl
      | true => rw [hd] at h; simp at h
    have hk : k < m.n := by
      unfold Mod.takes at h
      rw [hd, if_neg (by simp)] at h
      split at h
      · cases h
      · omega
    by_cases hp : ∃ L, IsPage (secB m k) L
    · obtain ⟨L, hL⟩ := hp
      exact ⟨(0, L), .inl ⟨hd, hk, .inl ⟨rfl, hL⟩⟩⟩
    · exact ⟨(7, []), .inl ⟨hd, hk, .inr ⟨rfl, fun M hM => hp ⟨M, hM⟩⟩⟩⟩
  · exact ⟨(m.takes (k : Nat) 0, []), .inr ⟨rfl, h⟩⟩
/-- what sectors are, one behind the other. -/
def SecsAre (m : Mod) (fr : Nat) (Os : List (Int × List (List UInt8))) : Prop := ∀ i (h : i < Os.length), SecIs m (fr + i) Os[i]
theorem secsAre_ex (m : Mod) (fr : Nat) : ∀ n, ∃ Os, Os.length = n ∧ SecsAre m fr Os
  | 0 => ⟨[], rfl, fun i h => absurd h (by simp)⟩
  | n + 1 => by
    obtain ⟨Os, h1, h2⟩ := secsAre_ex m fr n
    obtain ⟨o, ho⟩ := secIs_ex m (fr + n)
    refine ⟨Os ++ [o], by simp [h1], fun i hi => ?_⟩
    rw [List.length_append, List.length_singleton] at hi
    rcases Nat.lt_or_ge i Os.length with hl | hl
    · rw [List.getElem_append_left hl]; exact h2 i hl
    · have : i = n := by omega
      subst this
      rw [List.getElem_append_right (by omega)]
      simp [h1, ho]
theorem secB_len {w : World} {p : Nat} {F : List Nat} {m : Mod} (h : IsD w p F m) (hw : m.waits ≤ 1000000) (hd : m.dark = false) (k : Nat) (hk : k < m.n) : (secB m k).length = m.size := by
  obtain ⟨d, hda, rfl, rfl, rfl⟩ := h
  have := readL_length hda k hk
  unfold secB
  have e : contAt ones d k = (settleS ones d.secs[k]).l := by
    unfold contAt
    rw [List.getElem?_eq_getElem hk]
  show (pad d.size (contAt ones d k)).length = _
  rw [e]
  exact this
set_option maxRecDepth 100000 in
set_option maxHeartbeats 2000000 in
theorem pageIn_any {w : World} {p : Nat} {F : List Nat} {m : Mod} (h : IsD w p F m) (hw : m.waits ≤ 1000000) (hs1 : 64 ≤ m.size) (hs2 : m.size ≤ 1024) (k : Nat) {o : Int × List (List UInt8)} (ho : SecIs m k o) :
    Calls Try.prog 46 #[.pointer (some ⟨p, 0, none⟩), .int .i64 (k : Nat)] w fun e w' => Below w.heap.size w w' ∧
      ((o.1 = 0 ∧ ∃ P', e = .returned (.tuple #[P'.ptr, .int .i64 0]) ∧ PgAt w' P' ∧ P'.L = o.2 ∧ (∀ j ∈ Pag.foot P', w.heap.size ≤ j) ∧ HF w.heap.size P') ∨ (o.1 ≠ 0 ∧ e = .returned (.tuple #[.pointer none, .int .i64 o.1]))) := by
  rcases ho with ⟨hd, hk, hsec⟩ | ⟨ht, h0⟩
  · have hlen := secB_len h hw hd k hk
    have RD := Lib.hid (h.read hw hd k hk)
    have HS := Lib.hid hsec
    clear h hsec hd
    go_enter Try.func46, Try.ntmps46
    go_wp2_with fail
    refine RD.out.mono ?_
    rintro e w1 ⟨g, rfl, hg, hbb, hl, hb1⟩
    have PR := Pag.read_any w1 (secB m k) (by omega) (by omega) g hbb
    rw [hlen] at PR
    have PRH := Lib.hid PR
    have HB := Lib.hid hb1
    clear PR hb1 hbb hl RD
    go_wp2_with fail
    refine PRH.out.mono ?_
    rintro e w2 ⟨hb2, ⟨P', rfl, q1, q2, q3, q4, q5⟩ | ⟨rfl, q3⟩⟩
    · have HH := Lib.hid (And.intro hb2 (And.intro q1 (And.intro q3 (And.intro q4 q5))))
      clear hb2 q1 q2 q3 q4 q5
      go_wp2_with fail
      go_ret2
      obtain ⟨hb2, q1, q3, q4, q5⟩ := HH.out
      refine ⟨HB.out.trans (hb2.mono HB.out.size), .inl ?_⟩
      rcases HS.out with ⟨e0, hp⟩ | ⟨e7, hno⟩
      · exact ⟨e0, P', rfl, q1, Pag.isPage_unique q3 hp (by omega), fun j hj => Nat.le_trans HB.out.size (q4 j hj), fun x hx j hj => Nat.le_trans HB.out.size (q5 x hx j hj)⟩
      · exact absurd q3 (hno _)
    · have HH := Lib.hid (And.intro hb2 q3)
      clear hb2 q3
      go_wp2_with fail
      go_ret2
      refine ⟨HB.out.trans (HH.out.1.mono HB.out.size), .inr ?_⟩
      rcases HS.out with ⟨e0, hp⟩ | ⟨e7, hno⟩
      · exact absurd hp (HH.out.2 _)
      · rw [e7]
        exact ⟨by omega, rfl⟩
  · have RD := Lib.hid (h.readErr (k : Nat) o.1 ht h0)
    have hob : (o.1 == 0) = false := by simpa using h0
    have H0 := Lib.hid h0
    clear h ht h0
    generalize o.1 = t at *
    go_enter Try.func46, Try.ntmps46
    go_wp2_with fail
    refine RD.out.mono ?_
    rintro e w1 ⟨rfl, rfl⟩
    go_wp2_with fail
    go_ret2
    exact ⟨Below.refl _ _, .inr ⟨H0.out, rfl⟩⟩
end Go.Proofs.Ytlkkfnimealbkaa
