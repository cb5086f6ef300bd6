/- spare, first, lowered. -/
import Derived.Test.YtcboakmfabdeoaaXo
import Derived.Test.YtcboakmfabdeoaaXe
namespace Go.Proofs.Ytcboakmfabdeoaa
open Go.RowKit

theorem spare_yes (p n cap t : Nat) (a : Option Addr) (w : World) (h0 : w.cell? ⟨p, 0, none⟩ = some (.slice a n cap)) (hn : n ≤ 1000000) (ht : t ≤ 1000) (h : t ≤ n) :
    Calls Try.prog 51 #[.pointer (some ⟨p, 0, none⟩), .int .i64 t] w fun e w' => e = .returned (.bool true) ∧ w = w' := by
  go_enter Try.func51, Try.ntmps51
  go_wp2
  go_ret
  exact ⟨by simp [h], rfl⟩

theorem spare_no (p n cap t : Nat) (a : Option Addr) (w : World) (h0 : w.cell? ⟨p, 0, none⟩ = some (.slice a n cap)) (hn : n ≤ 1000000) (ht : t ≤ 1000) (h : n < t) :
    Calls Try.prog 51 #[.pointer (some ⟨p, 0, none⟩), .int .i64 t] w fun e w' => e = .returned (.bool false) ∧ w = w' := by
  go_enter Try.func51, Try.ntmps51
  go_wp2
  go_ret
  exact ⟨by simp; omega, rfl⟩

theorem first_leaf (p cap : Nat) (a : Option Addr) (w : World) (h1 : w.cell? ⟨p, 1, none⟩ = some (.slice a 0 cap)) :
    Calls Try.prog 38 #[.pointer (some ⟨p, 0, none⟩)] w fun e w' => e = .returned (.pointer none) ∧ w = w' := by
  go_enter Try.func38, Try.ntmps38
  go_wp2_with (go_at_call 43; refine (leaf_yes p cap a _ h1).mono ?_; rintro e w' ⟨rfl, rfl⟩)
  go_ret
  exact ⟨rfl, rfl⟩

theorem first_kid (p n g q cap : Nat) (w : World) (h1 : w.cell? ⟨p, 1, none⟩ = some (.slice (some ⟨g, 0, none⟩) n cap)) (hn : 0 < n) (hn2 : n ≤ 1000000) (h2 : w.cell? ⟨g, 0, none⟩ = some (.pointer (some ⟨q, 0, none⟩))) :
    Calls Try.prog 38 #[.pointer (some ⟨p, 0, none⟩)] w fun e w' => e = .returned (.pointer (some ⟨q, 0, none⟩)) ∧ w = w' := by
  go_enter Try.func38, Try.ntmps38
  go_wp2_with (go_at_call 43; refine (leaf_no p n cap _ _ h1 hn).mono ?_; rintro e w' ⟨rfl, rfl⟩)
  go_ret
  exact ⟨rfl, rfl⟩

theorem lowered_stay (p n cap : Nat) (a : Option Addr) (w : World) (h0 : w.cell? ⟨p, 0, none⟩ = some (.slice a n cap)) (hn : 0 < n) (hn2 : n ≤ 1000000) :
    Calls Try.prog 37 #[.pointer (some ⟨p, 0, none⟩)] w fun e w' => e = .returned (.pointer (some ⟨p, 0, none⟩)) ∧ w = w' := by
  go_enter Try.func37, Try.ntmps37
  go_wp2
  go_ret
  exact ⟨rfl, rfl⟩

theorem lowered_leaf (p cap c2 : Nat) (a b : Option Addr) (w : World) (h0 : w.cell? ⟨p, 0, none⟩ = some (.slice a 0 cap)) (h1 : w.cell? ⟨p, 1, none⟩ = some (.slice b 0 c2)) :
    Calls Try.prog 37 #[.pointer (some ⟨p, 0, none⟩)] w fun e w' => e = .returned (.pointer none) ∧ w = w' := by
  go_enter Try.func37, Try.ntmps37
  go_wp2_with (go_at_call 38; refine (first_leaf p c2 b _ h1).mono ?_; rintro e w' ⟨rfl, rfl⟩)
  go_ret
  exact ⟨rfl, rfl⟩

theorem lowered_kid (p n g q cap c2 : Nat) (a : Option Addr) (w : World) (h0 : w.cell? ⟨p, 0, none⟩ = some (.slice a 0 cap)) (h1 : w.cell? ⟨p, 1, none⟩ = some (.slice (some ⟨g, 0, none⟩) n c2)) (hn : 0 < n) (hn2 : n ≤ 1000000) (h2 : w.cell? ⟨g, 0, none⟩ = some (.pointer (some ⟨q, 0, none⟩))) :
    Calls Try.prog 37 #[.pointer (some ⟨p, 0, none⟩)] w fun e w' => e = .returned (.pointer (some ⟨q, 0, none⟩)) ∧ w = w' := by
  go_enter Try.func37, Try.ntmps37
  go_wp2_with (go_at_call 38; refine (first_kid p n g q c2 _ h1 hn hn2 h2).mono ?_; rintro e w' ⟨rfl, rfl⟩)
  go_ret
  exact ⟨rfl, rfl⟩

/-- lowered, of any tree: what stands at the root. -/
theorem lowered_any (t h : Nat) (ht : 2 ≤ t) (x : Kid) (w : World) (hx : IsT t w h x) (hs : Rising x.l) (hn : x.l.length ≤ 500000) :
    Calls Try.prog 37 #[.pointer (some ⟨x.p, 0, none⟩)] w fun e w' => w = w' ∧
      ((x.l = [] ∧ e = .returned (.pointer none)) ∨ ∃ h' x', e = .returned (.pointer (some ⟨x'.p, 0, none⟩)) ∧ IsT t w h' x' ∧ x'.l = x.l ∧ x'.fp.Sublist x.fp ∧ (h' = 0 ∨ 1 ≤ x'.c)) := by
  obtain ⟨vp, vk, ps, r1, r2, hps, hpl, hyc, hkids⟩ := hx.node hs
  obtain ⟨a, na, ca, rfl, hna⟩ : ∃ a n c, vp = .slice a n c ∧ n = ps.length := by
    rcases r2.cases with ⟨h, h2⟩ | ⟨g, cap, cur, h, _⟩
    · exact ⟨none, 0, 0, h, by rw [h2]; rfl⟩
    · exact ⟨_, _, _, h, rfl⟩
  by_cases hz : 0 < na
  · refine (lowered_stay x.p na ca a w r1.c0 hz (by omega)).mono ?_
    rintro e w' ⟨rfl, rfl⟩
    exact ⟨rfl, .inr ⟨h, x, rfl, hx, rfl, List.Sublist.refl _, .inr (by omega)⟩⟩
  · have e0 : na = 0 := by omega
    subst e0
    have pe : ps = [] := List.eq_nil_of_length_eq_zero hna.symm
    subst pe
    rcases hkids with ⟨rfl, rfl, e, _⟩ | ⟨h', ks, rfl, hK, hlen, hj, hf, _, hzz⟩
    · refine (lowered_leaf x.p ca 0 a none w r1.c0 r1.c1).mono ?_
      rintro e2 w' ⟨rfl, rfl⟩
      exact ⟨rfl, .inl ⟨e.symm, rfl⟩⟩
    · obtain ⟨y, rfl⟩ := List.length_eq_one_iff.1 (by simpa using hlen)
      obtain ⟨g, cap, rfl, _⟩ := hK.own (by simp)
      refine (lowered_kid x.p 1 g y.p ca cap a w r1.c0 r1.c1 (by omega) (by omega) (hK.cell 0 y (by simp))).mono ?_
      rintro e2 w' ⟨rfl, rfl⟩
      refine ⟨rfl, .inr ⟨h', y, rfl, (hzz y (by simp)).1, by rw [hj]; simp [join, joinR], ?_, .inr (by have := (hzz y (by simp)).2; omega)⟩⟩
      rw [hf]
      have : fpAll [y] = y.fp := by simp [fpAll]
      rw [this]
      exact ((List.sublist_append_right _ _).trans (List.sublist_cons_self _ _))
end Go.Proofs.Ytcboakmfabdeoaa
