/- A node and the kid that it makes; recount of any node. -/
import Derived.Test.YtcboakmfabdeoaaY1
namespace Go.Proofs.Ytcboakmfabdeoaa
open Go.RowKit

/-- the tree that a node makes, at height h. -/
def Nd.kid : Nat → Nd → Kid
  | 0, n => ⟨n.p, n.ps, n.bs ++ fpAll n.ks, n.ps.length⟩
  | _ + 1, n => ⟨n.p, join (n.ks.map Kid.l) n.ps, n.bs ++ fpAll n.ks, n.ps.length⟩

def Nd.fit (t : Nat) (w : World) : Nat → Nd → Prop
  | 0, n => n.vk = .slice none 0 0 ∧ n.ks = []
  | h + 1, n => n.ks.length = n.ps.length + 1 ∧ ∀ y ∈ n.ks, IsT t w h y ∧ t - 1 ≤ y.c

structure Good (t : Nat) (w : World) (h : Nat) (n : Nd) : Prop where
  ok : n.ok w
  fit : n.fit t w h
  sz : n.sz = (n.kid h).l.length

theorem Nd.kid_p (h : Nat) (n : Nd) : (n.kid h).p = n.p := by cases h <;> rfl
theorem Nd.kid_c (h : Nat) (n : Nd) : (n.kid h).c = n.ps.length := by cases h <;> rfl
theorem Nd.kid_fp (h : Nat) (n : Nd) : (n.kid h).fp = n.bs ++ fpAll n.ks := by cases h <;> rfl

theorem IsT.good {t : Nat} {w : World} : ∀ {h : Nat} {x : Kid}, IsT t w h x → ∃ n, x = n.kid h ∧ Good t w h n
  | 0, x, ⟨vp, h1, h2, h3, h4⟩ => by
    refine ⟨⟨x.p, vp, .slice none 0 0, x.l.length, x.l, []⟩, ?_, ⟨h1, h2, World.ownsRow_nil _ _ _ _⟩, ⟨rfl, rfl⟩, rfl⟩
    cases x
    simp only at h3 h4
    subst h3; subst h4
    simp [Nd.kid, Nd.bs, rows, Value.ownBlock, fpAll]
  | h + 1, x, ⟨vp, vk, ps, ks, h1, h2, h3, h4, h5, h6, h7, h8⟩ => by
    refine ⟨⟨x.p, vp, vk, x.l.length, ps, ks⟩, ?_, ⟨h1, h2, h3⟩, ⟨h4, h8⟩, by rw [h5]; rfl⟩
    cases x
    simp only at h5 h6 h7
    subst h5; subst h6; subst h7
    simp [Nd.kid, Nd.bs]

theorem Good.isT {t : Nat} {w : World} {h : Nat} {n : Nd} (g : Good t w h n) : IsT t w h (n.kid h) := by
  cases h with
  | zero =>
    obtain ⟨h1, h2⟩ := g.fit
    have hs := g.sz
    have r := g.ok.r
    rw [h1, hs] at r
    refine ⟨n.vp, r, g.ok.pr, ?_, rfl⟩
    simp [Nd.kid, Nd.bs, rows, h1, h2, Value.ownBlock, fpAll]
  | succ h =>
    obtain ⟨h1, h2⟩ := g.fit
    have hs := g.sz
    have r := g.ok.r
    rw [hs] at r
    exact ⟨n.vp, n.vk, n.ps, n.ks, r, g.ok.pr, g.ok.kr, h1, rfl, by simp [Nd.kid, Nd.bs], rfl, h2⟩

/-- how many pairs are in a node and below it. -/
theorem Nd.size_eq {t : Nat} {w : World} {h : Nat} {n : Nd} (f : n.fit t w h) : (n.kid h).l.length = n.ps.length + total n.ks := by
  cases h with
  | zero => rw [f.2]; simp [Nd.kid, total]
  | succ h => exact join_length _ _ f.1

theorem prow_slice {w : World} {v : Value} {l : List Pr} (h : PRow w v l) : ∃ a c, v = .slice a l.length c := by
  rcases h.cases with ⟨e, rfl⟩ | ⟨g, cap, cur, e, _⟩
  · exact ⟨none, 0, e⟩
  · exact ⟨_, _, e⟩

/-- recount, of any node. -/
theorem recount_nd (n : Nd) (w : World) (hok : n.ok w) (hv : (n.vk = .slice none 0 0 ∧ n.ks = []) ∨ n.ks ≠ []) (hz : ∀ z ∈ n.ks, z.p ≠ n.p ∧ ∃ a b, Rec w z.p a b z.l.length) (hnd : n.bs.Nodup) (hb : n.ps.length + total n.ks ≤ 1000000000) :
    Calls Try.prog 61 #[.pointer (some ⟨n.p, 0, none⟩)] w fun e w' => e = .returned (.tuple #[]) ∧ Rec w' n.p n.vp n.vk (n.ps.length + total n.ks) ∧ Touch [n.p] w w' := by
  obtain ⟨a, c, hvp⟩ := prow_slice hok.pr
  rcases hv with ⟨h1, h2⟩ | h1
  · have r := hok.r
    rw [hvp, h1] at r
    rw [h2, hvp, h1]
    rw [h2] at hb
    exact recount_leaf n.p n.sz n.ps.length c a w r (by simpa [total] using hb)
  · obtain ⟨g, ck, hk, _⟩ := KRow.own hok.kr h1
    have r := hok.r
    have kr := hok.kr
    rw [hk] at r kr
    rw [hk]
    exact recount_inner n.p n.sz g n.ks.length ck n.ps.length n.vp a c hvp n.ks w r kr hz ((bs_parts hnd).2 g (by rw [hk]; rfl)) hb
end Go.Proofs.Ytcboakmfabdeoaa
