/- ValueOrders: all cases. -/
import Derived.Test.YthomkdgpmmgdoaaDoorVA
namespace Go.Proofs.YthomkdgpmmgdoaaDoor
open Go.RowKit

theorem orders_any (k n : Int) (s : ByteArray) (k' n' : Int) (s' : ByteArray) (l m : Int) (t : ByteArray) (w : World) (hs : s.size ≤ 9223372036854775807) (hs' : s'.size ≤ 9223372036854775807) (ht : t.size ≤ 9223372036854775807) (x : Int) (hm : MaxAt w x) :
    Calls Tryd.prog 4 #[val k n s, val k' n' s', val l m t] w fun e w' => e = .returned (.bool true) ∧ Below w.heap.size w w' := by
  by_cases h1 : (1000 : Int) < s.size
  · exact orders_big1 k n s k' n' s' l m t w hs hs' ht x hm h1
  by_cases h2 : (1000 : Int) < s'.size
  · exact orders_big2 k n s k' n' s' l m t w hs hs' ht x hm h1 h2
  by_cases h3 : (1000 : Int) < t.size
  · exact orders_big3 k n s k' n' s' l m t w hs hs' ht x hm h1 h2 h3
  cases hp : plainB k n s
  · exact orders_no1 k n s k' n' s' l m t w hs hs' ht x hm h1 h2 h3 hp (by simp [cmpV, hp]) (by simp [cmpV, hp])
  cases hp' : plainB k' n' s'
  · exact orders_no2 k n s k' n' s' l m t w hs hs' ht x hm h1 h2 h3 hp hp' (by simp [cmpV, hp']) (by simp [cmpV, hp'])
  have e1 : cmpV k n s k' n' s' = ord k n s k' n' s' := by simp [cmpV, hp, hp']
  have e2 : cmpV k' n' s' k n s = - ord k n s k' n' s' := by rw [cmpV, hp, hp', ord_neg k n s]; rfl
  have htr : ord k n s k' n' s' ≤ 0 → cmpV k' n' s' l m t ≤ 0 → plainB l m t = true → cmpV k n s l m t ≤ 0 := by
    intro h g hpc
    rw [cmpV, hp', hpc] at g
    rw [cmpV, hp, hpc]
    exact ord_trans h g
  have b1 := ord_bef hp hp'
  have b2 := ord_bef hp' hp
  rw [ord_neg k n s] at b2
  have sm := ord_same (k := k) (n := n) (s := s) (k' := k') (n' := n') (s' := s')
  rcases ord_range k n s k' n' s' with h | h | h
  · rw [h] at e1 e2 b1 b2 sm htr
    exact orders_lt k n s k' n' s' l m t w hs hs' ht x hm h1 h2 h3 hp hp' e1 e2 (b1.2 (by omega)) (by rw [Bool.eq_false_iff]; intro c; have := b2.1 c; omega) (by rw [Bool.eq_false_iff]; intro c; have := sm.2 c; omega) (htr (by omega))
  · rw [h] at e1 e2 b1 b2 sm htr
    exact orders_eq k n s k' n' s' l m t w hs hs' ht x hm h1 h2 h3 hp hp' e1 e2 (by rw [Bool.eq_false_iff]; intro c; have := b1.1 c; omega) (by rw [Bool.eq_false_iff]; intro c; have := b2.1 c; omega) (sm.1 rfl) (htr (by omega))
  · rw [h] at e1 e2 b1 b2 sm htr
    exact orders_gt k n s k' n' s' l m t w hs hs' ht x hm h1 h2 h3 hp hp' e1 e2 (by rw [Bool.eq_false_iff]; intro c; have := b1.1 c; omega) (b2.2 (by omega)) (by rw [Bool.eq_false_iff]; intro c; have := sm.2 c; omega)
end Go.Proofs.YthomkdgpmmgdoaaDoor
