/- Contracts of the small leaf functions. -/
import Derived.Test.YtcboakmfabdeoaaRows
import Derived.WalkKit
import Derived.WalkSpells
import Derived.WalkLawsBesides
namespace Go.Proofs.Ytcboakmfabdeoaa
open Go.RowKit

theorem ret_int {k : IntKind} {a b : Int} (h : a = b) : Ending.returned (.int k a) = .returned (.int k b) := by rw [h]

theorem isNaN_any (a : Int) (w : World) : Calls Try.prog 65 #[.int .i64 a] w fun e w' => e = .returned (.bool false) ∧ w = w' := by
  go_enter Try.func65, Try.ntmps65
  go_wp2
  go_ret
  exact ⟨by simp, rfl⟩

def cmp3 (a b : Int) : Int := if a < b then -1 else if b < a then 1 else 0

theorem compare_any (a b : Int) (w : World) : Calls Try.prog 58 #[.int .i64 a, .int .i64 b] w fun e w' => e = .returned (.int .i64 (cmp3 a b)) ∧ w = w' := by
  go_enter Try.func58, Try.ntmps58
  go_wp2_with (go_at_call 65; refine (isNaN_any _ _).mono ?_; rintro e w' ⟨rfl, rfl⟩)
  all_goals go_ret
  · rename_i h; exact ⟨ret_int (by simp [cmp3, h]), rfl⟩
  · rename_i h h2; exact ⟨ret_int (by unfold cmp3; rw [if_neg (by omega), if_pos h2]), rfl⟩
  · rename_i h h2; exact ⟨ret_int (by unfold cmp3; rw [if_neg (by omega), if_neg (by omega)]), rfl⟩

theorem place1_any (a b : Int) (s : ByteArray) (w : World) : Calls Try.prog 57 #[.agg #[.int .i64 a, .string s], .int .i64 b] w fun e w' => e = .returned (.int .i64 (cmp3 a b)) ∧ w' = w.alloc (.cells #[.int .i64 a, .string s] 61) := by
  go_enter Try.func57, Try.ntmps57
  go_wp2_with (go_at_call 58; refine (compare_any _ _ _).mono ?_; rintro e w' ⟨rfl, rfl⟩)
  go_ret
  exact ⟨rfl, rfl⟩

end Go.Proofs.Ytcboakmfabdeoaa
