/- DiskPlays: all inputs. -/
import Derived.Test.YtmcgjlidfgbdfaaDRo
namespace Go.Proofs.Ytmcgjlidfgbdfaa
open Go.RowKit

theorem diskPlays_all (x y : Int) (a : Option Addr) (c : Nat) (xs : List ActG) (w : World) (hA : CameA w a xs) :
    Calls Try.prog 3 #[.int .i64 x, .int .i64 y, .slice a xs.length c] w fun e w' => e = .returned (.bool true) ∧ Below w.heap.size w w' := by
  by_cases hb : badNew x y
  · exact plays_bad x y _ w hb
  · unfold badNew at hb
    obtain ⟨n, rfl⟩ : ∃ n : Nat, x = n := ⟨x.toNat, by omega⟩
    obtain ⟨s, rfl⟩ : ∃ s : Nat, y = s := ⟨y.toNat, by omega⟩
    by_cases h20 : 20 < n
    · exact plays_wide n s _ w h20 (by omega) (by omega) (by omega)
    · exact plays_good n s a c xs w (by omega) (by omega) (by omega) (by omega) hA
end Go.Proofs.Ytmcgjlidfgbdfaa
