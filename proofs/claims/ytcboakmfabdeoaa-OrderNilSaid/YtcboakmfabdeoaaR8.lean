/- OrderNil, walked. -/
import Derived.Test.YtcboakmfabdeoaaR7
namespace Go.Proofs.Ytcboakmfabdeoaa
open Go.RowKit Go.Shelf

theorem keys_nil2 (k most : Int) (w : World) : Calls Try.prog 20 #[.pointer none, .int .i64 k, .int .i64 most] w fun e w' => (∃ a c, e = .returned (.slice a 0 c)) ∧ Below w.heap.size w w' := by
  refine (keys_nil k most w).mono ?_
  rintro e w' ⟨v, rfl, h1, h2⟩
  refine ⟨?_, h2⟩
  rcases h1.2 with ⟨rfl, _⟩ | ⟨g, cap, cur, rfl, _⟩
  · exact ⟨_, _, rfl⟩
  · exact ⟨_, _, rfl⟩

set_option maxHeartbeats 1000000 in
set_option maxRecDepth 100000 in
theorem orderNil_any (k : Int) (s : ByteArray) (n : Int) (w : World) : Calls Try.prog 6 #[.int .i64 k, .string s, .int .i64 n] w fun e w' => e = .returned (.bool true) ∧ Below w.heap.size w w' := by
  go_enter Try.func6, Try.ntmps6
  go_wp2_with fail
  refine (awake_any _).mono ?_
  rintro e w1 ⟨rfl, hb1⟩
  have B1 := Lib.hid hb1
  clear hb1
  go_wp2_with (first | (go_at_call 16; refine (put_nil k s _).mono ?_; rintro e w' ⟨rfl, rfl⟩) | (go_at_call 14; refine (get_nil k _).mono ?_; rintro e w' ⟨rfl, rfl⟩) | (go_at_call 17; refine (drop_nil k _).mono ?_; rintro e w' ⟨rfl, rfl⟩) | (go_at_call 13; refine (at_nil n _).mono ?_; rintro e w' ⟨rfl, rfl⟩) | (go_at_call 12; refine (len_nil _).mono ?_; rintro e w' ⟨rfl, rfl⟩) | (go_at_call 15; refine (rankM_nil k _).mono ?_; rintro e w' ⟨rfl, rfl⟩) | (go_at_call 18; refine (depth_nil _).mono ?_; rintro e w' ⟨rfl, rfl⟩) | (go_at_call 19; refine (nodesM_nil _).mono ?_; rintro e w' ⟨rfl, rfl⟩) | (go_at_call 20; refine (keys_nil2 k n _).mono ?_; rintro e w2 ⟨⟨a, c, rfl⟩, hb2⟩) | (go_at_call 21; refine (things_nil k n _).mono ?_; rintro e w3 ⟨rfl, hb3⟩) | (go_at_call 11; refine (copy_nil _).mono ?_; rintro e w' ⟨rfl, rfl⟩))
  go_ret
  have h3 := hb2.trans (hb3.mono hb2.size)
  exact ⟨rfl, B1.out.trans (h3.mono B1.out.size)⟩
end Go.Proofs.Ytcboakmfabdeoaa
