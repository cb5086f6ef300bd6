import Derived.Test.YtcboakmfabdeoaaM3
import Derived.Test.YtcboakmfabdeoaaM6
import Derived.Test.YtcboakmfabdeoaaM5
import Derived.Deep.Slices

/- Keys and Things up to any number. -/
namespace Go.Proofs.Ytcboakmfabdeoaa
open Go.RowKit Go.Shelf

set_option maxHeartbeats 1000000 in
set_option maxRecDepth 100000 in
theorem from1_low (a : Option Addr) (k most : Int) (h1 : most < 1) (w0 : World) (A B C : Nat)
    (hA : w0.cell? ⟨A, 0, none⟩ = some (.int .i64 most)) (hB : w0.cell? ⟨B, 0, none⟩ = some (.pointer a)) (hC : w0.cell? ⟨C, 0, none⟩ = some (.int .i64 k))
    (l : Nat) (J : List Pr → World → Prop) (W : World) (hb : Below w0.heap.size w0 W) (hJa : AbidesB W.heap.size J) (h0 : J [] W) :
    Calls Try.prog 53 #[.func (.yield l) #[] #[], .pointer (some ⟨A, 0, none⟩), .pointer (some ⟨B, 0, none⟩), .pointer (some ⟨C, 0, none⟩)] W fun e W' => (∃ v, e = .returned v) ∧ J [] W' := by
  have a1 : W.cell? ⟨A, 0, none⟩ = some (.int .i64 most) := (hb.cell (World.block_lt_of_cell? w0 _ hA)).trans hA
  have b1 : W.cell? ⟨B, 0, none⟩ = some (.pointer a) := (hb.cell (World.block_lt_of_cell? w0 _ hB)).trans hB
  have c1 : W.cell? ⟨C, 0, none⟩ = some (.int .i64 k) := (hb.cell (World.block_lt_of_cell? w0 _ hC)).trans hC
  have alt : A < W.heap.size := World.block_lt_of_cell? W _ a1
  have blt : B < W.heap.size := World.block_lt_of_cell? W _ b1
  have clt : C < W.heap.size := World.block_lt_of_cell? W _ c1
  obtain ⟨W2, hW2⟩ : ∃ W2, W2 = (W.alloc (.cells #[.func (.yield l) #[] #[]] 86)).alloc (.cells #[.int .i64 most] 3) := ⟨_, rfl⟩
  have hJ2 : J [] W2 := by
    rw [hW2]
    exact hJa _ _ _ none (hJa _ _ _ none h0 (World.grownBy_alloc W _ none) (fun r e => by cases e)) (World.grownBy_alloc _ _ none) (fun r e => by cases e)
  have hJ3 : J [] W2.drew := hJa _ _ _ none hJ2 ⟨rfl, rfl, rfl, Nat.le_refl _, fun k _ _ => rfl⟩ (fun r e => by cases e)
  have bW : Below W.heap.size W W2 := by rw [hW2]; exact ((Below.refl _ W).alloc (Nat.le_refl _) _).alloc (by simp) _
  have b2 : W2.cell? ⟨B, 0, none⟩ = some (.pointer a) := (bW.cell (p := ⟨B, 0, none⟩) blt).trans b1
  have c2 : W2.cell? ⟨C, 0, none⟩ = some (.int .i64 k) := (bW.cell (p := ⟨C, 0, none⟩) clt).trans c1
  have J2 := Lib.hid hJ2
  have J3 := Lib.hid hJ3
  clear hb hJa h0 hA hB hC hJ2 hJ3 bW
  have HW := Lib.hid hW2
  clear hW2 b2 c2
  go_enter Try.func53, Try.ntmps53
  go_wp2_with fail
  refine bodyPost_ret (results_none rfl _ _ _) rfl ⟨⟨_, rfl⟩, ?_⟩
  have h := J2.out
  rw [HW.out] at h
  exact h


theorem TreeM.keys_low {t m : Nat} {w : World} {l : List Pr} {rp : Option Addr} {fp : List Nat} (h : TreeM t m w l rp fp) (k : Int) (most : Int) (hm : most < 1) :
    Calls Try.prog 20 #[.pointer (some ⟨m, 0, none⟩), .int .i64 k, .int .i64 most] w fun e w' => ∃ v, e = .returned v ∧ w'.ownsRow w.heap.size 2 1 v 0 [] ∧ Below w.heap.size w w' := by
  refine callsIn_wide.1 ((keys_in (some ⟨m, 0, none⟩) k most [] w (by simp) ?_).mono fun e w' h => h)
  intro W hb A B C hA hB hC n l' J W2 hb2 hJa hY h0
  refine callsIn_wide.2 ((from1_low _ k most hm W A B C hA hB hC l' J W2 hb2 hJa h0).mono ?_)
  rintro e W' ⟨h1, h2⟩
  exact ⟨h1, _, rfl, h2⟩

theorem TreeM.things_low {t m : Nat} {w : World} {l : List Pr} {rp : Option Addr} {fp : List Nat} (h : TreeM t m w l rp fp) (k : Int) (most : Int) (hm : most < 1) :
    Calls Try.prog 21 #[.pointer (some ⟨m, 0, none⟩), .int .i64 k, .int .i64 most] w fun e w' => ∃ v, e = .returned v ∧ w'.ownsRow w.heap.size 9 1 v 0 [] ∧ Below w.heap.size w w' := by
  refine callsIn_wide.1 ((things_in (some ⟨m, 0, none⟩) k most [] w (by simp) ?_).mono fun e w' h => h)
  intro W hb A B C hA hB hC n l' J W2 hb2 hJa hY h0
  refine callsIn_wide.2 ((from1_low _ k most hm W A B C hA hB hC l' J W2 hb2 hJa h0).mono ?_)
  rintro e W' ⟨h1, h2⟩
  exact ⟨h1, _, rfl, h2⟩

theorem TreeM.keys_all {t m : Nat} {w : World} {l : List Pr} {rp : Option Addr} {fp : List Nat} (h : TreeM t m w l rp fp) (k : Int) (most : Int) (hm : most ≤ 9223372036854775807) (hn : l.length ≤ 1000) :
    Calls Try.prog 20 #[.pointer (some ⟨m, 0, none⟩), .int .i64 k, .int .i64 most] w fun e w' => ∃ v, e = .returned v ∧ w'.ownsRow w.heap.size 2 1 v ((l.drop (pos l k)).take (wanted most)).length (keysOf ((l.drop (pos l k)).take (wanted most))) ∧ Touch [] w w' := by
  by_cases h0 : most < 1
  · refine (h.keys_low k most h0).mono ?_
    rintro e w' ⟨v, rfl, h1, h2⟩
    have e : wanted most = 0 := by simp [wanted]; omega
    exact ⟨v, rfl, by rw [e]; simpa [keysOf] using h1, Touch.of_below h2 []⟩
  · obtain ⟨n, rfl⟩ : ∃ n : Nat, most = n := ⟨most.toNat, by omega⟩
    refine (h.keys k n (by omega) hn).mono ?_
    rintro e w' ⟨v, rfl, h1, h2⟩
    exact ⟨v, rfl, by simpa [wanted] using h1, Touch.of_below h2 []⟩

theorem TreeM.things_all {t m : Nat} {w : World} {l : List Pr} {rp : Option Addr} {fp : List Nat} (h : TreeM t m w l rp fp) (k : Int) (most : Int) (hm : most ≤ 9223372036854775807) (hn : l.length ≤ 1000) :
    Calls Try.prog 21 #[.pointer (some ⟨m, 0, none⟩), .int .i64 k, .int .i64 most] w fun e w' => ∃ v, e = .returned v ∧ w'.ownsRow w.heap.size 9 1 v ((l.drop (pos l k)).take (wanted most)).length (thingsOf ((l.drop (pos l k)).take (wanted most))) ∧ Touch [] w w' := by
  by_cases h0 : most < 1
  · refine (h.things_low k most h0).mono ?_
    rintro e w' ⟨v, rfl, h1, h2⟩
    have e : wanted most = 0 := by simp [wanted]; omega
    exact ⟨v, rfl, by rw [e]; simpa [thingsOf] using h1, Touch.of_below h2 []⟩
  · obtain ⟨n, rfl⟩ : ∃ n : Nat, most = n := ⟨most.toNat, by omega⟩
    refine (h.things k n (by omega) hn).mono ?_
    rintro e w' ⟨v, rfl, h1, h2⟩
    exact ⟨v, rfl, by simpa [wanted] using h1, Touch.of_below h2 []⟩
end Go.Proofs.Ytcboakmfabdeoaa

/- told: what both tell of a key, a place and a number. -/
namespace Go.Proofs.Ytcboakmfabdeoaa
open Go.RowKit

def ToldPost (w : World) (e : Ending) (w' : World) : Prop := e = .returned (.bool true) ∧ Touch [] w w'

def KeysP (w0 : World) (L : List Pr) (e : Ending) (w' : World) : Prop := ∃ v, e = .returned v ∧ w'.ownsRow w0.heap.size 2 1 v L.length (keysOf L) ∧ Touch [] w0 w'
def ThingsP (w0 : World) (L : List Pr) (e : Ending) (w' : World) : Prop := ∃ v, e = .returned v ∧ w'.ownsRow w0.heap.size 9 1 v L.length (thingsOf L) ∧ Touch [] w0 w'
def FromP (w0 : World) (L : List Pr) (e : Ending) (w' : World) : Prop := ∃ v, e = .returned v ∧ RowAt w' v L ∧ Touch [] w0 w'

/-- what told calls, in whatever world. -/
structure Tells (m r : Nat) (w : World) (l : List Pr) (v : Value) (k n : Int) : Prop where
  get : ∀ W, Touch [] w W → Calls Try.prog 14 #[.pointer (some ⟨m, 0, none⟩), .int .i64 k] W fun e w' => e = .returned (gotten l k) ∧ Touch [] W w'
  rget : ∀ W, Touch [] w W → Calls Try.prog 24 #[.pointer (some ⟨r, 0, none⟩), .int .i64 k] W fun e w' => e = .returned (gotten l k) ∧ Touch [] W w'
  len : ∀ W, Touch [] w W → Calls Try.prog 12 #[.pointer (some ⟨m, 0, none⟩)] W fun e w' => e = .returned (.int .i64 l.length) ∧ W = w'
  rank : ∀ W, Touch [] w W → Calls Try.prog 15 #[.pointer (some ⟨m, 0, none⟩), .int .i64 k] W fun e w' => e = .returned (.int .i64 (pos l k)) ∧ Touch [] W w'
  rrank : ∀ W, Touch [] w W → Calls Try.prog 25 #[.pointer (some ⟨r, 0, none⟩), .int .i64 k] W fun e w' => e = .returned (.int .i64 (pos l k)) ∧ W = w'
  keys : ∀ W, Touch [] w W → Calls Try.prog 20 #[.pointer (some ⟨m, 0, none⟩), .int .i64 k, .int .i64 n] W (KeysP W ((l.drop (pos l k)).take (wanted n)))
  things : ∀ W, Touch [] w W → Calls Try.prog 21 #[.pointer (some ⟨m, 0, none⟩), .int .i64 k, .int .i64 n] W (ThingsP W ((l.drop (pos l k)).take (wanted n)))
  rfrom : ∀ W, Touch [] w W → Calls Try.prog 26 #[.pointer (some ⟨r, 0, none⟩), .int .i64 k, .int .i64 n] W (FromP W ((l.drop (pos l k)).take (wanted n)))
  at_in : ∀ W (i : Nat) q, Touch [] w W → l[i]? = some q → Calls Try.prog 13 #[.pointer (some ⟨m, 0, none⟩), .int .i64 i] W fun e w' => e = .returned (.tuple #[.int .i64 q.1, .string q.2, .bool true]) ∧ Touch [] W w'
  at_out : ∀ W i, Touch [] w W → (i < 0 ∨ (l.length : Int) ≤ i) → Calls Try.prog 13 #[.pointer (some ⟨m, 0, none⟩), .int .i64 i] W fun e w' => e = .returned (.tuple #[.int .i64 0, .string ⟨#[]⟩, .bool false]) ∧ W = w'
  cell : ∀ W, Touch [] w W → W.cell? ⟨r, 0, none⟩ = some v
  row : ∀ W, Touch [] w W → RefM r W v l

theorem RowAt.touch {w w' : World} {v : Value} {L : List Pr} (h : RowAt w v L) (T : Touch [] w w') : RowAt w' v L := by
  obtain ⟨a, c, e, h0, h⟩ := h
  exact ⟨a, c, e, h0, fun g o ea j hj => ⟨cell_touch T (h g o ea j hj).1 (by simp), cell_touch T (h g o ea j hj).2 (by simp)⟩⟩

theorem Both.tells {t m r : Nat} {w : World} {l : List Pr} {G : List Nat} (h : Both t m r w l G) (hl : l.length ≤ 1000) (k n : Int) (hn : n ≤ 9223372036854775807) : ∃ v, Tells m r w l v k n := by
  obtain ⟨rp, fp, v, h1, h2, _⟩ := h
  have hs := h1.rising
  have M : ∀ W, Touch [] w W → TreeM t m W l rp fp := fun W T => h1.touch T (by simp)
  have R : ∀ W, Touch [] w W → RefM r W v l := fun W T => h2.touch T (by simp)
  exact ⟨v,
    fun W T => ((M W T).get k (by omega)).mono fun e w' ⟨a, b⟩ => ⟨a, Touch.of_below b []⟩,
    fun W T => rget r W v l k (R W T) hs (by omega),
    fun W T => (M W T).len,
    fun W T => ((M W T).rank k (by omega)).mono fun e w' ⟨a, b⟩ => ⟨a, Touch.of_below b []⟩,
    fun W T => rrank r W v l k (R W T) hs (by omega),
    fun W T => (M W T).keys_all k n hn hl,
    fun W T => (M W T).things_all k n hn hl,
    fun W T => (rfrom r W v l k n (R W T) hs (by omega)).mono fun e w' ⟨v', a, b, c⟩ => ⟨v', a, b.touch c, c⟩,
    fun W i q T hq => ((M W T).at_in i q hq (by omega)).mono fun e w' ⟨a, b⟩ => ⟨a, Touch.of_below b []⟩,
    fun W i T hi => (M W T).at_out i hi,
    fun W T => cell_of_row W r 0 _ _ _ (R W T).cell,
    R⟩

theorem row_slice {w : World} {base : Nat} {e : TypeId} {size : Nat} {v : Value} {n : Nat} {xs : List Value} (h : w.ownsRow base e size v n xs) : ∃ a c, v = .slice a n c := by
  rcases h.2 with ⟨h1, h2⟩ | ⟨g, cap, cur, h1, _⟩
  · subst h2; exact ⟨_, _, h1⟩
  · exact ⟨_, _, h1⟩

theorem row_some {w : World} {e : TypeId} {base : Nat} {a : Option Addr} {n c : Nat} {xs : List Value} (h : w.ownsRow base e 1 (.slice a n c) n xs) (hn : 0 < n) : ∃ g, a = some ⟨g, 0, none⟩ := by
  rcases h.2 with ⟨_, h2⟩ | ⟨g, cap, cur, h1, _⟩
  · omega
  · simp only [Value.slice.injEq] at h1; exact ⟨g, h1.1⟩

theorem row_some2 {w : World} {a : Option Addr} {n c : Nat} {l : List Pr} (h : QRow w (.slice a n c) l) (hn : 0 < l.length) : ∃ g, a = some ⟨g, 0, none⟩ := by
  rcases h.cases with ⟨_, h2⟩ | ⟨g, cap, cur, h1, _⟩
  · rw [h2] at hn; simp at hn
  · simp only [Value.slice.injEq] at h1; exact ⟨g, h1.1⟩

theorem touch_same {w W : World} (h1 : W.heap = w.heap) (h2 : W.os = w.os) (h3 : W.tape = w.tape) (h4 : W.output = w.output) : Touch [] w W :=
  ⟨h2, h3, h4, by rw [h1]; exact Nat.le_refl _, fun k _ _ => by rw [h1]⟩

set_option maxHeartbeats 1000000 in
set_option maxRecDepth 100000 in
theorem told_any (m r : Nat) (w : World) (l : List Pr) (v : Value) (k n : Int) (h : Tells m r w l v k n) (hl : l.length ≤ 1000) :
    Calls Try.prog 10 #[.pointer (some ⟨m, 0, none⟩), .pointer (some ⟨r, 0, none⟩), .int .i64 k, .int .i64 n] w (ToldPost w) := by
  obtain ⟨a, c, hv⟩ : ∃ a c, v = .slice a l.length c := rowQ_slice (h.row w (Touch.refl _ _)).row
  subst hv
  have H := Lib.hid h
  obtain ⟨gs, gb, hg⟩ : ∃ (gs : ByteArray) (gb : Bool), gotten l k = .tuple #[.string gs, .bool gb] := by
    unfold gotten; split
    · exact ⟨_, _, rfl⟩
    · exact ⟨_, _, rfl⟩
  have GET := Lib.hid h.get
  have RGET := Lib.hid h.rget
  rw [hg] at GET RGET
  clear h hg
  have hle := pos_le l k
  go_enter Try.func10, Try.ntmps10
  go_wp2_with fail
  refine (GET.out _ (Touch.refl _ _)).mono ?_
  rintro e w1 ⟨rfl, T1⟩
  have TT1 := Lib.hid T1
  clear T1
  go_wp2_with fail
  refine (RGET.out _ TT1.out).mono ?_
  rintro e w2 ⟨rfl, T2⟩
  have TT2 := Lib.hid (TT1.out.trans T2 (by simp))
  have c2 := H.out.cell w2 TT2.out
  clear T2 TT1
  go_wp2_with fail
  go_cut [58] (fun s58 wc => s58 = .bool false ∧ Touch [] w wc)
  case first =>
    have TT3 := Lib.hid (TT2.out.drew)
    clear GET RGET TT2
    go_region_held3 (fun W' => W'.cell? ⟨r, 0, none⟩ = some (.slice a l.length c) ∧ Touch [] w W')
      (first | exact ⟨H.out.cell _ TT3.out, TT3.out⟩ | (go_split_ands; exact ⟨H.out.cell _ (Touch.trans (by assumption) hbK (by simp)), Touch.trans (by assumption) hbK (by simp)⟩))
      (first | (go_at_call 12; (with_reducible refine (H.out.len _ ?_).mono ?_); (go_split_ands; assumption); rintro e w' ⟨rfl, rfl⟩) | (go_at_call 15; (with_reducible refine (H.out.rank _ ?_).mono ?_); (go_split_ands; assumption); rintro e wq ⟨rfl, hbK⟩) | (go_at_call 25; (with_reducible refine (H.out.rrank _ ?_).mono ?_); (go_split_ands; assumption); rintro e w' ⟨rfl, rfl⟩))
    all_goals
      have TQ : Touch [] w wq := by go_split_ands; assumption
      have TQH := Lib.hid TQ
      clear TQ
      go_wp2_with fail
      go_meet
      case rel => exact ⟨rfl, TQH.out⟩
  case rest =>
    obtain ⟨rfl, T3⟩ := hcut
    clear GET RGET TT2 c2
    generalize hL : (l.drop (pos l k)).take (wanted n) = L
    have HL := Lib.hid hL
    have LLEN : L.length ≤ 1000 := by rw [← hL]; simp; omega
    clear hL
    have FR : Hid (Calls Try.prog 26 #[.pointer (some ⟨r, 0, none⟩), .int .i64 k, .int .i64 n] wc (FromP wc L)) := Lib.hid (by rw [← HL.out]; exact H.out.rfrom wc T3)
    have TT3 := Lib.hid T3
    clear T3
    go_wp2_with fail
    refine FR.out.mono ?_
    rintro e w4 ⟨v4, rfl, RA, T4⟩
    have TT4 := Lib.hid (TT3.out.trans T4 (by simp))
    have RAH := Lib.hid RA
    clear RA T4 FR TT3
    have KE : Hid (Calls Try.prog 20 #[.pointer (some ⟨m, 0, none⟩), .int .i64 k, .int .i64 n] w4 (KeysP w4 L)) := Lib.hid (by rw [← HL.out]; exact H.out.keys w4 TT4.out)
    go_wp2_with fail
    refine KE.out.mono ?_
    rintro e w5 ⟨vk, rfl, RK, T5⟩
    have TT5 := Lib.hid (TT4.out.trans T5 (by simp))
    have RA5 := Lib.hid (RAH.out.touch T5)
    have RKH := Lib.hid RK
    have TH : Hid (Calls Try.prog 21 #[.pointer (some ⟨m, 0, none⟩), .int .i64 k, .int .i64 n] w5 (ThingsP w5 L)) := Lib.hid (by rw [← HL.out]; exact H.out.things w5 TT5.out)
    clear RK T5 KE TT4 RAH
    go_wp2_with fail
    refine TH.out.mono ?_
    rintro e w6 ⟨vt, rfl, RT, T6⟩
    have TT6 := Lib.hid (TT5.out.trans T6 (by simp))
    have RA6 := Lib.hid (RA5.out.touch T6)
    have RK6 := Lib.hid (ownsRow_of_heap RKH.out fun b hb => T6.block b (World.ownsRow.lt RKH.out b hb).2 (by simp))
    have RTH := Lib.hid RT
    clear RT T6 TH TT5 RA5 RKH
    obtain ⟨a4, d4, rfl, hA, hR⟩ := RA6.out
    obtain ⟨ak, dk, rfl⟩ := row_slice RK6.out
    obtain ⟨at', dt, rfl⟩ := row_slice RTH.out
    have HA := Lib.hid hA
    have HR := Lib.hid hR
    clear hA hR RA6
    go_wp2_with fail
    go_loopw [16] (fun s16 wr => ∃ i : Nat, i ≤ L.length ∧ s16 = .int .i64 i ∧ Hid (Touch [] w6 wr)) (fun s16 _ => L.length - (intOf s16).toNat)
    case atStart => exact ⟨0, Nat.zero_le _, rfl, Lib.hid (Touch.refl _ _)⟩
    case round =>
      obtain ⟨i, hi, rfl, TR⟩ := hrel
      have TW := Lib.hid (TT6.out.trans TR.out (by simp))
      by_cases hlt : i < L.length
      · have hne : L ≠ [] := by intro e; rw [e] at hlt; simp at hlt
        obtain ⟨g4, o4, rfl⟩ : ∃ g o, a4 = some ⟨g, o, none⟩ := HA.out.resolve_left hne
        obtain ⟨gk, rfl⟩ : ∃ g, ak = some ⟨g, 0, none⟩ := row_some RK6.out (by omega)
        obtain ⟨gt, rfl⟩ : ∃ g, at' = some ⟨g, 0, none⟩ := row_some RTH.out (by omega)
        have r4 := HR.out g4 o4 rfl i hlt
        have r5 := cell_touch TR.out r4.1 (by simp)
        have r6 := cell_touch TR.out r4.2 (by simp)
        clear r4
        have kk : wr.cell? ⟨gk, i, none⟩ = some (.int .i64 L[i].1) := by
          refine cell_touch TR.out ?_ (by simp)
          have := World.ownsRow.cells RK6.out (g := gk) rfl i (.int .i64 L[i].1) (by simp [keysOf, hlt])
          rwa [Addr.add_lit, Nat.zero_add] at this
        have kt : wr.cell? ⟨gt, i, none⟩ = some (.string L[i].2) := by
          refine cell_touch TR.out ?_ (by simp)
          have := World.ownsRow.cells RTH.out (g := gt) rfl i (.string L[i].2) (by simp [thingsOf, hlt])
          rwa [Addr.add_lit, Nat.zero_add] at this
        have hlt' : (i : Int) < (L.length : Int) := by omega
        generalize L[i].1 = y at *
        generalize L[i].2 = z at *
        go_wp2_with fail
        go_quiet (fail)
        go_wp2
        exact ⟨⟨i + 1, by omega, by go_num, Lib.hid (TR.out.trans (show Touch [] wr _ from ⟨rfl, rfl, rfl, Nat.le_refl _, fun _ _ _ => rfl⟩) (by simp))⟩, by simp [intOf]; omega⟩
      · have hlt' : ¬ (i : Int) < (L.length : Int) := by omega
        have cr := H.out.cell wr TW.out
        have RW := Lib.hid (H.out.row wr TW.out)
        clear hlt
        by_cases hn : n < 0
        · have AT := Lib.hid (H.out.at_out wr n TW.out (.inl hn))
          go_wp2_with fail
          refine AT.out.mono ?_
          rintro e w7 ⟨rfl, rfl⟩
          go_wp2
          all_goals
            go_ret
            exact ⟨rfl, TW.out⟩
        · obtain ⟨j, rfl⟩ : ∃ j : Nat, n = j := ⟨n.toNat, by omega⟩
          by_cases hj : j < l.length
          · have hj' : (j : Int) < (l.length : Int) := by omega
            have AT := Lib.hid (H.out.at_in wr j l[j] TW.out (List.getElem?_eq_getElem hj))
            obtain ⟨g, rfl⟩ : ∃ g, a = some ⟨g, 0, none⟩ := row_some2 RW.out.row (by omega)
            go_wp2_with fail
            refine AT.out.mono ?_
            rintro e w7 ⟨rfl, T7⟩
            have TT7 := Lib.hid (TW.out.trans T7 (by simp))
            have cr7 := H.out.cell w7 TT7.out
            have rj := QRow.rowP (H.out.row w7 TT7.out).row j hj
            rw [List.getElem?_eq_getElem hj] at rj
            simp only [Option.getD_some] at rj
            obtain ⟨rj1, rj2⟩ := rj
            clear T7 cr
            generalize l[j].1 = y at *
            generalize l[j].2 = z at *
            go_wp2
            all_goals
              go_ret
              exact ⟨rfl, TT7.out⟩
          · have hj' : ¬ (j : Int) < (l.length : Int) := by omega
            have hj2 : (l.length : Int) ≤ (j : Int) := by omega
            have AT := Lib.hid (H.out.at_out wr j TW.out (.inr hj2))
            go_wp2_with fail
            refine AT.out.mono ?_
            rintro e w7 ⟨rfl, rfl⟩
            go_wp2
            all_goals
              go_ret
              exact ⟨rfl, TW.out⟩
end Go.Proofs.Ytcboakmfabdeoaa

/- A list of calls that came in. -/
namespace Go.Proofs.Ytcboakmfabdeoaa
open Go.RowKit Go.ChangeShapes Go.WideShapes Go.Deep

structure Deed where
  c : Int
  k : Int
  x : ByteArray

/-- calls that came in: a slice, and what its cells hold. -/
structure CameA (w : World) (a : Option Addr) (ds : List Deed) : Prop where
  cell : ∀ i (h : i < ds.length), ∃ b off, a = some ⟨b, off, none⟩ ∧ b < w.heap.size ∧ w.cell? ⟨b, off + i * 3, none⟩ = some (.int .i64 ds[i].c) ∧ w.cell? ⟨b, off + i * 3 + 1, none⟩ = some (.int .i64 ds[i].k) ∧ w.cell? ⟨b, off + i * 3 + 2, none⟩ = some (.string ds[i].x)

theorem CameA.below {w w' : World} {a : Option Addr} {ds : List Deed} (h : CameA w a ds) (hb : Below w.heap.size w w') : CameA w' a ds :=
  ⟨fun i hi => by
    obtain ⟨b, off, h1, h2, h3, h4, h5⟩ := h.cell i hi
    exact ⟨b, off, h1, Nat.lt_of_lt_of_le h2 hb.size, (hb.cell h2).trans h3, (hb.cell h2).trans h4, (hb.cell h2).trans h5⟩⟩

theorem list_of {α : Type} {P : Nat → α → Prop} (n : Nat) (h : ∀ i, i < n → ∃ d, P i d) : ∃ ds : List α, ds.length = n ∧ ∀ i (hi : i < ds.length), P i ds[i] := by
  induction n with
  | zero => exact ⟨[], rfl, fun i hi => absurd hi (by simp)⟩
  | succ n ih =>
    obtain ⟨ds, h1, h2⟩ := ih fun i hi => h i (by omega)
    obtain ⟨d, hd⟩ := h n (by omega)
    refine ⟨ds ++ [d], by simp [h1], fun i hi => ?_⟩
    by_cases hl : i < ds.length
    · rw [List.getElem_append_left hl]; exact h2 i hl
    · have : i = n := by simp at hi; omega
      subst this
      rw [List.getElem_append_right (by omega)]
      simp [h1, hd]

set_option maxRecDepth 100000 in
theorem opensA {H : Type} {enc : TypeId × Value → H} {W : World} {base fuel : Nat} {spare : Nat → Bool} {held : Bool} {a : Option Addr} {len cap : Nat} {x : DataW H × List MemPlace} (h : DataW.trod enc Try.prog W base spare held fuel 22 (Value.slice a len cap).cells.toList = some x) :
    ∃ ds : List Deed, ds.length = len ∧ CameA W a ds := by
  rcases open_slice Try.underlying22 h with ⟨hcs, _⟩ | ⟨y, l, c, m, n, D, Pl, hcs, _, hl, _, hm, _, hi⟩
  · simp [Value.cells] at hcs
    obtain ⟨rfl, rfl, rfl⟩ := hcs
    exact ⟨[], rfl, ⟨fun i hi => absurd hi (by simp)⟩⟩
  · simp [Value.cells] at hcs
    obtain ⟨rfl, rfl, rfl⟩ := hcs
    have hC : Try.prog.cellsOf 34 = 3 := by kernel_rfl
    have hle : len ≤ m := by rw [hm]; split <;> omega
    have each : ∀ i, i < len → ∃ d : Deed, W.cell? (y.add (i * 3)) = some (.int .i64 d.c) ∧ W.cell? (y.add (i * 3 + 1)) = some (.int .i64 d.k) ∧ W.cell? (y.add (i * 3 + 2)) = some (.string d.x) := fun i hil => by
      obtain ⟨cs', h1, h2⟩ := hi i (by omega)
      rw [hC] at h1
      obtain ⟨_, hcl, hat⟩ := World.cells?_some h1
      obtain ⟨ys, n', _, _, _, hyl, hf⟩ := DataW.trod_struct Try.underlying34 h2
      have hys : ys.length = 3 := hyl
      match cs', hcl with
      | [u0, u1, u2], _ =>
        have g0 := hf 0 _ rfl
        have g1 := hf 1 _ rfl
        have g2 := hf 2 _ rfl
        have c3 : Try.prog.cellsOf 3 = 1 := by kernel_rfl
        have c2 : Try.prog.cellsOf 2 = 1 := by kernel_rfl
        have c9 : Try.prog.cellsOf 9 = 1 := by kernel_rfl
        change DataW.trod enc Try.prog W base spare held n' 3 (List.take (Try.prog.cellsOf 3) (List.drop 0 [u0, u1, u2])) = ys[0]? at g0
        change DataW.trod enc Try.prog W base spare held n' 2 (List.take (Try.prog.cellsOf 2) (List.drop 1 [u0, u1, u2])) = ys[1]? at g1
        change DataW.trod enc Try.prog W base spare held n' 9 (List.take (Try.prog.cellsOf 9) (List.drop 2 [u0, u1, u2])) = ys[2]? at g2
        rw [c3] at g0
        rw [c2] at g1
        rw [c9] at g2
        rw [List.getElem?_eq_getElem (by omega)] at g0 g1 g2
        obtain ⟨k, e0, _⟩ := DataW.trod_int Try.underlying3 g0
        obtain ⟨n2, e1, _⟩ := DataW.trod_int Try.underlying2 g1
        obtain ⟨s, e2, _⟩ := DataW.trod_string Try.underlying9 g2
        simp at e0 e1 e2
        refine ⟨⟨k, n2, s⟩, ?_, ?_, ?_⟩
        · have := hat 0 (by omega); rw [add_add] at this; simpa [e0] using this
        · have := hat 1 (by omega); rw [add_add] at this; simpa [e1] using this
        · have := hat 2 (by omega); rw [add_add] at this; simpa [e2] using this
    obtain ⟨ds, hdl, hds⟩ := list_of len each
    refine ⟨ds, hdl, ⟨fun i hil => ?_⟩⟩
    obtain ⟨b, off, spot⟩ := y
    have hspot : spot = none := by
      obtain ⟨d, h1, _⟩ := each 0 (by omega)
      simpa [Addr.add] using World.cell?_spot h1
    subst hspot
    obtain ⟨h1, h2, h3⟩ := hds i hil
    have hlt := World.block_lt_of_cell? W _ h2
    rw [Addr.add_lit] at h1 h2 h3
    refine ⟨b, off, rfl, ?_, h1, ?_, ?_⟩
    · have h4 : (⟨b, off, none⟩ : Addr).add (i * 3 + 1) = ⟨b, off + (i * 3 + 1), none⟩ := Addr.add_lit ..
      rw [h4] at hlt; exact hlt
    · rw [Nat.add_assoc]; exact h2
    · rw [Nat.add_assoc]; exact h3


/-- calls are being played on both: all that they hold is newer than the base. -/
def Playing (B t m r : Nat) (w0 w : World) (l : List Pr) : Prop := ∃ G, Both t m r w l G ∧ (∀ b ∈ G, B ≤ b) ∧ Below B w0 w

theorem Touch.toBelow {F : List Nat} {B : Nat} {w w' : World} (T : Touch F w w') (hF : ∀ b ∈ F, B ≤ b) (hB : B ≤ w.heap.size) : Below B w w' :=
  ⟨T.os, T.tape, T.output, T.size, fun k hk => T.block k (by omega) (fun e => by have := hF k e; omega)⟩

theorem Playing.does {B t m r : Nat} {w0 w : World} {l : List Pr} (h : Playing B t m r w0 w l) (hB : B ≤ w0.heap.size) (kind k : Int) (s : ByteArray) (ht : 2 ≤ t) (ht2 : t ≤ 64) (hl : l.length ≤ 100000) :
    Calls Try.prog 9 #[.pointer (some ⟨m, 0, none⟩), .pointer (some ⟨r, 0, none⟩), .agg #[.int .i64 kind, .int .i64 k, .string s]] w fun e w' => e = .returned (.bool true) ∧ ∃ l', l'.length ≤ l.length + 1 ∧ Playing B t m r w0 w' l' := by
  obtain ⟨G, h1, h2, h3⟩ := h
  refine (does_any t m r w l G kind k s h1 ht ht2 hl).mono ?_
  rintro e w' ⟨rfl, l', ⟨G', g1, g2, g3⟩, hl'⟩
  have hs := h3.size
  refine ⟨rfl, l', hl', G', g1, fun b hb => ?_, h3.trans (g2.toBelow h2 (by omega))⟩
  rcases g3 b hb with e | e
  · exact h2 b e
  · omega

theorem Playing.touch {B t m r : Nat} {w0 w w' : World} {l : List Pr} (h : Playing B t m r w0 w l) (T : Touch [] w w') (hB : B ≤ w0.heap.size) : Playing B t m r w0 w' l := by
  obtain ⟨G, h1, h2, h3⟩ := h
  have hs := h3.size
  exact ⟨G, h1.touch T (by simp), h2, h3.trans (T.toBelow (by simp) (by omega))⟩

theorem Playing.told {B t m r : Nat} {w0 w : World} {l : List Pr} (h : Playing B t m r w0 w l) (hB : B ≤ w0.heap.size) (k n : Int) (hn : n ≤ 9223372036854775807) (hl : l.length ≤ 1000) :
    Calls Try.prog 10 #[.pointer (some ⟨m, 0, none⟩), .pointer (some ⟨r, 0, none⟩), .int .i64 k, .int .i64 n] w fun e w' => e = .returned (.bool true) ∧ Playing B t m r w0 w' l := by
  have h' := h
  obtain ⟨G, h1, h2, h3⟩ := h
  obtain ⟨v, hv⟩ := h1.tells hl k n hn
  refine (told_any m r w l v k n hv hl).mono ?_
  rintro e w' ⟨rfl, T⟩
  exact ⟨rfl, h'.touch T hB⟩

/-- both, new. -/
theorem Playing.new {t : Nat} {w0 w : World} (hb : Below w0.heap.size w0 w) :
    Playing w0.heap.size t w.heap.size (w.heap.size + 1) w0 ((w.alloc (.cells #[.int .i64 t, .pointer none] 54)).alloc (.cells #[.slice none 0 0] 31)) [] := by
  have hs := hb.size
  generalize ha : w.alloc (.cells #[.int .i64 t, .pointer none] 54) = wa
  have hz : wa.heap.size = w.heap.size + 1 := by rw [← ha, World.size_alloc]
  have T0 : Touch [] w wa := by rw [← ha]; exact (Touch.refl [] w).alloc _
  have T1 : Touch [] wa (wa.alloc (.cells #[.slice none 0 0] 31)) := (Touch.refl [] wa).alloc _
  have c1 : wa.heap[w.heap.size]? = some (.cells #[.int .i64 t, .pointer none] 54 (0, 0)) := by rw [← ha]; exact heap_alloc_new w _
  have m1 : TreeM t w.heap.size wa [] none [] := ⟨c1, .inl ⟨rfl, rfl, rfl⟩, by simp, List.Pairwise.nil, fun h x e => by cases e⟩
  have c2 : (wa.alloc (.cells #[.slice none 0 0] 31)).heap[w.heap.size + 1]? = some (.cells #[.slice none 0 0] 31 (0, 0)) := by rw [← hz]; exact heap_alloc_new wa _
  refine ⟨[w.heap.size] ++ RefM.bs (w.heap.size + 1) (.slice none 0 0), ⟨none, [], _, m1.touch T1 (by simp), ⟨c2, ⟨?_, .inl ⟨rfl, rfl⟩⟩⟩, by simp [RefM.bs, Value.ownBlock], rfl⟩, ?_, ?_⟩
  · simp [encP]
  · intro b hb
    simp [RefM.bs, Value.ownBlock] at hb
    omega
  · exact (hb.trans (T0.toBelow (by simp) hs)).trans (T1.toBelow (by simp) (by omega))
end Go.Proofs.Ytcboakmfabdeoaa
