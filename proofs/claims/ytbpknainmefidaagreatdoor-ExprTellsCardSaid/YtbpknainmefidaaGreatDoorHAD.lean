/- ExprTells. -/
import Derived.Test.YtbpknainmefidaaGreatDoorHMF
import Derived.Test.YtbpknainmefidaaGreatDoorHS
import Derived.Test.YtbpknainmefidaaGreatDoorHR
import Derived.Test.YtbpknainmefidaaGreatDoorHMC
namespace Go.Proofs.YtbpknainmefidaaGreatDoor
open Go.RowKit Go.Lib
set_option linter.unusedVariables false
set_option linter.unusedSimpArgs false
set_option maxRecDepth 100000
open Ex (Tree)

theorem Strs_below {w w' : World} {A : Option Addr} {l : List ByteArray} (h : Strs w A l) (hb : Below w.heap.size w w') : Strs w' A l := fun i hi => by
  obtain ⟨g, o, e, hg, hc⟩ := h i hi
  exact ⟨g, o, e, Nat.lt_of_lt_of_le hg hb.size, (hb.cell hg).trans hc⟩
set_option maxHeartbeats 2000000 in
theorem tells_any (T : Tree) (v : Value) (s : ByteArray) (w : World) (h : NodeV w v T) (hf : fitT T) (a : Addr) (m : Int) (hv : Env w a m) :
    Calls Tryz.prog 3 #[v, .string s] w fun e w' => e = .returned (.bool true) ∧ Below w.heap.size w w' := by
  cases T with
  | node op t vk vn vs ks =>
  obtain ⟨A, c, rfl, hcc, hk⟩ := h
  obtain ⟨T, hT⟩ : ∃ T, (.node op t vk vn vs ks : Tree) = T := ⟨_, rfl⟩
  have b0 : Below w.heap.size w (w.alloc (.cells (ncells op t vk vn vs A ks.length c) 26)) := (Below.refl _ _).alloc (Nat.le_refl _) _
  have k0 := Whole.new w 26 (ncells op t vk vn vs A ks.length c)
  have nv : NodeV (w.alloc (.cells (ncells op t vk vn vs A ks.length c) 26)) (.agg (ncells op t vk vn vs A ks.length c)) T := by rw [← hT]; exact ⟨A, c, rfl, hcc, hk.below b0⟩
  rw [hT] at hf
  unfold ncells at *
  obtain ⟨n, hn⟩ : ∃ n, ks.length = n := ⟨_, rfl⟩
  rw [hn] at b0 k0 nv ⊢
  have HV := Lib.hid hv
  have HF := Lib.hid hf
  clear hk hcc hT hn hv hf
  go_enter Tryz.func3, Tryz.ntmps3
  go_wp2_with fail
  generalize w.alloc (.cells #[.int .i64 op, .string (tx t), .int .i64 vk, .int .i64 vn, .string (tx vs), .slice A n c] 26) = W1 at *
  have AW := Lib.hid (awake_any W1 a m (HV.out.below b0))
  have B0 := Lib.hid b0
  have K0 := Lib.hid k0
  have NV := Lib.hid nv
  clear b0 k0 nv
  refine AW.out.mono ?_
  rintro e W2 ⟨rfl, hb2⟩
  have K2 := Lib.hid (K0.out.below hb2 K0.out.lt)
  have NV2 := Lib.hid (NV.out.below hb2)
  have B2 : Hid (Below w.heap.size w W2) := Lib.hid (B0.out.trans (hb2.mono B0.out.size))
  have WD := Lib.hid (Wide_any T _ W2 NV2.out)
  obtain ⟨c0, c1, c2, c3, c4, c5⟩ := six_of K2.out
  clear AW hb2 K0 B0 NV
  go_wp2_with fail
  refine WD.out.mono ?_
  rintro e W3 (⟨rfl, hb3, hcnt, hsh⟩ | ⟨rfl, hb3⟩)
  · have B3 : Hid (Below w.heap.size w W3) := Lib.hid (B2.out.trans (hb3.mono B2.out.size))
    have K3 := Lib.hid (K2.out.below hb3 K2.out.lt)
    have NV3 := Lib.hid (NV2.out.below hb3)
    have HSH := Lib.hid hsh
    have HCN := Lib.hid hcnt
    clear hb3 hsh hcnt WD c0 c1 c2 c3 c4 c5 K2 B2 NV2
    by_cases hlen : s.size ≤ 100
    · have hl' : ¬ (100 : Int) < (s.size : Int) := by omega
      obtain ⟨c0, c1, c2, c3, c4, c5⟩ := six_of K3.out
      have RT : Hid (∀ W, Below W3.heap.size W3 W → Calls Tryz.prog 7 #[.agg #[.int .i64 op, .string (tx t), .int .i64 vk, .int .i64 vn, .string (tx vs), .slice A n c]] W fun e w' => e = .returned (.bool (Ex.rightB nodeB T)) ∧ Below W.heap.size W w') := Lib.hid (fun W hW => callsIn_wide.1 (right_in T _ W (NV3.out.below hW) HF.out (by have := depth_count T; have := HCN.out; omega) a m (HV.out.below (bstep B3.out hW))))
      have RR : Hid (∀ W, Below W3.heap.size W3 W → Calls Tryz.prog 8 #[.agg #[.int .i64 op, .string (tx t), .int .i64 vk, .int .i64 vn, .string (tx vs), .slice A n c]] W fun e w' => e = .returned (.bool (Ex.rightB nodeB T)) ∧ Below W.heap.size W w') := Lib.hid (fun W hW => refRight_any T (by have := HCN.out; omega) HSH.out _ W (NV3.out.below hW))
      have D1 : Hid (∀ W, Below W3.heap.size W3 W → Calls Tryz.prog 9 #[.agg #[.int .i64 op, .string (tx t), .int .i64 vk, .int .i64 vn, .string (tx vs), .slice A n c]] W fun e w' => e = .returned (.int .i64 (Ex.depth T : Nat)) ∧ Below W.heap.size W w') := Lib.hid (fun W hW => callsIn_wide.1 (depth_in T _ W (NV3.out.below hW) (by have := depth_count T; have := HCN.out; omega)))
      have D2 : Hid (∀ W, Below W3.heap.size W3 W → Calls Tryz.prog 10 #[.agg #[.int .i64 op, .string (tx t), .int .i64 vk, .int .i64 vn, .string (tx vs), .slice A n c]] W fun e w' => e = .returned (.int .i64 (Ex.depth T : Nat)) ∧ Below W.heap.size W w') := Lib.hid (fun W hW => refDepth_all _ T (Nat.le_refl _) (by have := HCN.out; omega) _ W (NV3.out.below hW))
      have C1 : Hid (∀ W, Below W3.heap.size W3 W → Calls Tryz.prog 11 #[.agg #[.int .i64 op, .string (tx t), .int .i64 vk, .int .i64 vn, .string (tx vs), .slice A n c]] W fun e w' => e = .returned (.int .i64 (Ex.count T : Nat)) ∧ Below W.heap.size W w') := Lib.hid (fun W hW => callsIn_wide.1 (count_in T _ W (NV3.out.below hW) (by have := depth_count T; have := HCN.out; omega) (by have := HCN.out; omega)))
      have C2 : Hid (∀ W, Below W3.heap.size W3 W → Calls Tryz.prog 12 #[.agg #[.int .i64 op, .string (tx t), .int .i64 vk, .int .i64 vn, .string (tx vs), .slice A n c]] W fun e w' => e = .returned (.int .i64 (Ex.count T : Nat)) ∧ Below W.heap.size W w') := Lib.hid (fun W hW => refCount_all _ T (Nat.le_refl _) (by have := HCN.out; omega) _ W (NV3.out.below hW))
      have N1 : Hid (∀ W, Below W3.heap.size W3 W → Calls Tryz.prog 14 #[.agg #[.int .i64 op, .string (tx t), .int .i64 vk, .int .i64 vn, .string (tx vs), .slice A n c]] W fun e w' => ∃ A' c', e = .returned (.slice A' ((Ex.names T).map tx).length c') ∧ Strs w' A' ((Ex.names T).map tx) ∧ Below W.heap.size W w') := Lib.hid (fun W hW => (callsIn_wide.1 (names_in T _ W (NV3.out.below hW) HF.out (by have := depth_count T; have := HCN.out; omega) (by have := HCN.out; omega))).mono (by
        rintro e w' ⟨u, rfl, hr, hb⟩
        obtain ⟨A', c', rfl, -, h3⟩ := hr.strs
        exact ⟨A', c', rfl, h3, hb⟩))
      have N2 : Hid (∀ W, Below W3.heap.size W3 W → Calls Tryz.prog 15 #[.agg #[.int .i64 op, .string (tx t), .int .i64 vk, .int .i64 vn, .string (tx vs), .slice A n c]] W fun e w' => ∃ A' c', e = .returned (.slice A' ((Ex.names T).map tx).length c') ∧ Strs w' A' ((Ex.names T).map tx) ∧ Below W.heap.size W w') := Lib.hid (fun W hW => (refNames_any T _ W (NV3.out.below hW) (by have := HCN.out; omega)).mono (by
        rintro e w' ⟨u, rfl, hr, hb⟩
        obtain ⟨A', c', rfl, -, h3⟩ := hr.strs
        exact ⟨A', c', rfl, h3, hb⟩))
      have hnl : (Ex.names T).length ≤ 500000 := by
        have h1 := namesOf_len (Ex.seq 1 T)
        rw [namesOf_seq, Ex.seq_length] at h1
        have := HCN.out
        omega
      have ST : Hid (∀ W A' B' c' d', Strs W A' ((Ex.names T).map tx) → Strs W B' ((Ex.names T).map tx) → Calls Tryz.prog 13 #[.slice A' ((Ex.names T).map tx).length c', .slice B' ((Ex.names T).map tx).length d'] W fun e w' => e = .returned (.bool true) ∧ Below W.heap.size W w') := Lib.hid (fun W A' B' c' d' h1 h2 => refStrings_same A' B' c' d' _ W h1 h2 hnl)
      have KK : Hid (∀ w', Below W3.heap.size W3 w' → Below W3.heap.size W3 w' ∧ w'.cell? ⟨w.heap.size, 0, none⟩ = some (.int .i64 op) ∧ w'.cell? ⟨w.heap.size, 1, none⟩ = some (.string (tx t)) ∧ w'.cell? ⟨w.heap.size, 2, none⟩ = some (.int .i64 vk) ∧ w'.cell? ⟨w.heap.size, 3, none⟩ = some (.int .i64 vn) ∧ w'.cell? ⟨w.heap.size, 4, none⟩ = some (.string (tx vs)) ∧ w'.cell? ⟨w.heap.size, 5, none⟩ = some (.slice A n c)) := Lib.hid (fun w' hw => ⟨hw, six_of (K3.out.below hw K3.out.lt)⟩)
      clear hnl
      generalize ((Ex.names T).map tx) = ns at *
      generalize hnsl : ns.length = nl at *
      generalize Ex.rightB nodeB T = r at *
      generalize Ex.depth T = dn at *
      generalize Ex.count T = cn at *
      clear hnsl
      go_wp2_with fail
      go_region_held3 (fun w' => Below W3.heap.size W3 w' ∧ w'.cell? ⟨w.heap.size, 0, none⟩ = some (.int .i64 op) ∧ w'.cell? ⟨w.heap.size, 1, none⟩ = some (.string (tx t)) ∧ w'.cell? ⟨w.heap.size, 2, none⟩ = some (.int .i64 vk) ∧ w'.cell? ⟨w.heap.size, 3, none⟩ = some (.int .i64 vn) ∧ w'.cell? ⟨w.heap.size, 4, none⟩ = some (.string (tx vs)) ∧ w'.cell? ⟨w.heap.size, 5, none⟩ = some (.slice A n c))
        (first | (exact KK.out _ (Below.refl _ _).drew) | (go_split_ands; exact KK.out _ (bstep (by assumption) hbS)) | (go_split_ands; exact KK.out _ (bstep (by assumption) hbN2)) | (go_split_ands; exact KK.out _ (bstep (by assumption) hbN1)) | (go_split_ands; exact KK.out _ (bstep (by assumption) hbC2)) | (go_split_ands; exact KK.out _ (bstep (by assumption) hbC1)) | (go_split_ands; exact KK.out _ (bstep (by assumption) hbD2)) | (go_split_ands; exact KK.out _ (bstep (by assumption) hbD1)) | (go_split_ands; exact KK.out _ (bstep (by assumption) hbR2)) | (go_split_ands; exact KK.out _ (bstep (by assumption) hbR1)) | go_keep)
        (first
          | (go_at_call 7; (with_reducible refine (RT.out _ ?_).mono ?_); (go_split_ands; assumption); rintro e wR1 ⟨rfl, hbR1⟩)
          | (go_at_call 8; (with_reducible refine (RR.out _ ?_).mono ?_); (go_split_ands; assumption); rintro e wR2 ⟨rfl, hbR2⟩)
          | (go_at_call 9; (with_reducible refine (D1.out _ ?_).mono ?_); (go_split_ands; assumption); rintro e wD1 ⟨rfl, hbD1⟩)
          | (go_at_call 10; (with_reducible refine (D2.out _ ?_).mono ?_); (go_split_ands; assumption); rintro e wD2 ⟨rfl, hbD2⟩)
          | (go_at_call 11; (with_reducible refine (C1.out _ ?_).mono ?_); (go_split_ands; assumption); rintro e wC1 ⟨rfl, hbC1⟩)
          | (go_at_call 12; (with_reducible refine (C2.out _ ?_).mono ?_); (go_split_ands; assumption); rintro e wC2 ⟨rfl, hbC2⟩)
          | (go_at_call 14; (with_reducible refine (N1.out _ ?_).mono ?_); (go_split_ands; assumption); rintro e wN1 ⟨A1, d1, rfl, hs1, hbN1⟩)
          | (go_at_call 15; (with_reducible refine (N2.out _ ?_).mono ?_); (go_split_ands; assumption); rintro e wN2 ⟨A2, d2, rfl, hs2, hbN2⟩)
          | (go_at_call 13; (with_reducible refine (ST.out _ _ _ _ _ (Strs_below hs1 hbN2) hs2).mono ?_); rintro e wS ⟨rfl, hbS⟩)
          | (go_at_call 16; (with_reducible refine (arity_any _ _).mono ?_); rintro e wA ⟨rfl, rfl⟩)
          | (go_at_call 17; (with_reducible refine (refArity_any _ _).mono ?_); rintro e wB ⟨rfl, rfl⟩))
      all_goals
        have FB : Hid (Below w.heap.size w _) := Lib.hid (bstep B3.out (by (go_split_ands; first | assumption | exact bstep (by assumption) hbS)))
        go_wp2_with fail
        go_ret
        exact ⟨rfl, FB.out⟩
    · have hl' : (100 : Int) < (s.size : Int) := by omega
      go_wp2_with fail
      go_ret
      exact ⟨rfl, B3.out⟩
  · have B3 : Hid (Below w.heap.size w W3) := Lib.hid (B2.out.trans (hb3.mono B2.out.size))
    clear hb3
    go_wp2_with fail
    go_ret
    exact ⟨rfl, B3.out⟩
end Go.Proofs.YtbpknainmefidaaGreatDoor
