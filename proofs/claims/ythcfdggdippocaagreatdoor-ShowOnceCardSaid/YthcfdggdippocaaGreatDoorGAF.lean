/- ShowOnce. -/
import Derived.Test.YthcfdggdippocaaGreatDoorGAE
import Derived.Test.YthcfdggdippocaaGreatDoorGQG
namespace Go.Proofs.YthcfdggdippocaaGreatDoor
open Go.RowKit Go.Lib
set_option linter.unusedVariables false
set_option linter.unusedSimpArgs false
set_option maxRecDepth 100000
open Ex (Tree)
theorem right_fit : ∀ (k : Nat) (T : Tree), Ex.count T ≤ k → Ex.ones nodeB T = true → fitT T
  | 0, T, h, _ => by have := Ex.count_pos T; omega
  | k + 1, .node op t vk vn vs ks, h, h1 => by
    obtain ⟨g1, g2⟩ := node_cases h1
    rw [Ex.count] at h
    have IH : ∀ x ∈ ks, fitT x := fun x hx => right_fit k x (by have := counts_mem hx; omega) (oness_mem g1 hx)
    have hks : fitTs ks := fitTs_of ks fun i hi => IH _ (List.getElem_mem hi)
    rw [fitT]
    have m : 200 ≤ maxLen := by decide
    have e : (tx vs).size = vs.length := by simp [ByteArray.size]
    have hv : valB vk vn (tx vs) = true → vs.length ≤ 200 := fun hb => by
      have hp : plainB vk vn (tx vs) = true := by simp only [valB, Bool.and_eq_true] at hb; exact hb.1
      rcases plainB_iff.1 hp with ⟨-, -, h3⟩ | ⟨-, h3⟩ | ⟨-, -, h3⟩ | ⟨-, h3, -, -⟩ <;> omega
    rcases g2 with ⟨-, rfl, e1, -⟩ | ⟨-, e1, -, -, rfl, -⟩ | ⟨-, rfl, -, -, rfl, -⟩ | ⟨-, e1, -, -, rfl, -⟩ | ⟨-, e1, -, -, rfl⟩
    · exact ⟨by simp, by have := hv e1; omega, hks⟩
    · exact ⟨by have := name_len e1; omega, by simp, hks⟩
    · exact ⟨by simp, by simp, hks⟩
    · exact ⟨by have := mark_len2 e1; omega, by simp, hks⟩
    · exact ⟨by have := name_len (Ps.fn_name t (by omega)); omega, by simp, hks⟩
theorem parts_of {S : List UInt8} {T : Tree} {j : Nat} (h : Ps.parse S = .ok T j) : Ex.rightB nodeB T = true ∧ Ex.ones nodeB T = true ∧ rngT T = true ∧ fitT T ∧ Ex.depth T ≤ 30 ∧ Ex.count T ≤ 300 := by
  obtain ⟨h1, h2⟩ := Ps.parse_right h
  have h3 := h1
  simp only [Ex.rightB, Bool.and_eq_true, decide_eq_true_eq] at h3
  exact ⟨h1, h3.2.2, h2, right_fit _ T (Nat.le_refl _) h3.2.2, h3.1, h3.2.1⟩
theorem neg_of_Int {i n : Nat} (h : ¬ n < i) : ¬ (n : Int) < (i : Int) := by omega
set_option maxHeartbeats 2000000 in
theorem once_any (s : ByteArray) (w : World) (a : Addr) (m : Int) (hv : Env w a m) :
    Calls Tryz.prog 4 #[.string s] w fun e w' => e = .returned (.bool true) ∧ Below w.heap.size w w' := by
  have HV := Lib.hid hv
  have AW := Lib.hid (awake14_any w a m hv)
  clear hv
  go_enter Tryz.func4, Tryz.ntmps4
  go_wp2_with fail
  refine AW.out.mono ?_
  rintro e W1 ⟨rfl, hb1⟩
  have B1 := Lib.hid hb1
  clear hb1 AW
  by_cases hlen : 2000 < s.size
  · have hl' : (2000 : Int) < (s.size : Int) := by omega
    go_wp2_with fail
    go_ret
    exact ⟨rfl, B1.out⟩
  have hl' : ¬ (2000 : Int) < (s.size : Int) := by omega
  have PA := Lib.hid (parse_any s W1 a m (HV.out.below B1.out))
  go_wp2_with fail
  refine PA.out.mono ?_
  intro e W2 hpost
  clear PA
  cases hp : Ps.parse s.data.toList with
  | bad cd ad =>
    rw [hp] at hpost
    obtain ⟨u, rfl, ⟨A, c, rfl, hcc, hk⟩, hb2⟩ := hpost
    have hcd := Ps.parse_bad hp
    have hcd' : ((cd : Int) != 0) = true := by simp; omega
    have B2 : Hid (Below w.heap.size w ((W2.alloc (.cells (ncells 0 [] 0 0 [] A 0 c) 26)).alloc (.cells #[.int .i64 (cd : Nat), .int .i64 (ad : Nat)] 36))) := Lib.hid (by
      have h2 := bstep B1.out hb2
      exact (h2.alloc h2.size _).alloc (by have := h2.size; simp; omega) _)
    have k1 := Whole.new (W2.alloc (.cells (ncells 0 [] 0 0 [] A 0 c) 26)) 36 #[.int .i64 (cd : Nat), .int .i64 (ad : Nat)]
    simp only [World.size_alloc] at k1
    have v0 := k1.cell 0
    simp only [List.getElem?_toArray, List.getElem?_cons_zero, List.getElem?_cons_succ] at v0
    unfold ncells at *
    clear hk hb2 hp k1 hcd
    go_wp2_with fail
    go_ret
    exact ⟨rfl, B2.out⟩
  | ok T j =>
    rw [hp] at hpost
    obtain ⟨hright, hones, hrng, hfit, hdep, hcnt⟩ := parts_of hp
    have HON := Lib.hid (fun h => Ps.parse_once hp h)
    have HP := Lib.hid (show prR T = if 4000 < (Ps.pr T).length then ([], 3) else (Ps.pr T, 0) by rw [prR, if_pos hright])
    obtain ⟨u, rfl, hu, hb2⟩ := hpost
    have hnn := hu.node
    cases T with
    | node op t vk vn vs ks =>
    obtain ⟨A, c, rfl, hcc, hk⟩ := hnn
    obtain ⟨T, hT⟩ : ∃ T, (.node op t vk vn vs ks : Tree) = T := ⟨_, rfl⟩
    have b1 : Below W2.heap.size W2 ((W2.alloc (.cells (ncells op t vk vn vs A ks.length c) 26)).alloc (.cells #[.int .i64 0, .int .i64 0] 36)) := ((Below.refl _ _).alloc (Nat.le_refl _) _).alloc (by simp) _
    have k0 := (Whole.new W2 26 (ncells op t vk vn vs A ks.length c)).alloc (.cells #[.int .i64 0, .int .i64 0] 36)
    have k1 := Whole.new (W2.alloc (.cells (ncells op t vk vn vs A ks.length c) 26)) 36 #[.int .i64 0, .int .i64 0]
    simp only [World.size_alloc] at k1
    have nv : NodeV ((W2.alloc (.cells (ncells op t vk vn vs A ks.length c) 26)).alloc (.cells #[.int .i64 0, .int .i64 0] 36)) (.agg (ncells op t vk vn vs A ks.length c)) T := by rw [← hT]; exact ⟨A, c, rfl, hcc, hk.below b1⟩
    rw [hT] at hones hrng hfit hdep hcnt HON HP
    obtain ⟨n, hn⟩ : ∃ n, ks.length = n := ⟨_, rfl⟩
    rw [hn] at b1 k0 k1 nv ⊢
    have v0 := k1.cell 0
    simp only [List.getElem?_toArray, List.getElem?_cons_zero, List.getElem?_cons_succ] at v0
    unfold ncells at *
    have B1' := Lib.hid (bstep B1.out hb2)
    have HSP := Lib.hid (And.intro hfit (And.intro hrng (And.intro hdep (And.intro hcnt hones))))
    obtain ⟨x0, x1, x2, x3, x4, x5⟩ := six_of k0
    have KH := Lib.hid (And.intro b1 (And.intro k0 (And.intro k1 nv)))
    clear hu hk hcc hT hn hp hright hones hrng hfit hdep hcnt hb2 b1 k0 k1 nv
    go_wp2_with fail
    obtain ⟨k0, k1⟩ : Whole _ W2.heap.size 26 _ ∧ Whole _ (W2.heap.size + 1) 36 _ := ⟨KH.out.2.1, KH.out.2.2.1⟩
    have SP := shPrint_any T _ _ KH.out.2.2.2 HSP.out.1 HSP.out.2.1 (by have := HSP.out.2.2.1; omega) (HV.out.below (bstep B1'.out KH.out.1))
    have BW3 : Below w.heap.size w ((W2.alloc (.cells #[.int .i64 op, .string (tx t), .int .i64 vk, .int .i64 vn, .string (tx vs), .slice A n c] 26)).alloc (.cells #[.int .i64 0, .int .i64 0] 36)) := bstep B1'.out KH.out.1
    have nv := KH.out.2.2.2
    obtain ⟨W3, hW3⟩ : ∃ W3, (W2.alloc (.cells #[.int .i64 op, .string (tx t), .int .i64 vk, .int .i64 vn, .string (tx vs), .slice A n c] 26)).alloc (.cells #[.int .i64 0, .int .i64 0] 36) = W3 := ⟨_, rfl⟩
    rw [hW3] at SP BW3 nv k0 k1 ⊢
    have SPH := Lib.hid SP
    have B3 := Lib.hid BW3
    have NV := Lib.hid nv
    have K0 := Lib.hid k0
    clear SP BW3 nv k0 k1 KH hW3 x0 x1 x2 x3 x4 x5 v0
    refine SPH.out.mono ?_
    rintro e W4 ⟨rfl, hb4⟩
    have B4 := Lib.hid (bstep B3.out hb4)
    have K4 := Lib.hid (K0.out.below hb4 K0.out.lt)
    have NV4 := Lib.hid (NV.out.below hb4)
    obtain ⟨x0, x1, x2, x3, x4, x5⟩ := six_of K4.out
    clear hb4 SPH B3 K0 NV
    by_cases hlong : 4000 < (Ps.pr T).length
    · have E : prR T = ([], 3) := by rw [HP.out, if_pos hlong]
      rw [E]
      have RP := Lib.hid (refPrint_any T _ W4 NV4.out (by have := HSP.out.2.2.2.1; omega) HSP.out.2.2.2.2 HSP.out.2.1)
      obtain ⟨p, hp⟩ : ∃ p, Ps.pr T = p := ⟨_, rfl⟩
      rw [hp] at RP hlong
      have hl9 : (4000 : Int) < (p.length : Int) := by omega
      clear E HON HP
      go_wp2_with fail
      refine RP.out.mono ?_
      rintro e W5 ⟨rfl, hb5⟩
      have B5 := Lib.hid (bstep B4.out hb5)
      clear hb5 RP
      go_wp2_with fail
      go_ret
      exact ⟨by simp [hlong], B5.out⟩
    · have E : prR T = (Ps.pr T, 0) := by rw [HP.out, if_neg hlong]
      rw [E]
      obtain ⟨j2, hj2⟩ := HON.out (by omega)
      obtain ⟨p, hp⟩ : ∃ p, Ps.pr T = p := ⟨_, rfl⟩
      rw [hp] at E hj2 ⊢
      have PA := parse_any (tx p) W4 a m (HV.out.below B4.out)
      rw [show (tx p).data.toList = p by simp, hj2] at PA
      have PAH := Lib.hid PA
      have HE := Lib.hid E
      clear PA E HON HP hlong hp hj2
      go_wp2_with fail
      refine PAH.out.mono ?_
      rintro e W5 ⟨u2, rfl, hu2, hb5⟩
      have hn2 := hu2.node
      obtain ⟨op2, t2, vk2, vn2, vs2, A2, n2, c2, hu2e⟩ : ∃ op2 t2 vk2 vn2 vs2 A2 n2 c2, u2 = .agg (ncells op2 t2 vk2 vn2 vs2 A2 n2 c2) := by
        cases T with
        | node => obtain ⟨A2, c2, h, -⟩ := hn2; exact ⟨_, _, _, _, _, _, _, _, h⟩
      subst hu2e
      have b5 : Below W5.heap.size W5 ((W5.alloc (.cells (ncells op2 t2 vk2 vn2 vs2 A2 n2 c2) 26)).alloc (.cells #[.int .i64 0, .int .i64 0] 36)) := ((Below.refl _ _).alloc (Nat.le_refl _) _).alloc (by simp) _
      have k0 := (Whole.new W5 26 (ncells op2 t2 vk2 vn2 vs2 A2 n2 c2)).alloc (.cells #[.int .i64 0, .int .i64 0] 36)
      have k1 := Whole.new (W5.alloc (.cells (ncells op2 t2 vk2 vn2 vs2 A2 n2 c2) 26)) 36 #[.int .i64 0, .int .i64 0]
      simp only [World.size_alloc] at k1
      have nv2 := hn2.below b5
      have B6 := bstep (bstep B4.out hb5) b5
      have K46 := K4.out.below (hb5.trans (b5.mono hb5.size)) K4.out.lt
      have NV46 := NV4.out.below (hb5.trans (b5.mono hb5.size))
      unfold ncells at *
      have SP := shPrint_any T _ _ nv2 HSP.out.1 HSP.out.2.1 (by have := HSP.out.2.2.1; omega) (HV.out.below B6)
      rw [HE.out] at SP
      have SPH := Lib.hid SP
      have KH := Lib.hid (And.intro B6 (And.intro k0 (And.intro k1 (And.intro nv2 (And.intro K46 NV46)))))
      obtain ⟨z0, z1, z2, z3, z4, z5⟩ := six_of k0
      clear SP B6 k0 k1 nv2 K46 NV46 hu2 hn2 hb5 b5 PAH x0 x1 x2 x3 x4 x5
      go_wp2_with fail
      refine SPH.out.mono ?_
      obtain ⟨B6, k0, k1, nv2, K46, NV46⟩ := KH.out
      generalize (W5.alloc (.cells #[.int .i64 op2, .string (tx t2), .int .i64 vk2, .int .i64 vn2, .string (tx vs2), .slice A2 n2 c2] 26)).alloc (.cells #[.int .i64 0, .int .i64 0] 36) = W6 at *
      rintro e W7 ⟨rfl, hb7⟩
      have SM := Lib.hid (refSame_all _ T (Nat.le_refl _) (by have := HSP.out.2.2.2.1; omega) T _ _ W7 (NV46.below hb7) (nv2.below hb7))
      rw [(Ex.same_iff T T).2 rfl] at SM
      obtain ⟨x0, x1, x2, x3, x4, x5⟩ := six_of (K46.below hb7 K46.lt)
      obtain ⟨z0, z1, z2, z3, z4, z5⟩ := six_of (k0.below hb7 k0.lt)
      have v0 := (k1.below hb7 k1.lt).cell 0
      simp only [List.getElem?_toArray, List.getElem?_cons_zero, List.getElem?_cons_succ] at v0
      have B7 := Lib.hid (bstep B6 hb7)
      clear B6 k0 k1 nv2 K46 NV46 hb7 SPH KH
      go_wp2_with fail
      refine SM.out.mono ?_
      rintro e W8 ⟨rfl, hb8⟩
      have B8 := Lib.hid (bstep B7.out hb8)
      clear hb8 SM
      go_wp2_with fail
      go_ret
      exact ⟨rfl, B8.out⟩
end Go.Proofs.YthcfdggdippocaaGreatDoor
