/- PackGets: the reading of a row. -/
import Derived.Test.YtmpiknaoocflcaaC3A
import Derived.Deep.RegionLaw
namespace Go.Proofs.Ytmpiknaoocflcaa
open Go.RowKit

attribute [local go_sem ↓] Val.neqVal in
set_option maxRecDepth 100000 in
set_option maxHeartbeats 100000000 in
theorem gets5 (B : Option Addr) (c : Nat) (l : List UInt8) (w wc4 : World) (HB : Hid (Holds w B l)) (HC : Hid (l.length ≤ c)) (C4 : Hid (Below w.heap.size w wc4)) (hx : l.length ≤ 3000) {u1 u2 u3 u4 u5 u6 u7 u8 u9 u10 u11 u12 u13 u14 u15 u16 u17 u18 u19 u20 u21 u22 u23 u24 u25 u26 u27 u28 u29 u30 u31 u32 u33 u34 u35 u36 u37 u38 u39 u40 u41 u42 u43 u44 u45 u46 u47 u48 u49 u50 u51 u52 u53 u54 u55 u56 u57 u58 u59 u60 u61 u62 u63 u64 u65 u66 u67 u68 u69 u70 u71 u72 u73 u74 u75 u76 u77 u78 u79 u80 u81 u82 u83 u84 u85 u86 u87 u88 u89 u90 u91 u92 u93 u94 u95 u96 u97 u98 u99 u100 u101 u102 u103 u104 u105 u106 u107 u108 u109 u110 u111 u112 u113 u114 u115 u116 u117 u118 u119 u120 u121 u122 u123 u124 u125 u126 u127 u128 u129 u130 u131 u132 u133 u134 u135 u136 u137 u138 u139 u140 u141 u142 u143 u144 u145 u146 u147 u148 u149 u150 u151 u152 u153 u154 u155 u156 u157 u158 u159 u160 u161 u162 u163 u164 u165 u166 u167 u168 u169 u170 u171 u172 u173 u174 u175 u176 u177 u178 u179 u180 u181 u182 u183 u184 u185 u186 u187 u188 u189 u190 u191 u192 u193 u194 u195 u196 u197 u198 u199 u200 u201 u202 u203 u204 u205 u206 u207 u208 u209 u210 u211 u212 u213 u214 u215 u216 u217 u218 u219 u220 u221 u222 u223 u224 u225 u226 u227 u228 u229 u230 u231 u232 u233 u234 u235 u236 u237 u238 u239 u240 u241 u242 u243 u244 u245 u246 u247 u248 u249 u250 u251 u252 u253 : Value} :
    (seqTail 15 (codeOf Try.f5)).wp Try.prog (bodyPost Try.prog Try.f5 fun e w' => e = .returned (.bool true) ∧ Below w.heap.size w w') { tmps := #[.slice B l.length c, u1, u2, u3, u4, u5, u6, u7, u8, u9, u10, u11, u12, u13, u14, u15, u16, u17, u18, u19, u20, u21, u22, u23, u24, u25, u26, u27, u28, u29, u30, u31, u32, u33, u34, u35, u36, u37, u38, u39, u40, u41, u42, u43, u44, u45, u46, u47, u48, u49, u50, u51, u52, u53, u54, u55, u56, u57, u58, u59, u60, u61, u62, u63, u64, u65, u66, u67, u68, u69, u70, u71, u72, u73, u74, u75, u76, u77, u78, u79, u80, u81, u82, u83, u84, u85, u86, u87, u88, u89, u90, u91, u92, u93, u94, u95, u96, u97, u98, u99, u100, u101, u102, u103, u104, u105, u106, u107, u108, u109, u110, u111, u112, u113, u114, u115, u116, u117, u118, u119, u120, u121, u122, u123, u124, u125, u126, u127, u128, u129, u130, u131, u132, u133, u134, u135, u136, u137, u138, u139, u140, u141, u142, u143, u144, u145, u146, u147, u148, u149, u150, u151, u152, u153, u154, u155, u156, u157, u158, u159, u160, u161, u162, u163, u164, u165, u166, u167, u168, u169, u170, u171, u172, u173, u174, u175, u176, u177, u178, u179, u180, u181, u182, u183, u184, u185, u186, u187, u188, u189, u190, u191, u192, u193, u194, u195, u196, u197, u198, u199, u200, u201, u202, u203, u204, u205, u206, u207, u208, u209, u210, u211, u212, u213, u214, u215, u216, u217, u218, u219, u220, u221, u222, u223, u224, u225, u226, u227, u228, u229, u230, u231, u232, u233, u234, u235, u236, u237, u238, u239, u240, u241, u242, u243, u244, u245, u246, u247, u248, u249, u250, u251, u252, u253], defers := [] } wc4 := by
  change Code.wp _ (Code.seq _ _) _ _ _
  have G5 := Lib.hid (get_row B c l wc4 (HB.out.below C4.out) HC.out (by omega))
  go_wp2_with fail
  refine G5.out.mono ?_
  rintro e v5 hg
  obtain ⟨hb, hm⟩ := hg
  have D5 := Lib.hid (below_next C4.out hb)
  have RG := refGetRow B c l 0 v5 (HB.out.below D5.out) HC.out hx (Nat.zero_le _)
  rw [List.drop_zero] at RG
  cases hq : rowOf l with
  | none =>
    rw [hq] at hm RG
    simp only at hm
    subst hm
    replace RG := Lib.hid RG
    clear hq hb G5
    go_wp2_with fail
    refine RG.out.mono ?_
    rintro e x5 ⟨hb, he⟩
    simp only at he
    subst he
    have E5 := Lib.hid (below_next D5.out hb)
    clear hb RG
    go_wp2_with fail
    go_ret
    exact ⟨rfl, E5.out⟩
  | some q =>
    obtain ⟨vs, l'⟩ := q
    rw [hq] at hm RG
    simp only at hm
    obtain ⟨v, r, rfl, hra, hr⟩ := hm
    obtain ⟨hcv, hall, hvl⟩ := rowOf_conv hq
    obtain ⟨Q, hQ, rfl, hl⟩ := row_left hq
    have htk : l.take Q = rowB vs := by
      have h1 := congrArg List.length hcv
      rw [List.length_append, List.length_drop] at h1
      have h2 : Q = (rowB vs).length := by omega
      rw [hcv, h2, List.take_left']
      rfl
    obtain ⟨q5, rfl, -, hvb⟩ := hra
    obtain ⟨X, cx, rfl, hX, hcx, -⟩ := hr.shape
    replace RG := Lib.hid RG
    have HX := Lib.hid hX
    have HVB := Lib.hid hvb
    have HALL := Lib.hid hall
    have HTK := Lib.hid htk
    have HL := Lib.hid hl
    have hQc : (Q : Int) ≤ (c : Int) := by have := HC.out; omega
    have HQL : Hid (Q ≤ l.length) := Lib.hid hQ
    clear hq hb G5 hr hvb hall hcv htk hl hX hcx hQ
    go_wp2_with fail
    refine RG.out.mono ?_
    rintro e x5 ⟨hb, v', he, hvr⟩
    rw [HL.out] at he
    subst he
    obtain ⟨A5, c5, rfl, hat⟩ := hvr.shape
    have E5 := Lib.hid (below_next D5.out hb)
    have HAT := Lib.hid hat
    have HBS := Lib.hid hb
    have R26 : Hid (∀ W, Below x5.heap.size x5 W → Calls Try.prog 26 #[.slice (some ⟨q5, 0, none⟩) vs.length vs.length, .slice A5 vs.length c5] W fun e w' => e = .returned (.bool true) ∧ ∃ k, w' = W.drewN k) :=
      Lib.hid (fun W hW => rows_same (some ⟨q5, 0, none⟩) A5 vs.length c5 vs W ((HVB.out.at_.below HBS.out).below hW) (HAT.out.below hW) hvl)
    have R28 : ∀ W, Below x5.heap.size x5 W → Calls Try.prog 28 #[.slice X (l.drop Q).length cx, .slice B l.length c, .int .i64 (Q : Nat)] W fun e w' => e = .returned (.bool true) ∧ w' = W :=
      fun W hW => rest_same X B cx c l Q W ((HX.out.below HBS.out).below hW) (HB.out.below (below_next E5.out hW)) HC.out HQL.out hx
    have R22 : Hid (∀ W, Below x5.heap.size x5 W → Calls Try.prog 22 #[.slice none 0 0, .slice (some ⟨q5, 0, none⟩) vs.length vs.length] W fun r w' => ∃ v, r = .returned v ∧ Row w' W.heap.size v (rowB vs) ∧ Below W.heap.size W w') := Lib.hid (by
      intro W hW
      have hv : VAt W (some ⟨q5, 0, none⟩) vs := (HVB.out.at_.below HBS.out).below hW
      have := Row_any none 0 [] (some ⟨q5, 0, none⟩) vs.length vs W (Holds.nil _ _) (Nat.le_refl _) (by simp) ⟨hv, fun i hi => ⟨(HALL.out i hi).2.1, by have := (HALL.out i hi).2.2; omega⟩⟩ hvl (fun k h => by have := (HALL.out k h).2.2; omega)
      simpa using this)
    have HBL : Hid ((rowB vs).length = Q) := Lib.hid (by rw [← HTK.out, List.length_take]; have := HQL.out; omega)
    have R14 : Hid (∀ W, Below x5.heap.size x5 W → ∀ v b, Row W b v (rowB vs) → Calls Try.prog 14 #[v, .slice B Q c] W fun r w' => r = .returned (.bool true) ∧ W = w') := Lib.hid (by
      intro W hW v b hr
      obtain ⟨Y, cy, rfl, hY, -, -⟩ := hr.shape
      have hT : Holds W B (rowB vs) := by rw [← HTK.out]; exact (HB.out.below (below_next E5.out hW)).take Q
      have := same_self Y B cy c (rowB vs) W hY hT
      rw [HBL.out] at this ⊢
      exact this)
    simp only [List.length_drop] at R28
    replace R28 := Lib.hid R28
    clear hb hat hvr RG HBL HTK HQL HL HVB HALL HX HBS HAT HB HC
    have C26 : Hid (Calls Try.prog 26 #[.slice (some ⟨q5, 0, none⟩) vs.length vs.length, .slice A5 vs.length c5] x5.drew fun e y1 => e = .returned (.bool true) ∧
        Hid (Calls Try.prog 28 #[.slice X (l.length - Q) cx, .slice B l.length c, .int .i64 (Q : Nat)] y1 fun e y2 => e = .returned (.bool true) ∧ y1 = y2) ∧
        Hid (Calls Try.prog 22 #[.slice none 0 0, .slice (some ⟨q5, 0, none⟩) vs.length vs.length] y1 fun e y3 => ∃ v3, e = .returned v3 ∧
          Hid (Calls Try.prog 14 #[v3, .slice B Q c] y3 fun e y4 => e = .returned (.bool true) ∧ Hid (Below w.heap.size w y4)))) := Lib.hid (by
      have b0 : Below x5.heap.size x5 x5.drew := (Below.refl _ _).drew
      refine (R26.out _ b0).mono ?_
      rintro e y1 ⟨rfl, k1, rfl⟩
      have b1 := below_drewN b0 k1
      refine ⟨rfl, Lib.hid ?_, Lib.hid ?_⟩
      · refine (R28.out _ b1).mono ?_
        rintro e y2 ⟨rfl, rfl⟩
        exact ⟨rfl, rfl⟩
      · refine (R22.out _ b1).mono ?_
        rintro e y3 ⟨v3, rfl, hr3, hb3⟩
        refine ⟨v3, rfl, Lib.hid ?_⟩
        refine (R14.out _ (below_next b1 hb3) v3 _ hr3).mono ?_
        rintro e y4 ⟨rfl, rfl⟩
        exact ⟨rfl, Lib.hid (below_next E5.out (below_next b1 hb3))⟩)
    clear R26 R28 R22 R14
    go_upto_region 25 with fail
    refine wp_region_any (by kernel_rfl) ?_
    change wpAny _ _ _ _ _ _ _ (World.drew _)
    refine wpAny_take (i := 0) (oi := { dst := some 233, op := Op.move (Operand.tmp 15), type := 40, pos := "law.go:102", after := #[], guard := none }) (v := ?_) rfl (by kernel_rfl) (by kernel_rfl) (by kernel_rfl) (fun _ _ _ h => h) (Or.inl ⟨by rfl, ?_⟩) ?_
    rotate_left
    · (intro w; go_simp; try with_reducible rfl)
    try simp only [Act.put, List.setIfInBounds_toArray, List.set_cons_zero, List.set_cons_succ]
    refine wpAny_take (i := 1) (oi := { dst := some 234, op := Op.move (Operand.tmp 16), type := 40, pos := "law.go:102", after := #[], guard := none }) (v := ?_) rfl (by kernel_rfl) (by kernel_rfl) (by kernel_rfl) (fun _ _ _ h => h) (Or.inl ⟨by rfl, ?_⟩) ?_
    rotate_left
    · (intro w; go_simp; try with_reducible rfl)
    try simp only [Act.put, List.setIfInBounds_toArray, List.set_cons_zero, List.set_cons_succ]
    refine wpAny_ready (rs := [2]) (by kernel_rfl) (by simp) ?_
    refine AllReady.cons (o := { dst := some 235, op := Op.call { callee := Callee.value (Operand.func 26), args := #[Operand.tmp 233, Operand.tmp 234], argTypes := #[40, 40] }, type := 4, pos := "law.go:102", after := #[{ on := 0, ground := Ground.data }, { on := 1, ground := Ground.data }], guard := none }) rfl (fun K hK => ?_) AllReady.nil
    refine step_call_w (by kernel_rfl) 26 #[.slice (some ⟨q5, 0, none⟩) vs.length vs.length, .slice A5 vs.length c5] (by kernel_rfl) C26.out ?_
    rintro e y1 ⟨rfl, C28, C22⟩
    refine ⟨_, rfl, ?_⟩
    refine hK _ _ ?_
    clear hK K
    try simp only [Act.put, List.setIfInBounds_toArray, List.set_cons_zero, List.set_cons_succ]
    refine wpAny_take (i := 3) (oi := { dst := some 236, op := Op.move (Operand.tmp 235), type := 4, pos := "law.go:102", after := #[{ on := 2, ground := Ground.data }, { on := 2, ground := Ground.chain }], guard := none }) (v := ?_) rfl (by kernel_rfl) (by kernel_rfl) (by kernel_rfl) (fun _ _ _ h => h) (Or.inl ⟨by rfl, ?_⟩) ?_
    rotate_left
    · (intro w; go_simp; try with_reducible rfl)
    try simp only [Act.put, List.setIfInBounds_toArray, List.set_cons_zero, List.set_cons_succ]
    refine wpAny_take (i := 4) (oi := { dst := some 237, op := Op.move (Operand.tmp 5), type := 32, pos := "law.go:102", after := #[{ on := 3, ground := Ground.guard }], guard := some (3, true) }) (v := ?_) rfl (by kernel_rfl) (by kernel_rfl) (by kernel_rfl) (fun _ _ _ h => h) (Or.inl ⟨by rfl, ?_⟩) ?_
    rotate_left
    · (intro w; go_simp; try with_reducible rfl)
    try simp only [Act.put, List.setIfInBounds_toArray, List.set_cons_zero, List.set_cons_succ]
    refine wpAny_take (i := 5) (oi := { dst := some 238, op := Op.binOp BinOp.eql 32 (Operand.tmp 237) (Operand.const (Value.int IntKind.i64 0)) 32, type := 4, pos := "law.go:102", after := #[{ on := 4, ground := Ground.data }, { on := 3, ground := Ground.guard }], guard := some (3, true) }) (v := ?_) rfl (by kernel_rfl) (by kernel_rfl) (by kernel_rfl) (fun _ _ _ h => h) (Or.inl ⟨by rfl, ?_⟩) ?_
    rotate_left
    · (intro w; go_simp; try with_reducible rfl)
    try simp only [Act.put, List.setIfInBounds_toArray, List.set_cons_zero, List.set_cons_succ]
    refine wpAny_take (i := 6) (oi := { dst := some 239, op := Op.pick (Operand.tmp 236) (Operand.tmp 238) (Operand.const (Value.bool false)), type := 4, pos := "law.go:102", after := #[{ on := 3, ground := Ground.data }, { on := 5, ground := Ground.data }], guard := none }) (v := ?_) rfl (by kernel_rfl) (by kernel_rfl) (by kernel_rfl) (fun _ _ _ h => h) (Or.inl ⟨by rfl, ?_⟩) ?_
    rotate_left
    · (intro w; go_simp; try with_reducible rfl)
    try simp only [Act.put, List.setIfInBounds_toArray, List.set_cons_zero, List.set_cons_succ]
    refine wpAny_take (i := 7) (oi := { dst := some 240, op := Op.move (Operand.tmp 239), type := 4, pos := "law.go:102", after := #[{ on := 6, ground := Ground.data }, { on := 3, ground := Ground.chain }], guard := none }) (v := ?_) rfl (by kernel_rfl) (by kernel_rfl) (by kernel_rfl) (fun _ _ _ h => h) (Or.inl ⟨by rfl, ?_⟩) ?_
    rotate_left
    · (intro w; go_simp; try with_reducible rfl)
    try simp only [Act.put, List.setIfInBounds_toArray, List.set_cons_zero, List.set_cons_succ]
    refine wpAny_take (i := 8) (oi := { dst := some 241, op := Op.move (Operand.tmp 4), type := 23, pos := "law.go:102", after := #[{ on := 7, ground := Ground.guard }], guard := some (7, true) }) (v := ?_) rfl (by kernel_rfl) (by kernel_rfl) (by kernel_rfl) (fun _ _ _ h => h) (Or.inl ⟨by rfl, ?_⟩) ?_
    rotate_left
    · (intro w; go_simp; try with_reducible rfl)
    try simp only [Act.put, List.setIfInBounds_toArray, List.set_cons_zero, List.set_cons_succ]
    refine wpAny_take (i := 9) (oi := { dst := some 242, op := Op.move (Operand.tmp 0), type := 23, pos := "law.go:102", after := #[{ on := 7, ground := Ground.guard }], guard := some (7, true) }) (v := ?_) rfl (by kernel_rfl) (by kernel_rfl) (by kernel_rfl) (fun _ _ _ h => h) (Or.inl ⟨by rfl, ?_⟩) ?_
    rotate_left
    · (intro w; go_simp; try with_reducible rfl)
    try simp only [Act.put, List.setIfInBounds_toArray, List.set_cons_zero, List.set_cons_succ]
    refine wpAny_take (i := 10) (oi := { dst := some 243, op := Op.move (Operand.tmp 7), type := 3, pos := "law.go:102", after := #[{ on := 7, ground := Ground.guard }], guard := some (7, true) }) (v := ?_) rfl (by kernel_rfl) (by kernel_rfl) (by kernel_rfl) (fun _ _ _ h => h) (Or.inl ⟨by rfl, ?_⟩) ?_
    rotate_left
    · (intro w; go_simp; try with_reducible rfl)
    try simp only [Act.put, List.setIfInBounds_toArray, List.set_cons_zero, List.set_cons_succ]
    refine wpAny_ready (rs := [11]) (by kernel_rfl) (by simp) ?_
    refine AllReady.cons (o := { dst := some 244, op := Op.call { callee := Callee.value (Operand.func 28), args := #[Operand.tmp 241, Operand.tmp 242, Operand.tmp 243], argTypes := #[23, 23, 3] }, type := 4, pos := "law.go:102", after := #[{ on := 8, ground := Ground.data }, { on := 9, ground := Ground.data }, { on := 10, ground := Ground.data }, { on := 7, ground := Ground.chain }, { on := 7, ground := Ground.guard }], guard := some (7, true) }) rfl (fun K hK => ?_) AllReady.nil
    refine step_call_w (by kernel_rfl) 28 #[.slice X (l.length - Q) cx, .slice B l.length c, .int .i64 (Q : Nat)] (by kernel_rfl) C28.out ?_
    rintro e y2 ⟨rfl, rfl⟩
    refine ⟨_, rfl, ?_⟩
    refine hK _ _ ?_
    clear hK K
    try simp only [Act.put, List.setIfInBounds_toArray, List.set_cons_zero, List.set_cons_succ]
    refine wpAny_take (i := 12) (oi := { dst := some 245, op := Op.pick (Operand.tmp 240) (Operand.tmp 244) (Operand.const (Value.bool false)), type := 4, pos := "law.go:102", after := #[{ on := 7, ground := Ground.data }, { on := 11, ground := Ground.data }], guard := none }) (v := ?_) rfl (by kernel_rfl) (by kernel_rfl) (by kernel_rfl) (fun _ _ _ h => h) (Or.inl ⟨by rfl, ?_⟩) ?_
    rotate_left
    · (intro w; go_simp; try with_reducible rfl)
    try simp only [Act.put, List.setIfInBounds_toArray, List.set_cons_zero, List.set_cons_succ]
    refine wpAny_take (i := 13) (oi := { dst := some 246, op := Op.move (Operand.tmp 245), type := 4, pos := "law.go:102", after := #[{ on := 12, ground := Ground.data }, { on := 11, ground := Ground.chain }], guard := none }) (v := ?_) rfl (by kernel_rfl) (by kernel_rfl) (by kernel_rfl) (fun _ _ _ h => h) (Or.inl ⟨by rfl, ?_⟩) ?_
    rotate_left
    · (intro w; go_simp; try with_reducible rfl)
    try simp only [Act.put, List.setIfInBounds_toArray, List.set_cons_zero, List.set_cons_succ]
    refine wpAny_take (i := 14) (oi := { dst := some 247, op := Op.move (Operand.tmp 15), type := 40, pos := "law.go:102", after := #[{ on := 13, ground := Ground.guard }], guard := some (13, true) }) (v := ?_) rfl (by kernel_rfl) (by kernel_rfl) (by kernel_rfl) (fun _ _ _ h => h) (Or.inl ⟨by rfl, ?_⟩) ?_
    rotate_left
    · (intro w; go_simp; try with_reducible rfl)
    try simp only [Act.put, List.setIfInBounds_toArray, List.set_cons_zero, List.set_cons_succ]
    refine wpAny_take (i := 16) (oi := { dst := some 249, op := Op.move (Operand.tmp 0), type := 23, pos := "law.go:102", after := #[{ on := 13, ground := Ground.guard }], guard := some (13, true) }) (v := ?_) rfl (by kernel_rfl) (by kernel_rfl) (by kernel_rfl) (fun _ _ _ h => h) (Or.inl ⟨by rfl, ?_⟩) ?_
    rotate_left
    · (intro w; go_simp; try with_reducible rfl)
    try simp only [Act.put, List.setIfInBounds_toArray, List.set_cons_zero, List.set_cons_succ]
    refine wpAny_take (i := 17) (oi := { dst := some 250, op := Op.move (Operand.tmp 7), type := 3, pos := "law.go:102", after := #[{ on := 13, ground := Ground.guard }], guard := some (13, true) }) (v := ?_) rfl (by kernel_rfl) (by kernel_rfl) (by kernel_rfl) (fun _ _ _ h => h) (Or.inl ⟨by rfl, ?_⟩) ?_
    rotate_left
    · (intro w; go_simp; try with_reducible rfl)
    try simp only [Act.put, List.setIfInBounds_toArray, List.set_cons_zero, List.set_cons_succ]
    refine wpAny_take (i := 18) (oi := { dst := some 251, op := Op.slice 23 (Operand.tmp 249) none (some (Operand.tmp 250)) none, type := 23, pos := "law.go:102", after := #[{ on := 16, ground := Ground.data }, { on := 17, ground := Ground.data }, { on := 13, ground := Ground.guard }], guard := some (13, true) }) (v := ?_) rfl (by kernel_rfl) (by kernel_rfl) (by kernel_rfl) (fun _ _ _ h => h) (Or.inl ⟨by rfl, ?_⟩) ?_
    rotate_left
    · (intro w; go_simp; try with_reducible rfl)
    try simp only [Act.put, List.setIfInBounds_toArray, List.set_cons_zero, List.set_cons_succ]
    refine wpAny_ready (rs := [15]) (by kernel_rfl) (by simp) ?_
    refine AllReady.cons (o := { dst := some 248, op := Op.call { callee := Callee.value (Operand.func 22), args := #[Operand.const (Value.slice none 0 0), Operand.tmp 247], argTypes := #[23, 40] }, type := 23, pos := "law.go:102", after := #[{ on := 14, ground := Ground.data }, { on := 13, ground := Ground.chain }, { on := 13, ground := Ground.guard }], guard := some (13, true) }) rfl (fun K hK => ?_) AllReady.nil
    refine step_call_w (by kernel_rfl) 22 #[.slice none 0 0, .slice (some ⟨q5, 0, none⟩) vs.length vs.length] (by kernel_rfl) C22.out ?_
    rintro e y3 ⟨v3, rfl, C14⟩
    refine ⟨_, rfl, ?_⟩
    refine hK _ _ ?_
    clear hK K
    try simp only [Act.put, List.setIfInBounds_toArray, List.set_cons_zero, List.set_cons_succ]
    refine wpAny_ready (rs := [19]) (by kernel_rfl) (by simp) ?_
    refine AllReady.cons (o := { dst := some 252, op := Op.call { callee := Callee.value (Operand.func 14), args := #[Operand.tmp 248, Operand.tmp 251], argTypes := #[23, 23] }, type := 4, pos := "law.go:102", after := #[{ on := 15, ground := Ground.data }, { on := 18, ground := Ground.data }, { on := 15, ground := Ground.chain }, { on := 13, ground := Ground.guard }], guard := some (13, true) }) rfl (fun K hK => ?_) AllReady.nil
    refine step_call_w (by kernel_rfl) 14 #[v3, .slice B Q c] (by kernel_rfl) C14.out ?_
    rintro e y4 ⟨rfl, FIN⟩
    refine ⟨_, rfl, ?_⟩
    refine hK _ _ ?_
    clear hK K
    try simp only [Act.put, List.setIfInBounds_toArray, List.set_cons_zero, List.set_cons_succ]
    refine wpAny_take (i := 20) (oi := { dst := some 253, op := Op.pick (Operand.tmp 246) (Operand.tmp 252) (Operand.const (Value.bool false)), type := 4, pos := "law.go:102", after := #[{ on := 13, ground := Ground.data }, { on := 19, ground := Ground.data }], guard := none }) (v := ?_) rfl (by kernel_rfl) (by kernel_rfl) (by kernel_rfl) (fun _ _ _ h => h) (Or.inl ⟨by rfl, ?_⟩) ?_
    rotate_left
    · (intro w; go_simp; try with_reducible rfl)
    try simp only [Act.put, List.setIfInBounds_toArray, List.set_cons_zero, List.set_cons_succ]
    refine wpAny_take (i := 21) (oi := { dst := some 2, op := Op.assign (Operand.tmp 253), type := 4, pos := "law.go:102", after := #[{ on := 20, ground := Ground.data }, { on := 19, ground := Ground.chain }, { on := 0, ground := Ground.phase }, { on := 1, ground := Ground.phase }, { on := 2, ground := Ground.phase }, { on := 3, ground := Ground.phase }, { on := 4, ground := Ground.phase }, { on := 5, ground := Ground.phase }, { on := 6, ground := Ground.phase }, { on := 7, ground := Ground.phase }, { on := 8, ground := Ground.phase }, { on := 9, ground := Ground.phase }, { on := 10, ground := Ground.phase }, { on := 11, ground := Ground.phase }, { on := 12, ground := Ground.phase }, { on := 13, ground := Ground.phase }, { on := 14, ground := Ground.phase }, { on := 15, ground := Ground.phase }, { on := 16, ground := Ground.phase }, { on := 17, ground := Ground.phase }, { on := 18, ground := Ground.phase }, { on := 19, ground := Ground.phase }, { on := 20, ground := Ground.phase }], guard := none }) (v := ?_) rfl (by kernel_rfl) (by kernel_rfl) (by kernel_rfl) (fun _ _ _ h => h) (Or.inl ⟨by rfl, ?_⟩) ?_
    rotate_left
    · (intro w; go_simp; try with_reducible rfl)
    try simp only [Act.put, List.setIfInBounds_toArray, List.set_cons_zero, List.set_cons_succ]
    refine wpAny_done (by kernel_rfl) ?_ _
    go_wp2_with fail
    go_ret
    exact ⟨rfl, FIN.out⟩
end Go.Proofs.Ytmpiknaoocflcaa
