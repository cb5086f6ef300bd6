/- PackGets: the reading of a whole number, and what follows. -/
import Derived.Test.YtmpiknaoocflcaaC3C
namespace Go.Proofs.Ytmpiknaoocflcaa
open Go.RowKit

attribute [local go_sem ↓] Val.neqVal in
set_option maxRecDepth 100000 in
set_option maxHeartbeats 100000000 in
theorem gets2 (B : Option Addr) (c : Nat) (l : List UInt8) (w wc1 : World) (HB : Hid (Holds w B l)) (HC : Hid (l.length ≤ c)) (C1 : Hid (Below w.heap.size w wc1)) (hx : l.length ≤ 3000) {u1 u2 u3 u4 u5 u6 u7 u8 u9 u10 u11 u12 u13 u14 u15 u16 u17 u18 u19 u20 u21 u22 u23 u24 u25 u26 u27 u28 u29 u30 u31 u32 u33 u34 u35 u36 u37 u38 u39 u40 u41 u42 u43 u44 u45 u46 u47 u48 u49 u50 u51 u52 u53 u54 u55 u56 u57 u58 u59 u60 u61 u62 u63 u64 u65 u66 u67 u68 u69 u70 u71 u72 u73 u74 u75 u76 u77 u78 u79 u80 u81 u82 u83 u84 u85 u86 u87 u88 u89 u90 u91 u92 u93 u94 u95 u96 u97 u98 u99 u100 u101 u102 u103 u104 u105 u106 u107 u108 u109 u110 u111 u112 u113 u114 u115 u116 u117 u118 u119 u120 u121 u122 u123 u124 u125 u126 u127 u128 u129 u130 u131 u132 u133 u134 u135 u136 u137 u138 u139 u140 u141 u142 u143 u144 u145 u146 u147 u148 u149 u150 u151 u152 u153 u154 u155 u156 u157 u158 u159 u160 u161 u162 u163 u164 u165 u166 u167 u168 u169 u170 u171 u172 u173 u174 u175 u176 u177 u178 u179 u180 u181 u182 u183 u184 u185 u186 u187 u188 u189 u190 u191 u192 u193 u194 u195 u196 u197 u198 u199 u200 u201 u202 u203 u204 u205 u206 u207 u208 u209 u210 u211 u212 u213 u214 u215 u216 u217 u218 u219 u220 u221 u222 u223 u224 u225 u226 u227 u228 u229 u230 u231 u232 u233 u234 u235 u236 u237 u238 u239 u240 u241 u242 u243 u244 u245 u246 u247 u248 u249 u250 u251 u252 u253 : Value} :
    (seqTail 6 (codeOf Try.f5)).wp Try.prog (bodyPost Try.prog Try.f5 fun e w' => e = .returned (.bool true) ∧ Below w.heap.size w w') { tmps := #[.slice B l.length c, u1, u2, u3, u4, u5, u6, u7, u8, u9, u10, u11, u12, u13, u14, u15, u16, u17, u18, u19, u20, u21, u22, u23, u24, u25, u26, u27, u28, u29, u30, u31, u32, u33, u34, u35, u36, u37, u38, u39, u40, u41, u42, u43, u44, u45, u46, u47, u48, u49, u50, u51, u52, u53, u54, u55, u56, u57, u58, u59, u60, u61, u62, u63, u64, u65, u66, u67, u68, u69, u70, u71, u72, u73, u74, u75, u76, u77, u78, u79, u80, u81, u82, u83, u84, u85, u86, u87, u88, u89, u90, u91, u92, u93, u94, u95, u96, u97, u98, u99, u100, u101, u102, u103, u104, u105, u106, u107, u108, u109, u110, u111, u112, u113, u114, u115, u116, u117, u118, u119, u120, u121, u122, u123, u124, u125, u126, u127, u128, u129, u130, u131, u132, u133, u134, u135, u136, u137, u138, u139, u140, u141, u142, u143, u144, u145, u146, u147, u148, u149, u150, u151, u152, u153, u154, u155, u156, u157, u158, u159, u160, u161, u162, u163, u164, u165, u166, u167, u168, u169, u170, u171, u172, u173, u174, u175, u176, u177, u178, u179, u180, u181, u182, u183, u184, u185, u186, u187, u188, u189, u190, u191, u192, u193, u194, u195, u196, u197, u198, u199, u200, u201, u202, u203, u204, u205, u206, u207, u208, u209, u210, u211, u212, u213, u214, u215, u216, u217, u218, u219, u220, u221, u222, u223, u224, u225, u226, u227, u228, u229, u230, u231, u232, u233, u234, u235, u236, u237, u238, u239, u240, u241, u242, u243, u244, u245, u246, u247, u248, u249, u250, u251, u252, u253], defers := [] } wc1 := by
  change Code.wp _ (Code.seq _ _) _ _ _
  have G2 := Lib.hid (get_int B c l wc1 (HB.out.below C1.out) HC.out (by omega))
  go_wp2_with fail
  refine G2.out.mono ?_
  rintro e v2 hg
  obtain ⟨hb, a, v, cc, rfl, hm⟩ := hg.flat
  have D2 := Lib.hid (below_next C1.out hb)
  have HM2 := Lib.hid hm
  have RG := refGetInt B c l 0 v2 (HB.out.below D2.out) (by omega) (Nat.zero_le _)
  rw [List.drop_zero] at RG
  replace RG := Lib.hid RG
  clear hb hm hg G2
  go_wp2_with fail
  refine RG.out.mono ?_
  rintro e x2 ⟨he, k, rfl⟩
  have E2 := Lib.hid (below_drewN D2.out k)
  have HO2 : Hid (∀ v l', Row v2 wc1.heap.size v l' → Row (v2.drewN k) wc1.heap.size v l') := Lib.hid (fun v l' h => h.below (below_drewN (Below.refl _ _) k))
  obtain ⟨a', p', o', hp, hm'⟩ := placed_flat l.length (wholeOf l) (fun x => .int .i64 x) (.int .i64 0)
  rw [hp] at he
  subst he
  have HP2 := Lib.hid hm'
  clear hp hm' RG
  go_upto_region 11 with fail
  go_cut [113] from 80 to 113 (fun sT wq => sT = .bool false ∧ Below w.heap.size w wq)
  case first =>
    have hm := HM2.out
    have hp := HP2.out
    cases hq : wholeOf l with
    | none =>
      rw [hq] at hm hp
      rcases hm with ⟨_, _, h, _⟩ | ⟨-, rfl, rfl, rfl⟩
      · cases h
      rcases hp with ⟨_, _, h, _⟩ | ⟨-, rfl, rfl, rfl⟩
      · cases h
      clear hq HM2 HP2
      go_wp2_with fail
      go_meet
      case rel => exact ⟨rfl, E2.out⟩
    | some q =>
      obtain ⟨x, l'⟩ := q
      rw [hq] at hm hp
      rcases hm with ⟨_, _, h, rfl, rfl, hr⟩ | ⟨h, _⟩
      rotate_left
      · cases h
      cases h
      rcases hp with ⟨_, _, h, rfl, rfl, rfl⟩ | ⟨h, _⟩
      rotate_left
      · cases h
      cases h
      obtain ⟨Q, hQ, rfl, hl⟩ := whole_left hq
      obtain ⟨X, cx, rfl, hX, hcx, -⟩ := (HO2.out _ _ hr).shape
      have RS := rest_same X B cx c l Q _ hX (HB.out.below E2.out) HC.out hQ hx
      generalize (l.drop Q).length = m at *
      subst hl
      replace RS := Lib.hid RS
      clear hq HM2 HP2 hr hX hcx hQ HO2
      go_wp2_with fail
      refine RS.out.mono ?_
      rintro e y ⟨rfl, rfl⟩
      go_wp2_with fail
      go_meet
      case rel => exact ⟨rfl, E2.out⟩
  case rest =>
  obtain ⟨rfl, hb⟩ := hcut
  have C2 := Lib.hid hb
  clear hb HM2 HP2 HO2 E2 D2
  rename World => wc2
  go_step
  go_step
  go_step
  go_step
  go_step
  exact gets3 B c l w wc2 HB HC C2 hx
end Go.Proofs.Ytmpiknaoocflcaa
