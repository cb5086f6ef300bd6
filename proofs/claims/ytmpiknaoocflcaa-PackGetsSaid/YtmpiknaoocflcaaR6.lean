/- The chapter's example; PackNumbers walked. -/
import Derived.Test.YtmpiknaoocflcaaR5
namespace Go.Proofs.Ytmpiknaoocflcaa
open Go.RowKit

theorem grp300 : grp 300 = [172, 2] := by rw [grp_more (by omega), grp_small (by omega)]; rfl
set_option maxRecDepth 100000 in
theorem awake_any (w : World) : Calls Try.prog 7 #[] w fun e w' => e = .returned (.bool true) ∧ Below w.heap.size w w' := by
  have U := Lib.hid (Uint_any none 0 300 (by omega) [] w (Holds.nil _ _) (Nat.le_refl _) (by simp))
  go_enter Try.func7, Try.ntmps7
  go_wp2_with fail
  refine U.out.mono ?_
  rintro e w1 ⟨v, rfl, hr, hb⟩
  rw [List.nil_append, grp300] at hr
  obtain ⟨A, c, rfl, hh, -, -⟩ := hr.shape
  obtain ⟨g, o, rfl, _, k0⟩ := hh 0 (by simp)
  obtain ⟨g', o', e1, _, k1⟩ := hh 1 (by simp)
  cases e1
  simp only [List.getElem_cons_zero, List.getElem_cons_succ, Nat.add_zero] at k0 k1
  have e0 : ((172 : UInt8).toNat : Int) = 172 := by decide
  have e1 : ((2 : UInt8).toNat : Int) = 2 := by decide
  rw [e0] at k0
  rw [e1] at k1
  clear hr hh e0 e1
  go_wp2_with fail
  go_ret
  exact ⟨rfl, hb⟩

theorem wpList_append_want {P : Program} (w : World) {ops : Array Oper} {rest : List Oper} {o : Oper} {a : Act} {Q : Exit → Act → World → Prop} (hw : Region.wanted o (yielded ops a.tmps) = true) (s x : Operand) (t tn : TypeId)
    (ho : o.op = .call { callee := .builtin .append, args := #[s, x], argTypes := #[t, tn] }) (vs vx : Value) (hs : a.eval s = vs) (hx : a.eval x = vx)
    {v' : Value} {w' : World} (hr : (Builtin.append_ #[t, tn] o.type #[vs, vx]).run P w = .ok v' w') (h : wpList P ops Q rest (a.put o.dst v') w') : wpList P ops Q (o :: rest) a w :=
  BigFrame.wpList_want hw fun _ hK => by
    unfold Oper.wp
    simp [execOp, ho, resolve, invoke, builtin, hs, hx, hr, Result.andThen]
    exact hK _ _ h
/-- to make the walk stand still. -/
def Held (p : Prop) : Prop := p
theorem Held.go {p : Prop} (h : Held p) : p := h
/-- append([]byte{}, ..): a copy. -/
theorem fresh_copy {W : World} {A : Option Addr} {l : List UInt8} (h : Holds W A l) (c : Nat) (hl : l.length ≤ 100000) :
    ∃ v' w', Sem.run Try.prog (Builtin.append_ #[23, 23] 23 #[.slice (some ⟨W.heap.size, 0, none⟩) 0 0, .slice A l.length c]) (W.alloc (.cells #[] 5)) = .ok v' w' ∧ Row w' W.heap.size v' l ∧ Below W.heap.size W w' := by
  have row0 : Row (W.alloc (.cells #[] 5)) W.heap.size (.slice (some ⟨W.heap.size, 0, none⟩) 0 0) [] := ⟨rfl, .inr ⟨W.heap.size, 0, #[], rfl, Nat.le_refl _, heap_alloc_new W _, Nat.le_refl _, Nat.zero_le _, rfl, rfl⟩⟩
  have bal : Below W.heap.size W (W.alloc (.cells #[] 5)) := (Below.refl _ _).alloc (Nat.le_refl _) _
  obtain ⟨v', w', hr, r, g, -⟩ := append_bytes row0 A c l (h.below bal) (by simp; omega) bal.size
  exact ⟨v', w', hr, r, below_grown bal g row0.block⟩
/-- a row further up does not turn. -/
theorem Row.apart {w w' : World} {base : Nat} {v : Value} {l : List UInt8} {o : Option Nat} (h : Row w base v l) (hg : w.grownBy w' o) (ho : ∀ k, o = some k → k < base) : Row w' base v l := by
  obtain ⟨h1, h2⟩ := h
  refine ⟨h1, h2.imp id ?_⟩
  rintro ⟨g, cap, cur, hv, hb, hh, r⟩
  refine ⟨g, cap, cur, hv, hb, ?_, r⟩
  rw [hg.block g (Array.getElem?_eq_some_iff.1 hh).1 (fun e => by have := ho g e.symm; omega)]
  exact hh
theorem row_holds {w : World} {base n c : Nat} {A : Option Addr} {l : List UInt8} (h : Row w base (.slice A n c) l) : Holds w A l := by
  obtain ⟨A', c', e, hh, -⟩ := h.shape
  cases e
  exact hh
theorem same_self (A B : Option Addr) (c d : Nat) (a : List UInt8) (w : World) (ha : Holds w A a) (hb : Holds w B a) :
    Calls Try.prog 14 #[.slice A a.length c, .slice B a.length d] w fun r w' => r = .returned (.bool true) ∧ w = w' := by
  refine (same_any A B c d a a w ha hb).mono ?_
  rintro r w' ⟨rfl, rfl⟩
  exact ⟨by simp, rfl⟩
theorem Row.lt {w : World} {base : Nat} {v : Value} {l : List UInt8} (h : Row w base v l) : ∀ k, v.ownBlock = some k → k < w.heap.size := by
  rcases h.2 with ⟨rfl, _⟩ | ⟨g, cap, cur, rfl, hb, hh, _⟩
  · intro k e; simp [Value.ownBlock] at e
  · intro k e
    simp [Value.ownBlock] at e
    subst e
    exact (Array.getElem?_eq_some_iff.1 hh).1

set_option maxRecDepth 100000 in
set_option maxHeartbeats 4000000 in
theorem packNumbers_any (n : Nat) (hn : n < 18446744073709551616) (k : Int) (hk1 : -9223372036854775808 ≤ k) (hk2 : k ≤ 9223372036854775807) (s : ByteArray) (hs : s.size ≤ 1000) (A3 : Option Addr) (c3 : Nat) (h : List UInt8) (A4 : Option Addr) (c4 : Nat) (t : List UInt8) (w : World)
    (hh : Holds w A3 h) (ht : Holds w A4 t) (hl3 : h.length ≤ 1000) (hl4 : t.length ≤ 1000) :
    Calls Try.prog 3 #[.int .u64 n, .int .i64 k, .string s, .slice A3 h.length c3, .slice A4 t.length c4] w fun e w' => e = .returned (.bool true) ∧ Below w.heap.size w w' := by
  have H3 := Lib.hid hh
  have H4 := Lib.hid ht
  clear hh ht
  have q1 : ¬ (1000 : Int) < (s.size : Int) := by omega
  have q2 : ¬ (1000 : Int) < (h.length : Int) := by omega
  have q3 : ¬ (1000 : Int) < (t.length : Int) := by omega
  have HGU := Lib.hid (numOf_grp n hn t)
  have HGI := Lib.hid (wholeOf_grp k hk1 hk2 t)
  have HGT := Lib.hid (textOf_txt 65536 s (by omega) (by omega) t)
  have lu : (grp n).length ≤ 10 := grp_ten hn
  have li : (grp (zig k)).length ≤ 10 := grp_ten (zig_lt hk1 hk2)
  have lt' : (txt s).length ≤ 1010 := by
    have h1 : (grp s.size).length ≤ 10 := grp_ten (by omega)
    have h2 : s.data.toList.length = s.size := Array.length_toList
    unfold txt
    rw [List.length_append]
    omega
  have KU := Lib.hid fun (A : Option Addr) (c : Nat) (W : World) (hW : Holds W A h) (hc : h.length ≤ c) => Uint_any A c n hn h W hW hc (by omega)
  have KI := Lib.hid fun (A : Option Addr) (c : Nat) (W : World) (hW : Holds W A h) (hc : h.length ≤ c) => Int_any A c k hk1 hk2 h W hW hc (by omega)
  have KT := Lib.hid fun (A : Option Addr) (c : Nat) (W : World) (hW : Holds W A h) (hc : h.length ≤ c) => Text_any A c s (by omega) h W hW hc (by omega)
  have RU := Lib.hid fun (W : World) => refUint n hn W
  have RI := Lib.hid fun (W : World) => refInt k hk1 hk2 W
  have RT := Lib.hid fun (W : World) => refText s (by omega) W
  generalize hgu : grp n = gu at *
  generalize hgi : grp (zig k) = gi at *
  generalize hgt : txt s = gt at *
  clear hgu hgi hgt
  go_enter Try.func3, Try.ntmps3
  go_wp2_with fail
  refine (awake_any _).mono ?_
  rintro e w1 ⟨rfl, b1⟩
  have B1 := Lib.hid b1
  clear b1
  obtain ⟨v2, w2, hr2, r2, b2⟩ := fresh_copy (H3.out.below B1.out) c3 (by omega)
  have HR2 := Lib.hid hr2
  obtain ⟨A2, c2, e2, h2, l2, -⟩ := r2.shape
  subst e2
  have H2 := Lib.hid h2
  have B2 := Lib.hid (below_next B1.out b2)
  clear hr2 r2 h2 b2
  go_wp2_with (at_builtin; refine Held.go ?_)
  unfold Held
  refine Lib.wpList_append_run _ rfl (.tmp 42) (.tmp 43) 23 23 rfl _ _ rfl rfl _ _ HR2.out ?_
  have C0 := Lib.hid (Below.refl w2.heap.size w2)
  obtain ⟨va, ya, hr, r, b⟩ := fresh_copy (H2.out.below C0.out) c2 (by omega)
  have HR := Lib.hid hr
  obtain ⟨Aa, ca, e, hq, lq, -⟩ := r.shape
  subst e
  have HQ := Lib.hid hq
  have Caa := Lib.hid (below_next C0.out b)
  clear hr r hq b
  go_wp2_with (at_builtin; refine Held.go ?_)
  unfold Held
  refine Lib.wpList_append_run _ rfl (.tmp 45) (.tmp 46) 23 23 rfl _ _ rfl rfl _ _ HR.out ?_
  go_wp2_with fail
  refine (KU.out Aa ca _ HQ.out lq).mono ?_
  rintro e za ⟨xa, rfl, hr, b⟩
  have Pa0 := Lib.hid hr
  have Ca := Lib.hid (below_next Caa.out b)
  clear hr b HR HQ Caa C0
  have Pa := Pa0
  clear Pa0
  obtain ⟨vb, yb, hr, r, b⟩ := fresh_copy (H2.out.below Ca.out) c2 (by omega)
  have HR := Lib.hid hr
  obtain ⟨Ab, cb, e, hq, lq, -⟩ := r.shape
  subst e
  have HQ := Lib.hid hq
  have Cba := Lib.hid (below_next Ca.out b)
  have Nab := Lib.hid (Pa.out.below b)
  clear hr r hq b
  go_wp2_with (at_builtin; refine Held.go ?_)
  unfold Held
  refine Lib.wpList_append_run _ rfl (.tmp 50) (.tmp 51) 23 23 rfl _ _ rfl rfl _ _ HR.out ?_
  go_wp2_with fail
  refine (KI.out Ab cb _ HQ.out lq).mono ?_
  rintro e zb ⟨xb, rfl, hr, b⟩
  have Pb0 := Lib.hid hr
  have Cb := Lib.hid (below_next Cba.out b)
  have Pa' := Lib.hid (Nab.out.below b)
  clear hr b HR HQ Cba Ca Pa Nab
  have Pa := Pa'
  clear Pa'
  have Pb := Pb0
  clear Pb0
  obtain ⟨vc, yc, hr, r, b⟩ := fresh_copy (H2.out.below Cb.out) c2 (by omega)
  have HR := Lib.hid hr
  obtain ⟨Ac, cc, e, hq, lq, -⟩ := r.shape
  subst e
  have HQ := Lib.hid hq
  have Cca := Lib.hid (below_next Cb.out b)
  have Nac := Lib.hid (Pa.out.below b)
  have Nbc := Lib.hid (Pb.out.below b)
  clear hr r hq b
  go_wp2_with (at_builtin; refine Held.go ?_)
  unfold Held
  refine Lib.wpList_append_run _ rfl (.tmp 55) (.tmp 56) 23 23 rfl _ _ rfl rfl _ _ HR.out ?_
  go_wp2_with fail
  refine (KT.out Ac cc _ HQ.out lq).mono ?_
  rintro e zc ⟨xc, rfl, hr, b⟩
  have Pc0 := Lib.hid hr
  have Cc := Lib.hid (below_next Cca.out b)
  have Pa' := Lib.hid (Nac.out.below b)
  have Pb' := Lib.hid (Nbc.out.below b)
  clear hr b HR HQ Cca Cb Pa Nac Pb Nbc
  have Pa := Pa'
  clear Pa'
  have Pb := Pb'
  clear Pb'
  have Pc := Pc0
  clear Pc0
  obtain ⟨Da, da, ea, -, -, -⟩ := Pa.out.shape
  subst ea
  obtain ⟨Db, db, eb, -, -, -⟩ := Pb.out.shape
  subst eb
  obtain ⟨Dc, dc, ec, -, -, -⟩ := Pc.out.shape
  subst ec
  go_wp2_with fail
  refine (RU.out _).mono ?_
  rintro e zu ⟨xu, rfl, hr, b⟩
  have LEC0 := Cc.out.size
  have ZCU0 := b.size
  have Pu0 := Lib.hid hr
  have Cu := Lib.hid (below_next Cc.out b)
  have Pa' := Lib.hid (Pa.out.below b)
  have Pb' := Lib.hid (Pb.out.below b)
  have Pc' := Lib.hid (Pc.out.below b)
  clear hr b Cc Pa Pb Pc
  have Pa := Pa'
  clear Pa'
  have Pb := Pb'
  clear Pb'
  have Pc := Pc'
  clear Pc'
  have Pu := Pu0
  clear Pu0
  obtain ⟨Du, du, eu, -, -, -⟩ := Pu.out.shape
  subst eu
  have LTu0 := Lib.hid Pu.out.lt
  have LEC := Lib.hid LEC0
  have ZCU := Lib.hid ZCU0
  clear LEC0 ZCU0
  go_wp2_with fail
  refine (RI.out _).mono ?_
  rintro e zi ⟨xi, rfl, hr, b⟩
  have ZUI := Lib.hid b.size
  have Pi0 := Lib.hid hr
  have Ci := Lib.hid (below_next Cu.out b)
  have Pa' := Lib.hid (Pa.out.below b)
  have Pb' := Lib.hid (Pb.out.below b)
  have Pc' := Lib.hid (Pc.out.below b)
  have Pu' := Lib.hid (Pu.out.below b)
  clear hr b Cu Pa Pb Pc Pu
  have Pa := Pa'
  clear Pa'
  have Pb := Pb'
  clear Pb'
  have Pc := Pc'
  clear Pc'
  have Pu := Pu'
  clear Pu'
  have Pi := Pi0
  clear Pi0
  obtain ⟨Di, di, ei, -, -, -⟩ := Pi.out.shape
  subst ei
  have LTi0 := Lib.hid Pi.out.lt
  go_wp2_with fail
  refine (RT.out _).mono ?_
  rintro e zt ⟨xt, rfl, hr, b⟩
  have ZI0 := Lib.hid b.size
  have Pt0 := Lib.hid hr
  have Ct := Lib.hid (below_next Ci.out b)
  have Pa' := Lib.hid (Pa.out.below b)
  have Pb' := Lib.hid (Pb.out.below b)
  have Pc' := Lib.hid (Pc.out.below b)
  have Pu' := Lib.hid (Pu.out.below b)
  have Pi' := Lib.hid (Pi.out.below b)
  clear hr b Ci Pa Pb Pc Pu Pi
  have Pa := Pa'
  clear Pa'
  have Pb := Pb'
  clear Pb'
  have Pc := Pc'
  clear Pc'
  have Pu := Pu'
  clear Pu'
  have Pi := Pi'
  clear Pi'
  have Pt := Pt0
  clear Pt0
  obtain ⟨Dt, dt, et, -, -, -⟩ := Pt.out.shape
  subst et
  have LTu := LTu0
  have LTi := LTi0
  have LTt := Lib.hid Pt.out.lt
  have SZ := Lib.hid (show zt.heap.size ≤ zt.heap.size from Nat.le_refl _)
  have ZI := ZI0
  clear LTu0 LTi0 ZI0
  obtain ⟨v1, y1, hr, r, b⟩ := fresh_copy (H2.out.below Ct.out) c2 (by omega)
  have HR := Lib.hid hr
  obtain ⟨vv, z1, hr2, r2, g2, -⟩ := append_bytes r Du du gu (row_holds (Pu.out.below b)) (by omega) b.size
  have HR2 := Lib.hid hr2
  have b2 := below_grown b g2 r.block
  obtain ⟨F1, f1, e, hq, -, -⟩ := r2.shape
  subst e
  have SS := same_self Da F1 da f1 (h ++ gu) z1 (row_holds (Pa.out.below b2)) hq
  rw [List.length_append] at SS
  have HS := Lib.hid SS
  have C1 := Lib.hid (below_next Ct.out b2)
  have SZ' := Lib.hid (Nat.le_trans SZ.out b2.size)
  have Pa' := Lib.hid (Pa.out.below b2)
  have Pb' := Lib.hid (Pb.out.below b2)
  have Pc' := Lib.hid (Pc.out.below b2)
  have Pu' := Lib.hid (Pu.out.below b2)
  have Pi' := Lib.hid (Pi.out.below b2)
  have Pt' := Lib.hid (Pt.out.below b2)
  clear hr r b hr2 r2 g2 b2 hq SS SZ Ct Pa Pb Pc Pu Pi Pt
  have SZ := SZ'
  clear SZ'
  have Pa := Pa'
  clear Pa'
  have Pb := Pb'
  clear Pb'
  have Pc := Pc'
  clear Pc'
  have Pu := Pu'
  clear Pu'
  have Pi := Pi'
  clear Pi'
  have Pt := Pt'
  clear Pt'
  go_wp2_with (at_builtin; refine Held.go ?_)
  unfold Held
  refine Lib.wpList_append_run _ rfl (.tmp 67) (.tmp 68) 23 23 rfl _ _ rfl rfl _ _ HR.out ?_
  go_wp2_with (at_builtin; refine Held.go ?_)
  unfold Held
  refine Lib.wpList_append_run _ rfl (.tmp 69) (.tmp 70) 23 23 rfl _ _ rfl rfl _ _ HR2.out ?_
  go_wp2_with fail
  refine HS.out.mono ?_
  rintro r w' ⟨rfl, rfl⟩
  clear HR HR2 HS
  obtain ⟨v2, y2, hr, r, b⟩ := fresh_copy (H2.out.below C1.out) c2 (by omega)
  have HR := Lib.hid hr
  obtain ⟨vv, z2, hr2, r2, g2, -⟩ := append_bytes r Di di gi (row_holds (Pi.out.below b)) (by omega) b.size
  have HR2 := Lib.hid hr2
  have b2 := below_grown b g2 r.block
  obtain ⟨F2, f2, e, hq, -, -⟩ := r2.shape
  subst e
  have SS := same_self Db F2 db f2 (h ++ gi) z2 (row_holds (Pb.out.below b2)) hq
  rw [List.length_append] at SS
  have HS := Lib.hid SS
  have C2 := Lib.hid (below_next C1.out b2)
  have SZ' := Lib.hid (Nat.le_trans SZ.out b2.size)
  have Pa' := Lib.hid (Pa.out.below b2)
  have Pb' := Lib.hid (Pb.out.below b2)
  have Pc' := Lib.hid (Pc.out.below b2)
  have Pu' := Lib.hid (Pu.out.below b2)
  have Pi' := Lib.hid (Pi.out.below b2)
  have Pt' := Lib.hid (Pt.out.below b2)
  clear hr r b hr2 r2 g2 b2 hq SS SZ C1 Pa Pb Pc Pu Pi Pt
  have SZ := SZ'
  clear SZ'
  have Pa := Pa'
  clear Pa'
  have Pb := Pb'
  clear Pb'
  have Pc := Pc'
  clear Pc'
  have Pu := Pu'
  clear Pu'
  have Pi := Pi'
  clear Pi'
  have Pt := Pt'
  clear Pt'
  go_wp2_with (at_builtin; refine Held.go ?_)
  unfold Held
  refine wpList_append_want _ ?hw (.tmp 76) (.tmp 77) 23 23 ?ho _ _ ?hs ?hx HR.out ?_
  case hw => kernel_rfl
  case ho => rfl
  case hs => rfl
  case hx => rfl
  go_wp2_with (at_builtin; refine Held.go ?_)
  unfold Held
  refine wpList_append_want _ ?hw (.tmp 78) (.tmp 79) 23 23 ?ho _ _ ?hs ?hx HR2.out ?_
  case hw => kernel_rfl
  case ho => rfl
  case hs => rfl
  case hx => rfl
  go_wp2_with fail
  refine HS.out.mono ?_
  rintro r w' ⟨rfl, rfl⟩
  clear HR HR2 HS
  obtain ⟨v3, y3, hr, r, b⟩ := fresh_copy (H2.out.below C2.out) c2 (by omega)
  have HR := Lib.hid hr
  obtain ⟨vv, z3, hr2, r2, g2, -⟩ := append_bytes r Dt dt gt (row_holds (Pt.out.below b)) (by omega) b.size
  have HR2 := Lib.hid hr2
  have b2 := below_grown b g2 r.block
  obtain ⟨F3, f3, e, hq, -, -⟩ := r2.shape
  subst e
  have SS := same_self Dc F3 dc f3 (h ++ gt) z3 (row_holds (Pc.out.below b2)) hq
  rw [List.length_append] at SS
  have HS := Lib.hid SS
  have C3 := Lib.hid (below_next C2.out b2)
  have SZ' := Lib.hid (Nat.le_trans SZ.out b2.size)
  have Pa' := Lib.hid (Pa.out.below b2)
  have Pb' := Lib.hid (Pb.out.below b2)
  have Pc' := Lib.hid (Pc.out.below b2)
  have Pu' := Lib.hid (Pu.out.below b2)
  have Pi' := Lib.hid (Pi.out.below b2)
  have Pt' := Lib.hid (Pt.out.below b2)
  clear hr r b hr2 r2 g2 b2 hq SS SZ C2 Pa Pb Pc Pu Pi Pt
  have SZ := SZ'
  clear SZ'
  have Pa := Pa'
  clear Pa'
  have Pb := Pb'
  clear Pb'
  have Pc := Pc'
  clear Pc'
  have Pu := Pu'
  clear Pu'
  have Pi := Pi'
  clear Pi'
  have Pt := Pt'
  clear Pt'
  go_wp2_with (at_builtin; refine Held.go ?_)
  unfold Held
  refine wpList_append_want _ ?hw (.tmp 86) (.tmp 87) 23 23 ?ho _ _ ?hs ?hx HR.out ?_
  case hw => kernel_rfl
  case ho => rfl
  case hs => rfl
  case hx => rfl
  go_wp2_with (at_builtin; refine Held.go ?_)
  unfold Held
  refine wpList_append_want _ ?hw (.tmp 88) (.tmp 89) 23 23 ?ho _ _ ?hs ?hx HR2.out ?_
  case hw => kernel_rfl
  case ho => rfl
  case hs => rfl
  case hx => rfl
  go_wp2_with fail
  refine HS.out.mono ?_
  rintro r w' ⟨rfl, rfl⟩
  clear HR HR2 HS
  obtain ⟨vv, yp, hr, r, g2, -⟩ := append_bytes Pu.out A4 c4 t ((H4.out.below B2.out).below C3.out) (by omega) (Nat.le_trans (Nat.le_trans ZCU.out (Nat.le_trans ZUI.out ZI.out)) SZ.out)
  have HR := Lib.hid hr
  have Cpa := Lib.hid (below_grown C3.out g2 (Pu.out.le LEC.out).block)
  have SZa := Lib.hid (Nat.le_trans SZ.out g2.size)
  obtain ⟨Fp, fp, e, hq, lq, -⟩ := r.shape
  subst e
  have hget := get_uint Fp fp (gu ++ t) yp hq lq (by rw [List.length_append]; omega)
  rw [List.length_append, HGU.out] at hget
  have HGET := Lib.hid hget
  have Ni := Lib.hid (Pi.out.apart g2 LTu.out)
  have Nt := Lib.hid (Pt.out.apart g2 (fun k hk => Nat.lt_of_lt_of_le (LTu.out k hk) ZUI.out))
  clear hr r g2 hq hget Pu Pi Pt SZ
  go_wp2_with (at_builtin; refine Held.go ?_)
  unfold Held
  refine Lib.wpList_append_run _ rfl (.tmp 95) (.tmp 96) 23 23 rfl _ _ rfl rfl _ _ HR.out ?_
  go_wp2_with fail
  refine HGET.out.mono ?_
  rintro e zp ⟨b, vp, rfl, hr⟩
  obtain ⟨Gp, gp, ep, -, -, -⟩ := hr.shape
  subst ep
  have SZp := SZa
  have Pp := Lib.hid hr
  have Cp := Lib.hid (below_next Cpa.out b)
  have SZ := Lib.hid (Nat.le_trans SZa.out b.size)
  have Pi := Lib.hid (Ni.out.below b)
  have Pt := Lib.hid (Nt.out.below b)
  clear hr b HR HGET SZa Cpa C3 Ni Nt
  obtain ⟨vv, yq, hr, r, g2, -⟩ := append_bytes Pi.out A4 c4 t ((H4.out.below B2.out).below Cp.out) (by omega) (Nat.le_trans (Nat.le_trans ZUI.out ZI.out) SZ.out)
  have HR := Lib.hid hr
  have Cqa := Lib.hid (below_grown Cp.out g2 (Pi.out.le (Nat.le_trans LEC.out (ZCU.out))).block)
  have SZa := Lib.hid (Nat.le_trans SZ.out g2.size)
  obtain ⟨Fq, fq, e, hq, lq, -⟩ := r.shape
  subst e
  have hget := get_int Fq fq (gi ++ t) yq hq lq (by rw [List.length_append]; omega)
  rw [List.length_append, HGI.out] at hget
  have HGET := Lib.hid hget
  have Nt := Lib.hid (Pt.out.apart g2 LTi.out)
  have Np := Lib.hid (Pp.out.apart g2 (fun k hk => Nat.lt_of_lt_of_le (Nat.lt_of_lt_of_le (LTi.out k hk) ZI.out) SZp.out))
  clear hr r g2 hq hget Pi Pt Pp SZ
  go_wp2_with (at_builtin; refine Held.go ?_)
  unfold Held
  refine Lib.wpList_append_run _ rfl (.tmp 103) (.tmp 104) 23 23 rfl _ _ rfl rfl _ _ HR.out ?_
  go_wp2_with fail
  refine HGET.out.mono ?_
  rintro e zq ⟨b, vq, rfl, hr⟩
  obtain ⟨Gq, gq, eq, -, -, -⟩ := hr.shape
  subst eq
  have SZq := SZa
  have Pq := Lib.hid hr
  have Cq := Lib.hid (below_next Cqa.out b)
  have SZ := Lib.hid (Nat.le_trans SZa.out b.size)
  have Pt := Lib.hid (Nt.out.below b)
  have Pp := Lib.hid (Np.out.below b)
  clear hr b HR HGET SZa Cqa Cp Nt Np
  obtain ⟨vv, ys, hr, r, g2, -⟩ := append_bytes Pt.out A4 c4 t ((H4.out.below B2.out).below Cq.out) (by omega) (Nat.le_trans ZI.out SZ.out)
  have HR := Lib.hid hr
  have Csa := Lib.hid (below_grown Cq.out g2 (Pt.out.le (Nat.le_trans LEC.out (Nat.le_trans ZCU.out ZUI.out))).block)
  have SZa := Lib.hid (Nat.le_trans SZ.out g2.size)
  obtain ⟨Fs, fs, e, hq, lq, -⟩ := r.shape
  subst e
  have hget := get_text Fs fs (gt ++ t) ys hq lq (by rw [List.length_append]; omega)
  rw [List.length_append, HGT.out] at hget
  have HGET := Lib.hid hget
  have Np := Lib.hid (Pp.out.apart g2 (fun k hk => Nat.lt_of_lt_of_le (LTt.out k hk) SZp.out))
  have Nq := Lib.hid (Pq.out.apart g2 (fun k hk => Nat.lt_of_lt_of_le (LTt.out k hk) SZq.out))
  clear hr r g2 hq hget Pt Pp Pq SZ
  go_wp2_with (at_builtin; refine Held.go ?_)
  unfold Held
  refine Lib.wpList_append_run _ rfl (.tmp 111) (.tmp 112) 23 23 rfl _ _ rfl rfl _ _ HR.out ?_
  go_wp2_with fail
  refine HGET.out.mono ?_
  rintro e zs ⟨b, vs, rfl, hr⟩
  obtain ⟨Gs, gs, es, -, -, -⟩ := hr.shape
  subst es
  have SZs := SZa
  have Ps := Lib.hid hr
  have Cs := Lib.hid (below_next Csa.out b)
  have SZ := Lib.hid (Nat.le_trans SZa.out b.size)
  have Pp := Lib.hid (Np.out.below b)
  have Pq := Lib.hid (Nq.out.below b)
  clear hr b HR HGET SZa Csa Cq Np Nq
  have T1 := row_holds Pp.out
  have T2 := row_holds Pq.out
  have T3 := row_holds Ps.out
  have HT := (H4.out.below B2.out).below Cs.out
  have S1 := Lib.hid (same_self Gp A4 gp c4 t zs T1 HT)
  have S2 := Lib.hid (same_self Gq A4 gq c4 t zs T2 HT)
  have S3 := Lib.hid (same_self Gs A4 gs c4 t zs T3 HT)
  have BB := Lib.hid (below_next B2.out Cs.out)
  clear T1 T2 T3 HT
  have e1 : ((n : Int) == (n : Int)) = true := by simp
  have e2 : (k == k) = true := by simp
  go_wp2_with fail
  refine S1.out.mono ?_
  rintro r w' ⟨rfl, rfl⟩
  go_wp2_with fail
  refine S2.out.mono ?_
  rintro r w' ⟨rfl, rfl⟩
  go_wp2_with fail
  refine S3.out.mono ?_
  rintro r w' ⟨rfl, rfl⟩
  go_wp2_with fail
  go_ret
  exact ⟨rfl, BB.out⟩
end Go.Proofs.Ytmpiknaoocflcaa
namespace Go.Proofs.Ytmpiknaoocflcaa
open Go.RowKit
set_option maxRecDepth 100000 in
set_option maxHeartbeats 1000000 in
theorem packNumbers_all (n : Nat) (hn : n < 18446744073709551616) (k : Int) (hk1 : -9223372036854775808 ≤ k) (hk2 : k ≤ 9223372036854775807) (s : ByteArray) (hs : s.size ≤ 9223372036854775807) (A3 : Option Addr) (c3 : Nat) (h : List UInt8) (A4 : Option Addr) (c4 : Nat) (t : List UInt8) (w : World)
    (hh : Holds w A3 h) (ht : Holds w A4 t) (hl3 : h.length ≤ 9223372036854775807) (hl4 : t.length ≤ 9223372036854775807) :
    Calls Try.prog 3 #[.int .u64 n, .int .i64 k, .string s, .slice A3 h.length c3, .slice A4 t.length c4] w fun e w' => e = .returned (.bool true) ∧ Below w.heap.size w w' := by
  by_cases h1 : s.size ≤ 1000
  · by_cases h2 : h.length ≤ 1000
    · by_cases h3 : t.length ≤ 1000
      · exact packNumbers_any n hn k hk1 hk2 s h1 A3 c3 h A4 c4 t w hh ht h2 h3
      · have q1 : ¬ (1000 : Int) < (s.size : Int) := by omega
        have q2 : ¬ (1000 : Int) < (h.length : Int) := by omega
        have q3 : (1000 : Int) < (t.length : Int) := by omega
        clear h1 h2 h3 hh ht
        go_enter Try.func3, Try.ntmps3
        go_wp2_with fail
        refine (awake_any _).mono ?_
        rintro e w1 ⟨rfl, b1⟩
        have B1 := Lib.hid b1
        clear b1
        go_wp2_with fail
        go_ret
        exact ⟨rfl, B1.out⟩
    · have q1 : ¬ (1000 : Int) < (s.size : Int) := by omega
      have q2 : (1000 : Int) < (h.length : Int) := by omega
      clear h1 h2 hh ht
      go_enter Try.func3, Try.ntmps3
      go_wp2_with fail
      refine (awake_any _).mono ?_
      rintro e w1 ⟨rfl, b1⟩
      have B1 := Lib.hid b1
      clear b1
      go_wp2_with fail
      go_ret
      exact ⟨rfl, B1.out⟩
  · have q1 : (1000 : Int) < (s.size : Int) := by omega
    clear h1 hh ht
    go_enter Try.func3, Try.ntmps3
    go_wp2_with fail
    refine (awake_any _).mono ?_
    rintro e w1 ⟨rfl, b1⟩
    have B1 := Lib.hid b1
    clear b1
    go_wp2_with fail
    go_ret
    exact ⟨rfl, B1.out⟩
end Go.Proofs.Ytmpiknaoocflcaa
