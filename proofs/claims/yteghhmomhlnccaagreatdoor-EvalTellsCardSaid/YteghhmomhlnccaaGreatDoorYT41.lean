import Derived.Test.YteghhmomhlnccaaGreatDoorYT37
import Derived.Test.YteghhmomhlnccaaGreatDoorYT38
import Derived.Test.YteghhmomhlnccaaGreatDoorYT39
import Derived.Test.YteghhmomhlnccaaGreatDoorYT40
import Derived.Test.YteghhmomhlnccaaGreatDoorYT26
set_option linter.unusedVariables false
set_option linter.unusedSimpArgs false
set_option maxRecDepth 100000
set_option maxHeartbeats 100000000
open Go.RowKit Go.Lib
namespace Go.Proofs.YteghhmomhlnccaaGreatDoor
attribute [local go_sem ↓] eqVal neqVal
open Ex (Tree)
open Ev (V R Pl)
variable {C : List Col} {Ac : Option Addr} {cc : Nat} {W : List V} {Ar : Option Addr} {cr : Nat} {w0 : World}
theorem reval_all {C:List Col} {W:List V} (hW:∀ v ∈ W,Pl v) (hA:ColsAt w0 Ac C) (hV:ValsAt w0 Ar W) (hC:C.length≤1000000) (hl:W.length=C.length) (N:Nat):∀ T:Tree,Ex.count T≤N→Ex.ones nodeB T=true→Ex.ones rngN T=true→RT C Ac cc W Ar cr w0 T:=by
 induction N with
 | zero=>intro T h; have:=Ex.count_pos T; omega
 | succ N ih=>
  intro T hN hO hG
  cases T with
  | node op t vk vn vs ks=>
  rw [Ex.ones,Bool.and_eq_true] at hO hG
  have hX:∀ i (h:i < ks.length),RT C Ac cc W Ar cr w0 ks[i]:=fun i hi=>ih ks[i] (by have:=count_lt (op:=op) (t:=t) (vk:=vk) (vn:=vn) (vs:=vs) (List.getElem_mem hi); omega) (Kd.oness_get hO.2 i hi) (Kd.oness_get hG.2 i hi)
  have hp:∀ i (h:i < ks.length),Pl (Ev.ev C W ks[i]).v:=fun i hi=>Ev.ev_pl hW _ (Kd.oness_get hO.2 i hi) (Kd.oness_get hG.2 i hi)
  by_cases h1:op=1
  ·exact rt_val hX hp hA hV hC hl h1
  by_cases h2:op=2
  ·exact rt_name hX hp hA hV hC hl h2
  rcases node_is hO.1 h1 h2 with h | h | h | h | h | ⟨h,ht⟩
  ·exact rt_nodeP hX hp hA hV hC hl h1 h2 (by rw [h.2.2]; decide) (.inl h)
  ·exact rt_nodeP hX hp hA hV hC hl h1 h2 (by rw [h.2.2]; decide) (.inr (.inl h))
  ·exact rt_nodeP hX hp hA hV hC hl h1 h2 (by rw [h.2.2]; decide) (.inr (.inr (.inl h)))
  ·exact rt_nodeP hX hp hA hV hC hl h1 h2 (by rw [h.2.2]; decide) (.inr (.inr (.inr (.inl h))))
  ·exact rt_nodeP hX hp hA hV hC hl h1 h2 (by rw [h.2.2]; decide) (.inr (.inr (.inr (.inr h))))
  ·rcases h with h | h | h | h
   ·exact rt_nodeQ hX hp hA hV hC hl h1 h2 (by rw [h.2]; decide) ⟨.inl h,ht⟩
   ·exact rt_nodeQ hX hp hA hV hC hl h1 h2 (by rw [h.2]; decide) ⟨.inr (.inl h),ht⟩
   ·exact rt_nodeQ hX hp hA hV hC hl h1 h2 (by rw [h.2.1]; decide) ⟨.inr (.inr h),ht⟩
   ·exact rt_nodeR hX hp hA hV hC hl h1 h2 (by rw [h.2.1]; decide) ⟨h,ht⟩
end Go.Proofs.YteghhmomhlnccaaGreatDoor
namespace Go.Proofs.YteghhmomhlnccaaGreatDoor
attribute [local go_sem ↓] eqVal neqVal
open Ex (Tree)
open Ev (V R Pl)
def Ev.holdB (q:R):Bool:=same q.v.k q.v.n (tx q.v.s) 3 1 ⟨#[]⟩
theorem holds_any (C:List Col) (L:List V) (A AL:Option Addr) (c cl:Nat) (T:Tree) (v:Value) (w:World) (hA:ColsAt w A C) (hF:fitC C) (hV:ValsAt w AL L) (hFV:fitV L) (hC:C.length≤1000000) (hL:L.length≤1000000) (a:Addr) (mx:Int) (hv:Env w a mx)
  (h:NodeV w v T) (hfT:fitT T) (hM:Ex.count T≤1000000) (hG:Ex.ones rngN T=true) :
  Calls Tryz.prog 13 #[v,.slice A C.length c,.slice AL L.length cl] w fun e w'=>e=.returned (.tuple #[.bool (Ev.holdB (Ev.truthR (Ev.evalR C L T))),.int .i64 (Ev.truthR (Ev.evalR C L T)).e])∧Below w.heap.size w w':=by
 obtain ⟨xop,xt,xvk,xvn,xvs,xn,xA,xc,rfl⟩:∃ op t vk vn vs n A c,v=.agg (ncells op t vk vn vs A n c):=by
  cases T with
  | node op t vk vn vs ks=>obtain ⟨A,c,h1,-⟩:=h; exact ⟨_,_,_,_,_,_,_,_,h1⟩
 have b0:=(Below.refl w.heap.size w).alloc (Nat.le_refl _) (.cells (ncells xop xt xvk xvn xvs xA xn xc) 26)
 have EV:=hid (fun U (hU:Below w.heap.size w U)=>eval_any C L A AL c cl T _ U (hA.below hU) hF (hV.below hU) hFV hC hL a mx (hv.below hU) (h.below hU) hfT hM hG)
 have B0:=hid b0
 obtain ⟨c0,c1,c2,c3,c4,c5⟩:=six_of (Whole.new w 26 (ncells xop xt xvk xvn xvs xA xn xc))
 obtain ⟨r,hr⟩:∃ r,Ev.evalR C L T=r:=⟨_,rfl⟩
 rw [hr] at EV ⊢
 have TR:=hid (fun U=>truth_any r U)
 obtain ⟨q,hq⟩:∃ q,Ev.truthR r=q:=⟨_,rfl⟩
 rw [hq] at TR ⊢
 clear hA hF hV hFV hC hL hv h hfT hM hG hr hq b0
 generalize C.length=cn at *
 generalize L.length=ln at *
 obtain ⟨⟨rk,rn,rs⟩,re_⟩:=r
 obtain ⟨⟨qk,qn,qs⟩,qe⟩:=q
 unfold Ev.holdB
 unfold outR vv vcells at EV TR
 unfold ncells at *
 dsimp only at *
 obtain ⟨z,hz⟩:∃ z,same qk qn (tx qs) 3 1 ⟨#[]⟩=z:=⟨_,rfl⟩
 rw [hz]
 go_enter Tryz.func13,Tryz.ntmps13
 go_wp2_with fail
 refine (EV.out _ B0.out).mono ?_
 rintro e V1 ⟨rfl,hb1⟩
 have B1:=hid (bstep B0.out hb1)
 clear hb1 EV B0 c0 c1 c2 c3 c4 c5
 go_wp2_with fail
 refine (TR.out _).mono ?_
 rintro e V2 ⟨rfl,hb2⟩
 have B2:=hid (bstep B1.out hb2)
 clear hb2 TR B1
 go_upto_region 2 with fail
 have q3:=Row3.new V2 qk qn (tx qs)
 have B3:=hid (B2.out.alloc B2.out.size (.cells #[.int .i64 qk,.int .i64 qn,.string (tx qs)] 23))
 obtain ⟨W3,hW3⟩:∃ U,V2.alloc (.cells #[.int .i64 qk,.int .i64 qn,.string (tx qs)] 23)=U:=⟨_,rfl⟩
 rw [hW3] at q3 B3 ⊢
 clear hW3 B2
 have QQ:Hid (∀ U,Below W3.heap.size W3 U→Holds3 U V2.heap.size qk qn (tx qs)):=hid (fun U hU=>(q3.below hU q3.lt).holds)
 clear q3
 obtain ⟨z0,z1,z2⟩:=QQ.out W3 (Below.refl _ _)
 have NU:=hid (fun U (hU:Below W3.heap.size W3 U)=>call_over hU (bool_true U))
 go_region_with (go_at_call 29; refine (NU.out _ (by first | exact below_drewN (Below.refl _ _) _ | exact (Below.refl _ _).drew | exact Below.refl _ _)).mono ?_; rintro e V ⟨rfl,hb4⟩; obtain ⟨z0,z1,z2⟩:=QQ.out V hb4; have B4:=hid (bstep B3.out hb4))
 all_goals
  go_wp2_with fail
  go_ret2
  exact ⟨rfl,by first | exact below_drewN B4.out _ | exact B4.out.drew | exact B4.out⟩
end Go.Proofs.YteghhmomhlnccaaGreatDoor
namespace Go.Proofs.YteghhmomhlnccaaGreatDoor
attribute [local go_sem ↓] eqVal neqVal
open Ex (Tree)
open Ev (V R Pl)
theorem tells16_any (X:Tree) (C:List Col) (L:List V) (vx:Value) (Ac Al:Option Addr) (cc cl:Nat) (w:World) (hx:NodeV w vx X) (hfx:fitT X) (hgx:Ex.ones rngN X=true) (hA:ColsAt w Ac C) (hFC:fitC C) (hV:ValsAt w Al L) (hFV:fitV L) (a:Addr) (m:Int) (hv:Env w a m) :
  Calls Tryz.prog 3 #[vx,.slice Ac C.length cc,.slice Al L.length cl] w fun e w'=>e=.returned (.bool true)∧Below w.heap.size w w':=by
 obtain ⟨xop,xt,xvk,xvn,xvs,xn,xA,xc,rfl⟩:∃ op t vk vn vs n A c,vx=.agg (ncells op t vk vn vs A n c):=by
  cases X with
  | node op t vk vn vs ks=>obtain ⟨A,c,h1,-⟩:=hx; exact ⟨_,_,_,_,_,_,_,_,h1⟩
 have b0:=(Below.refl w.heap.size w).alloc (Nat.le_refl _) (.cells (ncells xop xt xvk xvn xvs xA xn xc) 26)
 have LS:LawS w (w.alloc (.cells (ncells xop xt xvk xvn xvs xA xn xc) 26)) (ncells xop xt xvk xvn xvs xA xn xc) X C Ac L Al a m:=⟨b0,Whole.new w 26 _,hx.below b0,hA.below b0,hV.below b0,hv.below b0⟩
 obtain ⟨W1,hW1⟩:∃ W1,w.alloc (.cells (ncells xop xt xvk xvn xvs xA xn xc) 26)=W1:=⟨_,rfl⟩
 rw [hW1] at LS
 have HFX:=hid hfx
 have HGX:=hid hgx
 have HFC:=hid hFC
 have HFV:=hid hFV
 obtain ⟨cn,hcn⟩:∃ cn,C.length=cn:=⟨_,rfl⟩
 obtain ⟨ln,hln⟩:∃ ln,L.length=ln:=⟨_,rfl⟩
 have HCN:=hid hcn
 have HLN:=hid hln
 rw [hcn,hln]
 have L1:=hid LS
 clear hx hfx hgx hA hFC hV hFV hv b0 hcn hln LS
 unfold ncells at *
 go_enter Tryz.func3,Tryz.ntmps3
 have AW:=hid (awake16_any W1 a m L1.out.env)
 go_wp2_with fail
 refine AW.out.mono ?_
 rintro e W2 ⟨rfl,hb⟩
 have L2:=hid (L1.out.call hb)
 have WX:=hid (Wide_any X _ W2 L2.out.nx)
 obtain ⟨c0,c1,c2,c3,c4,c5⟩:=six_of L2.out.k
 clear AW hb L1
 go_wp2_with fail
 refine WX.out.mono ?_
 rintro e W3 (⟨rfl,hb,hcx,hsx⟩ | ⟨rfl,hb⟩)
 case inr=>
  have L3:=hid (L2.out.call hb)
  clear hb
  go_wp2_with fail
  go_ret
  exact ⟨rfl,L3.out.b⟩
 have L3:=hid (L2.out.call hb)
 have MN:=hid (many_any C Ac cc W3 L3.out.ca HFC.out)
 rw [HCN.out] at MN
 have HCX:=hid hcx
 have HSX:=hid hsx
 clear hb WX L2 c0 c1 c2 c3 c4 c5 hsx hcx
 go_wp2_with fail
 refine MN.out.mono ?_
 rintro e W4 (⟨rfl,hw4,hc50,hcs⟩ | ⟨rfl,hw4⟩)
 case inr=>
  subst hw4
  go_wp2_with fail
  go_ret
  exact ⟨rfl,L3.out.b⟩
 subst hw4
 have LO:=hid (long_any L Al cl W4 L3.out.va HFV.out)
 rw [HLN.out] at LO
 have HC5:=hid hc50
 have HCS:=hid hcs
 clear MN hcs hc50
 go_wp2_with fail
 refine LO.out.mono ?_
 rintro e W5 (⟨rfl,hw5,hls⟩ | ⟨rfl,hw5⟩)
 case inr=>
  subst hw5
  go_wp2_with fail
  go_ret
  exact ⟨rfl,L3.out.b⟩
 subst hw5
 have HC9:Hid (C.length≤1000000):=hid (by have:=HC5.out; have:=HCN.out; omega)
 have HL9:Hid (L.length≤1000000):=hid (by have:=hls.1; omega)
 have EV:=hid (eval_any C L Ac Al cc cl X _ W5 L3.out.ca HFC.out L3.out.va HFV.out HC9.out HL9.out a m L3.out.env L3.out.nx HFX.out (by have:=HCX.out; omega) HGX.out)
 have HO:=hid (fun U (hU:Below W5.heap.size W5 U)=>holds_any C L Ac Al cc cl X _ U (L3.out.ca.below hU) HFC.out (L3.out.va.below hU) HFV.out HC9.out HL9.out a m (L3.out.env.below hU) (L3.out.nx.below hU) HFX.out (by have:=HCX.out; omega) HGX.out)
 have RR:=hid (fun U (hU:Below W5.heap.size W5 U)=>rrow_any C L Ac Al cc cl U (L3.out.ca.below hU) HCS.out (L3.out.va.below hU) HFV.out HC9.out HL9.out)
 have RO:=hid (fun U (hU:Below W5.heap.size W5 U)=>row_any2 C L Ac Al cc cl U (L3.out.ca.below hU) HFC.out (L3.out.va.below hU) HFV.out HC9.out HL9.out a m (L3.out.env.below hU))
 have RI:=hid (fun U (hU:Below W5.heap.size W5 U)=>refRight_any X (by have:=HCX.out; omega) HSX.out _ U (L3.out.nx.below hU))
 have RE:Hid (Ex.rightB nodeB X=true→Ev.rowB C L=true→∀ U,Below W5.heap.size W5 U→Calls Tryz.prog 17 #[.agg (ncells xop xt xvk xvn xvs xA xn xc),.slice Ac C.length cc,.slice Al L.length cl] U fun e w'=>e=.returned (outR (Ev.ev C L X))∧Below U.heap.size U w'):=hid (fun hr hrow U hU=>by
  obtain ⟨-,hl,hp,-⟩:=Ev.rowB_is hrow HFV.out
  have ho:Ex.ones nodeB X=true:=by
   rw [Ex.rightB,Bool.and_eq_true,Bool.and_eq_true] at hr
   exact hr.2.2
  exact reval_all hp L3.out.ca L3.out.va HC9.out hl _ X (Nat.le_refl _) ho HGX.out _ U hU (L3.out.nx.below hU))
 have HPL:Hid (Ex.rightB nodeB X=true→Ev.rowB C L=true→Pl (Ev.ev C L X).v):=hid (fun hr hrow=>by
  have ho:Ex.ones nodeB X=true:=by
   rw [Ex.rightB,Bool.and_eq_true,Bool.and_eq_true] at hr
   exact hr.2.2
  exact Ev.ev_pl (C:=C) (Ev.rowB_is hrow HFV.out).2.2.1 X ho HGX.out)
 have HER:=hid (@Ev.ev_err C L X)
 unfold ncells at RE
 rw [HCN.out,HLN.out] at EV HO RR RO RE
 obtain ⟨rb,hrb⟩:∃ b,Ex.rightB nodeB X=b:=⟨_,rfl⟩
 obtain ⟨wb,hwb⟩:∃ b,Ev.rowB C L=b:=⟨_,rfl⟩
 have HEV:Hid (Ev.evalR C L X=if rb=true∧wb=true then Ev.ev C L X else Ev.err 1):=hid (by rw [Ev.evalR,hrb,hwb])
 rw [hrb] at RI RE HPL
 rw [hwb] at RR RO RE HPL
 obtain ⟨r,hr⟩:∃ r,Ev.evalR C L X=r:=⟨_,rfl⟩
 rw [hr] at EV HO HEV
 obtain ⟨q,hq⟩:∃ q,Ev.truthR r=q:=⟨_,rfl⟩
 rw [hq] at HO
 have HQ:=hid hq
 obtain ⟨hbv,hhb⟩:∃ b,Ev.holdB q=b:=⟨_,rfl⟩
 obtain ⟨qe,hqe⟩:∃ b,q.e=b:=⟨_,rfl⟩
 rw [hhb,hqe] at HO
 have HHB:=hid hhb
 have HQE:=hid hqe
 obtain ⟨⟨rk,rn,rs⟩,re_⟩:=r
 unfold outR vv vcells at EV
 dsimp only at EV
 clear hrb hwb hr hq hhb hqe LO hls
 obtain ⟨c0,c1,c2,c3,c4,c5⟩:=six_of L3.out.k
 go_wp2_with fail
 refine EV.out.mono ?_
 rintro e W6 ⟨rfl,hb⟩
 have hbb:=hb.alloc (Nat.le_trans (Nat.le_refl _) hb.size) (.cells #[.int .i64 rk,.int .i64 rn,.string (tx rs)] 23)
 have q7:=Row3.new W6 rk rn (tx rs)
 clear EV c0 c1 c2 c3 c4 c5
 go_upto_region 6 with fail
 obtain ⟨W7,hW7⟩:∃ U,W6.alloc (.cells #[.int .i64 rk,.int .i64 rn,.string (tx rs)] 23)=U:=⟨_,rfl⟩
 rw [hW7] at hbb q7 ⊢
 have B7:=hid hbb
 have L7:=hid (L3.out.call hbb)
 have Q7:=hid q7
 clear hW7 hb hbb q7 L3
 obtain ⟨c0,c1,c2,c3,c4,c5⟩:=six_of L7.out.k
 go_wp2_with fail
 refine (HO.out _ B7.out).mono ?_
 rintro e W8 ⟨rfl,hb⟩
 have B8:=hid (bstep B7.out hb)
 have L8:=hid (L7.out.call hb)
 have Q8:=hid (Q7.out.below hb Q7.out.lt)
 clear hb HO B7 L7 Q7 c0 c1 c2 c3 c4 c5
 go_wp2_with fail
 refine (RR.out _ B8.out).mono ?_
 rintro e W9 ⟨rfl,hb⟩
 have B9:=hid (bstep B8.out hb)
 have L9:=hid (L8.out.call hb)
 have Q9:=hid (Q8.out.below hb Q8.out.lt)
 clear hb RR B8 L8 Q8
 go_wp2_with fail
 refine (RO.out _ B9.out).mono ?_
 rintro e W10 ⟨rfl,hb⟩
 have B10:=hid (bstep B9.out hb)
 have L10:=hid (L9.out.call hb)
 have Q10:=hid (Q9.out.below hb Q9.out.lt)
 clear hb RO B9 L9 Q9
 have HBAD:Hid (¬ (rb=true∧wb=true)→rk=0∧rn=0∧rs=[]∧re_=1∧hbv=false∧qe=1):=hid (fun h=>by
  have h1:=HEV.out
  rw [if_neg h] at h1
  have h2:=HQ.out
  rw [h1] at h2
  have h3:q=⟨⟨0,0,[]⟩,1⟩:=h2.symm
  have h4:=HHB.out
  have h5:=HQE.out
  rw [h3] at h4 h5
  injection h1 with h6 h7
  injection h6 with h8 h9 h10
  exact ⟨h8,h9,h10,h7,h4.symm,h5.symm⟩)
 obtain ⟨z0,z1,z2⟩:=Q10.out.holds
 obtain ⟨c0,c1,c2,c3,c4,c5⟩:=six_of L10.out.k
 cases wb
 case false=>
  obtain ⟨rfl,rfl,rfl,rfl,rfl,rfl⟩:=HBAD.out (by simp)
  have hsm:same 0 0 (tx []) 0 0 ⟨#[]⟩=true:=by rw [same_iff]; exact ⟨rfl,rfl,rfl⟩
  go_wp2_with fail
  go_ret
  exact ⟨rfl,L10.out.b⟩
 go_wp2_with fail
 refine (RI.out _ B10.out).mono ?_
 rintro e W11 ⟨rfl,hb⟩
 have B11:=hid (bstep B10.out hb)
 have L11:=hid (L10.out.call hb)
 have Q11:=hid (Q10.out.below hb Q10.out.lt)
 clear hb RI B10 L10 Q10 z0 z1 z2 c0 c1 c2 c3 c4 c5
 obtain ⟨z0,z1,z2⟩:=Q11.out.holds
 obtain ⟨c0,c1,c2,c3,c4,c5⟩:=six_of L11.out.k
 cases rb
 case false=>
  obtain ⟨rfl,rfl,rfl,rfl,rfl,rfl⟩:=HBAD.out (by simp)
  have hsm:same 0 0 (tx []) 0 0 ⟨#[]⟩=true:=by rw [same_iff]; exact ⟨rfl,rfl,rfl⟩
  go_wp2_with fail
  go_ret
  exact ⟨rfl,L11.out.b⟩
 have RE2:=hid (RE.out (by simp) (by simp) _ B11.out)
 have HEQ:Hid (Ev.ev C L X=⟨⟨rk,rn,rs⟩,re_⟩):=hid (by have:=HEV.out; rw [if_pos (by simp)] at this; exact this.symm)
 rw [HEQ.out] at RE2
 have HP:=hid (HPL.out (by simp) (by simp))
 rw [HEQ.out] at HP HER
 unfold outR vv vcells at RE2
 dsimp only at RE2 HP HER
 clear RE HPL HEV HBAD HEQ
 have HFIN:Hid ((¬ re_=0→hbv=false∧qe=re_∧rk=0∧rn=0∧rs=[])∧(re_=0→rk=0→hbv=false∧qe=0)∧(re_=0→rk=3→hbv=(rn == 1)∧qe=0)∧(re_=0→¬ rk=0→¬ rk=3→hbv=false∧qe=10)):=hid (by
  have h4:=HHB.out
  have h5:=HQE.out
  have h2:=HQ.out
  refine ⟨fun h=>?_,fun h h3=>?_,fun h h3=>?_,fun h h0 h3=>?_⟩
  ·rw [Ev.truthR,if_neg h] at h2
   subst h2
   have h6:(⟨rk,rn,rs⟩:V)=⟨0,0,[]⟩:=HER.out h
   injection h6 with h8 h9 h10
   exact ⟨h4.symm,h5.symm,h8,h9,h10⟩
  ·rw [Ev.truthR,if_pos h,if_pos (.inr h3)] at h2
   subst h2
   refine ⟨?_,h5.symm⟩
   rw [← h4]
   show same rk rn (tx rs) 3 1 ⟨#[]⟩=false
   rw [same_b HP.out]
   simp [h3]
  ·rw [Ev.truthR,if_pos h,if_pos (.inl h3)] at h2
   subst h2
   refine ⟨?_,h5.symm⟩
   rw [← h4]
   show same rk rn (tx rs) 3 1 ⟨#[]⟩=(rn == 1)
   rw [same_b HP.out]
   simp [h3]
   rfl
  ·rw [Ev.truthR,if_pos h,if_neg (by rintro (h | h); exact h3 h; exact h0 h)] at h2
   subst h2
   exact ⟨h4.symm,h5.symm⟩)
 clear HHB HQE HQ HER
 go_wp2_with fail
 refine RE2.out.mono ?_
 rintro e W12 ⟨rfl,hb⟩
 have L12:=hid (L11.out.call hb)
 have Q12:=hid (Q11.out.below hb Q11.out.lt)
 have q13:=(Q11.out.below hb Q11.out.lt).alloc (.cells #[.int .i64 rk,.int .i64 rn,.string (tx rs)] 23)
 have y13:=Row3.new W12 rk rn (tx rs)
 have L13:=hid (L12.out.alloc (.cells #[.int .i64 rk,.int .i64 rn,.string (tx rs)] 23))
 clear hb L11 Q11 RE2 z0 z1 z2 c0 c1 c2 c3 c4 c5
 go_upto_region 13 with fail
 obtain ⟨W13,hW13⟩:∃ U,W12.alloc (.cells #[.int .i64 rk,.int .i64 rn,.string (tx rs)] 23)=U:=⟨_,rfl⟩
 rw [hW13] at q13 y13 L13 ⊢
 clear hW13
 obtain ⟨z0,z1,z2⟩:=q13.holds
 obtain ⟨y0,y1,y2⟩:=y13.holds
 have hsm:same rk rn (tx rs) rk rn (tx rs)=true:=by rw [same_iff]; exact ⟨rfl,rfl,rfl⟩
 clear q13 y13 L12 Q12
 by_cases he:re_=0
 case neg=>
  obtain ⟨rfl,rfl,-,-,-⟩:=HFIN.out.1 he
  have he':(qe == 0)=false:=by simpa using he
  go_wp2_with fail
  go_ret
  exact ⟨rfl,L13.out.b⟩
 subst he
 by_cases h0:rk=0
 case pos=>
  obtain ⟨rfl,rfl⟩:=HFIN.out.2.1 rfl h0
  subst h0
  go_wp2_with fail
  go_ret
  exact ⟨rfl,L13.out.b⟩
 by_cases h3:rk=3
 case pos=>
  obtain ⟨rfl,rfl⟩:=HFIN.out.2.2.1 rfl h3
  subst h3
  go_wp2_with fail
  go_ret
  exact ⟨retB2 (by simp),L13.out.b⟩
 obtain ⟨rfl,rfl⟩:=HFIN.out.2.2.2 rfl h0 h3
 have h0':(rk != 0)=true:=by simpa using h0
 have h3':(rk != 3)=true:=by simpa using h3
 clear h0 h3
 go_wp2_with fail
 go_ret
 exact ⟨rfl,L13.out.b⟩
end Go.Proofs.YteghhmomhlnccaaGreatDoor
