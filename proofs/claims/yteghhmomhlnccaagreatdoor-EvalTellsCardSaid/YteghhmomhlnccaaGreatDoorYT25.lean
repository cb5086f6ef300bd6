import Derived.Test.YteghhmomhlnccaaGreatDoorYT14
import Derived.Test.YteghhmomhlnccaaGreatDoorYT13
import Derived.Test.YteghhmomhlnccaaGreatDoorYT16
import Derived.Test.YteghhmomhlnccaaGreatDoorYT9
set_option linter.unusedVariables false
set_option linter.unusedSimpArgs false
set_option maxRecDepth 100000
set_option maxHeartbeats 100000000
open Go.RowKit Go.Lib
namespace Go.Proofs.YteghhmomhlnccaaGreatDoor
open Ex (Tree)
theorem callSum (P:Nat) (W:World):Sem.run Tryz.prog (callFunc 181 #[.pointer (some ⟨P,0,none⟩)]) W=.ok (.enter 181 #[.pointer (some ⟨P,0,none⟩)]) W:=by kernel_rfl
theorem compared_tot {w0:World} {P:Nat} {A:Option Addr} {c:Nat} {L:List Lx.Tk} {i d:Nat} (hL:Ps.Ends L) (hLn:L.length≤900000) (hi:i < L.length) (F:Nat) {r:Ps.Res} (hr:Ps.rd 30 L (F + 1) d (.rule .cmp) i=some r)
  (HS:∀ i r,i < L.length→Ps.rd 30 L F d (.rule .sum) i=some r→Tot w0 P A c L 181 #[.pointer (some ⟨P,0,none⟩)] i d r) :
  Tot w0 P A c L 157 #[.pointer (some ⟨P,0,none⟩)] i d r:=by
 intro w h
 rw [Ps.rd_cmp] at hr
 obtain ⟨r0,hr0,H0⟩:∃ r0,Ps.rd 30 L F d (.rule .sum) i=some r0∧∀ T j b fc fa,Fit r0 T j b fc fa→(b=true∧fc=0∧fa=0∧j < L.length∧(if Ex.lev (sgn (tk L j))=3 then Ps.bindR (Ps.rd 30 L F d (.rule .sum) (j + 1)) fun Y k=>some (.ok (Ps.binT (tk L j).text T Y) k) else some (.ok T j))=some r)∨(b=false∧Fit r T j false fc fa):=by
  rcases Ps.bindR_some hr with ⟨T,j,h1,h2⟩ | ⟨c',a',h1,rfl⟩
  ·refine ⟨_,h1,fun T' j' b fc fa hf=>?_⟩
   cases hf
   exact .inl ⟨rfl,rfl,rfl,(Ps.rd_at hL _ _ _ _ _ _ h1).2.1 hi,h2⟩
  ·refine ⟨_,h1,fun T' j' b fc fa hf=>?_⟩
   cases hf
   exact .inr ⟨rfl,.bad _ _ _ _⟩
 have b0:Below w.heap.size w (w.alloc (.cells (ncells 0 [] 0 0 [] none 0 0) 26)):=(Below.refl _ _).alloc (Nat.le_refl _) _
 have k0:=Whole.new w 26 (ncells 0 [] 0 0 [] none 0 0)
 have CC:=hid (HS i r0 hi hr0 _ (h.below b0))
 have HB:=hid (h.base hL.1)
 have hz:(w.alloc (.cells (ncells 0 [] 0 0 [] none 0 0) 26)).heap.size=w.heap.size + 1:=by simp
 unfold ncells at *
 have B0:=hid b0
 have K0:=hid k0
 have HZ:=hid hz
 have HSH:=hid HS
 have H0H:=hid H0
 have HLE:=hid hL
 clear b0 k0 hz h HS H0 hr hr0 hL
 go_enter Tryz.func157,Tryz.ntmps157
 go_wp2_with fail
 refine CC.out.mono ?_
 generalize w.alloc (.cells #[.int .i64 0,.string (tx []),.int .i64 0,.int .i64 0,.string (tx []),.slice none 0 0] 26)=W1 at *
 rintro e W2 ⟨T,i',b,fc,fa,hf,u,rfl,hu,hp,ht⟩
 have HST:=H0H.out _ _ _ _ _ hf
 clear hf CC H0H
 cases T with
 | node op t vk vn vs ks=>
 obtain ⟨A2,c2,rfl,hc2,hk2⟩:=hu
 have b3:Below W2.heap.size W2 (W2.alloc (.cells (ncells op t vk vn vs A2 ks.length c2) 26)):=(Below.refl _ _).alloc (Nat.le_refl _) _
 have L0:Hid (LfX w0 w (W2.alloc (.cells (ncells op t vk vn vs A2 ks.length c2) 26)) P A c L i' d fc fa W2.heap.size op t vk vn vs A2 c2 ks):=hid
  ⟨hp.below b3,Whole.new _ _ _,hc2,hk2.moved (fun k hk hlt=>⟨b3.block k hlt,by have:=HZ.out; omega,by omega⟩),Whole.alloc (show Whole W2 w.heap.size _ _ from (ht.block _ K0.out.lt (by have:=HB.out.P; simp; omega)).trans K0.out) _,((Touch.of_below B0.out [P]).trans ht (fun x hx=>.inl hx)).belowTo b3,by have:=HZ.out; have:=ht.size; omega⟩
 unfold ncells at *
 clear b3 hk2 hc2 hp ht
 obtain ⟨B8,hB8⟩:∃ B8,W2.heap.size=B8:=⟨_,rfl⟩
 obtain ⟨W3,hW3⟩:∃ W3,W2.alloc (.cells #[.int .i64 op,.string (tx t),.int .i64 vk,.int .i64 vn,.string (tx vs),.slice A2 ks.length c2] 26)=W3:=⟨_,rfl⟩
 rw [hB8,hW3] at L0
 rcases HST with ⟨rfl,rfl,rfl,hi',hrd⟩ | ⟨rfl,hfit⟩
 ·have NX:=hid (next_any L0.out.p (by omega) (by omega))
  obtain ⟨tok,htok⟩:∃ tok,tk L i'=tok:=⟨_,rfl⟩
  have HTOK:=hid htok
  rw [htok] at NX hrd
  obtain ⟨lv,hlv⟩:∃ lv,Ex.lev (sgn tok)=lv:=⟨_,rfl⟩
  have LV:Hid (∀ W,Calls Tryz.prog 87 #[.string (tx (sgn tok))] W fun e w'=>e=.returned (.int .i64 lv)∧w'=W):=hid (fun W=>by
   have:=level_any (tx (sgn tok)) W
   rw [show (tx (sgn tok)).data.toList=sgn tok from rfl,hlv] at this
   exact this)
  rw [hlv] at hrd
  have HLV:=hid hlv
  clear hlv htok
  by_cases hlt:lv=3
  ·subst hlt
   rw [if_pos rfl] at hrd
   obtain ⟨r1,hr1,H1⟩:∃ r1,Ps.rd 30 L F d (.rule .sum) (i' + 1)=some r1∧∀ Y j b fc fa,Fit r1 Y j b fc fa→Fit r (Ps.binT tok.text (.node op t vk vn vs ks) Y) j b fc fa:=by
    rcases Ps.bindR_some hrd with ⟨Y,j,h1,h2⟩ | ⟨c',a',h1,rfl⟩
    ·refine ⟨_,h1,fun T' j' b fc fa hf=>?_⟩
     cases hf; cases h2
     exact .ok _ _
    ·refine ⟨_,h1,fun T' j' b fc fa hf=>?_⟩
     cases hf
     exact .bad _ _ _ _
   have hi2:i' + 1 < L.length:=HLE.out.sgn (i:=i') rfl (Ps.lev_ne (k:=3) (by rw [HTOK.out,HLV.out]) (by decide))
   have HRB:=hid (HSH.out (i' + 1) r1 hi2 hr1)
   have H1H:=hid H1
   have hi3:i' + 1≤1000000:=by omega
   have HTX:Hid ((tk L i').text=tok.text):=hid (by rw [HTOK.out])
   clear hrd hr1 H1
   go_wp2_with fail
   refine NX.out.mono ?_
   rintro e Wa ⟨rfl,hba⟩
   have SG:=hid (sign_any tok Wa)
   go_wp2_with fail
   refine SG.out.mono ?_
   rintro e Wb ⟨rfl,hbb⟩
   have LVb:=hid (LV.out Wb)
   go_wp2_with fail
   refine LVb.out.mono ?_
   rintro e Wc ⟨rfl,rfl⟩
   have LFc:=hid ((L0.out.below hba).below hbb)
   obtain ⟨x0,x1,x2,x3,x4,x5⟩:=six_of LFc.out.box
   have BN:=hid (binary_tot HLE.out.1 (by omega) hi3 181 (callSum P) HRB.out tok.text HTX.out (fun q=>w.heap.size < q∧q ≠ B8∧q < Wc.heap.size) Wc LFc.out.p _ (X:=.node op t vk vn vs ks) ⟨A2,c2,rfl,LFc.out.cap,LFc.out.kids.moved fun q hq hlt=>⟨rfl,hq.1,hq.2,hlt⟩⟩ (fun q hq=>⟨hq.2.2,by have:=HB.out.P; omega⟩))
   unfold ncells at BN
   clear hba hbb NX SG LV LVb L0 hW3 hB8
   go_wp2_with fail
   refine BN.out.mono ?_
   rintro e Wd ⟨Y,i2,b2,fc2,fa2,hf2,u2,rfl,⟨A',c',rfl,hc',hk'⟩,hp',ht'⟩
   have HFT:=hid (H1H.out _ _ _ _ _ hf2)
   have hres:Whole Wd w.heap.size 26 zcells:=(ht'.block _ LFc.out.res.lt (by have:=HB.out.P; simp; omega)).trans LFc.out.res
   obtain ⟨z0,z1,z2,z3,z4,z5⟩:=six_of hres
   obtain ⟨y0,y1,y2,y3,y4,y5⟩:=frozen6 hres
   have FIN:=hid (set6Z_whole hres (.int .i64 5) (.string (tx tok.text)) (.int .i64 0) (.int .i64 0) (.string (tx [])) (.slice A' 2 c'))
   have FT:=set6Z_touch Wd w.heap.size (.int .i64 5) (.string (tx tok.text)) (.int .i64 0) (.int .i64 0) (.string (tx [])) (.slice A' 2 c')
   have F1:=hid (hp'.new HB.out FT (Nat.le_refl _))
   have F2:=hid ((LFc.out.touch.trans ht' (fun x hx=>.inl hx)).trans FT (fun x hx=>.inr (by simp at hx; omega)))
   have hlt9:=LFc.out.res.lt
   have F3:=hid (hk'.moved (S':=(w.heap.size≤·)) fun q hq hlt=>⟨FT.block q hlt (by simp; omega),by omega⟩)
   have F4:=hid hc'
   clear hres hp' ht' hk' hc' BN hf2 H1H FT x0 x1 x2 x3 x4 x5
   unfold ncells
   dsimp only [List.length_cons,List.length_nil]
   go_wp2_with fail
   exact bodyPost_ret (results_two rfl _ _ w.heap.size _ _ _ _ rfl FIN.out Tryz.underlying26 rfl sizeExpr _ rfl) rfl ⟨_,_,_,_,_,HFT.out,_,rfl,⟨A',c',rfl,F4.out,F3.out⟩,F1.out,F2.out⟩
  ·rw [if_neg hlt] at hrd
   have hend':(lv != 3)=true:=by simpa using hlt
   have HRD:=hid hrd
   clear hrd hlt
   go_wp2_with fail
   refine NX.out.mono ?_
   rintro e Wa ⟨rfl,hba⟩
   have SG:=hid (sign_any tok Wa)
   go_wp2_with fail
   refine SG.out.mono ?_
   rintro e Wb ⟨rfl,hbb⟩
   have LVb:=hid (LV.out Wb)
   go_wp2_with fail
   refine LVb.out.mono ?_
   rintro e Wc ⟨rfl,rfl⟩
   have LFc:=hid ((L0.out.below hba).below hbb)
   obtain ⟨x0,x1,x2,x3,x4,x5⟩:=six_of LFc.out.box
   obtain ⟨z0,z1,z2,z3,z4,z5⟩:=six_of LFc.out.res
   obtain ⟨y0,y1,y2,y3,y4,y5⟩:=frozen6 LFc.out.res
   have FIN:=hid (set6Z_whole LFc.out.res (.int .i64 op) (.string (tx t)) (.int .i64 vk) (.int .i64 vn) (.string (tx vs)) (.slice A2 ks.length c2))
   have FT:=set6Z_touch Wc w.heap.size (.int .i64 op) (.string (tx t)) (.int .i64 vk) (.int .i64 vn) (.string (tx vs)) (.slice A2 ks.length c2)
   have F1:=hid (LFc.out.p.new HB.out FT (Nat.le_refl _))
   have F2:=hid (LFc.out.touch.trans FT (fun x hx=>.inr (by simp at hx; omega)))
   have F3:Hid (TreesIn (w.heap.size≤·) (set6Z Wc w.heap.size (.int .i64 op) (.string (tx t)) (.int .i64 vk) (.int .i64 vn) (.string (tx vs)) (.slice A2 ks.length c2)) A2 0 ks):=hid (LFc.out.kids.moved fun q hq hlt=>⟨FT.block q hlt (by simp; omega),by omega⟩)
   clear FT hba hbb NX SG LV LVb L0 hW3 hB8
   go_wp2_with fail
   refine bodyPost_ret (results_two rfl _ _ w.heap.size _ _ _ _ rfl FIN.out Tryz.underlying26 rfl sizeExpr _ rfl) rfl ⟨.node op t vk vn vs ks,i',true,0,0,?_,_,rfl,⟨A2,c2,rfl,LFc.out.cap,F3.out⟩,F1.out,F2.out⟩
   have:=HRD.out
   cases this
   exact .ok _ _
 ·have HFIT:=hid hfit
  obtain ⟨x0,x1,x2,x3,x4,x5⟩:=six_of L0.out.box
  obtain ⟨z0,z1,z2,z3,z4,z5⟩:=six_of L0.out.res
  obtain ⟨y0,y1,y2,y3,y4,y5⟩:=frozen6 L0.out.res
  have FIN:=hid (set6Z_whole L0.out.res (.int .i64 op) (.string (tx t)) (.int .i64 vk) (.int .i64 vn) (.string (tx vs)) (.slice A2 ks.length c2))
  have FT:=set6Z_touch W3 w.heap.size (.int .i64 op) (.string (tx t)) (.int .i64 vk) (.int .i64 vn) (.string (tx vs)) (.slice A2 ks.length c2)
  have F1:=hid (L0.out.p.new HB.out FT (Nat.le_refl _))
  have F2:=hid (L0.out.touch.trans FT (fun x hx=>.inr (by simp at hx; omega)))
  have F3:Hid (TreesIn (w.heap.size≤·) (set6Z W3 w.heap.size (.int .i64 op) (.string (tx t)) (.int .i64 vk) (.int .i64 vn) (.string (tx vs)) (.slice A2 ks.length c2)) A2 0 ks):=hid (L0.out.kids.moved fun q hq hlt=>⟨FT.block q hlt (by simp; omega),by omega⟩)
  have F4:Hid (ks.length≤c2):=hid L0.out.cap
  clear FT hfit
  subst hB8
  go_wp2_with fail
  exact bodyPost_ret (results_two rfl _ _ w.heap.size _ _ _ _ rfl FIN.out Tryz.underlying26 rfl sizeExpr _ rfl) rfl ⟨_,_,_,_,_,HFIT.out,_,rfl,⟨A2,c2,rfl,F4.out,F3.out⟩,F1.out,F2.out⟩
end Go.Proofs.YteghhmomhlnccaaGreatDoor
namespace Go.Proofs.YteghhmomhlnccaaGreatDoor
open Ex (Tree)
theorem told_len (l:List UInt8):(told l).s.length≤200:=by
 unfold told
 split
 ·simp
 ·split
  ·simp
  ·split
   ·simp
   ·split
    ·unfold toldText
     split
     ·split
      ·assumption
      ·simp
     ·simp
    ·unfold toldInt
     split
     ·simp
     ·split <;> simp
theorem fit_leaf (t:Lx.Tk) (h:t.text.length≤6000):fitT (leafT t):=by
 have h2:=told_len t.text
 have hm:(6000:Nat)≤maxLen:=by unfold maxLen; omega
 unfold leafT
 split
 ·simp only [fitT,fitTs,and_true]; exact ⟨by omega,by simp⟩
 ·split
  ·simp only [fitT,fitTs,and_true]; exact ⟨by simp,by omega⟩
  ·split
   ·split
    ·simp only [fitT,fitTs,and_true]; exact ⟨by simp,by omega⟩
    ·simp [fitT,fitTs]
   ·simp [fitT,fitTs]
theorem leafT_bare (t:Lx.Tk):∃ op tt vk vn vs,leafT t=.node op tt vk vn vs []:=by
 unfold leafT
 split
 ·exact ⟨_,_,_,_,_,rfl⟩
 ·split
  ·exact ⟨_,_,_,_,_,rfl⟩
  ·split
   ·split
    ·exact ⟨_,_,_,_,_,rfl⟩
    ·exact ⟨_,_,_,_,_,rfl⟩
   ·exact ⟨_,_,_,_,_,rfl⟩
theorem single_leaf {w0:World} {P:Nat} {A:Option Addr} {c:Nat} {L:List Lx.Tk} {i d:Nat} {a:Addr} {m:Int} (hv:Env w0 a m) (hLe:L ≠ []) (ho:sgn (tk L i) ≠ [40]) (hcl:(tk L i).kind=1→sgn (tk L (i + 1)) ≠ [40]) (hsz:(tk L i).text.length≤6000) (hi:i + 1≤1000000) (hL:L.length≤1000000) {r:Ps.Res} (hr:(if Ex.rightB nodeB (leafT (tk L i))=true then .ok (leafT (tk L i)) (i + 1) else .bad 8 (tk L i).at_)=r) :
  Tot w0 P A c L 224 #[.pointer (some ⟨P,0,none⟩)] i d r:=by
 intro w h
 have HR:=hid hr
 clear hr
 have b0:Below w.heap.size w ((w.alloc (.cells #[.pointer (some ⟨P,0,none⟩)] 122)).alloc (.cells (ncells 0 [] 0 0 [] none 0 0) 26)):=((Below.refl _ _).alloc (Nat.le_refl _) _).alloc (by simp) _
 have k0:=(Whole.new w 122 #[.pointer (some ⟨P,0,none⟩)]).alloc (.cells (ncells 0 [] 0 0 [] none 0 0) 26)
 have k1:=Whole.new (w.alloc (.cells #[.pointer (some ⟨P,0,none⟩)] 122)) 26 (ncells 0 [] 0 0 [] none 0 0)
 simp only [World.size_alloc] at k1
 have h1:=h.below b0
 obtain ⟨W1,hW1⟩:∃ W1,(w.alloc (.cells #[.pointer (some ⟨P,0,none⟩)] 122)).alloc (.cells (ncells 0 [] 0 0 [] none 0 0) 26)=W1:=⟨_,rfl⟩
 rw [hW1] at b0 k0 k1 h1
 unfold ncells at *
 have NX:=hid (next_any h1 (by omega) hL)
 have c0:=k0.cell 0
 simp only [List.getElem?_toArray,List.getElem?_cons_zero,List.getElem?_cons_succ] at c0
 have B0:=hid b0
 have K0:=hid k0
 have K1:=hid k1
 have H1:=hid h1
 have HA0:Hid (∀ b o,A=some ⟨b,o,none⟩→b < w.heap.size):=hid (h.lower hLe)
 have HW0:Hid (w0.heap.size≤w.heap.size):=hid h.old.size
 have HP0:Hid (P < w.heap.size):=hid h.cells.lt
 have HSZ:=hid hsz
 have HCL:=hid hcl
 have HBB:=hid (h.base hLe)
 have HV:=hid hv
 obtain ⟨t,ht⟩:∃ t,tk L i=t:=⟨_,rfl⟩
 have HT:=hid ht
 rw [ht] at NX
 obtain ⟨op,tt,vk,vn,vs,hT⟩:=leafT_bare t
 have HTT:=hid hT
 clear hT
 have hop:sgn t ≠ [40]:=by rw [← ht]; exact ho
 have b0':∀ {W2:World},Below W1.heap.size W1 W2→Below W1.heap.size W1 (W2.alloc (.cells #[.int .i64 (t.kind:Nat),.string (tx t.text),.int .i64 (t.at_:Nat)] 87)):=fun hb=>hb.alloc hb.size _
 clear b0 k0 k1 h1 hv h ht ho hcl hsz
 go_enter Tryz.func224,Tryz.ntmps224
 go_wp2_with fail
 refine NX.out.mono ?_
 rintro e W2 ⟨rfl,hb2⟩
 have b3:=b0' hb2
 have k3:=Whole.new W2 87 #[.int .i64 (t.kind:Nat),.string (tx t.text),.int .i64 (t.at_:Nat)]
 obtain ⟨W3,hW3⟩:∃ W3,W2.alloc (.cells #[.int .i64 (t.kind:Nat),.string (tx t.text),.int .i64 (t.at_:Nat)] 87)=W3:=⟨_,rfl⟩
 rw [hW3] at b3 k3
 have B3:=hid b3
 have KT:=hid k3
 have SG:=hid (sign_any t W3)
 have t0:=k3.cell 0
 have t1:=k3.cell 1
 have t2:=k3.cell 2
 simp only [List.getElem?_toArray,List.getElem?_cons_zero,List.getElem?_cons_succ] at t0 t1 t2
 have c3:=(b3.cell (p:=⟨w.heap.size,0,none⟩) K0.out.lt).trans c0
 have hne:((tx (sgn t)).toList == [40])=false:=by rw [ByteArray.toList_eq]; simpa using hop
 have hne2:(sgn t == [40])=false:=by simpa using hop
 clear hb2 k3 b3 b0' NX
 go_wp2_with fail
 refine SG.out.mono ?_
 rintro e W4 ⟨rfl,hb4⟩
 have c4:=(hb4.cell (p:=⟨w.heap.size,0,none⟩) (by have:=B3.out.size; have:=K0.out.lt; show w.heap.size < _; omega)).trans c3
 have t0:=(hb4.cell (p:=⟨W2.heap.size,0,none⟩) KT.out.lt).trans t0
 have t1:=(hb4.cell (p:=⟨W2.heap.size,1,none⟩) KT.out.lt).trans t1
 have t2:=(hb4.cell (p:=⟨W2.heap.size,2,none⟩) KT.out.lt).trans t2
 have B4:Hid (Below W1.heap.size W1 W4):=hid (B3.out.trans (hb4.mono B3.out.size))
 have KT4:=hid (KT.out.below hb4 KT.out.lt)
 have H4:=hid (H1.out.below B4.out)
 clear hb4 c3 SG
 have p4:W4.cell? ⟨P,1,none⟩=some (.int .i64 (i:Nat)):=H4.out.cells.cell 1
 have hi':(i:Int) + 1≤1000000:=by omega
 go_upto_region 4 with fail
 go_cut [17] from 18 to 31 (fun s17 wc=>s17=.bool false∧Hid (Below W4.heap.size W4 wc))
 case first=>
  by_cases hk:t.kind=1
  ·have hk':(t.kind:Int)=1:=by omega
   have hcall:sgn (tk L (i + 1)) ≠ [40]:=HCL.out (by rw [HT.out]; exact hk)
   have hne':((tx (sgn (tk L (i + 1)))).toList == [40])=false:=by rw [ByteArray.toList_eq]; simpa using hcall
   have hne2':(sgn (tk L (i + 1)) == [40])=false:=by simpa using hcall
   have WC:Hid (∀ W,Below W4.heap.size W4 W→Calls Tryz.prog 108 #[.pointer (some ⟨P,0,none⟩),.int .i64 ((i:Int) + 1)] W fun e w'=>e=.returned (tokV (tk L (i + 1)))∧Below W.heap.size W w'):=hid (fun W hW=>by
    have:=word_any (H4.out.below hW) (i + 1) (by omega) hL
    simpa using this)
   generalize tk L (i + 1)=t' at *
   rw [hk'] at t0
   clear hk' hk
   have hwr:IntKind.i64.wrap ((i:Int) + 1)=(i:Int) + 1:=by rw [IntKind.wrap_i64]; omega
   have K4:Hid (∀ w',Below W4.heap.size W4 w'→Below W4.heap.size W4 w'∧w'.cell? ⟨P,1,none⟩=some (.int .i64 (i:Nat))∧w'.cell? ⟨w.heap.size,0,none⟩=some (.pointer (some ⟨P,0,none⟩))∧w'.cell? ⟨W2.heap.size,0,none⟩=some (.int .i64 1)):=hid (fun w' hw=>⟨hw,(hw.cell (p:=⟨P,1,none⟩) H4.out.cells.lt).trans p4,(hw.cell (p:=⟨w.heap.size,0,none⟩) (by have:=B4.out.size; have:=K0.out.lt; show w.heap.size < _; omega)).trans c4,(hw.cell (p:=⟨W2.heap.size,0,none⟩) KT4.out.lt).trans t0⟩)
   go_region_held3 (fun w'=>Below W4.heap.size W4 w'∧w'.cell? ⟨P,1,none⟩=some (.int .i64 (i:Nat))∧w'.cell? ⟨w.heap.size,0,none⟩=some (.pointer (some ⟨P,0,none⟩))∧w'.cell? ⟨W2.heap.size,0,none⟩=some (.int .i64 1)) (first | (exact K4.out _ (Below.refl _ _).drew) | (go_split_ands; exact K4.out _ (bstep (by assumption) hb3)) | (go_split_ands; exact K4.out _ (bstep (by assumption) hb2)) | go_keep)
    (first
     | (go_at_call 108; (with_reducible refine (WC.out _ ?_).mono ?_); (go_split_ands; assumption); rintro e w2 ⟨rfl,hb2⟩)
     | (go_at_call 133; (with_reducible refine (sign_any t' _).mono ?_); rintro e w3 ⟨rfl,hb3⟩))
   all_goals
    go_wp2_with fail
    go_meet
    case rel=>exact ⟨rfl,hid (by (go_split_ands; first | assumption | exact bstep (by assumption) hb3))⟩
  ·have hk':((t.kind:Int) == 1)=false:=by rw [show (1:Int)=((1:Nat):Int) from rfl,kindI]; simpa using hk
   go_quiet (fail)
   go_wp2_with fail
   go_meet
   case rel=>exact ⟨rfl,hid (below_drewN (Below.refl _ _) _)⟩
 case rest=>
  obtain ⟨rfl,HB5⟩:=hcut
  obtain ⟨wd,rfl⟩:∃ wd,wd=wc:=⟨wc,rfl⟩
  clear t0 t1 t2 c4 p4 hW1 hW3 c0 hne hne2 hop
  have B5:Hid (Below W1.heap.size W1 wd):=hid (B4.out.trans (HB5.out.mono B4.out.size))
  have KT5:=hid (KT4.out.below HB5.out KT4.out.lt)
  have H5:=hid (H1.out.below B5.out)
  have K05:=hid (K0.out.below B5.out K0.out.lt)
  have K15:=hid (K1.out.below B5.out K1.out.lt)
  have t0:=KT5.out.cell 0
  have t1:=KT5.out.cell 1
  have t2:=KT5.out.cell 2
  have c5:=K05.out.cell 0
  simp only [List.getElem?_toArray,List.getElem?_cons_zero,List.getElem?_cons_succ] at t0 t1 t2 c5
  have LF:=hid (leaf_any t wd a m (HV.out.below H5.out.old) (by rw [← HT.out]; exact HSZ.out))
  have HF:Hid (fitT (leafT t)):=hid (fit_leaf t (by rw [← HT.out]; exact HSZ.out))
  rw [HTT.out] at LF HF
  have LF2:Hid (Calls Tryz.prog 230 #[tokV t] wd fun e w'=>e=.returned (.agg (ncells op tt vk vn vs none 0 0))∧Below wd.heap.size wd w'):=LF
  unfold ncells at LF2
  clear LF
  go_wp2_with fail
  refine LF2.out.mono ?_
  rintro e W6 ⟨rfl,hb6⟩
  have C5:=hid c5
  clear t0 t1 t2 c5 LF2
  go_wp2_with fail
  have b7:Below wd.heap.size wd (W6.alloc (.cells (ncells op tt vk vn vs none 0 0) 26)):=hb6.alloc hb6.size _
  have k7:=Whole.new W6 26 (ncells op tt vk vn vs none 0 0)
  unfold ncells at *
  obtain ⟨W7,hW7⟩:∃ W7,W6.alloc (.cells #[.int .i64 op,.string (tx tt),.int .i64 vk,.int .i64 vn,.string (tx vs),.slice none 0 0] 26)=W7:=⟨_,rfl⟩
  rw [hW7] at b7 k7 ⊢
  have B7:=hid b7
  have K7S:Hid (wd.heap.size≤W6.heap.size):=hid hb6.size
  have K7:=hid k7
  have H7:=hid (H5.out.below b7)
  have RR:=hid (callsIn_wide.1 (right_in (.node op tt vk vn vs []) _ W7 ⟨none,0,rfl,Nat.le_refl _,by rw [TreesAt]; trivial⟩ HF.out (by rw [Ex.depth,Ex.depths]; omega) a m (HV.out.below H7.out.old)))
  unfold ncells at RR
  obtain ⟨m0,m1,m2,m3,m4,m5⟩:=six_of k7
  have c7:=(b7.cell (p:=⟨w.heap.size,0,none⟩) K05.out.lt).trans C5.out
  clear b7 k7 hb6
  refine RR.out.mono ?_
  rintro e W8 ⟨rfl,hb8⟩
  obtain ⟨rb,hrb⟩:∃ rb,Ex.rightB nodeB (.node op tt vk vn vs [])=rb:=⟨_,rfl⟩
  rw [hrb]
  have HR2:Hid ((if rb=true then Ps.Res.ok (.node op tt vk vn vs []) (i + 1) else .bad 8 t.at_)=r):=hid (by rw [← hrb,← HTT.out,← HT.out]; exact HR.out)
  clear hrb
  have B8:=hid hb8
  have H8:=hid (H7.out.below hb8)
  have K08:=hid (K05.out.below B7.out K05.out.lt)
  have K08:=hid (K08.out.below hb8 K08.out.lt)
  have K18:=hid (K15.out.below B7.out K15.out.lt)
  have K18:=hid (K18.out.below hb8 K18.out.lt)
  have K78:=hid (K7.out.below hb8 K7.out.lt)
  clear m0 m1 m2 m3 m4 m5 c7 hb8 RR hW7 C5
  cases rb with
  | true=>
   have HR3:Hid (Ps.Res.ok (.node op tt vk vn vs []) (i + 1)=r):=hid (by rw [← HR2.out,if_pos rfl])
   have p8:W8.cell? ⟨P,1,none⟩=some (.int .i64 (i:Nat)):=H8.out.cells.cell 1
   have pf:W8.frozen? ⟨P,1,none⟩=false:=H8.out.cells.frozen 1
   have c8:=K08.out.cell 0
   simp only [List.getElem?_toArray,List.getElem?_cons_zero,List.getElem?_cons_succ] at c8
   have hPlt:P < w.heap.size:=HP0.out
   have H9:=hid (H8.out.set_at (i + 1))
   have T9:Hid (Touch [P] w (W8.setCell ⟨P,1,none⟩ (.int .i64 ((i + 1:Nat):Int)))):=hid ((Touch.of_below (B0.out.trans ((B5.out.trans (B7.out.mono B5.out.size)).trans (B8.out.mono (Nat.le_trans B5.out.size B7.out.size)) |>.mono B0.out.size)) [P]).setCell (.inl (by simp)) _)
   have K79:=hid (K78.out.far (p:=⟨P,1,none⟩) (by have:=H5.out.cells.lt; have:=K7S.out; simp; omega) (.int .i64 ((i + 1:Nat):Int)))
   have K19:=hid (K18.out.far (p:=⟨P,1,none⟩) (by simp; omega) (.int .i64 ((i + 1:Nat):Int)))
   clear K7 K78 K18 K08 K15 K05 K1 K0
   obtain ⟨W9,hW9⟩:∃ W9,W8.setCell ⟨P,1,none⟩ (.int .i64 ((i + 1:Nat):Int))=W9:=⟨_,rfl⟩
   rw [hW9] at H9 T9 K79 K19
   have hcast:((i + 1:Nat):Int)=(i:Int) + 1:=by omega
   rw [hcast] at hW9
   obtain ⟨m0,m1,m2,m3,m4,m5⟩:=six_of K79.out
   obtain ⟨x0,x1,x2,x3,x4,x5⟩:=six_of K19.out
   obtain ⟨y0,y1,y2,y3,y4,y5⟩:=frozen6 K19.out
   have FIN:=hid (set6Z_whole K19.out (.int .i64 op) (.string (tx tt)) (.int .i64 vk) (.int .i64 vn) (.string (tx vs)) (.slice none 0 0))
   have FT:=set6Z_touch W9 (w.heap.size + 1) (.int .i64 op) (.string (tx tt)) (.int .i64 vk) (.int .i64 vn) (.string (tx vs)) (.slice none 0 0)
   have FIN2:Hid (PAt w0 (set6Z W9 (w.heap.size + 1) (.int .i64 op) (.string (tx tt)) (.int .i64 vk) (.int .i64 vn) (.string (tx vs)) (.slice none 0 0)) P A c L (i + 1) d∧Touch [P] w (set6Z W9 (w.heap.size + 1) (.int .i64 op) (.string (tx tt)) (.int .i64 vk) (.int .i64 vn) (.string (tx vs)) (.slice none 0 0))):=
    hid ⟨H9.out.far6 FT (by have:=HW0.out; omega) (fun b o e=>by have:=HA0.out b o e; omega),T9.out.trans FT (fun x hx=>.inr (by simp at hx; omega))⟩
   clear FT
   go_wp2_with fail
   exact bodyPost_ret (results_two rfl _ _ (w.heap.size + 1) _ _ _ _ rfl FIN.out Tryz.underlying26 rfl sizeExpr _ rfl) rfl ⟨.node op tt vk vn vs [],i + 1,true,0,0,HR3.out ▸ .ok _ _,_,rfl,⟨none,0,rfl,Nat.le_refl _,by rw [TreesIn]; trivial⟩,FIN2.out.1,FIN2.out.2⟩
  | false=>
   have HR3:Hid (Ps.Res.bad 8 t.at_=r):=hid (by rw [← HR2.out,if_neg (by decide)])
   have c8:=K08.out.cell 0
   simp only [List.getElem?_toArray,List.getElem?_cons_zero,List.getElem?_cons_succ] at c8
   have KT8:=KT5.out.below (hb:=(B7.out.trans (B8.out.mono B7.out.size))) KT5.out.lt
   have t2:=KT8.cell 2
   simp only [List.getElem?_toArray,List.getElem?_cons_zero,List.getElem?_cons_succ] at t2
   have FA:=hid (fail_any H8.out hLe 8 t.at_)
   have T8:Hid (Touch [P] w W8):=hid (Touch.of_below (B0.out.trans ((B5.out.trans (B7.out.mono B5.out.size)).trans (B8.out.mono (Nat.le_trans B5.out.size B7.out.size)) |>.mono B0.out.size)) [P])
   clear K7 K78 K08 K15 K05 K1 K0 KT8
   go_wp2_with fail
   refine FA.out.mono ?_
   rintro e W9 ⟨u,rfl,⟨A2,c2,rfl,hc2,hk2⟩,hp,ht⟩
   have k9:Whole W9 (w.heap.size + 1) 26 zcells:=(ht.block _ K18.out.lt (by have:=HP0.out; simp; omega)).trans K18.out
   obtain ⟨x0,x1,x2,x3,x4,x5⟩:=six_of k9
   obtain ⟨y0,y1,y2,y3,y4,y5⟩:=frozen6 k9
   have FIN:=hid (set6Z_whole k9 (.int .i64 0) (.string (tx [])) (.int .i64 0) (.int .i64 0) (.string (tx [])) (.slice A2 0 c2))
   have FT:=set6Z_touch W9 (w.heap.size + 1) (.int .i64 0) (.string (tx [])) (.int .i64 0) (.int .i64 0) (.string (tx [])) (.slice A2 0 c2)
   have F1:=hid (hp.new HBB.out FT (by omega))
   have F2:=hid ((T8.out.trans ht (fun x hx=>.inl hx)).trans FT (fun x hx=>.inr (by simp at hx; omega)))
   have F4:=hid hc2
   clear FT hk2 hc2 hp ht k9 FA c8 t2
   go_wp2_with fail
   exact bodyPost_ret (results_two rfl _ _ (w.heap.size + 1) _ _ _ _ rfl FIN.out Tryz.underlying26 rfl sizeExpr _ rfl) rfl ⟨zT,i,false,8,t.at_,HR3.out ▸ .bad _ _ _ _,_,rfl,⟨A2,c2,rfl,F4.out,by rw [TreesIn]; trivial⟩,F1.out,F2.out⟩
end Go.Proofs.YteghhmomhlnccaaGreatDoor
namespace Go.Proofs.YteghhmomhlnccaaGreatDoor
open Ex (Tree)
variable {w0 w : World} {P : Nat} {A : Option Addr} {c : Nat} {L : List Lx.Tk} {i d : Nat}
theorem single1_any (h:PAt w0 w P A c L i d) (hL:L ≠ []) (hLn:L.length≤1000000) {r r0:Ps.Res} {g0:Nat} (k0:Whole w g0 122 #[.pointer (some ⟨P,0,none⟩)]) (hg0:g0 ≠ P)
  (hr:∀ T j b fc fa,Fit r0 T j b fc fa→(b=false∧Fit r T j false fc fa)∨(b=true∧fc=0∧fa=0∧j + 1≤1000000∧((sgn (tk L j)=[41]∧Fit r T (j + 1) true 0 0)∨(sgn (tk L j) ≠ [41]∧Fit r T j false 8 (tk L j).at_))))
  (HC:Tot w0 P A c L 81 #[.pointer (some ⟨P,0,none⟩)] i d r0) :
  Calls Tryz.prog 227 #[.pointer (some ⟨g0,0,none⟩)] w (OutX w0 P A c L d r w):=by
 have b0:Below w.heap.size w (w.alloc (.cells (ncells 0 [] 0 0 [] none 0 0) 26)):=(Below.refl _ _).alloc (Nat.le_refl _) _
 have z0:=Whole.new w 26 (ncells 0 [] 0 0 [] none 0 0)
 have h1:=h.below b0
 have HB:=hid (h.base hL)
 have hz:(w.alloc (.cells (ncells 0 [] 0 0 [] none 0 0) 26)).heap.size=w.heap.size + 1:=by simp
 have hg0l:=k0.lt
 have k0:=k0.below b0 k0.lt
 unfold ncells at *
 obtain ⟨W1,hW1⟩:∃ W1,w.alloc (.cells #[.int .i64 0,.string (tx []),.int .i64 0,.int .i64 0,.string (tx []),.slice none 0 0] 26)=W1:=⟨_,rfl⟩
 rw [hW1] at b0 z0 h1 hz k0
 have c0:=k0.cell 0
 simp only [List.getElem?_toArray,List.getElem?_cons_zero,List.getElem?_cons_succ] at c0
 have CC:=hid (HC W1 h1)
 have Z0:=hid z0
 have HZ:=hid hz
 have K0:=hid k0
 have B0:=hid b0
 have HR:=hid hr
 have HG:=hid hg0
 clear h1 h z0 b0 hz k0 HC hr hg0
 go_enter Tryz.func227,Tryz.ntmps227
 go_wp2_with fail
 refine CC.out.mono ?_
 rintro e W3 ⟨T,i',b,fc,fa,hf,u,rfl,hu,hp,ht⟩
 have HST:=HR.out _ _ _ _ _ hf
 cases T with
 | node op t vk vn vs ks=>
 obtain ⟨A2,c2',rfl,hcc,hk2⟩:=hu
 have b4:Below W3.heap.size W3 (W3.alloc (.cells (ncells op t vk vn vs A2 ks.length c2') 26)):=(Below.refl _ _).alloc (Nat.le_refl _) _
 have k4:=Whole.new W3 26 (ncells op t vk vn vs A2 ks.length c2')
 have z3:Whole W3 w.heap.size 26 zcells:=(ht.block _ Z0.out.lt (by have:=HB.out.P; simp; omega)).trans Z0.out
 have k03:Whole W3 g0 122 #[.pointer (some ⟨P,0,none⟩)]:=(ht.block _ K0.out.lt (by have:=HG.out; simp; omega)).trans K0.out
 have k04:=k03.below b4 k03.lt
 have z4:=z3.below b4 z3.lt
 have hp4:=hp.below b4
 have ht4:=((Touch.of_below B0.out [P]).trans ht (fun x hx=>.inl hx)).belowTo b4
 have hk4:TreesIn (fun k=>w.heap.size + 1≤k∧k < W3.heap.size) (W3.alloc (.cells (ncells op t vk vn vs A2 ks.length c2') 26)) A2 0 ks:=hk2.moved fun k hk hlt=>⟨b4.block k hlt,by have:=HZ.out; omega,hlt⟩
 have hlt3:=z3.lt
 unfold ncells at *
 obtain ⟨W4,hW4⟩:∃ W4,W3.alloc (.cells #[.int .i64 op,.string (tx t),.int .i64 vk,.int .i64 vn,.string (tx vs),.slice A2 ks.length c2'] 26)=W4:=⟨_,rfl⟩
 rw [hW4] at b4 k4 k04 z4 hp4 ht4 hk4
 obtain ⟨x0,x1,x2,x3,x4,x5⟩:=six_of k4
 have c4:=k04.cell 0
 simp only [List.getElem?_toArray,List.getElem?_cons_zero,List.getElem?_cons_succ] at c4
 have K4:=hid k4
 have Z4:=hid z4
 have P4:=hid hp4
 have T4:=hid ht4
 have N4:=hid hk4
 have HCC:=hid hcc
 obtain ⟨m0,m1,m2,m3,m4,m5⟩:=six_of z4
 obtain ⟨y0,y1,y2,y3,y4,y5⟩:=frozen6 z4
 have FINS:Hid (∀ W,Touch [P] W4 W→Whole (set6Z W w.heap.size (.int .i64 op) (.string (tx t)) (.int .i64 vk) (.int .i64 vn) (.string (tx vs)) (.slice A2 ks.length c2')) w.heap.size 26 #[.int .i64 op,.string (tx t),.int .i64 vk,.int .i64 vn,.string (tx vs),.slice A2 ks.length c2'] ∧
   (∀ {j fc fa},PX w0 W P A c L j d fc fa→PX w0 (set6Z W w.heap.size (.int .i64 op) (.string (tx t)) (.int .i64 vk) (.int .i64 vn) (.string (tx vs)) (.slice A2 ks.length c2')) P A c L j d fc fa) ∧
   Touch [P] w (set6Z W w.heap.size (.int .i64 op) (.string (tx t)) (.int .i64 vk) (.int .i64 vn) (.string (tx vs)) (.slice A2 ks.length c2')) ∧
   TreesIn (w.heap.size≤·) (set6Z W w.heap.size (.int .i64 op) (.string (tx t)) (.int .i64 vk) (.int .i64 vn) (.string (tx vs)) (.slice A2 ks.length c2')) A2 0 ks):=hid (fun W hW=>by
  have hP:=HB.out.P
  have zz:Whole W w.heap.size 26 zcells:=(hW.block _ Z4.out.lt (by simp; omega)).trans Z4.out
  have FT:=set6Z_touch W w.heap.size (.int .i64 op) (.string (tx t)) (.int .i64 vk) (.int .i64 vn) (.string (tx vs)) (.slice A2 ks.length c2')
  refine ⟨set6Z_whole zz _ _ _ _ _ _,fun hp=>hp.new HB.out FT (Nat.le_refl _),(T4.out.trans hW (fun x hx=>.inl hx)).trans FT (fun x hx=>.inr (by simp at hx; omega)),?_⟩
  exact (N4.out.moved (S':=fun k=>w.heap.size + 1≤k∧k < W3.heap.size) fun k hk hlt=>⟨hW.block k hlt (by simp; omega),hk⟩).moved fun k hk hlt=>⟨FT.block k hlt (by simp; omega),by omega⟩)
 have CELL:Hid (∀ W,Touch [P] W4 W→(W.cell? ⟨W3.heap.size,0,none⟩=some (.int .i64 op)∧W.cell? ⟨W3.heap.size,1,none⟩=some (.string (tx t))∧W.cell? ⟨W3.heap.size,2,none⟩=some (.int .i64 vk)∧W.cell? ⟨W3.heap.size,3,none⟩=some (.int .i64 vn)∧W.cell? ⟨W3.heap.size,4,none⟩=some (.string (tx vs))∧W.cell? ⟨W3.heap.size,5,none⟩=some (.slice A2 ks.length c2'))∧Whole W w.heap.size 26 zcells):=hid (fun W hW=>by
  have hP:=HB.out.P
  exact ⟨six_of ((hW.block _ K4.out.lt (by simp; omega)).trans K4.out:Whole W W3.heap.size 26 #[.int .i64 op,.string (tx t),.int .i64 vk,.int .i64 vn,.string (tx vs),.slice A2 ks.length c2']),(hW.block _ Z4.out.lt (by simp; omega)).trans Z4.out⟩)
 clear hk2 hcc hp ht hk4 z3 z4 k03 k04 k4 hp4 ht4 b4 CC hf c0 HR
 rcases HST with ⟨rfl,hfit⟩ | ⟨rfl,rfl,rfl,hj,hw | hw⟩
 ·have HFIT:=hid hfit
  have F0:=FINS.out W4 (Touch.refl _ _)
  have FA:=hid F0.1.drew
  have FB:=hid ((F0.2.1 P4.out).below ((Below.refl _ _).drew))
  have FC:=hid F0.2.2.1.drew
  have FD:=hid (F0.2.2.2.below ((Below.refl _ _).drew))
  clear F0
  clear hfit FINS CELL
  go_upto_region 2 with fail
  go_region_with fail
  all_goals
   go_wp2_with fail
   exact bodyPost_ret (results_two rfl _ _ w.heap.size _ _ _ _ rfl FA.out Tryz.underlying26 rfl sizeExpr _ rfl) rfl ⟨_,_,_,_,_,HFIT.out,_,rfl,⟨A2,c2',rfl,HCC.out,FD.out⟩,FB.out,FC.out⟩
 ·have HFIT:=hid hw.2
  have TK:Hid (∀ W,Below W4.heap.size W4 W→Calls Tryz.prog 228 #[.pointer (some ⟨P,0,none⟩),.string ⟨#[41]⟩] W fun e w'=>e=.returned (.bool true)∧PAt w0 w' P A c L (i' + 1) d∧Touch [P] W4 w'∧((w'.cell? ⟨W3.heap.size,0,none⟩=some (.int .i64 op)∧w'.cell? ⟨W3.heap.size,1,none⟩=some (.string (tx t))∧w'.cell? ⟨W3.heap.size,2,none⟩=some (.int .i64 vk)∧w'.cell? ⟨W3.heap.size,3,none⟩=some (.int .i64 vn)∧w'.cell? ⟨W3.heap.size,4,none⟩=some (.string (tx vs))∧w'.cell? ⟨W3.heap.size,5,none⟩=some (.slice A2 ks.length c2'))∧Whole w' w.heap.size 26 zcells)):=hid (fun W hW=>(takes_yes (P4.out.below hW) hLn hj [41] hw.1).mono (by
   rintro e w' ⟨rfl,h1,h2⟩
   have h3:=(Touch.of_below hW [P]).trans h2 (fun x hx=>.inl hx)
   exact ⟨rfl,h1,h3,CELL.out _ h3⟩))
  clear hw CELL
  go_upto_region 2 with fail
  go_region_with (go_at_call 228; refine (TK.out _ (below_drewN (Below.refl _ _) _)).mono ?_; rintro e W5 ⟨rfl,hp5,ht5,⟨x0,x1,x2,x3,x4,x5⟩,z5⟩; obtain ⟨m0,m1,m2,m3,m4,m5⟩:=six_of z5; obtain ⟨y0,y1,y2,y3,y4,y5⟩:=frozen6 z5; have P5:=hid hp5; have T5:=hid ht5; clear hp5 ht5 z5)
  all_goals
   have F0:=FINS.out W5 T5.out
   have FA:=hid F0.1
   have FB:=hid (F0.2.1 P5.out)
   have FC:=hid F0.2.2.1
   have FD:=hid F0.2.2.2
   clear F0
   go_wp2_with fail
   exact bodyPost_ret (results_two rfl _ _ w.heap.size _ _ _ _ rfl FA.out Tryz.underlying26 rfl sizeExpr _ rfl) rfl ⟨_,_,_,_,_,HFIT.out,_,rfl,⟨A2,c2',rfl,HCC.out,FD.out⟩,FB.out,FC.out⟩
 ·obtain ⟨fa9,hfa9⟩:∃ fa9,(tk L i').at_=fa9:=⟨_,rfl⟩
  rw [hfa9] at hw
  have HFIT:=hid hw.2
  have TK:Hid (∀ W,Below W4.heap.size W4 W→Calls Tryz.prog 228 #[.pointer (some ⟨P,0,none⟩),.string ⟨#[41]⟩] W fun e w'=>e=.returned (.bool false)∧PX w0 w' P A c L i' d 8 fa9∧Touch [P] W4 w'∧((w'.cell? ⟨W3.heap.size,0,none⟩=some (.int .i64 op)∧w'.cell? ⟨W3.heap.size,1,none⟩=some (.string (tx t))∧w'.cell? ⟨W3.heap.size,2,none⟩=some (.int .i64 vk)∧w'.cell? ⟨W3.heap.size,3,none⟩=some (.int .i64 vn)∧w'.cell? ⟨W3.heap.size,4,none⟩=some (.string (tx vs))∧w'.cell? ⟨W3.heap.size,5,none⟩=some (.slice A2 ks.length c2'))∧Whole w' w.heap.size 26 zcells)):=hid (fun W hW=>(takes_no (P4.out.below hW) hL hLn hj [41] hw.1).mono (by
   rintro e w' ⟨rfl,h1,h2⟩
   rw [hfa9] at h1
   have h3:=(Touch.of_below hW [P]).trans h2 (fun x hx=>.inl hx)
   exact ⟨rfl,h1,h3,CELL.out _ h3⟩))
  clear hw CELL
  go_upto_region 2 with fail
  go_region_with (go_at_call 228; refine (TK.out _ (below_drewN (Below.refl _ _) _)).mono ?_; rintro e W5 ⟨rfl,hp5,ht5,⟨x0,x1,x2,x3,x4,x5⟩,z5⟩; obtain ⟨m0,m1,m2,m3,m4,m5⟩:=six_of z5; obtain ⟨y0,y1,y2,y3,y4,y5⟩:=frozen6 z5; have P5:=hid hp5; have T5:=hid ht5; clear hp5 ht5 z5)
  all_goals
   have F0:=FINS.out W5 T5.out
   have FA:=hid F0.1
   have FB:=hid (F0.2.1 P5.out)
   have FC:=hid F0.2.2.1
   have FD:=hid F0.2.2.2
   clear F0
   go_wp2_with fail
   exact bodyPost_ret (results_two rfl _ _ w.heap.size _ _ _ _ rfl FA.out Tryz.underlying26 rfl sizeExpr _ rfl) rfl ⟨_,_,_,_,_,HFIT.out,_,rfl,⟨A2,c2',rfl,HCC.out,FD.out⟩,FB.out,FC.out⟩
end Go.Proofs.YteghhmomhlnccaaGreatDoor
namespace Go.Proofs.YteghhmomhlnccaaGreatDoor
open Ex (Tree)
theorem callSingle1 (a:Nat) (W:World):Sem.run Tryz.prog (callFunc 227 #[.pointer (some ⟨a,0,none⟩)]) W=.ok (.enter 227 #[.pointer (some ⟨a,0,none⟩)]) W:=by kernel_rfl
theorem single_open {w0:World} {P:Nat} {A:Option Addr} {c:Nat} {L:List Lx.Tk} {i d:Nat} (hLe:L ≠ []) (hi:i + 1≤1000000) (hL:L.length≤1000000) {r:Ps.Res} (ho:sgn (tk L i)=[40]) (hd30:d≤30) (HD:d=30→r=.bad 18 (tk L i).at_)
  (HX:d < 30→∃ r0,(∀ T j b fc fa,Fit r0 T j b fc fa→(b=false∧Fit r T j false fc fa)∨(b=true∧fc=0∧fa=0∧j + 1≤1000000∧((sgn (tk L j)=[41]∧Fit r T (j + 1) true 0 0)∨(sgn (tk L j) ≠ [41]∧Fit r T j false 8 (tk L j).at_))))∧Tot w0 P A c L 81 #[.pointer (some ⟨P,0,none⟩)] (i + 1) (d + 1) r0) :
  Tot w0 P A c L 224 #[.pointer (some ⟨P,0,none⟩)] i d r:=by
 intro w h
 have HDH:=hid HD
 have HXH:=hid HX
 clear HD HX
 have b0:Below w.heap.size w ((w.alloc (.cells #[.pointer (some ⟨P,0,none⟩)] 122)).alloc (.cells (ncells 0 [] 0 0 [] none 0 0) 26)):=((Below.refl _ _).alloc (Nat.le_refl _) _).alloc (by simp) _
 have k0:=(Whole.new w 122 #[.pointer (some ⟨P,0,none⟩)]).alloc (.cells (ncells 0 [] 0 0 [] none 0 0) 26)
 have k1:=Whole.new (w.alloc (.cells #[.pointer (some ⟨P,0,none⟩)] 122)) 26 (ncells 0 [] 0 0 [] none 0 0)
 simp only [World.size_alloc] at k1
 have h1:=h.below b0
 obtain ⟨W1,hW1⟩:∃ W1,(w.alloc (.cells #[.pointer (some ⟨P,0,none⟩)] 122)).alloc (.cells (ncells 0 [] 0 0 [] none 0 0) 26)=W1:=⟨_,rfl⟩
 rw [hW1] at b0 k0 k1 h1
 unfold ncells at *
 have NX:=hid (next_any h1 (by omega) hL)
 have c0:=k0.cell 0
 simp only [List.getElem?_toArray,List.getElem?_cons_zero,List.getElem?_cons_succ] at c0
 have B0:=hid b0
 have K0:=hid k0
 have K1:=hid k1
 have H1:=hid h1
 have HA0:Hid (∀ b o,A=some ⟨b,o,none⟩→b < w.heap.size):=hid (h.lower hLe)
 have HW0:Hid (w0.heap.size≤w.heap.size):=hid h.old.size
 have HP0:Hid (P < w.heap.size):=hid h.cells.lt
 have HBB:=hid (h.base hLe)
 obtain ⟨t,ht⟩:∃ t,tk L i=t:=⟨_,rfl⟩
 have HT:=hid ht
 rw [ht] at NX
 have hop:sgn t=[40]:=by rw [← ht]; exact ho
 have b0':∀ {W2:World},Below W1.heap.size W1 W2→Below W1.heap.size W1 (W2.alloc (.cells #[.int .i64 (t.kind:Nat),.string (tx t.text),.int .i64 (t.at_:Nat)] 87)):=fun hb=>hb.alloc hb.size _
 clear b0 k0 k1 h1 h ht ho
 go_enter Tryz.func224,Tryz.ntmps224
 go_wp2_with fail
 refine NX.out.mono ?_
 rintro e W2 ⟨rfl,hb2⟩
 have b3:=b0' hb2
 have k3:=Whole.new W2 87 #[.int .i64 (t.kind:Nat),.string (tx t.text),.int .i64 (t.at_:Nat)]
 obtain ⟨W3,hW3⟩:∃ W3,W2.alloc (.cells #[.int .i64 (t.kind:Nat),.string (tx t.text),.int .i64 (t.at_:Nat)] 87)=W3:=⟨_,rfl⟩
 rw [hW3] at b3 k3
 have B3:=hid b3
 have KT:=hid k3
 have SG:=hid (sign_any t W3)
 have t0:=k3.cell 0
 have t1:=k3.cell 1
 have t2:=k3.cell 2
 simp only [List.getElem?_toArray,List.getElem?_cons_zero,List.getElem?_cons_succ] at t0 t1 t2
 have c3:=(b3.cell (p:=⟨w.heap.size,0,none⟩) K0.out.lt).trans c0
 have hne:((tx (sgn t)).toList == [40])=true:=by rw [ByteArray.toList_eq]; simpa using hop
 have hne2:(sgn t == [40])=true:=by simpa using hop
 clear hb2 k3 b3 b0' NX
 go_wp2_with fail
 refine SG.out.mono ?_
 rintro e W4 ⟨rfl,hb4⟩
 have c4:=(hb4.cell (p:=⟨w.heap.size,0,none⟩) (by have:=B3.out.size; have:=K0.out.lt; show w.heap.size < _; omega)).trans c3
 have B4:Hid (Below W1.heap.size W1 W4):=hid (B3.out.trans (hb4.mono B3.out.size))
 have K04:=hid (K0.out.below B4.out K0.out.lt)
 have K14:=hid (K1.out.below B4.out K1.out.lt)
 have BW:Hid (Below W1.heap.size W1 W4):=B4
 have CC:Hid (Calls Tryz.prog 179 #[.pointer (some ⟨P,0,none⟩),.func (.func 227) #[] #[.pointer (some ⟨w.heap.size,0,none⟩)]] W4 (OutX w0 P A c L d r W4)):=hid (by
  have hpw:=HP0.out
  rcases Nat.lt_or_ge d 30 with hd | hd
  ·obtain ⟨r0,e1,e2⟩:=HXH.out hd
   refine nested_go (H1.out.below B4.out) hLe hi _ _ (fun W=>callSingle1 _ W) hd r fun W hW ht=>?_
   exact single1_any hW hLe hL ((ht.block _ K04.out.lt (by simp; omega)).trans K04.out) (by omega) e1 e2
  ·have hd0:d=30:=by omega
   rw [HDH.out hd0]
   exact nested_deep (H1.out.below B4.out) hLe hL hi _ _ hd0)
 clear hb4 c3 SG t0 t1 t2 hop
 have hcell:=c4
 clear c4
 go_wp2_with fail
 refine CC.out.mono ?_
 rintro e W6 ⟨T,i',b,fc,fa,hf,u,rfl,hu,hp,ht⟩
 cases T with
 | node op t' vk vn vs ks=>
 obtain ⟨A2,c2,rfl,hc2,hk2⟩:=hu
 have k6:Whole W6 (w.heap.size + 1) 26 zcells:=(ht.block _ K14.out.lt (by have:=HP0.out; simp; omega)).trans K14.out
 have hsz14:=K14.out.lt
 obtain ⟨x0,x1,x2,x3,x4,x5⟩:=six_of k6
 obtain ⟨y0,y1,y2,y3,y4,y5⟩:=frozen6 k6
 have FIN:=hid (set6Z_whole k6 (.int .i64 op) (.string (tx t')) (.int .i64 vk) (.int .i64 vn) (.string (tx vs)) (.slice A2 ks.length c2))
 have FT:=set6Z_touch W6 (w.heap.size + 1) (.int .i64 op) (.string (tx t')) (.int .i64 vk) (.int .i64 vn) (.string (tx vs)) (.slice A2 ks.length c2)
 have F1:=hid (hp.new HBB.out FT (by omega))
 have F2:=hid (((Touch.of_below (B0.out.trans (BW.out.mono B0.out.size)) [P]).trans ht (fun x hx=>.inl hx)).trans FT (fun x hx=>.inr (by simp at hx; omega)))
 have F3:=hid (hk2.moved (S':=(w.heap.size≤·)) fun k hk hlt=>⟨FT.block k hlt (by simp; omega),by omega⟩)
 have F4:=hid hc2
 have F5:=hid hf
 clear FT hk2 hc2 hp ht k6 hf hcell
 go_wp2_with fail
 exact bodyPost_ret (results_two rfl _ _ (w.heap.size + 1) _ _ _ _ rfl FIN.out Tryz.underlying26 rfl sizeExpr _ rfl) rfl ⟨_,_,_,_,_,F5.out,_,rfl,⟨A2,c2,rfl,F4.out,F3.out⟩,F1.out,F2.out⟩
theorem single_call {w0:World} {P:Nat} {A:Option Addr} {c:Nat} {L:List Lx.Tk} {i d:Nat} (hLe:L ≠ []) (hi:i + 1≤1000000) (hL:L.length≤1000000) {r:Ps.Res} (ho:sgn (tk L i) ≠ [40]) (hk1:(tk L i).kind=1) (hcl:sgn (tk L (i + 1))=[40]) (HC:Tot w0 P A c L 229 #[.pointer (some ⟨P,0,none⟩)] i d r) :
  Tot w0 P A c L 224 #[.pointer (some ⟨P,0,none⟩)] i d r:=by
 intro w h
 have b0:Below w.heap.size w ((w.alloc (.cells #[.pointer (some ⟨P,0,none⟩)] 122)).alloc (.cells (ncells 0 [] 0 0 [] none 0 0) 26)):=((Below.refl _ _).alloc (Nat.le_refl _) _).alloc (by simp) _
 have k0:=(Whole.new w 122 #[.pointer (some ⟨P,0,none⟩)]).alloc (.cells (ncells 0 [] 0 0 [] none 0 0) 26)
 have k1:=Whole.new (w.alloc (.cells #[.pointer (some ⟨P,0,none⟩)] 122)) 26 (ncells 0 [] 0 0 [] none 0 0)
 simp only [World.size_alloc] at k1
 have h1:=h.below b0
 obtain ⟨W1,hW1⟩:∃ W1,(w.alloc (.cells #[.pointer (some ⟨P,0,none⟩)] 122)).alloc (.cells (ncells 0 [] 0 0 [] none 0 0) 26)=W1:=⟨_,rfl⟩
 rw [hW1] at b0 k0 k1 h1
 unfold ncells at *
 have NX:=hid (next_any h1 (by omega) hL)
 have c0:=k0.cell 0
 simp only [List.getElem?_toArray,List.getElem?_cons_zero,List.getElem?_cons_succ] at c0
 have B0:=hid b0
 have K0:=hid k0
 have K1:=hid k1
 have H1:=hid h1
 have HA0:Hid (∀ b o,A=some ⟨b,o,none⟩→b < w.heap.size):=hid (h.lower hLe)
 have HW0:Hid (w0.heap.size≤w.heap.size):=hid h.old.size
 have HP0:Hid (P < w.heap.size):=hid h.cells.lt
 have HK1:=hid hk1
 have HCL:=hid hcl
 have HBB:=hid (h.base hLe)
 obtain ⟨t,ht⟩:∃ t,tk L i=t:=⟨_,rfl⟩
 have HT:=hid ht
 rw [ht] at NX
 have hop:sgn t ≠ [40]:=by rw [← ht]; exact ho
 have b0':∀ {W2:World},Below W1.heap.size W1 W2→Below W1.heap.size W1 (W2.alloc (.cells #[.int .i64 (t.kind:Nat),.string (tx t.text),.int .i64 (t.at_:Nat)] 87)):=fun hb=>hb.alloc hb.size _
 clear b0 k0 k1 h1 h ht ho hcl hk1
 go_enter Tryz.func224,Tryz.ntmps224
 go_wp2_with fail
 refine NX.out.mono ?_
 rintro e W2 ⟨rfl,hb2⟩
 have b3:=b0' hb2
 have k3:=Whole.new W2 87 #[.int .i64 (t.kind:Nat),.string (tx t.text),.int .i64 (t.at_:Nat)]
 obtain ⟨W3,hW3⟩:∃ W3,W2.alloc (.cells #[.int .i64 (t.kind:Nat),.string (tx t.text),.int .i64 (t.at_:Nat)] 87)=W3:=⟨_,rfl⟩
 rw [hW3] at b3 k3
 have B3:=hid b3
 have KT:=hid k3
 have SG:=hid (sign_any t W3)
 have t0:=k3.cell 0
 have t1:=k3.cell 1
 have t2:=k3.cell 2
 simp only [List.getElem?_toArray,List.getElem?_cons_zero,List.getElem?_cons_succ] at t0 t1 t2
 have c3:=(b3.cell (p:=⟨w.heap.size,0,none⟩) K0.out.lt).trans c0
 have hne:((tx (sgn t)).toList == [40])=false:=by rw [ByteArray.toList_eq]; simpa using hop
 have hne2:(sgn t == [40])=false:=by simpa using hop
 clear hb2 k3 b3 b0' NX
 go_wp2_with fail
 refine SG.out.mono ?_
 rintro e W4 ⟨rfl,hb4⟩
 have c4:=(hb4.cell (p:=⟨w.heap.size,0,none⟩) (by have:=B3.out.size; have:=K0.out.lt; show w.heap.size < _; omega)).trans c3
 have t0:=(hb4.cell (p:=⟨W2.heap.size,0,none⟩) KT.out.lt).trans t0
 have t1:=(hb4.cell (p:=⟨W2.heap.size,1,none⟩) KT.out.lt).trans t1
 have t2:=(hb4.cell (p:=⟨W2.heap.size,2,none⟩) KT.out.lt).trans t2
 have B4:Hid (Below W1.heap.size W1 W4):=hid (B3.out.trans (hb4.mono B3.out.size))
 have KT4:=hid (KT.out.below hb4 KT.out.lt)
 have H4:=hid (H1.out.below B4.out)
 clear hb4 c3 SG
 have p4:W4.cell? ⟨P,1,none⟩=some (.int .i64 (i:Nat)):=H4.out.cells.cell 1
 have hi':(i:Int) + 1≤1000000:=by omega
 go_upto_region 4 with fail
 go_cut [17] from 18 to 31 (fun s17 wc=>s17=.bool true∧Hid (Below W4.heap.size W4 wc))
 case first=>
  have hk:t.kind=1:=by rw [← HT.out]; exact HK1.out
  have hk':(t.kind:Int)=1:=by omega
  have hcall:sgn (tk L (i + 1))=[40]:=HCL.out
  have hne':((tx (sgn (tk L (i + 1)))).toList == [40])=true:=by rw [ByteArray.toList_eq]; simpa using hcall
  have hne2':(sgn (tk L (i + 1)) == [40])=true:=by simpa using hcall
  have WC:Hid (∀ W,Below W4.heap.size W4 W→Calls Tryz.prog 108 #[.pointer (some ⟨P,0,none⟩),.int .i64 ((i:Int) + 1)] W fun e w'=>e=.returned (tokV (tk L (i + 1)))∧Below W.heap.size W w'):=hid (fun W hW=>by
   have:=word_any (H4.out.below hW) (i + 1) (by omega) hL
   simpa using this)
  generalize tk L (i + 1)=t' at *
  rw [hk'] at t0
  clear hk' hk
  have hwr:IntKind.i64.wrap ((i:Int) + 1)=(i:Int) + 1:=by rw [IntKind.wrap_i64]; omega
  have K4:Hid (∀ w',Below W4.heap.size W4 w'→Below W4.heap.size W4 w'∧w'.cell? ⟨P,1,none⟩=some (.int .i64 (i:Nat))∧w'.cell? ⟨w.heap.size,0,none⟩=some (.pointer (some ⟨P,0,none⟩))∧w'.cell? ⟨W2.heap.size,0,none⟩=some (.int .i64 1)):=hid (fun w' hw=>⟨hw,(hw.cell (p:=⟨P,1,none⟩) H4.out.cells.lt).trans p4,(hw.cell (p:=⟨w.heap.size,0,none⟩) (by have:=B4.out.size; have:=K0.out.lt; show w.heap.size < _; omega)).trans c4,(hw.cell (p:=⟨W2.heap.size,0,none⟩) KT4.out.lt).trans t0⟩)
  go_region_held3 (fun w'=>Below W4.heap.size W4 w'∧w'.cell? ⟨P,1,none⟩=some (.int .i64 (i:Nat))∧w'.cell? ⟨w.heap.size,0,none⟩=some (.pointer (some ⟨P,0,none⟩))∧w'.cell? ⟨W2.heap.size,0,none⟩=some (.int .i64 1)) (first | (exact K4.out _ (Below.refl _ _).drew) | (go_split_ands; exact K4.out _ (bstep (by assumption) hb3)) | (go_split_ands; exact K4.out _ (bstep (by assumption) hb2)) | go_keep)
   (first
    | (go_at_call 108; (with_reducible refine (WC.out _ ?_).mono ?_); (go_split_ands; assumption); rintro e w2 ⟨rfl,hb2⟩)
    | (go_at_call 133; (with_reducible refine (sign_any t' _).mono ?_); rintro e w3 ⟨rfl,hb3⟩))
  all_goals
   go_wp2_with fail
   go_meet
   case rel=>exact ⟨rfl,hid (by (go_split_ands; first | assumption | exact bstep (by assumption) hb3))⟩
 case rest=>
  obtain ⟨rfl,HB5⟩:=hcut
  obtain ⟨wd,rfl⟩:∃ wd,wd=wc:=⟨wc,rfl⟩
  clear t0 t1 t2 c4 p4 hW1 hW3 c0 hne hne2 hop
  have B5:Hid (Below W1.heap.size W1 wd):=hid (B4.out.trans (HB5.out.mono B4.out.size))
  have BW:=B5
  have H5:=hid (H1.out.below B5.out)
  have K05:=hid (K0.out.below B5.out K0.out.lt)
  have K14:=hid (K1.out.below B5.out K1.out.lt)
  have hcell:=K05.out.cell 0
  simp only [List.getElem?_toArray,List.getElem?_cons_zero,List.getElem?_cons_succ] at hcell
  have CC:=hid (HC wd H5.out)
  go_wp2_with fail
  refine CC.out.mono ?_
  rintro e W6 ⟨T,i',b,fc,fa,hf,u,rfl,hu,hp,ht⟩
  cases T with
  | node op t' vk vn vs ks=>
  obtain ⟨A2,c2,rfl,hc2,hk2⟩:=hu
  have k6:Whole W6 (w.heap.size + 1) 26 zcells:=(ht.block _ K14.out.lt (by have:=HP0.out; simp; omega)).trans K14.out
  have hsz14:=K14.out.lt
  obtain ⟨x0,x1,x2,x3,x4,x5⟩:=six_of k6
  obtain ⟨y0,y1,y2,y3,y4,y5⟩:=frozen6 k6
  have FIN:=hid (set6Z_whole k6 (.int .i64 op) (.string (tx t')) (.int .i64 vk) (.int .i64 vn) (.string (tx vs)) (.slice A2 ks.length c2))
  have FT:=set6Z_touch W6 (w.heap.size + 1) (.int .i64 op) (.string (tx t')) (.int .i64 vk) (.int .i64 vn) (.string (tx vs)) (.slice A2 ks.length c2)
  have F1:=hid (hp.new HBB.out FT (by omega))
  have F2:=hid (((Touch.of_below (B0.out.trans (BW.out.mono B0.out.size)) [P]).trans ht (fun x hx=>.inl hx)).trans FT (fun x hx=>.inr (by simp at hx; omega)))
  have F3:=hid (hk2.moved (S':=(w.heap.size≤·)) fun k hk hlt=>⟨FT.block k hlt (by simp; omega),by omega⟩)
  have F4:=hid hc2
  have F5:=hid hf
  clear FT hk2 hc2 hp ht k6 hf hcell
  go_wp2_with fail
  exact bodyPost_ret (results_two rfl _ _ (w.heap.size + 1) _ _ _ _ rfl FIN.out Tryz.underlying26 rfl sizeExpr _ rfl) rfl ⟨_,_,_,_,_,F5.out,_,rfl,⟨A2,c2,rfl,F4.out,F3.out⟩,F1.out,F2.out⟩
end Go.Proofs.YteghhmomhlnccaaGreatDoor
namespace Go.Proofs.YteghhmomhlnccaaGreatDoor
open Ex (Tree)
def KidL (B:Nat) (w:World) (v:Value) (k:Nat):Prop:=B≤k∧k < w.heap.size∧v.ownBlock ≠ some k
theorem list_step {wr W3:World} {P B:Nat} {v:Value} {done:List Tree} (hrow:RowT (KidL B wr v) wr B v done) (hn:done.length + 1≤1000000) (hB:B≤wr.heap.size) (hPB:P < B) (ht:Touch [P] wr W3) {o2:Int} {t2:List UInt8} {k2 n2:Int} {s2:List UInt8} {l2:List Tree} {A2:Option Addr} {c2:Nat} (hc2:l2.length≤c2) (hk2:TreesIn (wr.heap.size≤·) W3 A2 0 l2) :
  ∃ v' W5,Sem.run Tryz.prog (Builtin.append_ #[24,24] 24 #[v,.slice (some ⟨W3.heap.size,0,none⟩) 1 1]) (W3.alloc (.cells (ncells o2 t2 k2 n2 s2 A2 l2.length c2) 26))=.ok v' W5 ∧
   RowT (KidL B W5 v') W5 B v' (done ++ [.node o2 t2 k2 n2 s2 l2])∧Touch v.ownBlock.toList (W3.alloc (.cells (ncells o2 t2 k2 n2 s2 A2 l2.length c2) 26)) W5∧∀ k,v.ownBlock=some k→B≤k:=by
 have hz3:=ht.size
 have b4:Below W3.heap.size W3 (W3.alloc (.cells (ncells o2 t2 k2 n2 s2 A2 l2.length c2) 26)):=(Below.refl _ _).alloc (Nat.le_refl _) _
 have k4:=Whole.new W3 26 (ncells o2 t2 k2 n2 s2 A2 l2.length c2)
 have z4:(W3.alloc (.cells (ncells o2 t2 k2 n2 s2 A2 l2.length c2) 26)).heap.size=W3.heap.size + 1:=by simp
 obtain ⟨w4,hw4⟩:∃ w4,W3.alloc (.cells (ncells o2 t2 k2 n2 s2 A2 l2.length c2) 26)=w4:=⟨_,rfl⟩
 rw [hw4] at b4 k4 z4 ⊢
 have hown:∀ k,v.ownBlock=some k→B≤k∧k < wr.heap.size:=fun k e=>hrow.block k e
 have hsame:∀ k,B≤k→k < wr.heap.size→w4.heap[k]?=wr.heap[k]?:=fun k h1 h2=>(b4.block k (by omega)).trans (ht.block k h2 (by simp; omega))
 have hr4:RowT (fun k=>KidL B wr v k∨(wr.heap.size≤k∧k < W3.heap.size)) w4 B v done:=hrow.moved (fun k hk hlt=>⟨hsame k hk.1 hlt,.inl hk⟩) (fun k e=>⟨hsame k (hown k e).1 (hown k e).2,fun hh=>by
  have:=hown k e
  rcases hh with hh | hh
  ·exact hh.2.2 e
  ·omega⟩)
 have hsrc:SrcT (fun k=>KidL B wr v k∨(wr.heap.size≤k∧k < W3.heap.size)) w4 (some ⟨W3.heap.size,0,none⟩) [.node o2 t2 k2 n2 s2 l2]:=
  ⟨_,⟨A2,c2,[],rfl,hc2,hk2.moved fun k hk hlt=>⟨b4.block k hlt,.inr ⟨hk,hlt⟩⟩,rfl⟩,fun j u hu=>⟨W3.heap.size,0,rfl,by rw [Nat.zero_add,k4.cell,← hu]; simp [ncells]⟩⟩
 obtain ⟨v',w5,hrun,hr5,T5,o5⟩:=append_trees hr4 (A:=some ⟨W3.heap.size,0,none⟩) (c:=1) hsrc (by simpa using hn) (by omega) (by
  rintro (hh | hh)
  ·have:=hh.2.1; omega
  ·omega)
 refine ⟨v',w5,hrun,?_,T5,fun k e=>(hown k e).1⟩
 have hno:∀ k,v'.ownBlock=some k→¬ (KidL B wr v k∨(wr.heap.size≤k∧k < W3.heap.size)):=hr5.choose_spec.2.2
 exact hr5.moved (fun k hk hlt=>⟨rfl,by rcases hk with hk | hk; exact hk.1; omega,hlt,fun e=>hno k e hk⟩) (fun k e=>⟨rfl,fun hh=>hh.2.2 e⟩)
structure LsX (w0 w wr:World) (P:Nat) (A:Option Addr) (c:Nat) (L:List Lx.Tk) (i d:Nat) (v:Value) (done:List Tree):Prop where
 p:PAt w0 wr P A c L i d
 row:RowT (KidL w.heap.size wr v) wr w.heap.size v done
 touch:Touch [P] w wr
def LOut (w0:World) (P:Nat) (A:Option Addr) (c:Nat) (L:List Lx.Tk) (d:Nat) (r:Ps.Res) (w:World) (e:Ending) (w':World):Prop:=
 ∃ v b i' fc fa,e=.returned (.tuple #[v,.bool b])∧PX w0 w' P A c L i' d fc fa∧Touch [P] w w' ∧
  ((b=true∧fc=0∧fa=0∧∃ ks A' c',r=.ok (.node 0 [] 0 0 [] ks) i'∧v=.slice A' ks.length c'∧ks.length≤c'∧TreesIn (w.heap.size≤·) w' A' 0 ks)∨(b=false∧r=.bad fc fa∧∃ A' n' c',v=.slice A' n' c'))
theorem RowT.out {w w':World} {v:Value} {l:List Tree} {B:Nat} (h:RowT (KidL B w v) w B v l):∃ A c,v=.slice A l.length c∧l.length≤c∧TreesIn (B≤·) w A 0 l:=by
 obtain ⟨A,c,e,h1,h2⟩:=h.trees
 exact ⟨A,c,e,h1,h2.moved fun k hk _=>⟨rfl,by rcases hk with hk | hk; exact hk.1; exact hk⟩⟩
theorem list_tot {w0:World} {P:Nat} {A:Option Addr} {c:Nat} {L:List Lx.Tk} {i d:Nat} (hL:Ps.Ends L) (hLn:L.length≤900000) (hi:i < L.length) (F:Nat) {r:Ps.Res} (hr:Ps.rd 30 L F d (.list []) i=some r)
  (HS:∀ f i r,f < F→i < L.length→Ps.rd 30 L f d (.rule .or) i=some r→Tot w0 P A c L 81 #[.pointer (some ⟨P,0,none⟩)] i d r) (w:World) (h:PAt w0 w P A c L i d) :
  Calls Tryz.prog 232 #[.pointer (some ⟨P,0,none⟩)] w (LOut w0 P A c L d r w):=by
 have HB:=hid (h.base hL.1)
 have L0:Hid (LsX w0 w w P A c L i d (.slice none 0 0) []):=hid ⟨h,RowT.nil _ _ _,Touch.refl _ _⟩
 have HSH:=hid HS
 have HLE:=hid hL
 have HR0:=hid hr
 clear h HS hL hr
 go_enter Tryz.func232,Tryz.ntmps232
 go_wp2_with fail
 go_loopg [4] (F + 1) (fun j s4 wr=>∃ (f i:Nat) (v:Value) (done:List Tree),f≤F∧f < j∧i < L.length∧done.length≤i∧s4=v∧Hid (Ps.rd 30 L f d (.list done) i=some r)∧Hid (LsX w0 w wr P A c L i d v done))
 case atStart=>exact ⟨F,i,_,[],by omega,by omega,hi,by simp,rfl,HR0,L0⟩
 case round=>
  obtain ⟨f,i1,v,done,hfF,hfj,hi1,hdone,rfl,HRD,LF⟩:=hrel
  clear L0 HR0
  obtain ⟨f,rfl⟩:∃ f',f=f' + 1:=by
   cases f with
   | zero=>exact absurd HRD.out (by intro h; cases h)
   | succ f=>exact ⟨f,rfl⟩
  have hrd:=HRD.out
  rw [Ps.rd_list] at hrd
  obtain ⟨r1,hr1,H1⟩:∃ r1,Ps.rd 30 L f d (.rule .or) i1=some r1∧∀ T j b fc fa,Fit r1 T j b fc fa→(b=false∧r=.bad fc fa)∨(b=true∧fc=0∧fa=0∧i1 < j∧j < L.length ∧
    ((sgn (tk L j)=[44]∧Ps.rd 30 L f d (.list (done ++ [T])) (j + 1)=some r)∨(sgn (tk L j) ≠ [44]∧sgn (tk L j)=[41]∧r=.ok (.node 0 [] 0 0 [] (done ++ [T])) (j + 1))∨(sgn (tk L j) ≠ [44]∧sgn (tk L j) ≠ [41]∧r=.bad 8 (tk L j).at_))):=by
   rcases Ps.bindR_some hrd with ⟨Y,j,h1,h2⟩ | ⟨c',a',h1,rfl⟩
   ·refine ⟨_,h1,fun T' j' b fc fa hf=>?_⟩
    cases hf
    have ha:=Ps.rd_at HLE.out _ _ _ _ _ _ h1
    refine .inr ⟨rfl,rfl,rfl,ha.2.2 (by intro u X; exact Ps.Q.noConfusion),ha.2.1 hi1,?_⟩
    split at h2
    ·exact .inl ⟨by assumption,h2⟩
    ·split at h2
     ·cases h2; exact .inr (.inl ⟨by assumption,by assumption,rfl⟩)
     ·cases h2; exact .inr (.inr ⟨by assumption,by assumption,rfl⟩)
   ·refine ⟨_,h1,fun T' j' b fc fa hf=>?_⟩
    cases hf
    exact .inl ⟨rfl,rfl⟩
  have CC:=hid (HSH.out f i1 r1 (by omega) hi1 hr1 _ LF.out.p)
  have H1H:=hid H1
  clear hrd hr1 H1 HRD
  go_wp2_with fail
  refine CC.out.mono ?_
  rintro e W2 ⟨T,i2,b,fc,fa,hf,u,rfl,hu,hp,ht⟩
  have HST:=H1H.out _ _ _ _ _ hf
  cases T with
  | node op t vk vn vs ks=>
  obtain ⟨A2,c2,rfl,hcc,hk2⟩:=hu
  have b3:Below W2.heap.size W2 (W2.alloc (.cells (ncells op t vk vn vs A2 ks.length c2) 26)):=(Below.refl _ _).alloc (Nat.le_refl _) _
  have k3:=Whole.new W2 26 (ncells op t vk vn vs A2 ks.length c2)
  have hp3:=hp.below b3
  have ht3:Touch [P] wr (W2.alloc (.cells (ncells op t vk vn vs A2 ks.length c2) 26)):=ht.belowTo b3
  have hk3:TreesIn (wr.heap.size≤·) (W2.alloc (.cells (ncells op t vk vn vs A2 ks.length c2) 26)) A2 0 ks:=hk2.below b3
  unfold ncells at *
  obtain ⟨W3,hW3⟩:∃ W3,W2.alloc (.cells #[.int .i64 op,.string (tx t),.int .i64 vk,.int .i64 vn,.string (tx vs),.slice A2 ks.length c2] 26)=W3:=⟨_,rfl⟩
  rw [hW3] at b3 k3 hp3 ht3 hk3
  obtain ⟨x0,x1,x2,x3,x4,x5⟩:=six_of k3
  have P3:=hid hp3
  have T3:=hid ht3
  have TW:Hid (Touch [P] w W3):=hid (LF.out.touch.trans ht3 (fun x hx=>.inl hx))
  clear hf hk2 hp ht b3 CC H1H
  rcases HST with ⟨rfl,rfl⟩ | ⟨rfl,rfl,rfl,hij,hj,hw⟩
  ·clear hk3 hp3 ht3 k3
   go_wp2_with fail
   exact bodyPost_ret (v:=.tuple #[.slice none 0 0,.bool false]) (by simp [results,Tryz.results232,go_sem]) rfl ⟨_,false,_,_,_,rfl,P3.out,TW.out,.inr ⟨rfl,rfl,_,_,_,rfl⟩⟩
  ·obtain ⟨v',W5,hrun,hrow5,ht5,hown⟩:=list_step (o2:=op) (t2:=t) (k2:=vk) (n2:=vn) (s2:=vs) LF.out.row (by omega) LF.out.touch.size HB.out.P ht3 hcc hk3
   have b4:Below W3.heap.size W3 (W3.alloc (.cells (ncells op t vk vn vs A2 ks.length c2) 26)):=(Below.refl _ _).alloc (Nat.le_refl _) _
   have hp5:PAt w0 W5 P A c L i2 d:=(hp3.below b4).touch ht5 (fun k hk=>by
    have hk':=hown k (by simpa using hk)
    have h1:=HB.out.P
    have h2:=HB.out.w0
    exact ⟨by omega,by omega,fun b o e=>by have:=HB.out.A b o e; omega⟩)
   have tw5:Touch [P] w W5:=(TW.out.belowTo b4).trans ht5 (fun x hx=>.inr (hown x (by simpa using hx)))
   have HRUN:=hid hrun
   have P5:=hid hp5
   have R5:=hid hrow5
   have T5:=hid tw5
   have NX:=hid (next_any hp5 (by omega) (by omega))
   unfold ncells at HRUN
   clear hk3 hp3 ht3 k3 b4 hrun hrow5 ht5 hp5 tw5
   obtain ⟨⟨kd,tt,ta⟩,htok⟩:∃ tok,tk L i2=tok:=⟨_,rfl⟩
   rw [htok] at NX hw
   have SG:Hid (∀ W,Calls Tryz.prog 133 #[tokV ⟨kd,tt,ta⟩] W fun e w'=>e=.returned (.string (tx (sgn ⟨kd,tt,ta⟩)))∧Below W.heap.size W w'):=hid (fun W=>sign_any _ W)
   have HTK:=hid htok
   clear htok
   generalize hsg:sgn ⟨kd,tt,ta⟩=sg at hw SG
   have HSG:=hid hsg
   clear hsg
   rcases hw with ⟨rfl,hnext⟩ | hw
   ·have HN:=hid hnext
    clear hnext
    go_wp2_with (at_builtin; refine Lib.wpList_append_run _ rfl _ _ 24 24 rfl _ _ rfl rfl _ _ HRUN.out ?_)
    refine NX.out.mono ?_
    rintro e W6 ⟨rfl,hb6⟩
    have SG6:=hid (SG.out W6)
    have P6:=hid (P5.out.below hb6)
    have R6:Hid (RowT (KidL w.heap.size W6 v') W6 w.heap.size v' (done ++ [.node op t vk vn vs ks])):=hid (R5.out.moved (fun k hk hlt=>⟨hb6.block k hlt,hk.1,Nat.lt_of_lt_of_le hk.2.1 hb6.size,hk.2.2⟩) (fun k e=>⟨hb6.block k (R5.out.block k e).2,fun hh=>hh.2.2 e⟩))
    have T6:=hid (T5.out.belowTo hb6)
    clear hb6 NX
    go_wp2_with fail
    refine SG6.out.mono ?_
    rintro e W7 ⟨rfl,hb7⟩
    have P7:=hid (P6.out.below hb7)
    have R7:Hid (RowT (KidL w.heap.size W7 v') W7 w.heap.size v' (done ++ [.node op t vk vn vs ks])):=hid (R6.out.moved (fun k hk hlt=>⟨hb7.block k hlt,hk.1,Nat.lt_of_lt_of_le hk.2.1 hb7.size,hk.2.2⟩) (fun k e=>⟨hb7.block k (R6.out.block k e).2,fun hh=>hh.2.2 e⟩))
    have T7:=hid (T6.out.belowTo hb7)
    have p7:W7.cell? ⟨P,1,none⟩=some (.int .i64 (i2:Nat)):=P7.out.cells.cell 1
    have pf:W7.frozen? ⟨P,1,none⟩=false:=P7.out.cells.frozen 1
    have hi':(i2:Int) + 1≤1000000:=by omega
    have hP:=HB.out.P
    have P8:=hid (P7.out.set_at (i2 + 1))
    have R8:Hid (RowT (KidL w.heap.size (W7.setCell ⟨P,1,none⟩ (.int .i64 ((i2 + 1:Nat):Int))) v') (W7.setCell ⟨P,1,none⟩ (.int .i64 ((i2 + 1:Nat):Int))) w.heap.size v' (done ++ [.node op t vk vn vs ks])):=hid (R7.out.moved (fun k hk hlt=>⟨heap_set_other _ _ _ _ _ (by have:=hk.1; omega),hk.1,by simpa using hk.2.1,hk.2.2⟩) (fun k e=>⟨heap_set_other _ _ _ _ _ (by have:=(R7.out.block k e).1; omega),fun hh=>hh.2.2 e⟩))
    have T8:Hid (Touch [P] w (W7.setCell ⟨P,1,none⟩ (.int .i64 ((i2 + 1:Nat):Int)))):=hid (T7.out.setCell (q:=⟨P,1,none⟩) (.inl (by simp)) _)
    have hi3:i2 + 1 < L.length:=HLE.out.sgn (i:=i2) (by rw [HTK.out,HSG.out]) (by simp)
    have hcast:((i2 + 1:Nat):Int)=(i2:Int) + 1:=by omega
    rw [hcast] at P8 R8 T8
    clear hb7 hcast SG6
    go_wp2_with fail
    go_roundg (f + 1)
    case measure=>omega
    case rel=>exact ⟨f,i2 + 1,v',_,by omega,by omega,hi3,by simp; omega,rfl,HN,hid ⟨P8.out,R8.out,T8.out⟩⟩
   ·have hne:sg ≠ [44]:=by rcases hw with hw | hw; exact hw.1; exact hw.1
    have HW:=hid hw
    have hnb:((tx sg).toList == [44])=false:=by rw [ByteArray.toList_eq]; simpa using hne
    have hnb2:(sg == [44])=false:=by simpa using hne
    have hnb3:(sg != [44])=true:=by simpa using hne
    clear hw hne
    go_wp2_with (at_builtin; refine Lib.wpList_append_run _ rfl _ _ 24 24 rfl _ _ rfl rfl _ _ HRUN.out ?_)
    refine NX.out.mono ?_
    rintro e W6 ⟨rfl,hb6⟩
    have SG6:=hid (SG.out W6)
    have P6:=hid (P5.out.below hb6)
    have R6:Hid (RowT (KidL w.heap.size W6 v') W6 w.heap.size v' (done ++ [.node op t vk vn vs ks])):=hid (R5.out.moved (fun k hk hlt=>⟨hb6.block k hlt,hk.1,Nat.lt_of_lt_of_le hk.2.1 hb6.size,hk.2.2⟩) (fun k e=>⟨hb6.block k (R5.out.block k e).2,fun hh=>hh.2.2 e⟩))
    have T6:=hid (T5.out.belowTo hb6)
    clear hb6 NX
    go_wp2_with fail
    refine SG6.out.mono ?_
    rintro e W7 ⟨rfl,hb7⟩
    have P7:=hid (P6.out.below hb7)
    have R7:Hid (RowT (KidL w.heap.size W7 v') W7 w.heap.size v' (done ++ [.node op t vk vn vs ks])):=hid (R6.out.moved (fun k hk hlt=>⟨hb7.block k hlt,hk.1,Nat.lt_of_lt_of_le hk.2.1 hb7.size,hk.2.2⟩) (fun k e=>⟨hb7.block k (R6.out.block k e).2,fun hh=>hh.2.2 e⟩))
    have T7:=hid (T6.out.belowTo hb7)
    have hP:=HB.out.P
    obtain ⟨bq,hbq,TKC⟩:∃ bq,((bq=true∧r=.ok (.node 0 [] 0 0 [] (done ++ [.node op t vk vn vs ks])) (i2 + 1))∨(bq=false∧r=.bad 8 ta))∧Calls Tryz.prog 228 #[.pointer (some ⟨P,0,none⟩),.string (tx [41])] W7 fun e w'=>e=.returned (.bool bq)∧PX w0 w' P A c L (if bq then i2 + 1 else i2) d (if bq then 0 else 8) (if bq then 0 else ta)∧Touch [P] W7 w':=by
     rcases HW.out with ⟨-,h1,h2⟩ | ⟨-,h1,h2⟩
     ·exact ⟨true,.inl ⟨rfl,h2⟩,takes_yes P7.out (by omega) (by omega) [41] (by rw [HTK.out,HSG.out]; exact h1)⟩
     ·refine ⟨false,.inr ⟨rfl,h2⟩,?_⟩
      have:=takes_no P7.out HLE.out.1 (by omega) (by omega) [41] (by rw [HTK.out,HSG.out]; exact h1)
      rw [HTK.out] at this
      exact this
    have TKH:=hid TKC
    have HBQ:=hid hbq
    clear hb7 SG6 TKC hbq
    go_wp2_with fail
    refine TKH.out.mono ?_
    rintro e W8 ⟨rfl,hp8,ht8⟩
    have P8:=hid hp8
    have T8:=hid (T7.out.trans ht8 (fun x hx=>.inl hx))
    have R8:Hid (RowT (KidL w.heap.size W8 v') W8 w.heap.size v' (done ++ [.node op t vk vn vs ks])):=hid (R7.out.moved (fun k hk hlt=>⟨ht8.block k hlt (by have:=hk.1; simp; omega),hk.1,Nat.lt_of_lt_of_le hk.2.1 ht8.size,hk.2.2⟩) (fun k e=>⟨ht8.block k (R7.out.block k e).2 (by have:=(R7.out.block k e).1; simp; omega),fun hh=>hh.2.2 e⟩))
    obtain ⟨A9,c9,hv9,hc9,hk9⟩:=R8.out.out (w':=W8)
    have HV9:=hid hv9
    have HC9:=hid hc9
    have HK9:=hid hk9
    clear hp8 ht8 TKH hv9 hc9 hk9
    go_wp2_with fail
    refine bodyPost_ret (v:=.tuple #[v',.bool bq]) (by simp [results,Tryz.results232,go_sem]) rfl ⟨v',bq,_,_,_,rfl,P8.out,T8.out,?_⟩
    rcases HBQ.out with ⟨rfl,h2⟩ | ⟨rfl,h2⟩
    ·exact .inl ⟨rfl,rfl,rfl,_,A9,c9,h2,HV9.out,HC9.out,HK9.out⟩
    ·exact .inr ⟨rfl,h2,A9,_,c9,HV9.out⟩
end Go.Proofs.YteghhmomhlnccaaGreatDoor
namespace Go.Proofs.YteghhmomhlnccaaGreatDoor
open Ex (Tree)
def CallR (t:List UInt8) (ar:Int) (a:Nat) (r0 r:Ps.Res):Prop:=
 (∀ ks j,r0=.ok (.node 0 [] 0 0 [] ks) j→r=if (ks.length:Int)=ar then .ok (.node 6 t 0 0 [] ks) j else .bad 8 a)∧(∀ c b,r0=.bad c b→r=.bad c b)
theorem call1_any {w0 w:World} {P:Nat} {A:Option Addr} {c:Nat} {L:List Lx.Tk} {i d:Nat} (h:PAt w0 w P A c L i d) (hL:L ≠ []) {kd ta:Nat} {tt:List UInt8} {ar:Int} {r r0:Ps.Res} {g0 g1 g2:Nat}
  (k0:Whole w g0 122 #[.pointer (some ⟨P,0,none⟩)]) (k1:Whole w g1 3 #[.int .i64 ar]) (k2:Whole w g2 87 #[.int .i64 (kd:Nat),.string (tx tt),.int .i64 (ta:Nat)]) (hg0:g0 ≠ P) (hg1:g1 ≠ P) (hg2:g2 ≠ P)
  (hr:CallR tt ar ta r0 r) (HC:∀ W,PAt w0 W P A c L i d→Calls Tryz.prog 232 #[.pointer (some ⟨P,0,none⟩)] W (LOut w0 P A c L d r0 W)) :
  Calls Tryz.prog 231 #[.pointer (some ⟨g0,0,none⟩),.pointer (some ⟨g1,0,none⟩),.pointer (some ⟨g2,0,none⟩)] w (OutX w0 P A c L d r w):=by
 have b0:Below w.heap.size w (w.alloc (.cells (ncells 0 [] 0 0 [] none 0 0) 26)):=(Below.refl _ _).alloc (Nat.le_refl _) _
 have z0:=Whole.new w 26 (ncells 0 [] 0 0 [] none 0 0)
 have h1:=h.below b0
 have HB:=hid (h.base hL)
 have hz:(w.alloc (.cells (ncells 0 [] 0 0 [] none 0 0) 26)).heap.size=w.heap.size + 1:=by simp
 have hg0l:=k0.lt
 have hg1l:=k1.lt
 have hg2l:=k2.lt
 have k0:=k0.below b0 k0.lt
 have k1:=k1.below b0 k1.lt
 have k2:=k2.below b0 k2.lt
 unfold ncells at *
 obtain ⟨W1,hW1⟩:∃ W1,w.alloc (.cells #[.int .i64 0,.string (tx []),.int .i64 0,.int .i64 0,.string (tx []),.slice none 0 0] 26)=W1:=⟨_,rfl⟩
 rw [hW1] at b0 z0 h1 hz k0 k1 k2
 have c0:=k0.cell 0
 simp only [List.getElem?_toArray,List.getElem?_cons_zero,List.getElem?_cons_succ] at c0
 have CC:=hid (HC W1 h1)
 have Z0:=hid z0
 have HZ:=hid hz
 have K0:=hid k0
 have K1:=hid k1
 have K2:=hid k2
 have B0:=hid b0
 have HR:=hid hr
 have HG0:=hid hg0
 have HG1:=hid hg1
 have HG2:=hid hg2
 clear h1 h z0 b0 hz k0 k1 k2 HC hr hg0 hg1 hg2
 go_enter Tryz.func231,Tryz.ntmps231
 go_wp2_with fail
 refine CC.out.mono ?_
 rintro e W3 ⟨v,b,i',fc,fa,rfl,hp,ht,hv⟩
 have hP:=HB.out.P
 have z3:Whole W3 w.heap.size 26 zcells:=(ht.block _ Z0.out.lt (by simp; omega)).trans Z0.out
 have k03:Whole W3 g0 122 #[.pointer (some ⟨P,0,none⟩)]:=(ht.block _ K0.out.lt (by have:=HG0.out; simp; omega)).trans K0.out
 have k13:Whole W3 g1 3 #[.int .i64 ar]:=(ht.block _ K1.out.lt (by have:=HG1.out; simp; omega)).trans K1.out
 have k23:Whole W3 g2 87 #[.int .i64 (kd:Nat),.string (tx tt),.int .i64 (ta:Nat)]:=(ht.block _ K2.out.lt (by have:=HG2.out; simp; omega)).trans K2.out
 have T3:=hid ((Touch.of_below B0.out [P]).trans ht (fun x hx=>.inl hx))
 have Z3:=hid z3
 have P3:=hid hp
 have hlt3:=z3.lt
 rcases hv with ⟨rfl,rfl,rfl,ks,A2,c2,hr0,rfl,hcc,hk2⟩ | ⟨rfl,hr0,A2,n2,c2,rfl⟩
 ·have hrr:=HR.out.1 ks i' hr0
  have HK2:=hid hk2
  have HCC:=hid hcc
  have c13:=k13.cell 0
  have c03:=k03.cell 0
  have t1:=k23.cell 1
  have t2:=k23.cell 2
  simp only [List.getElem?_toArray,List.getElem?_cons_zero,List.getElem?_cons_succ] at c13 c03 t1 t2
  obtain ⟨n,hn⟩:∃ n,ks.length=n:=⟨_,rfl⟩
  have HN:=hid hn
  by_cases har:(ks.length:Int)=ar
  ·rw [if_pos har] at hrr
   have har2:((ks.length:Int) != ar)=false:=by simpa using har
   obtain ⟨m0,m1,m2,m3,m4,m5⟩:=six_of z3
   obtain ⟨y0,y1,y2,y3,y4,y5⟩:=frozen6 z3
   have FIN:=hid (set6Z_whole z3 (.int .i64 6) (.string (tx tt)) (.int .i64 0) (.int .i64 0) (.string (tx [])) (.slice A2 ks.length c2))
   have FT:=set6Z_touch W3 w.heap.size (.int .i64 6) (.string (tx tt)) (.int .i64 0) (.int .i64 0) (.string (tx [])) (.slice A2 ks.length c2)
   have F1:=hid (hp.new HB.out FT (Nat.le_refl _))
   have F2:=hid (T3.out.trans FT (fun x hx=>.inr (by simp at hx; omega)))
   have F3:=hid (hk2.moved (S':=(w.heap.size≤·)) fun k hk hlt=>⟨FT.block k hlt (by have:=HZ.out; simp; omega),by have:=HZ.out; omega⟩)
   have HRR:=hid hrr
   rw [hn] at FIN F1 F2 F3 har har2 ⊢
   clear FT hk2 hcc hp ht z3 k03 k13 k23 hrr hn
   go_wp2_with fail
   refine bodyPost_ret (results_two rfl _ _ w.heap.size _ _ _ _ rfl FIN.out Tryz.underlying26 rfl sizeExpr _ rfl) rfl ⟨.node 6 tt 0 0 [] ks,i',true,0,0,HRR.out ▸ .ok _ _,_,rfl,⟨A2,c2,by rw [HN.out],HCC.out,F3.out⟩,F1.out,F2.out⟩
  ·rw [if_neg har] at hrr
   have har2:((ks.length:Int) != ar)=true:=by simpa using har
   have FA:=hid (fail_any hp hL 8 ta)
   have HRR:=hid hrr
   rw [hn] at har har2 ⊢
   clear hk2 hcc hp ht z3 k03 k13 k23 hrr hn
   go_wp2_with fail
   refine FA.out.mono ?_
   rintro e W5 ⟨u,rfl,⟨A5,c5,rfl,hc5,hk5⟩,hp,ht⟩
   have k9:Whole W5 w.heap.size 26 zcells:=(ht.block _ Z3.out.lt (by simp; omega)).trans Z3.out
   obtain ⟨x0,x1,x2,x3,x4,x5⟩:=six_of k9
   obtain ⟨y0,y1,y2,y3,y4,y5⟩:=frozen6 k9
   have FIN:=hid (set6Z_whole k9 (.int .i64 0) (.string (tx [])) (.int .i64 0) (.int .i64 0) (.string (tx [])) (.slice A5 0 c5))
   have FT:=set6Z_touch W5 w.heap.size (.int .i64 0) (.string (tx [])) (.int .i64 0) (.int .i64 0) (.string (tx [])) (.slice A5 0 c5)
   have F1:=hid (hp.new HB.out FT (Nat.le_refl _))
   have F2:=hid ((T3.out.trans ht (fun x hx=>.inl hx)).trans FT (fun x hx=>.inr (by simp at hx; omega)))
   have F4:=hid hc5
   clear FT hk5 hc5 hp ht k9 FA c13 c03 t1 t2
   go_wp2_with fail
   exact bodyPost_ret (results_two rfl _ _ w.heap.size _ _ _ _ rfl FIN.out Tryz.underlying26 rfl sizeExpr _ rfl) rfl ⟨zT,i',false,8,ta,HRR.out ▸ .bad _ _ _ _,_,rfl,⟨A5,c5,rfl,F4.out,by rw [TreesIn]; trivial⟩,F1.out,F2.out⟩
 ·have hrr:=HR.out.2 _ _ hr0
  have HRR:=hid hrr
  clear hp ht z3 k03 k13 k23 hrr
  go_upto_region 3 with fail
  refine wp_region_lit ?_
  refine wpList_buildTo rfl 26 _ rfl (some 15) rfl zcells (by kernel_rfl) ?_
  refine wpList_store_same rfl 26 _ _ rfl (w.heap.size) zcells rfl rfl 26 (Z3.out) sizeExpr (by simp [Value.oneCell']) rfl ?_
  go_wp2_with fail
  exact bodyPost_ret (results_two rfl _ _ w.heap.size _ _ _ _ rfl Z3.out Tryz.underlying26 rfl sizeExpr _ rfl) rfl ⟨zT,i',false,fc,fa,HRR.out ▸ .bad _ _ _ _,_,rfl,⟨none,0,rfl,Nat.le_refl _,by rw [TreesIn]; trivial⟩,P3.out,T3.out⟩
theorem callCall1 (a b e:Nat) (W:World):Sem.run Tryz.prog (callFunc 231 #[.pointer (some ⟨a,0,none⟩),.pointer (some ⟨b,0,none⟩),.pointer (some ⟨e,0,none⟩)]) W=.ok (.enter 231 #[.pointer (some ⟨a,0,none⟩),.pointer (some ⟨b,0,none⟩),.pointer (some ⟨e,0,none⟩)]) W:=by kernel_rfl
theorem call_tot {w0:World} {P:Nat} {A:Option Addr} {c:Nat} {L:List Lx.Tk} {i d:Nat} (hLe:L ≠ []) (hi:i + 2≤1000000) (hL:L.length≤1000000) {r:Ps.Res} (hd30:d≤30)
  (HN:Ex.arity (tk L i).text < 0→r=.bad 9 (tk L i).at_) (HD:¬ Ex.arity (tk L i).text < 0→d=30→r=.bad 18 (tk L (i + 1)).at_)
  (HX:¬ Ex.arity (tk L i).text < 0→d < 30→∃ r0,CallR (tk L i).text (Ex.arity (tk L i).text) (tk L i).at_ r0 r∧∀ W,PAt w0 W P A c L (i + 1 + 1) (d + 1)→Calls Tryz.prog 232 #[.pointer (some ⟨P,0,none⟩)] W (LOut w0 P A c L (d + 1) r0 W)) :
  Tot w0 P A c L 229 #[.pointer (some ⟨P,0,none⟩)] i d r:=by
 intro w h
 have b0:Below w.heap.size w ((w.alloc (.cells #[.pointer (some ⟨P,0,none⟩)] 122)).alloc (.cells (ncells 0 [] 0 0 [] none 0 0) 26)):=((Below.refl _ _).alloc (Nat.le_refl _) _).alloc (by simp) _
 have k0:=(Whole.new w 122 #[.pointer (some ⟨P,0,none⟩)]).alloc (.cells (ncells 0 [] 0 0 [] none 0 0) 26)
 have k1:=Whole.new (w.alloc (.cells #[.pointer (some ⟨P,0,none⟩)] 122)) 26 (ncells 0 [] 0 0 [] none 0 0)
 simp only [World.size_alloc] at k1
 have h1:=h.below b0
 have hz1:((w.alloc (.cells #[.pointer (some ⟨P,0,none⟩)] 122)).alloc (.cells (ncells 0 [] 0 0 [] none 0 0) 26)).heap.size=w.heap.size + 2:=by simp
 obtain ⟨W1,hW1⟩:∃ W1,(w.alloc (.cells #[.pointer (some ⟨P,0,none⟩)] 122)).alloc (.cells (ncells 0 [] 0 0 [] none 0 0) 26)=W1:=⟨_,rfl⟩
 rw [hW1] at b0 k0 k1 h1 hz1
 unfold ncells at *
 have NX:=hid (next_any h1 (by omega) hL)
 have c0:=k0.cell 0
 simp only [List.getElem?_toArray,List.getElem?_cons_zero,List.getElem?_cons_succ] at c0
 have B0:=hid b0
 have K0:=hid k0
 have K1:=hid k1
 have H1:=hid h1
 have HZ1:=hid hz1
 have HBB:=hid (h.base hLe)
 have HNH:=hid HN
 have HDH:=hid HD
 have HXH:=hid HX
 obtain ⟨⟨kd,tt,ta⟩,ht⟩:∃ t,tk L i=t:=⟨_,rfl⟩
 rw [ht] at NX HNH HDH HXH
 have NX2:Hid (Calls Tryz.prog 80 #[.pointer (some ⟨P,0,none⟩)] W1 fun e w'=>e=.returned (.agg #[.int .i64 (kd:Nat),.string (tx tt),.int .i64 (ta:Nat)])∧Below W1.heap.size W1 w'):=NX
 obtain ⟨ar,har⟩:∃ ar,Ex.arity tt=ar:=⟨_,rfl⟩
 have AR:Hid (∀ W,Calls Tryz.prog 88 #[.string (tx tt)] W fun e w'=>e=.returned (.int .i64 ar)∧w'=W):=hid (fun W=>by
  have:=arity_any (tx tt) W
  rw [show (tx tt).data.toList=tt from rfl,har] at this
  exact this)
 have HAR:=hid har
 clear b0 k0 k1 h1 h ht HN HD HX NX hz1 har
 go_enter Tryz.func229,Tryz.ntmps229
 go_wp2_with fail
 refine NX2.out.mono ?_
 rintro e W2 ⟨rfl,hb2⟩
 have b3:Below W1.heap.size W1 (W2.alloc (.cells #[.int .i64 (kd:Nat),.string (tx tt),.int .i64 (ta:Nat)] 87)):=hb2.alloc hb2.size _
 have k3:=Whole.new W2 87 #[.int .i64 (kd:Nat),.string (tx tt),.int .i64 (ta:Nat)]
 have hz3:(W2.alloc (.cells #[.int .i64 (kd:Nat),.string (tx tt),.int .i64 (ta:Nat)] 87)).heap.size=W2.heap.size + 1:=by simp
 have hz2:w.heap.size + 2≤W2.heap.size:=by have:=HZ1.out; have:=hb2.size; omega
 obtain ⟨W3,hW3⟩:∃ W3,W2.alloc (.cells #[.int .i64 (kd:Nat),.string (tx tt),.int .i64 (ta:Nat)] 87)=W3:=⟨_,rfl⟩
 rw [hW3] at b3 k3 hz3
 have t1:=k3.cell 1
 simp only [List.getElem?_toArray,List.getElem?_cons_zero,List.getElem?_cons_succ] at t1
 have AR3:=hid (AR.out W3)
 have c3:=(b3.cell (p:=⟨w.heap.size,0,none⟩) K0.out.lt).trans c0
 have B3:=hid b3
 have K3:=hid k3
 have HZ3:=hid hz3
 clear hb2 NX2 b3 k3 hz3 c0 AR
 go_wp2_with fail
 refine AR3.out.mono ?_
 rintro e W3' ⟨rfl,rfl⟩
 have b4:Below W3'.heap.size W3' (W3'.alloc (.cells #[.int .i64 ar] 3)):=(Below.refl _ _).alloc (Nat.le_refl _) _
 have k4:=Whole.new W3' 3 #[.int .i64 ar]
 have B4:Hid (Below W1.heap.size W1 (W3'.alloc (.cells #[.int .i64 ar] 3))):=hid (bstep B3.out b4)
 have K34:=hid (K3.out.below b4 K3.out.lt)
 obtain ⟨W4,hW4⟩:∃ W4,W3'.alloc (.cells #[.int .i64 ar] 3)=W4:=⟨_,rfl⟩
 rw [hW4] at b4 k4 B4 K34
 have K04:=hid (K0.out.below B4.out K0.out.lt)
 have K14:=hid (K1.out.below B4.out K1.out.lt)
 have H4:=hid (H1.out.below B4.out)
 have K4:=hid k4
 have c4:=K04.out.cell 0
 have a4:=k4.cell 0
 have t2:=K34.out.cell 2
 simp only [List.getElem?_toArray,List.getElem?_cons_zero,List.getElem?_cons_succ] at c4 a4 t2
 have T4:Hid (Touch [P] w W4):=hid (Touch.of_below (B0.out.trans (B4.out.mono B0.out.size)) [P])
 have hP:=HBB.out.P
 clear b4 k4 c3 t1 AR3
 by_cases hneg:ar < 0
 ·have HRR:=hid (HNH.out (by rw [HAR.out]; exact hneg))
  have FA:=hid (fail_any H4.out hLe 9 ta)
  go_wp2_with fail
  refine FA.out.mono ?_
  rintro e W5 ⟨u,rfl,⟨A5,c5,rfl,hc5,hk5⟩,hp,ht⟩
  have k9:Whole W5 (w.heap.size + 1) 26 zcells:=(ht.block _ K14.out.lt (by simp; omega)).trans K14.out
  obtain ⟨x0,x1,x2,x3,x4,x5⟩:=six_of k9
  obtain ⟨y0,y1,y2,y3,y4,y5⟩:=frozen6 k9
  have FIN:=hid (set6Z_whole k9 (.int .i64 0) (.string (tx [])) (.int .i64 0) (.int .i64 0) (.string (tx [])) (.slice A5 0 c5))
  have FT:=set6Z_touch W5 (w.heap.size + 1) (.int .i64 0) (.string (tx [])) (.int .i64 0) (.int .i64 0) (.string (tx [])) (.slice A5 0 c5)
  have F1:=hid (hp.new HBB.out FT (by omega))
  have F2:=hid ((T4.out.trans ht (fun x hx=>.inl hx)).trans FT (fun x hx=>.inr (by simp at hx; omega)))
  have F4:=hid hc5
  clear FT hk5 hc5 hp ht k9 FA c4 a4 t2 hW4
  go_wp2_with fail
  exact bodyPost_ret (results_two rfl _ _ (w.heap.size + 1) _ _ _ _ rfl FIN.out Tryz.underlying26 rfl sizeExpr _ rfl) rfl ⟨zT,i,false,9,ta,HRR.out ▸ .bad _ _ _ _,_,rfl,⟨A5,c5,rfl,F4.out,by rw [TreesIn]; trivial⟩,F1.out,F2.out⟩
 ·have p4:W4.cell? ⟨P,1,none⟩=some (.int .i64 (i:Nat)):=H4.out.cells.cell 1
  have pf:W4.frozen? ⟨P,1,none⟩=false:=H4.out.cells.frozen 1
  have hi':(i:Int) + 1≤1000000:=by omega
  have H5:=H4.out.set_at (i + 1)
  have T5:Touch [P] W4 (W4.setCell ⟨P,1,none⟩ (.int .i64 ((i + 1:Nat):Int))):=(Touch.refl _ _).setCell (q:=⟨P,1,none⟩) (.inl (by simp)) _
  have hcast:((i + 1:Nat):Int)=(i:Int) + 1:=by omega
  rw [hcast] at H5 T5
  have blk:∀ {g:Nat} {t:TypeId} {cs:Array Value},Whole W4 g t cs→g ≠ P→Whole (W4.setCell ⟨P,1,none⟩ (.int .i64 ((i:Int) + 1))) g t cs:=fun h hg=>(T5.block _ h.lt (by simpa using hg)).trans h
  have K05:=hid (blk K04.out (by omega))
  have K15:=hid (blk K14.out (by omega))
  have K35:=hid (blk K34.out (by omega))
  have K45:=hid (blk K4.out (by have:=HZ3.out; omega))
  have c5:=K05.out.cell 0
  simp only [List.getElem?_toArray,List.getElem?_cons_zero,List.getElem?_cons_succ] at c5
  have CC:Hid (Calls Tryz.prog 179 #[.pointer (some ⟨P,0,none⟩),.func (.func 231) #[] #[.pointer (some ⟨w.heap.size,0,none⟩),.pointer (some ⟨W3'.heap.size,0,none⟩),.pointer (some ⟨W2.heap.size,0,none⟩)]] (W4.setCell ⟨P,1,none⟩ (.int .i64 ((i:Int) + 1))) (OutX w0 P A c L d r (W4.setCell ⟨P,1,none⟩ (.int .i64 ((i:Int) + 1))))):=hid (by
   rcases Nat.lt_or_ge d 30 with hd | hd
   ·obtain ⟨r0,e1,e2⟩:=HXH.out (by rw [HAR.out]; omega) hd
    rw [show Ex.arity (Lx.Tk.text ⟨kd,tt,ta⟩)=ar from HAR.out] at e1
    refine nested_go H5 hLe (by omega) _ _ (fun W=>callCall1 _ _ _ W) hd r fun W hW ht=>?_
    have bl:∀ {g:Nat} {t:TypeId} {cs:Array Value},Whole (W4.setCell ⟨P,1,none⟩ (.int .i64 ((i:Int) + 1))) g t cs→g ≠ P→Whole W g t cs:=fun h hg=>(ht.block _ h.lt (by simpa using hg)).trans h
    exact call1_any hW hLe (bl K05.out (by omega)) (bl K45.out (by have:=HZ3.out; omega)) (bl K35.out (by omega)) (by omega) (by have:=HZ3.out; omega) (by omega) e1 e2
   ·have hd0:d=30:=by omega
    rw [HDH.out (by rw [HAR.out]; omega) hd0]
    exact nested_deep H5 hLe hL (by omega) _ _ hd0)
  have T5H:Hid (Touch [P] w (W4.setCell ⟨P,1,none⟩ (.int .i64 ((i:Int) + 1)))):=hid (T4.out.trans T5 (fun x hx=>.inl hx))
  have hneg2:decide (ar < 0)=false:=by simpa using hneg
  clear H5 T5 hcast t2 blk hneg
  go_wp2_with fail
  refine CC.out.mono ?_
  rintro e W6 ⟨T,i',b,fc,fa,hf,u,rfl,hu,hp,ht⟩
  cases T with
  | node op t' vk vn vs ks=>
  obtain ⟨A2,c2,rfl,hc2,hk2⟩:=hu
  have k6:Whole W6 (w.heap.size + 1) 26 zcells:=(ht.block _ K15.out.lt (by simp; omega)).trans K15.out
  have hsz14:=K15.out.lt
  obtain ⟨x0,x1,x2,x3,x4,x5⟩:=six_of k6
  obtain ⟨y0,y1,y2,y3,y4,y5⟩:=frozen6 k6
  have FIN:=hid (set6Z_whole k6 (.int .i64 op) (.string (tx t')) (.int .i64 vk) (.int .i64 vn) (.string (tx vs)) (.slice A2 ks.length c2))
  have FT:=set6Z_touch W6 (w.heap.size + 1) (.int .i64 op) (.string (tx t')) (.int .i64 vk) (.int .i64 vn) (.string (tx vs)) (.slice A2 ks.length c2)
  have F1:=hid (hp.new HBB.out FT (by omega))
  have F2:=hid ((T5H.out.trans ht (fun x hx=>.inl hx)).trans FT (fun x hx=>.inr (by simp at hx; omega)))
  have F3:=hid (hk2.moved (S':=(w.heap.size≤·)) fun k hk hlt=>⟨FT.block k hlt (by simp; omega),by omega⟩)
  have F4:=hid hc2
  have F5:=hid hf
  clear FT hk2 hc2 hp ht k6 hf c5 CC p4 pf
  go_wp2_with fail
  exact bodyPost_ret (results_two rfl _ _ (w.heap.size + 1) _ _ _ _ rfl FIN.out Tryz.underlying26 rfl sizeExpr _ rfl) rfl ⟨_,_,_,_,_,F5.out,_,rfl,⟨A2,c2,rfl,F4.out,F3.out⟩,F1.out,F2.out⟩
end Go.Proofs.YteghhmomhlnccaaGreatDoor
namespace Go.Proofs.YteghhmomhlnccaaGreatDoor
open Ex (Tree)
theorem callOf6 {P:Nat} : (∀ W,Sem.run Tryz.prog (callFunc 110 #[.pointer (some ⟨P,0,none⟩)]) W=.ok (.enter 110 #[.pointer (some ⟨P,0,none⟩)]) W) ∧
  (∀ W,Sem.run Tryz.prog (callFunc 135 #[.pointer (some ⟨P,0,none⟩)]) W=.ok (.enter 135 #[.pointer (some ⟨P,0,none⟩)]) W) ∧
  (∀ W,Sem.run Tryz.prog (callFunc 157 #[.pointer (some ⟨P,0,none⟩)]) W=.ok (.enter 157 #[.pointer (some ⟨P,0,none⟩)]) W) ∧
  (∀ W,Sem.run Tryz.prog (callFunc 199 #[.pointer (some ⟨P,0,none⟩)]) W=.ok (.enter 199 #[.pointer (some ⟨P,0,none⟩)]) W) ∧
  (∀ W,Sem.run Tryz.prog (callFunc 216 #[.pointer (some ⟨P,0,none⟩)]) W=.ok (.enter 216 #[.pointer (some ⟨P,0,none⟩)]) W) ∧
  (∀ W,Sem.run Tryz.prog (callFunc 224 #[.pointer (some ⟨P,0,none⟩)]) W=.ok (.enter 224 #[.pointer (some ⟨P,0,none⟩)]) W):=
 ⟨fun W=>by kernel_rfl,fun W=>by kernel_rfl,fun W=>by kernel_rfl,fun W=>by kernel_rfl,fun W=>by kernel_rfl,fun W=>by kernel_rfl⟩
def fnOf:Ps.Ru→FuncId
 | .or=>81 | .and=>110 | .not=>135 | .cmp=>157 | .sum=>181 | .prod=>199 | .neg=>216 | .single=>224
abbrev notA (P:Nat):Array Value:=#[.pointer (some ⟨P,0,none⟩),.string (tx [110,111,116]),.int .i64 4,.func (.func 157) #[.pointer (some ⟨P,0,none⟩)] #[]]
abbrev negA (P:Nat):Array Value:=#[.pointer (some ⟨P,0,none⟩),.string (tx [45]),.int .i64 3,.func (.func 224) #[.pointer (some ⟨P,0,none⟩)] #[]]
structure AllR (w0:World) (P:Nat) (A:Option Addr) (c:Nat) (L:List Lx.Tk) (F:Nat):Prop where
 rule:∀ u d i r,d≤30→i < L.length→Ps.rd 30 L F d (.rule u) i=some r→Tot w0 P A c L (fnOf u) #[.pointer (some ⟨P,0,none⟩)] i d r
 aNot:∀ d i r,d≤30→i < L.length→Ps.rd 30 L F d (.rule .not) i=some r→Tot w0 P A c L 156 (notA P) i d r
 aNeg:∀ d i r,d≤30→i < L.length→Ps.rd 30 L F d (.rule .neg) i=some r→Tot w0 P A c L 156 (negA P) i d r
variable {w0 : World} {P : Nat} {A : Option Addr} {c : Nat} {L : List Lx.Tk} {F : Nat} {a : Addr} {m : Int}
theorem not_of (hL:Ps.Ends L) (hLn:L.length≤900000) (ih:∀ f,f < F→AllR w0 P A c L f) {d i:Nat} {r:Ps.Res} (hd:d≤30) (hi:i < L.length) (hr:Ps.rd 30 L F d (.rule .not) i=some r):Tot w0 P A c L 156 (notA P) i d r:=by
 cases F with
 | zero=>cases hr
 | succ f=>
  rw [Ps.rd_not] at hr
  split at hr
  ·next hs=>
   have hi1:=hL.sgn hs (by simp)
   refine ahead_sign hL.1 (by omega) (by omega) [110,111,116] 4 157 hs hd (fun e=>?_) (fun hlt=>?_)
   ·rw [if_pos e] at hr; cases hr; rfl
   ·rw [if_neg (by omega)] at hr
    rcases Ps.bindR_some hr with ⟨T,j,h1,h2⟩ | ⟨c',a',h1,rfl⟩
    ·exact ⟨.ok T j,h2,(ih f (Nat.lt_succ_self _)).aNot _ _ _ (by omega) hi1 h1⟩
    ·exact ⟨_,rfl,(ih f (Nat.lt_succ_self _)).aNot _ _ _ (by omega) hi1 h1⟩
  ·next hs=>
   exact ahead_no hL.1 (by omega) (by omega) [110,111,116] 4 157 hs callOf6.2.2.1 ((ih f (Nat.lt_succ_self _)).rule .cmp _ _ _ hd hi hr)
theorem neg_of (hL:Ps.Ends L) (hLn:L.length≤900000) (ih:∀ f,f < F→AllR w0 P A c L f) {d i:Nat} {r:Ps.Res} (hd:d≤30) (hi:i < L.length) (hr:Ps.rd 30 L F d (.rule .neg) i=some r):Tot w0 P A c L 156 (negA P) i d r:=by
 cases F with
 | zero=>cases hr
 | succ f=>
  rw [Ps.rd_neg] at hr
  split at hr
  ·next hs=>
   have hi1:=hL.sgn hs (by simp)
   refine ahead_sign hL.1 (by omega) (by omega) [45] 3 224 hs hd (fun e=>?_) (fun hlt=>?_)
   ·rw [if_pos e] at hr; cases hr; rfl
   ·rw [if_neg (by omega)] at hr
    rcases Ps.bindR_some hr with ⟨T,j,h1,h2⟩ | ⟨c',a',h1,rfl⟩
    ·exact ⟨.ok T j,h2,(ih f (Nat.lt_succ_self _)).aNeg _ _ _ (by omega) hi1 h1⟩
    ·exact ⟨_,rfl,(ih f (Nat.lt_succ_self _)).aNeg _ _ _ (by omega) hi1 h1⟩
  ·next hs=>
   exact ahead_no hL.1 (by omega) (by omega) [45] 3 224 hs callOf6.2.2.2.2.2 ((ih f (Nat.lt_succ_self _)).rule .single _ _ _ hd hi hr)
theorem single_of (hv:Env w0 a m) (hL:Ps.Ends L) (hLn:L.length≤900000) (hsz:∀ k,(tk L k).text.length≤6000) (ih:∀ f,f < F→AllR w0 P A c L f) {d i:Nat} {r:Ps.Res} (hd:d≤30) (hi:i < L.length) (hr:Ps.rd 30 L F d (.rule .single) i=some r):Tot w0 P A c L 224 #[.pointer (some ⟨P,0,none⟩)] i d r:=by
 cases F with
 | zero=>cases hr
 | succ f=>
  rw [Ps.rd_single] at hr
  split at hr
  ·next hs=>
   have hi1:=hL.sgn hs (by simp)
   refine single_open hL.1 (by omega) (by omega) hs hd (fun e=>?_) (fun hlt=>?_)
   ·rw [if_pos e] at hr; cases hr; rfl
   ·rw [if_neg (by omega)] at hr
    rcases Ps.bindR_some hr with ⟨T,j,h1,h2⟩ | ⟨c',a',h1,rfl⟩
    ·refine ⟨_,fun T' j' b fc fa hf=>?_,(ih f (Nat.lt_succ_self _)).rule .or _ _ _ (by omega) hi1 h1⟩
     cases hf
     have:=(Ps.rd_at hL _ _ _ _ _ _ h1).2.1 hi1
     refine .inr ⟨rfl,rfl,rfl,by omega,?_⟩
     split at h2
     ·cases h2; exact .inl ⟨by assumption,.ok _ _⟩
     ·cases h2; exact .inr ⟨by assumption,.bad _ _ _ _⟩
    ·refine ⟨_,fun T' j' b fc fa hf=>?_,(ih f (Nat.lt_succ_self _)).rule .or _ _ _ (by omega) hi1 h1⟩
     cases hf
     exact .inl ⟨rfl,.bad _ _ _ _⟩
  ·next hs=>
   split at hr
   ·next hc=>
    have hi2:=hL.sgn hc.2 (by simp)
    refine single_call hL.1 (by omega) (by omega) hs hc.1 hc.2 (call_tot hL.1 (by omega) (by omega) hd (fun hn=>?_) (fun hn e=>?_) (fun hn hlt=>?_))
    ·rw [if_pos hn] at hr; cases hr; rfl
    ·rw [if_neg hn,if_pos e] at hr; cases hr; rfl
    ·rw [if_neg hn,if_neg (by omega)] at hr
     have hS:∀ (f' i:Nat) (r:Ps.Res),f' < f→i < L.length→Ps.rd 30 L f' (d + 1) (.rule .or) i=some r→Tot w0 P A c L 81 #[.pointer (some ⟨P,0,none⟩)] i (d + 1) r:=fun f' i r hf hi hr=>(ih f' (by omega)).rule .or _ _ _ (by omega) hi hr
     rcases Ps.bindR_some hr with ⟨T,j,h1,h2⟩ | ⟨c',a',h1,rfl⟩
     ·refine ⟨.ok T j,⟨fun ks j' e=>?_,fun c b e=>(by cases e)⟩,fun W hW=>list_tot hL hLn hi2 f h1 hS W hW⟩
      cases e
      have h2:(if (ks.length:Int)=Ex.arity (tk L i).text then some (Ps.Res.ok (.node 6 (tk L i).text 0 0 [] ks) j) else some (.bad 8 (tk L i).at_))=some r:=h2
      by_cases h3:(ks.length:Int)=Ex.arity (tk L i).text
      ·rw [if_pos h3] at h2 ⊢; cases h2; rfl
      ·rw [if_neg h3] at h2 ⊢; cases h2; rfl
     ·refine ⟨.bad c' a',⟨fun ks j' e=>(by cases e),fun c b e=>(by cases e; rfl)⟩,fun W hW=>list_tot hL hLn hi2 f h1 hS W hW⟩
   ·next hc=>
    refine single_leaf hv hL.1 hs (fun hk=>fun e=>hc ⟨hk,e⟩) (hsz i) (by omega) (by omega) ?_
    split at hr
    ·next h3=>cases hr; rw [if_pos h3]
    ·next h3=>cases hr; rw [if_neg h3]
theorem all_rules (hv:Env w0 a m) (hL:Ps.Ends L) (hLn:L.length≤900000) (hsz:∀ k,(tk L k).text.length≤6000) (F:Nat):AllR w0 P A c L F:=by
 induction F using Nat.strongRecOn with
 | ind F ih=>
  have hnot:=fun d i r (hd:d≤30) (hi:i < L.length) hr=>not_of (w0:=w0) (P:=P) (A:=A) (c:=c) hL hLn ih (d:=d) (i:=i) (r:=r) hd hi hr
  have hneg:=fun d i r (hd:d≤30) (hi:i < L.length) hr=>neg_of (w0:=w0) (P:=P) (A:=A) (c:=c) hL hLn ih (d:=d) (i:=i) (r:=r) hd hi hr
  have hS:∀ u:Ps.Ru,∀ (d f i:Nat) (r:Ps.Res),d≤30→f < F→i < L.length→Ps.rd 30 L f d (.rule u) i=some r→Tot w0 P A c L (fnOf u) #[.pointer (some ⟨P,0,none⟩)] i d r:=fun u d f i r hd hf hi hr=>(ih f hf).rule u _ _ _ hd hi hr
  refine ⟨fun u d i r hd hi hr=>?_,hnot,hneg⟩
  cases u with
  | or=>exact or_tot hL.1 (left_tot hL hLn hi 110 callOf6.1 .or rfl F hr fun f i r hf hi hr=>hS .and d f i r hd hf hi hr)
  | and=>exact and_tot hL.1 (left_tot hL hLn hi 135 callOf6.2.1 .and rfl F hr fun f i r hf hi hr=>hS .not d f i r hd hf hi hr)
  | sum=>exact sum_tot hL.1 (left_tot hL hLn hi 199 callOf6.2.2.2.1 .sum rfl F hr fun f i r hf hi hr=>hS .prod d f i r hd hf hi hr)
  | prod=>exact product_tot hL.1 (left_tot hL hLn hi 216 callOf6.2.2.2.2.1 .prod rfl F hr fun f i r hf hi hr=>hS .neg d f i r hd hf hi hr)
  | not=>exact not_tot hL.1 (hnot d i r hd hi hr)
  | neg=>exact negative_tot hL.1 (hneg d i r hd hi hr)
  | single=>exact single_of hv hL hLn hsz ih hd hi hr
  | cmp=>
   cases F with
   | zero=>cases hr
   | succ f=>exact compared_tot hL hLn hi f hr fun i r hi hr=>hS .sum d f i r hd (Nat.lt_succ_self _) hi hr
end Go.Proofs.YteghhmomhlnccaaGreatDoor
namespace Go.Proofs.YteghhmomhlnccaaGreatDoor
open Ex (Tree)
theorem buildZm {α:Type} (f:α→Nat × Value) (W:World):Sem.run Tryz.prog (Instr.build 26 (Array.map f #[])) W=.ok (.agg #[.int .i64 0,.string (tx []),.int .i64 0,.int .i64 0,.string (tx []),.slice none 0 0]) W:=run_build W _ _ _ (by kernel_rfl)
attribute [local go_sem ↓] buildZm
def AtPost (w:World) (r:Ps.Res) (e:Ending) (w':World):Prop:=match r with
 | .ok T j=>∃ u,e=.returned (.tuple #[u,.int .i64 (j:Nat),.agg #[.int .i64 0,.int .i64 0]])∧NodeNew w.heap.size w' u T∧Below w.heap.size w w'
 | .bad c a=>∃ u,e=.returned (.tuple #[u,.int .i64 0,.agg #[.int .i64 (c:Nat),.int .i64 (a:Nat)]])∧NodeNew w.heap.size w' u zT∧Below w.heap.size w w'
theorem AtPost.ok_ {w:World} {r:Ps.Res} {T:Tree} {j:Nat} {e:Ending} {w':World} (hr:Ps.Res.ok T j=r) (h:∃ u,e=.returned (.tuple #[u,.int .i64 (j:Nat),.agg #[.int .i64 0,.int .i64 0]])∧NodeNew w.heap.size w' u T∧Below w.heap.size w w'):AtPost w r e w':=by subst hr; exact h
theorem AtPost.bad_ {w:World} {r:Ps.Res} {c a:Nat} {e:Ending} {w':World} (hr:Ps.Res.bad c a=r) (h:∃ u,e=.returned (.tuple #[u,.int .i64 0,.agg #[.int .i64 (c:Nat),.int .i64 (a:Nat)]])∧NodeNew w.heap.size w' u zT∧Below w.heap.size w w'):AtPost w r e w':=by subst hr; exact h
abbrev finW (W:World) (g:Nat) (u0 u1 u2 u3 u4 u5 c a:Value):World:=((set6Z W g u0 u1 u2 u3 u4 u5).setCell ⟨g + 1,0,none⟩ c).setCell ⟨g + 1,1,none⟩ a
theorem fin_any {w W:World} {g:Nat} (K0:Whole W g 26 zcells) (K1:Whole W (g + 1) 54 #[.int .i64 0,.int .i64 0]) (hg:w.heap.size≤g) (hb:Below w.heap.size w W) (u0 u1 u2 u3 u4 u5 c a:Value) :
  Whole (finW W g u0 u1 u2 u3 u4 u5 c a) g 26 #[u0,u1,u2,u3,u4,u5]∧Whole (finW W g u0 u1 u2 u3 u4 u5 c a) (g + 1) 54 #[c,a]∧Below w.heap.size w (finW W g u0 u1 u2 u3 u4 u5 c a)∧∀ k,k < W.heap.size→k ≠ g→k ≠ g + 1→(finW W g u0 u1 u2 u3 u4 u5 c a).heap[k]?=W.heap[k]?:=by
 have FT:=set6Z_touch W g u0 u1 u2 u3 u4 u5
 have w0':=set6Z_whole K0 u0 u1 u2 u3 u4 u5
 have w1':Whole (set6Z W g u0 u1 u2 u3 u4 u5) (g + 1) 54 #[.int .i64 0,.int .i64 0]:=(FT.block _ K1.lt (by simp)).trans K1
 have f0a:=w0'.far (p:=⟨g + 1,0,none⟩) (fun h=>absurd h (by simp)) c
 have f0b:=f0a.far (p:=⟨g + 1,1,none⟩) (fun h=>absurd h (by simp)) a
 have f1b:=(w1'.set_ 0 c).set_ 1 a
 have bF0:Touch [g,g + 1] W _:=FT.mono (G:=[g,g + 1]) (fun x hx=>.inl (List.mem_cons.2 (.inl (List.mem_singleton.1 hx))))
 have bF1:=bF0.setCell (q:=⟨g + 1,0,none⟩) (.inl (by simp)) c
 have bF:=bF1.setCell (q:=⟨g + 1,1,none⟩) (.inl (by simp)) a
 exact ⟨f0b,f1b,bF.fresh hb (fun k hk=>by simp at hk; omega),fun k hk h1 h2=>bF.block k hk (by simp; omega)⟩
theorem at_any {w:World} {A:Option Addr} {c:Nat} {L:List Lx.Tk} (hE:Ps.Ends L) (hLn:L.length≤900000) (hsz:∀ k,(tk L k).text.length≤6000) (hc:L.length≤c) (hA:TAt w A L) {a:Addr} {m:Int} (hv:Env w a m) :
  Calls Tryz.prog 50 #[.slice A L.length c,.int .i64 0] w (AtPost w (Ps.atR L)):=by
 have hL:=hE.1
 have hLn2:L.length≤1000000:=by omega
 have hrd:=Ps.all_some (M:=30) hE
 have HR:Tot w (w.heap.size + 2) A c L 81 #[.pointer (some ⟨w.heap.size + 2,0,none⟩)] 0 0 (Ps.all 30 L):=(all_rules (w0:=w) (P:=w.heap.size + 2) (A:=A) (c:=c) hv hE hLn hsz (Ps.fuel 30 L.length)).rule .or 0 0 _ (by omega) (List.length_pos_iff.2 hE.1) hrd
 have HCNT:Hid (∀ T j b fc fa,Fit (Ps.all 30 L) T j b fc fa→(b=true∧Ex.count T≤1000000∧(if 30 < Ex.depth T then Ps.Res.bad 18 (tk L 0).at_ else if 300 < Ex.count T then .bad 3 (tk L 0).at_ else .ok T j)=Ps.atR L)∨(b=false∧Ps.Res.bad fc fa=Ps.atR L)):=hid (fun T j b fc fa hf=>by
  unfold Ps.atR
  cases hall:Ps.all 30 L with
  | ok T' j'=>
   rw [hall] at hf hrd
   cases hf
   have h1:=Ps.rd_count hE _ _ _ _ _ _ hrd
   have h2:=(Ps.rd_at hE _ _ _ _ _ _ hrd).2.1 (List.length_pos_iff.2 hE.1)
   simp only [Ps.Q.base] at h1
   exact .inl ⟨rfl,by omega,rfl⟩
  | bad c' a'=>
   rw [hall] at hf
   cases hf
   exact .inr ⟨rfl,rfl⟩)
 clear hrd hsz hE hLn
 obtain ⟨res,hres⟩:∃ res,Ps.atR L=res:=⟨_,rfl⟩
 rw [hres] at HCNT ⊢
 clear hres
 have b0:Below w.heap.size w (((w.alloc (.cells (ncells 0 [] 0 0 [] none 0 0) 26)).alloc (.cells #[.int .i64 0,.int .i64 0] 54)).alloc (.cells #[.slice A L.length c,.int .i64 0,.int .i64 0,.int .i64 0,.int .i64 0] 124)):=(((Below.refl _ _).alloc (Nat.le_refl _) _).alloc (by simp) _).alloc (by simp; omega) _
 have k0:=((Whole.new w 26 (ncells 0 [] 0 0 [] none 0 0)).alloc (.cells #[.int .i64 0,.int .i64 0] 54)).alloc (.cells #[.slice A L.length c,.int .i64 0,.int .i64 0,.int .i64 0,.int .i64 0] 124)
 have k1:=(Whole.new (w.alloc (.cells (ncells 0 [] 0 0 [] none 0 0) 26)) 54 #[.int .i64 0,.int .i64 0]).alloc (.cells #[.slice A L.length c,.int .i64 0,.int .i64 0,.int .i64 0,.int .i64 0] 124)
 have k2:=Whole.new ((w.alloc (.cells (ncells 0 [] 0 0 [] none 0 0) 26)).alloc (.cells #[.int .i64 0,.int .i64 0] 54)) 124 #[.slice A L.length c,.int .i64 0,.int .i64 0,.int .i64 0,.int .i64 0]
 have hz:(((w.alloc (.cells (ncells 0 [] 0 0 [] none 0 0) 26)).alloc (.cells #[.int .i64 0,.int .i64 0] 54)).alloc (.cells #[.slice A L.length c,.int .i64 0,.int .i64 0,.int .i64 0,.int .i64 0] 124)).heap.size=w.heap.size + 3:=by simp
 simp only [World.size_alloc] at k1 k2
 have hfar:∀ b o,A=some ⟨b,o,none⟩→b < w.heap.size:=fun b o e=>by
  obtain ⟨b',o',e',hb,-⟩:=hA 0 (List.length_pos_iff.2 hL)
  rw [e] at e'; cases e'; exact hb
 have pa:PAt w (((w.alloc (.cells (ncells 0 [] 0 0 [] none 0 0) 26)).alloc (.cells #[.int .i64 0,.int .i64 0] 54)).alloc (.cells #[.slice A L.length c,.int .i64 0,.int .i64 0,.int .i64 0,.int .i64 0] 124)) (w.heap.size + 2) A c L 0 0:=
  ⟨b0,by omega,k2,fun j hj=>by
   obtain ⟨b,o,e,hb,q0,q1,q2⟩:=hA j hj
   exact ⟨b,o,e,Nat.lt_of_lt_of_le hb b0.size,(b0.cell hb).trans q0,(b0.cell hb).trans q1,(b0.cell hb).trans q2⟩,fun b o e=>by have:=hfar b o e; omega⟩
 unfold ncells at *
 go_enter Tryz.func50,Tryz.ntmps50
 go_wp2_with fail
 generalize ((w.alloc (.cells #[.int .i64 0,.string (tx []),.int .i64 0,.int .i64 0,.string (tx []),.slice none 0 0] 26)).alloc (.cells #[.int .i64 0,.int .i64 0] 54)).alloc (.cells #[.slice A L.length c,.int .i64 0,.int .i64 0,.int .i64 0,.int .i64 0] 124)=W1 at *
 have B0:=hid b0
 have K0:=hid k0
 have K1:=hid k1
 have HZ:=hid hz
 have PA:=hid pa
 have HB:=hid hfar
 clear b0 k0 k1 k2 hz pa hfar hA hv
 have NX:=hid (next_any PA.out (by omega) hLn2)
 obtain ⟨⟨kd,tt,ta⟩,htok⟩:∃ tok,tk L 0=tok:=⟨_,rfl⟩
 rw [htok] at NX
 have NX2:Hid (Calls Tryz.prog 80 #[.pointer (some ⟨w.heap.size + 2,0,none⟩)] W1 fun e w'=>e=.returned (.agg #[.int .i64 (kd:Nat),.string (tx tt),.int .i64 (ta:Nat)])∧Below W1.heap.size W1 w'):=NX
 have HTOK:=hid htok
 clear htok NX
 refine NX2.out.mono ?_
 rintro e W2 ⟨rfl,hb2⟩
 have hF:=fieldTok2 (kd:Nat) (ta:Nat) (tx tt) W2
 have CC:=hid (HR W2 (PA.out.below hb2))
 have B2:Hid (Below w.heap.size w W2):=hid (B0.out.trans (hb2.mono B0.out.size))
 have K02:=hid (K0.out.below hb2 K0.out.lt)
 have K12:=hid (K1.out.below hb2 K1.out.lt)
 have HZ2:Hid (w.heap.size + 3≤W2.heap.size):=hid (by have:=HZ.out; have:=hb2.size; omega)
 clear hb2 NX2 K0 K1 PA
 go_wp2_with fail
 refine CC.out.mono ?_
 rintro e W3 ⟨T,i',b,fc,fa,hf,u,rfl,hu,hp,ht⟩
 have HST:=HCNT.out _ _ _ _ _ hf
 clear hf HCNT
 cases T with
 | node op t vk vn vs ks=>
 obtain ⟨AX,cX,rfl,hcX,hkX⟩:=hu
 have k03:Whole W3 w.heap.size 26 #[.int .i64 0,.string (tx []),.int .i64 0,.int .i64 0,.string (tx []),.slice none 0 0]:=(ht.block _ K02.out.lt (by simp)).trans K02.out
 have k13:Whole W3 (w.heap.size + 1) 54 #[.int .i64 0,.int .i64 0]:=(ht.block _ K12.out.lt (by simp)).trans K12.out
 have b4:Below W3.heap.size W3 (W3.alloc (.cells (ncells op t vk vn vs AX ks.length cX) 26)):=(Below.refl _ _).alloc (Nat.le_refl _) _
 have k9:=Whole.new W3 26 (ncells op t vk vn vs AX ks.length cX)
 have nv:NodeV (W3.alloc (.cells (ncells op t vk vn vs AX ks.length cX) 26)) (.agg (ncells op t vk vn vs AX ks.length cX)) (.node op t vk vn vs ks):=⟨AX,cX,rfl,hcX,(hkX.below b4).at⟩
 have NV:=hid nv
 have p4:=hp.below b4
 have k04:=k03.below b4 k03.lt
 have k14:=k13.below b4 k13.lt
 have B4:Hid (Below w.heap.size w (W3.alloc (.cells (ncells op t vk vn vs AX ks.length cX) 26))):=hid ((ht.fresh B2.out (fun k hk=>by simp at hk; omega)).trans (b4.mono (Nat.le_trans B2.out.size ht.size)))
 have HKX:Hid (ks.length≤cX∧TreesIn (fun k=>w.heap.size + 3≤k) (W3.alloc (.cells (ncells op t vk vn vs AX ks.length cX) 26)) AX 0 ks):=hid ⟨hcX,hkX.moved fun k hk hlt=>⟨b4.block k hlt,by have:=HZ2.out; omega⟩⟩
 unfold ncells at *
 obtain ⟨x0,x1,x2,x3,x4,x5⟩:=six_of k9
 have K04:=hid k04
 have K14:=hid k14
 have K9:=hid k9
 have P4:=hid p4
 clear k03 k13 b4 k9 nv p4 k04 k14 hkX hcX hp ht CC
 rcases HST with ⟨rfl,hcnt,hres⟩ | ⟨rfl,hres⟩
 rotate_left
 ·have HRES:=hid hres
  obtain ⟨W4,hW4⟩:∃ W4,W3.alloc (.cells #[.int .i64 op,.string (tx t),.int .i64 vk,.int .i64 vn,.string (tx vs),.slice AX ks.length cX] 26)=W4:=⟨_,rfl⟩
  rw [hW4] at K04 K14 K9 P4 B4 x0 x1 x2 x3 x4 x5
  obtain ⟨z0,z1,z2,z3,z4,z5⟩:=six_of K04.out
  obtain ⟨y0,y1,y2,y3,y4,y5⟩:=frozen6 K04.out
  have v0:=K14.out.cell 0
  have v1:=K14.out.cell 1
  have u0:=K14.out.frozen 0
  have u1:=K14.out.frozen 1
  have p3:W4.cell? ⟨w.heap.size + 2,3,none⟩=some (.int .i64 (fc:Nat)):=P4.out.cells.cell 3
  have p4:W4.cell? ⟨w.heap.size + 2,4,none⟩=some (.int .i64 (fa:Nat)):=P4.out.cells.cell 4
  simp only [List.getElem?_toArray,List.getElem?_cons_zero,List.getElem?_cons_succ] at v0 v1
  have FN:=fin_any K04.out K14.out (Nat.le_refl _) B4.out (.int .i64 0) (.string (tx [])) (.int .i64 0) (.int .i64 0) (.string (tx [])) (.slice none 0 0) (.int .i64 (fc:Nat)) (.int .i64 (fa:Nat))
  have F0:=hid FN.1.drew
  have F1:=hid FN.2.1.drew
  have F2:=hid (FN.2.2.1.drew)
  clear FN hres NV HKX
  go_wp2_with fail
  go_region_with fail
  all_goals
   go_wp2_with fail
   exact bodyPost_ret (results_three rfl _ _ w.heap.size (w.heap.size + 1) _ _ _ _ _ _ _ _ rfl F0.out Tryz.underlying26 rfl sizeExpr _ rfl rfl F1.out Tryz.underlying54 rfl sizeFault) rfl (AtPost.bad_ HRES.out ⟨_,rfl,⟨none,0,rfl,Nat.le_refl _,by rw [TreesIn]; trivial⟩,F2.out⟩)
 have hdep:Ex.depth (.node op t vk vn vs ks)≤1000000:=by have:=depth_count (.node op t vk vn vs ks); omega
 have DC:=hid (callsIn_wide.1 (depth_in _ _ _ NV.out hdep))
 obtain ⟨dp,hdp⟩:∃ dp,Ex.depth (.node op t vk vn vs ks)=dp:=⟨_,rfl⟩
 obtain ⟨cn,hcn⟩:∃ cn,Ex.count (.node op t vk vn vs ks)=cn:=⟨_,rfl⟩
 have HCN:Hid (Ex.depth (.node op t vk vn vs ks)≤1000000∧Ex.count (.node op t vk vn vs ks)≤1000000∧Ex.count (.node op t vk vn vs ks)=cn):=hid (by omega)
 rw [hdp] at DC
 rw [hdp,hcn] at hres
 have HRES:=hid hres
 clear hdp hcn hres hcnt hdep
 go_wp2_with fail
 refine DC.out.mono ?_
 generalize W3.alloc (.cells #[.int .i64 op,.string (tx t),.int .i64 vk,.int .i64 vn,.string (tx vs),.slice AX ks.length cX] 26)=W4 at *
 rintro e W5 ⟨rfl,hb5⟩
 have KB5:Hid (Below W4.heap.size W4 W5):=hid hb5
 have hta:(tk L 0).at_=ta:=by rw [HTOK.out]
 rw [hta] at HRES
 by_cases hd:30 < dp
 ·have hd':(30:Int) < (dp:Int):=by omega
  have HR2:Hid (Ps.Res.bad 18 ta=res):=hid (by rw [← HRES.out,if_pos hd])
  have K06:=hid (K04.out.below hb5 K04.out.lt)
  have K16:=hid (K14.out.below hb5 K14.out.lt)
  obtain ⟨z0,z1,z2,z3,z4,z5⟩:=six_of K06.out
  obtain ⟨y0,y1,y2,y3,y4,y5⟩:=frozen6 K06.out
  have v0:=K16.out.cell 0
  have v1:=K16.out.cell 1
  have u0:=K16.out.frozen 0
  have u1:=K16.out.frozen 1
  simp only [List.getElem?_toArray,List.getElem?_cons_zero,List.getElem?_cons_succ] at v0 v1
  have BB:Hid (Below w.heap.size w W5):=hid (B4.out.trans (hb5.mono B4.out.size))
  clear hb5 DC hd
  have FN:=fin_any K06.out K16.out (Nat.le_refl _) BB.out (.int .i64 0) (.string (tx [])) (.int .i64 0) (.int .i64 0) (.string (tx [])) (.slice none 0 0) (.int .i64 18) (.int .i64 (ta:Nat))
  have F0:=hid FN.1
  have F1:=hid FN.2.1
  have F2:=hid FN.2.2.1
  clear FN
  go_wp2_with fail
  exact bodyPost_ret (results_three rfl _ _ w.heap.size (w.heap.size + 1) _ _ _ _ _ _ _ _ rfl F0.out Tryz.underlying26 rfl sizeExpr _ rfl rfl F1.out Tryz.underlying54 rfl sizeFault) rfl (AtPost.bad_ HR2.out ⟨_,rfl,⟨none,0,rfl,Nat.le_refl _,by rw [TreesIn]; trivial⟩,F2.out⟩)
 have hd':¬ (30:Int) < (dp:Int):=by omega
 have HRES2:Hid ((if 300 < cn then Ps.Res.bad 3 ta else .ok (.node op t vk vn vs ks) i')=res):=hid (by rw [← HRES.out,if_neg hd])
 clear hd
 have CN:=callsIn_wide.1 (count_in _ _ W5 (NV.out.below hb5) HCN.out.1 HCN.out.2.1)
 rw [HCN.out.2.2] at CN
 have CNH:=hid CN
 have K95:=hid (K9.out.below hb5 K9.out.lt)
 obtain ⟨x0,x1,x2,x3,x4,x5⟩:=six_of K95.out
 have HB5:=hid hb5
 clear CN hb5 DC KB5 HRES
 go_wp2_with fail
 refine CNH.out.mono ?_
 rintro e W6 ⟨rfl,hb6⟩
 have B46:Hid (Below W4.heap.size W4 W6):=hid (HB5.out.trans (hb6.mono HB5.out.size))
 have K96:=hid (K95.out.below hb6 K95.out.lt)
 have K06:=hid (K04.out.below B46.out K04.out.lt)
 have K16:=hid (K14.out.below B46.out K14.out.lt)
 have P6:=hid (P4.out.below B46.out)
 obtain ⟨x0,x1,x2,x3,x4,x5⟩:=six_of K96.out
 obtain ⟨z0,z1,z2,z3,z4,z5⟩:=six_of K06.out
 obtain ⟨y0,y1,y2,y3,y4,y5⟩:=frozen6 K06.out
 have v0:=K16.out.cell 0
 have v1:=K16.out.cell 1
 have u0:=K16.out.frozen 0
 have u1:=K16.out.frozen 1
 have p6:W6.cell? ⟨w.heap.size + 2,1,none⟩=some (.int .i64 (i':Nat)):=P6.out.cells.cell 1
 simp only [List.getElem?_toArray,List.getElem?_cons_zero,List.getElem?_cons_succ] at v0 v1
 clear hb6 CNH K95 K9 K04 K14
 by_cases hn:300 < cn
 ·have hn':(300:Int) < (cn:Int):=by omega
  have HR2:Hid (Ps.Res.bad 3 ta=res):=hid (by rw [← HRES2.out,if_pos hn])
  have BB:Hid (Below w.heap.size w W6):=hid (B4.out.trans (B46.out.mono B4.out.size))
  clear hn p6 x0 x1 x2 x3 x4 x5
  have FN:=fin_any K06.out K16.out (Nat.le_refl _) BB.out (.int .i64 0) (.string (tx [])) (.int .i64 0) (.int .i64 0) (.string (tx [])) (.slice none 0 0) (.int .i64 3) (.int .i64 (ta:Nat))
  have F0:=hid FN.1
  have F1:=hid FN.2.1
  have F2:=hid FN.2.2.1
  clear FN
  go_wp2_with fail
  exact bodyPost_ret (results_three rfl _ _ w.heap.size (w.heap.size + 1) _ _ _ _ _ _ _ _ rfl F0.out Tryz.underlying26 rfl sizeExpr _ rfl rfl F1.out Tryz.underlying54 rfl sizeFault) rfl (AtPost.bad_ HR2.out ⟨_,rfl,⟨none,0,rfl,Nat.le_refl _,by rw [TreesIn]; trivial⟩,F2.out⟩)
 have hn':¬ (300:Int) < (cn:Int):=by omega
 have HR2:Hid (Ps.Res.ok (.node op t vk vn vs ks) i'=res):=hid (by rw [← HRES2.out,if_neg hn])
 clear hn
 go_wp2_with fail
 have FT:=set6Z_touch W6 w.heap.size (.int .i64 op) (.string (tx t)) (.int .i64 vk) (.int .i64 vn) (.string (tx vs)) (.slice AX ks.length cX)
 have w0':Whole (set6Z W6 w.heap.size (.int .i64 op) (.string (tx t)) (.int .i64 vk) (.int .i64 vn) (.string (tx vs)) (.slice AX ks.length cX)) w.heap.size 26 #[.int .i64 op,.string (tx t),.int .i64 vk,.int .i64 vn,.string (tx vs),.slice AX ks.length cX]:=set6Z_whole K06.out _ _ _ _ _ _
 have w1':Whole (set6Z W6 w.heap.size (.int .i64 op) (.string (tx t)) (.int .i64 vk) (.int .i64 vn) (.string (tx vs)) (.slice AX ks.length cX)) (w.heap.size + 1) 54 #[.int .i64 0,.int .i64 0]:=(FT.block _ K16.out.lt (by simp)).trans K16.out
 have f0a:=w0'.far (p:=⟨w.heap.size + 1,0,none⟩) (fun h=>absurd h (by simp)) (.int .i64 0)
 have f0b:=(f0a.far (p:=⟨w.heap.size + 1,1,none⟩) (fun h=>absurd h (by simp)) (.int .i64 0)).drew
 have F0:=hid f0b
 have f1b:=((w1'.set_ 0 (.int .i64 0)).set_ 1 (.int .i64 0)).drew
 have F1:=hid f1b
 clear f0a f0b f1b
 have bF0:Touch [w.heap.size,w.heap.size + 1] W6 _:=FT.mono (G:=[w.heap.size,w.heap.size + 1]) (fun x hx=>.inl (List.mem_cons.2 (.inl (List.mem_singleton.1 hx))))
 have bF1:=bF0.setCell (q:=⟨w.heap.size + 1,0,none⟩) (.inl (by simp)) (.int .i64 0)
 have bF:=(bF1.setCell (q:=⟨w.heap.size + 1,1,none⟩) (.inl (by simp)) (.int .i64 0)).drew
 clear bF0 bF1
 have F2:=hid (bF.fresh (B4.out.trans (B46.out.mono B4.out.size)) (fun k hk=>by simp at hk; omega))
 have F3:=hid ((HKX.out.2.below B46.out).moved (S':=(w.heap.size≤·)) fun k hk hlt=>⟨bF.block k hlt (by simp; omega),by omega⟩)
 clear FT w0' w1' bF
 go_region_law (fail)
 all_goals
  go_wp2_with fail
  exact bodyPost_ret (results_three rfl _ _ w.heap.size (w.heap.size + 1) _ _ _ _ _ _ _ _ rfl F0.out Tryz.underlying26 rfl sizeExpr _ rfl rfl F1.out Tryz.underlying54 rfl sizeFault) rfl (AtPost.ok_ HR2.out ⟨_,rfl,⟨AX,cX,rfl,HKX.out.1,F3.out⟩,F2.out⟩)
end Go.Proofs.YteghhmomhlnccaaGreatDoor
namespace Go.Proofs.YteghhmomhlnccaaGreatDoor
open Ex (Tree)
attribute [local go_sem ↓] buildZm
def ParsePost (w:World) (r:Ps.Res) (e:Ending) (w':World):Prop:=match r with
 | .ok T j=>∃ u,e=.returned (.tuple #[u,.agg #[.int .i64 0,.int .i64 0]])∧NodeNew w.heap.size w' u T∧Below w.heap.size w w'
 | .bad c a=>∃ u,e=.returned (.tuple #[u,.agg #[.int .i64 (c:Nat),.int .i64 (a:Nat)]])∧NodeNew w.heap.size w' u zT∧Below w.heap.size w w'
theorem ParsePost.ok_ {w:World} {r:Ps.Res} {T:Tree} {j:Nat} {e:Ending} {w':World} (hr:Ps.Res.ok T j=r) (h:∃ u,e=.returned (.tuple #[u,.agg #[.int .i64 0,.int .i64 0]])∧NodeNew w.heap.size w' u T∧Below w.heap.size w w'):ParsePost w r e w':=by subst hr; exact h
theorem ParsePost.bad_ {w:World} {r:Ps.Res} {c a:Nat} {e:Ending} {w':World} (hr:Ps.Res.bad c a=r) (h:∃ u,e=.returned (.tuple #[u,.agg #[.int .i64 (c:Nat),.int .i64 (a:Nat)]])∧NodeNew w.heap.size w' u zT∧Below w.heap.size w w'):ParsePost w r e w':=by subst hr; exact h
theorem finN {w W:World} (K0:Whole W w.heap.size 26 zcells) (K1:Whole W (w.heap.size + 1) 54 #[.int .i64 0,.int .i64 0]) (hb:Below w.heap.size w W) (c a:Nat) :
  Hid (Whole (finW W w.heap.size (.int .i64 0) (.string (tx [])) (.int .i64 0) (.int .i64 0) (.string (tx [])) (.slice none 0 0) (.int .i64 (c:Nat)) (.int .i64 (a:Nat))).drew w.heap.size 26 #[.int .i64 0,.string (tx []),.int .i64 0,.int .i64 0,.string (tx []),.slice none 0 0]) ∧
  Hid (Whole (finW W w.heap.size (.int .i64 0) (.string (tx [])) (.int .i64 0) (.int .i64 0) (.string (tx [])) (.slice none 0 0) (.int .i64 (c:Nat)) (.int .i64 (a:Nat))).drew (w.heap.size + 1) 54 #[.int .i64 (c:Nat),.int .i64 (a:Nat)]) ∧
  Hid (Below w.heap.size w (finW W w.heap.size (.int .i64 0) (.string (tx [])) (.int .i64 0) (.int .i64 0) (.string (tx [])) (.slice none 0 0) (.int .i64 (c:Nat)) (.int .i64 (a:Nat))).drew):=by
 have FN:=fin_any K0 K1 (Nat.le_refl _) hb (.int .i64 0) (.string (tx [])) (.int .i64 0) (.int .i64 0) (.string (tx [])) (.slice none 0 0) (.int .i64 (c:Nat)) (.int .i64 (a:Nat))
 exact ⟨hid FN.1.drew,hid FN.2.1.drew,hid FN.2.2.1.drew⟩
theorem parse_any (s:ByteArray) (w:World) (a:Addr) (m:Int) (hv:Env w a m):Calls Tryz.prog 23 #[.string s] w (ParsePost w (Ps.parse s.data.toList)):=by
 have b0:Below w.heap.size w ((w.alloc (.cells (ncells 0 [] 0 0 [] none 0 0) 26)).alloc (.cells #[.int .i64 0,.int .i64 0] 54)):=((Below.refl _ _).alloc (Nat.le_refl _) _).alloc (by simp) _
 have k0:=(Whole.new w 26 (ncells 0 [] 0 0 [] none 0 0)).alloc (.cells #[.int .i64 0,.int .i64 0] 54)
 have k1:=Whole.new (w.alloc (.cells (ncells 0 [] 0 0 [] none 0 0) 26)) 54 #[.int .i64 0,.int .i64 0]
 have hz:((w.alloc (.cells (ncells 0 [] 0 0 [] none 0 0) 26)).alloc (.cells #[.int .i64 0,.int .i64 0] 54)).heap.size=w.heap.size + 2:=by simp
 simp only [World.size_alloc] at k1
 unfold ncells at *
 have HV:=hid hv
 obtain ⟨res,hres⟩:∃ res,Ps.parse s.data.toList=res:=⟨_,rfl⟩
 have HRES:=hid hres
 rw [hres]
 go_enter Tryz.func23,Tryz.ntmps23
 go_wp2_with fail
 generalize (w.alloc (.cells #[.int .i64 0,.string (tx []),.int .i64 0,.int .i64 0,.string (tx []),.slice none 0 0] 26)).alloc (.cells #[.int .i64 0,.int .i64 0] 54)=W1 at *
 have B0:=hid b0
 have K0:=hid k0
 have K1:=hid k1
 have HZ:=hid hz
 have LX:=lex_any s W1 a m (HV.out.below b0)
 clear b0 k0 k1 hz hv hres
 cases hlx:Lx.lx s.data.toList with
 | bad c' a'=>
  rw [hlx] at LX
  have HR2:Hid (Ps.Res.bad c' a'=res):=hid (by rw [← HRES.out,Ps.parse,hlx]; try rfl)
  have hc':=Ps.lx_bad hlx
  have hc9:((c':Int) != 0)=true:=by simp; omega
  have LXH:Hid (Calls Tryz.prog 49 #[.string s] W1 fun e w'=>LexBad W1 (c':Nat) (a':Nat) e w'):=hid LX
  clear LX hlx hc'
  refine LXH.out.mono ?_
  rintro e W2 ⟨rfl,hb2⟩
  have b3:Below W1.heap.size W1 (W2.alloc (.cells #[.int .i64 (c':Nat),.int .i64 (a':Nat)] 54)):=hb2.alloc hb2.size _
  have k5:=Whole.new W2 54 #[.int .i64 (c':Nat),.int .i64 (a':Nat)]
  obtain ⟨W3,hW3⟩:∃ W3,W2.alloc (.cells #[.int .i64 (c':Nat),.int .i64 (a':Nat)] 54)=W3:=⟨_,rfl⟩
  rw [hW3] at b3 k5
  have q0:=k5.cell 0
  have q1:=k5.cell 1
  simp only [List.getElem?_toArray,List.getElem?_cons_zero,List.getElem?_cons_succ] at q0 q1
  have K03:=K0.out.below b3 K0.out.lt
  have K13:=K1.out.below b3 K1.out.lt
  obtain ⟨F0,F1,F2⟩:=finN K03 K13 (B0.out.trans (b3.mono B0.out.size)) c' a'
  obtain ⟨z0,z1,z2,z3,z4,z5⟩:=six_of K03
  obtain ⟨y0,y1,y2,y3,y4,y5⟩:=frozen6 K03
  have v0:=K13.cell 0
  have v1:=K13.cell 1
  have u0:=K13.frozen 0
  have u1:=K13.frozen 1
  simp only [List.getElem?_toArray,List.getElem?_cons_zero,List.getElem?_cons_succ] at v0 v1
  have hs9:w.heap.size < W2.heap.size:=by have:=HZ.out; have:=hb2.size; omega
  have hs8:w.heap.size + 1 < W2.heap.size:=by have:=HZ.out; have:=hb2.size; omega
  clear K03 K13 hb2 b3 k5
  go_wp2_with fail
  go_region_with fail
  all_goals
   go_wp2_with fail
   exact bodyPost_ret (results_cells2 rfl _ _ w.heap.size (w.heap.size + 1) _ _ _ _ _ _ _ _ rfl F0.out Tryz.underlying26 rfl sizeExpr rfl F1.out Tryz.underlying54 rfl sizeFault) rfl (ParsePost.bad_ HR2.out ⟨_,rfl,⟨none,0,rfl,Nat.le_refl _,by rw [TreesIn]; trivial⟩,F2.out⟩)
 | ok L=>
  rw [hlx] at LX
  have HEND:=hid (Ps.lx_end hlx)
  have hLn:=Ps.lx_few hlx
  have HR2:Hid ((match Ps.atR L with | .bad c a=>Ps.Res.bad c a | .ok T j=>if (tk L j).kind=0 then .ok T j else .bad 8 (tk L j).at_)=res):=hid (by rw [← HRES.out,Ps.parse,hlx]; try rfl)
  have LXH:Hid (Calls Tryz.prog 49 #[.string s] W1 fun e w'=>LexOk W1 L e w'):=hid LX
  clear LX hlx
  refine LXH.out.mono ?_
  rintro e W2 ⟨A,c,rfl,hc,hA,hb2,hfar⟩
  have b3:Below W1.heap.size W1 (W2.alloc (.cells #[.int .i64 0,.int .i64 0] 54)):=hb2.alloc hb2.size _
  have k5:=Whole.new W2 54 #[.int .i64 0,.int .i64 0]
  have hA3:=hA.below ((Below.refl W2.heap.size W2).alloc (Nat.le_refl _) (.cells #[.int .i64 0,.int .i64 0] 54))
  have q0:=k5.cell 0
  simp only [List.getElem?_toArray,List.getElem?_cons_zero,List.getElem?_cons_succ] at q0
  have AT:=hid (at_any HEND.out.1 (by omega) (fun k=>by have:=HEND.out.2.1 k; omega) hc hA3 (HV.out.below (B0.out.trans (b3.mono B0.out.size))))
  have HAB:Hid (∀ c a,Ps.atR L=.bad c a→c ≠ 0):=hid (fun c a h=>Ps.at_bad HEND.out.1 h)
  have HAO:Hid (∀ T j,Ps.atR L=.ok T j→j < L.length):=hid (fun T j h=>(Ps.at_ok HEND.out.1 h).2.2.2)
  have B3:=hid b3
  have K03:=hid (K0.out.below b3 K0.out.lt)
  have K13:=hid (K1.out.below b3 K1.out.lt)
  have K5:=hid k5
  have HA3:=hid hA3
  have HZ3:Hid (w.heap.size + 2≤W2.heap.size):=hid (by have:=HZ.out; have:=hb2.size; omega)
  have HBW:Hid (∀ b o,A=some ⟨b,o,none⟩→b < W2.heap.size):=hid (fun b o e=>by
   obtain ⟨b',o',e',hb,-⟩:=hA 0 (List.length_pos_iff.2 HEND.out.1.1)
   rw [e] at e'; cases e'; exact hb)
  have HFAR:=hid hfar
  clear b3 k5 hA3 hA hb2 hfar LXH K0 K1 hc
  go_wp2_with fail
  refine AT.out.mono ?_
  generalize W2.alloc (.cells #[.int .i64 0,.int .i64 0] 54)=W3 at *
  rintro e W4 hpost
  cases har:Ps.atR L with
  | bad c' a'=>
   rw [har] at hpost
   obtain ⟨u,rfl,⟨AX,cX,rfl,hcX,hkX⟩,hb4⟩:=hpost
   have HR3:Hid (Ps.Res.bad c' a'=res):=hid (by rw [← HR2.out,har])
   have hc':=HAB.out _ _ har
   have hc9:((c':Int) != 0)=true:=by simp; omega
   clear hc' har AT HR2
   have b5:Below W3.heap.size W3 (W4.alloc (.cells (ncells 0 [] 0 0 [] AX 0 cX) 26)):=hb4.alloc hb4.size _
   have k05:=K03.out.below b5 K03.out.lt
   have k15:=K13.out.below b5 K13.out.lt
   have k55:=K5.out.below b5 K5.out.lt
   have f0:=k55.frozen 0
   have f1:=k55.frozen 1
   have g0:=k55.cell 0
   have g1:=k55.cell 1
   simp only [List.getElem?_toArray,List.getElem?_cons_zero,List.getElem?_cons_succ] at g0 g1
   have hlt5:=K5.out.lt
   have hsz4:=hb4.size
   have bW:Touch [W2.heap.size] (W4.alloc (.cells (ncells 0 [] 0 0 [] AX 0 cX) 26)) (((W4.alloc (.cells (ncells 0 [] 0 0 [] AX 0 cX) 26)).setCell ⟨W2.heap.size,0,none⟩ (.int .i64 (c':Nat))).setCell ⟨W2.heap.size,1,none⟩ (.int .i64 (a':Nat))):=((Touch.refl _ _).setCell (q:=⟨W2.heap.size,0,none⟩) (.inl (List.mem_singleton.2 rfl)) (.int .i64 (c':Nat))).setCell (q:=⟨W2.heap.size,1,none⟩) (.inl (List.mem_singleton.2 rfl)) (.int .i64 (a':Nat))
   have c55:=(k55.set_ 0 (.int .i64 (c':Nat))).set_ 1 (.int .i64 (a':Nat))
   unfold ncells at *
   obtain ⟨W5,hW5⟩:∃ W5,W4.alloc (.cells #[.int .i64 0,.string (tx []),.int .i64 0,.int .i64 0,.string (tx []),.slice AX 0 cX] 26)=W5:=⟨_,rfl⟩
   rw [hW5] at b5 k05 k15 k55 f0 f1 g0 g1 bW c55
   obtain ⟨W6,hW6⟩:∃ W6,(W5.setCell ⟨W2.heap.size,0,none⟩ (.int .i64 (c':Nat))).setCell ⟨W2.heap.size,1,none⟩ (.int .i64 (a':Nat))=W6:=⟨_,rfl⟩
   rw [hW6] at bW c55
   have k06:Whole W6 w.heap.size 26 zcells:=(bW.block _ k05.lt (by have:=HZ3.out; simp; omega)).trans k05
   have k16:Whole W6 (w.heap.size + 1) 54 #[.int .i64 0,.int .i64 0]:=(bW.block _ k15.lt (by have:=HZ3.out; simp; omega)).trans k15
   have B6:Below w.heap.size w W6:=bW.fresh (B0.out.trans ((B3.out.trans (b5.mono B3.out.size)).mono B0.out.size)) (fun k hk=>by have:=List.mem_singleton.1 hk; have:=HZ3.out; omega)
   obtain ⟨F0,F1,F2⟩:=finN k06 k16 B6 c' a'
   have r0:=c55.cell 0
   have r1:=c55.cell 1
   try simp only [List.getElem?_toArray,List.getElem?_cons_zero,List.getElem?_cons_succ] at r0 r1
   obtain ⟨m0,m1,m2,m3,m4,m5⟩:=six_of k06
   obtain ⟨y0,y1,y2,y3,y4,y5⟩:=frozen6 k06
   have v0:=k16.cell 0
   have v1:=k16.cell 1
   have u0:=k16.frozen 0
   have u1:=k16.frozen 1
   simp only [List.getElem?_toArray,List.getElem?_cons_zero,List.getElem?_cons_succ] at v0 v1
   have hs9:w.heap.size < W2.heap.size:=by have:=HZ3.out; omega
   have hs8:w.heap.size + 1 < W2.heap.size:=by have:=HZ3.out; omega
   clear k06 k16 k05 k15 k55 b5 hb4 bW c55 B6 hkX hcX hsz4 hlt5
   go_wp2_with fail
   go_region_with fail
   all_goals
    go_wp2_with fail
    exact bodyPost_ret (results_cells2 rfl _ _ w.heap.size (w.heap.size + 1) _ _ _ _ _ _ _ _ rfl F0.out Tryz.underlying26 rfl sizeExpr rfl F1.out Tryz.underlying54 rfl sizeFault) rfl (ParsePost.bad_ HR3.out ⟨_,rfl,⟨none,0,rfl,Nat.le_refl _,by rw [TreesIn]; trivial⟩,F2.out⟩)
  | ok T i'=>
   rw [har] at hpost
   have hi':=HAO.out _ _ har
   have HR3:Hid ((if (tk L i').kind=0 then Ps.Res.ok T i' else .bad 8 (tk L i').at_)=res):=hid (by rw [← HR2.out,har])
   clear har AT HR2
   obtain ⟨u,rfl,hu,hb4⟩:=hpost
   cases T with
   | node op t vk vn vs ks=>
   obtain ⟨AX,cX,rfl,hcX,hkX⟩:=hu
   obtain ⟨b,o,hAe,hbl,rr0,rr1,rr2⟩:=HA3.out i' hi'
   subst hAe
   rw [← tk_lt hi'] at rr0 rr2
   obtain ⟨⟨kd,tt,ta⟩,htok⟩:∃ tok,tk L i'=tok:=⟨_,rfl⟩
   rw [htok] at rr0 rr2
   have HTOK:=hid htok
   clear htok
   have hi9:(i':Int) < (L.length:Int):=by omega
   have b5:Below W3.heap.size W3 (W4.alloc (.cells (ncells op t vk vn vs AX ks.length cX) 26)):=hb4.alloc hb4.size _
   have k6:=Whole.new W4 26 (ncells op t vk vn vs AX ks.length cX)
   have k05:=K03.out.below b5 K03.out.lt
   have k15:=K13.out.below b5 K13.out.lt
   have k55:=K5.out.below b5 K5.out.lt
   have f0:=k55.frozen 0
   have f1:=k55.frozen 1
   have g0:=k55.cell 0
   have g1:=k55.cell 1
   simp only [List.getElem?_toArray,List.getElem?_cons_zero,List.getElem?_cons_succ] at g0 g1
   have hlt5:=K5.out.lt
   have hsz4:=hb4.size
   have bW:Touch [W2.heap.size] (W4.alloc (.cells (ncells op t vk vn vs AX ks.length cX) 26)) (((W4.alloc (.cells (ncells op t vk vn vs AX ks.length cX) 26)).setCell ⟨W2.heap.size,0,none⟩ (.int .i64 0)).setCell ⟨W2.heap.size,1,none⟩ (.int .i64 0)):=((Touch.refl _ _).setCell (q:=⟨W2.heap.size,0,none⟩) (.inl (List.mem_singleton.2 rfl)) (.int .i64 0)).setCell (q:=⟨W2.heap.size,1,none⟩) (.inl (List.mem_singleton.2 rfl)) (.int .i64 0)
   have hs4:(W4.alloc (.cells (ncells op t vk vn vs AX ks.length cX) 26)).heap.size=W4.heap.size + 1:=by simp
   have c55:=(k55.set_ 0 (.int .i64 0)).set_ 1 (.int .i64 0)
   unfold ncells at *
   obtain ⟨W5,hW5⟩:∃ W5,W4.alloc (.cells #[.int .i64 op,.string (tx t),.int .i64 vk,.int .i64 vn,.string (tx vs),.slice AX ks.length cX] 26)=W5:=⟨_,rfl⟩
   rw [hW5] at b5 k6 k05 k15 k55 f0 f1 g0 g1 bW hs4 c55
   obtain ⟨W6,hW6⟩:∃ W6,(W5.setCell ⟨W2.heap.size,0,none⟩ (.int .i64 0)).setCell ⟨W2.heap.size,1,none⟩ (.int .i64 0)=W6:=⟨_,rfl⟩
   rw [hW6] at bW c55
   have k66:Whole W6 W4.heap.size 26 #[.int .i64 op,.string (tx t),.int .i64 vk,.int .i64 vn,.string (tx vs),.slice AX ks.length cX]:=(bW.block _ k6.lt (by simp; omega)).trans k6
   have k06:Whole W6 w.heap.size 26 zcells:=(bW.block _ k05.lt (by have:=HZ3.out; simp; omega)).trans k05
   have k16:Whole W6 (w.heap.size + 1) 54 #[.int .i64 0,.int .i64 0]:=(bW.block _ k15.lt (by have:=HZ3.out; simp; omega)).trans k15
   have hbe:b ≠ W2.heap.size:=by have:=HBW.out b o rfl; omega
   have e6:∀ q,W6.cell? ⟨b,q,none⟩=W3.cell? ⟨b,q,none⟩:=fun q=>by
    have e1:W6.cell? ⟨b,q,none⟩=W5.cell? ⟨b,q,none⟩:=by simp only [World.cell?,bW.block b (Nat.lt_of_lt_of_le hbl b5.size) (by simpa using hbe)]
    rw [e1]; exact b5.cell (p:=⟨b,q,none⟩) hbl
   have r6:W6.cell? ⟨b,o + i' * 3,none⟩=some (.int .i64 (kd:Nat)):=(e6 _).trans rr0
   have r62:W6.cell? ⟨b,o + i' * 3 + 2,none⟩=some (.int .i64 (ta:Nat)):=(e6 _).trans rr2
   have z5:W6.cell? ⟨W2.heap.size,0,none⟩=some (.int .i64 0):=c55.cell 0
   have z6:W6.cell? ⟨W2.heap.size,1,none⟩=some (.int .i64 0):=c55.cell 1
   obtain ⟨x0,x1,x2,x3,x4,x5⟩:=six_of k66
   obtain ⟨m0,m1,m2,m3,m4,m5⟩:=six_of k06
   obtain ⟨y0,y1,y2,y3,y4,y5⟩:=frozen6 k06
   have v0:=k16.cell 0
   have v1:=k16.cell 1
   have u0:=k16.frozen 0
   have u1:=k16.frozen 1
   simp only [List.getElem?_toArray,List.getElem?_cons_zero,List.getElem?_cons_succ] at v0 v1
   have B6:Below w.heap.size w W6:=bW.fresh (B0.out.trans ((B3.out.trans (b5.mono B3.out.size)).mono B0.out.size)) (fun k hk=>by have:=List.mem_singleton.1 hk; have:=HZ3.out; omega)
   by_cases hkd:kd=0
   ·have HR4:Hid (Ps.Res.ok (.node op t vk vn vs ks) i'=res):=hid (by rw [← HR3.out,if_pos (by rw [HTOK.out]; exact hkd)])
    subst hkd
    have FN:=fin_any k06 k16 (Nat.le_refl _) B6 (.int .i64 op) (.string (tx t)) (.int .i64 vk) (.int .i64 vn) (.string (tx vs)) (.slice AX ks.length cX) (.int .i64 0) (.int .i64 0)
    have F0:=hid FN.1
    have F1:=hid FN.2.1
    have F2:=hid FN.2.2.1
    have hkX5:TreesIn (fun k=>W3.heap.size≤k) W5 AX 0 ks:=hW5 ▸ (hkX.below ((Below.refl W4.heap.size W4).alloc (Nat.le_refl _) _))
    have hz3:w.heap.size + 2≤W3.heap.size:=by have:=HZ.out; have:=B3.out.size; omega
    have F3:=hid ((hkX5.moved (S':=(W3.heap.size≤·)) (w':=W6) fun k hk hlt=>⟨bW.block k hlt (fun h=>by have:=List.mem_singleton.1 h; omega),hk⟩).moved (S':=(w.heap.size≤·)) fun k hk hlt=>⟨FN.2.2.2 k hlt (by omega) (by omega),by omega⟩)
    have HCX:=hid hcX
    have hW6':=hW6
    clear FN k66 k06 k16 k05 k15 k55 k6 b5 hb4 bW c55 hkX hkX5 hcX B6 hs4 hsz4 hlt5 hbl rr0 rr1 rr2 e6
    go_wp2_with fail
    exact bodyPost_ret (results_cells2 rfl _ _ w.heap.size (w.heap.size + 1) _ _ _ _ _ _ _ _ rfl F0.out Tryz.underlying26 rfl sizeExpr rfl F1.out Tryz.underlying54 rfl sizeFault) rfl (ParsePost.ok_ HR4.out ⟨_,rfl,⟨AX,cX,rfl,HCX.out,F3.out⟩,F2.out⟩)
   ·have hkd9:((kd:Int) != 0)=true:=by simp; omega
    have HR4:Hid (Ps.Res.bad 8 ta=res):=hid (by rw [← HR3.out,if_neg (by rw [HTOK.out]; exact hkd),HTOK.out])
    obtain ⟨F0,F1,F2⟩:=finN k06 k16 B6 8 ta
    have hs9:w.heap.size < b:=by have:=HFAR.out b o rfl; have:=HZ.out; omega
    have hs8:w.heap.size + 1 < b:=by have:=HFAR.out b o rfl; have:=HZ.out; omega
    clear k66 k06 k16 k05 k15 k55 k6 b5 hb4 bW c55 hkX hcX B6 hs4 hsz4 hlt5 hbl rr0 rr1 rr2 e6 hkd
    go_wp2_with fail
    go_region_with fail
    all_goals
     go_wp2_with fail
     exact bodyPost_ret (results_cells2 rfl _ _ w.heap.size (w.heap.size + 1) _ _ _ _ _ _ _ _ rfl F0.out Tryz.underlying26 rfl sizeExpr rfl F1.out Tryz.underlying54 rfl sizeFault) rfl (ParsePost.bad_ HR4.out ⟨_,rfl,⟨none,0,rfl,Nat.le_refl _,by rw [TreesIn]; trivial⟩,F2.out⟩)
end Go.Proofs.YteghhmomhlnccaaGreatDoor
