import Derived.Test.YteghhmomhlnccaaGreatDoorYT1
import Derived.Test.YteghhmomhlnccaaGreatDoorYT31
set_option linter.unusedVariables false
set_option linter.unusedSimpArgs false
set_option maxRecDepth 100000
set_option maxHeartbeats 100000000
open Go.RowKit Go.Lib
namespace Go.Proofs.YteghhmomhlnccaaGreatDoor
attribute [local go_sem ↓] eqVal neqVal
open Ex (Tree)
open Ev (V R Pl)
abbrev zeroW:Array Value:=#[.bool false,.int .u64 0,.int .u64 0,.int .u64 0,.int .u64 0,.int .u64 0]
def TwoA (W2 W:World) (g:Nat) (cs:Array Value):Prop:=W2.heap.size≤g∧Whole W g 73 cs
theorem TwoA.call {W2 W V:World} {g:Nat} {cs:Array Value} (h:TwoA W2 W g cs) (hv:Below W.heap.size W V):TwoA W2 V g cs:=⟨h.1,h.2.below hv h.2.lt⟩
theorem TwoA.to {W2 W V:World} {g:Nat} {cs:Array Value} (h:TwoA W2 W g cs) (hq:W.alloc (.cells zeroW 73)=V):TwoA W2 V g cs:=by
 subst hq
 exact ⟨h.1,h.2.alloc _⟩
theorem TwoA.new {W2 W:World} (h:Below W2.heap.size W2 W):∃ V,W.alloc (.cells zeroW 73)=V∧Hid (Below W2.heap.size W2 V)∧Hid (TwoA W2 V W.heap.size zeroW):=⟨_,rfl,hid (h.alloc h.size _),hid ⟨h.size,Whole.new W _ _⟩⟩
theorem TwoA.set {W2 W:World} {g g':Nat} {a0 a1 a2 a3 a4 a5:Value} {cs:Array Value} (hq:Below W2.heap.size W2 W) (h:TwoA W2 W g #[a0,a1,a2,a3,a4,a5]) (h':TwoA W2 W g' cs) (hne:g ≠ g') (b0 b1 b2 b3 b4 b5:Value) :
  ∃ V,set6Z W g b0 b1 b2 b3 b4 b5=V∧Hid (Below W2.heap.size W2 V)∧Hid (TwoA W2 V g #[b0,b1,b2,b3,b4,b5])∧Hid (TwoA W2 V g' cs):=by
 have T:=set6Z_touch W g b0 b1 b2 b3 b4 b5
 exact ⟨_,rfl,hid (hq.trans (T.below1 h.1 hq.size)),hid ⟨h.1,set6Z_whole h.2 b0 b1 b2 b3 b4 b5⟩,hid ⟨h'.1,(T.block g' h'.2.lt (by simp; omega)).trans h'.2⟩⟩
theorem wix {w:World} {g:Nat} {t:TypeId} {a0 a1 a2 a3 a4 a5:Value} (h:Whole w g t #[a0,a1,a2,a3,a4,a5]):w.cell? ⟨g,0,none⟩=some a0∧w.cell? ⟨g,1,none⟩=some a1∧w.cell? ⟨g,2,none⟩=some a2∧w.cell? ⟨g,3,none⟩=some a3∧w.cell? ⟨g,4,none⟩=some a4∧w.cell? ⟨g,5,none⟩=some a5:=
 ⟨by rw [h.cell]; rfl,by rw [h.cell]; rfl,by rw [h.cell]; rfl,by rw [h.cell]; rfl,by rw [h.cell]; rfl,by rw [h.cell]; rfl⟩
theorem rbin_num (t:List UInt8) (a b:V) (w:World) (ha:Pl a) (hb:Pl b) (hl:¬ Ex.lev t=3) (ht:¬ t=[38]):Calls Tryz.prog 39 #[.string (tx t),vv a,vv b] w fun e w'=>e=.returned (outR (Ev.bin t a b))∧Below w.heap.size w w':=by
 have b0:=(Below.refl w.heap.size w).alloc (Nat.le_refl _) (.cells (vcells a) 23)
 have b1:=b0.alloc (by simp) (.cells (vcells b) 23)
 have b2:=b1.alloc (by simp; omega) (.cells #[.int .i64 0,.int .i64 0,.string ⟨#[]⟩] 23)
 have ra:=((Row3.new w a.k a.n (tx a.s)).alloc (.cells (vcells b) 23)).alloc (.cells #[.int .i64 0,.int .i64 0,.string ⟨#[]⟩] 23)
 have rb:=(Row3.new (w.alloc (.cells (vcells a) 23)) b.k b.n (tx b.s)).alloc (.cells #[.int .i64 0,.int .i64 0,.string ⟨#[]⟩] 23)
 have r0:=Row3.new ((w.alloc (.cells (vcells a) 23)).alloc (.cells (vcells b) 23)) 0 0 ⟨#[]⟩
 simp only [World.size_alloc] at rb r0
 obtain ⟨W1,hW1⟩:∃ W1,((w.alloc (.cells (vcells a) 23)).alloc (.cells (vcells b) 23)).alloc (.cells #[.int .i64 0,.int .i64 0,.string ⟨#[]⟩] 23)=W1:=⟨_,rfl⟩
 rw [hW1] at b2 ra rb r0
 have B1:Hid (BinS w W1 a b):=hid ⟨b2,ra,rb,r0⟩
 have HR1:Hid (¬ a.k=1∨¬ b.k=1→Ev.bin t a b=⟨⟨0,0,[]⟩,10⟩):=hid (fun h=>by rw [Ev.bin,if_neg hl,if_neg ht,if_neg (by omega)]; rfl)
 have HR3:Hid (a.k=1→b.k=1→Ev.bin t a b=if t=[43] then Ev.num (a.n + b.n) else if t=[45] then Ev.num (a.n + -b.n) else if t=[42] then Ev.num (a.n * b.n) else if b.n=0 then ⟨⟨0,0,[]⟩,5⟩ else if t=[47] then Ev.num (a.n.tdiv b.n) else Ev.num (a.n.tmod b.n)):=hid (fun h1 h2=>by rw [Ev.bin,if_neg hl,if_neg ht,if_pos ⟨h1,h2⟩,Int.sub_eq_add_neg]; rfl)
 have HFA:Hid (Fits a.n):=hid (pl_fits ha)
 have HFB:Hid (Fits b.n):=hid (pl_fits hb)
 obtain ⟨ka,na,sa⟩:=a
 obtain ⟨kb,nb,sb⟩:=b
 have LV:=hid (fun U=>refLevel_any (tx t) U)
 obtain ⟨rl,hrl⟩:∃ rl,Ex.refLev (tx t).data.toList=rl:=⟨_,rfl⟩
 have hrl3:(rl == 3)=false:=by
  rw [beq_eq_false_iff_ne,← hrl]
  intro h
  refine hl ?_
  have h':Ex.refLev t=3:=h
  rw [Ex.refLev] at h'
  split at h'
  ·omega
  ·split at h'
   ·omega
   ·split at h'
    ·omega
    ·exact h'
 have t6:(t == [38])=false:=by simpa using ht
 rw [hrl] at LV
 unfold vv vcells at *
 dsimp only at *
 clear b0 b1 b2 ra rb r0 ha hb hl ht hrl
 go_enter Tryz.func39,Tryz.ntmps39
 go_wp2_with fail
 refine (LV.out _).mono ?_
 rintro e W2 ⟨rfl,hb2⟩
 have S2:=hid (B1.out.call hb2)
 clear hb2 B1 LV
 obtain ⟨⟨x0,x1,x2⟩,⟨y0,y1,y2⟩,⟨d0,d1,d2⟩⟩:=S2.out.cells
 obtain ⟨f0,f1,f2⟩:=S2.out.frozen
 by_cases h1:ka=1
 case neg=>
  have h1':(ka != 1)=true:=by simpa using h1
  have HR:=hid (HR1.out (.inl h1))
  clear h1 HR1 HR3
  go_wp2_with fail
  exact fin_R Tryz.results39 rfl rfl rfl (by exact S2.out.2.2.2) (by first | exact below_drewN S2.out.1 _ | exact S2.out.1.drew | exact S2.out.1) (by omega) (by first | (rw [HR.out]; done) | (rw [HR.out]; rfl))
 have h1':(ka != 1)=false:=by simpa using h1
 by_cases h2:kb=1
 case neg=>
  have h2':(kb != 1)=true:=by simpa using h2
  have HR:=hid (HR1.out (.inr h2))
  clear h1 h2 HR1 HR3
  go_wp2_with fail
  exact fin_R Tryz.results39 rfl rfl rfl (by exact S2.out.2.2.2) (by first | exact below_drewN S2.out.1 _ | exact S2.out.1.drew | exact S2.out.1) (by omega) (by first | (rw [HR.out]; done) | (rw [HR.out]; rfl))
 have h2':(kb != 1)=false:=by simpa using h2
 have HR2:=hid (HR3.out h1 h2)
 clear h1 h2 HR1 HR3
 have OA:=hid (fun U=>of_says na U HFA.out)
 have OB:=hid (fun U=>of_says nb U HFB.out)
 go_upto_region 25 with fail
 clear h1' h2' x0 x1 x2 y0 y1 y2 d0 d1 d2 f0 f1 f2 t6 hrl3
 go_cut [10,11] from 97 to 103 (fun s10 s11 wc=>∃ g10 g11,s10=.pointer (some ⟨g10,0,none⟩)∧s11=.pointer (some ⟨g11,0,none⟩)∧(∃ s x0 x1,Hid (Whole wc g10 73 #[.bool s,.int .u64 x0,.int .u64 x1,.int .u64 0,.int .u64 0,.int .u64 0])∧Hid (Part x0∧Part x1∧na=signed s (x0 + 4294967296 * x1)))∧(∃ s x0 x1,Hid (Whole wc g11 73 #[.bool s,.int .u64 x0,.int .u64 x1,.int .u64 0,.int .u64 0,.int .u64 0])∧Hid (Part x0∧Part x1∧nb=signed s (x0 + 4294967296 * x1)))∧Hid (Below W2.heap.size W2 wc))
 case first=>
  have QD:Hid (Below W2.heap.size W2 W2.drew):=hid (Below.refl _ _).drew
  have KK:Hid (∀ U,Below W2.heap.size W2 U→Holds3 U w.heap.size ka na (tx sa)∧Holds3 U (w.heap.size + 1) kb nb (tx sb)∧Holds3 U (w.heap.size + 2) 0 0 ⟨#[]⟩):=hid (fun U hU=>(S2.out.call hU).cells)
  refine wp_region_held_drew (S:=fun U=>Below W2.heap.size W2 U) (by kernel_rfl) QD.out (fun _=>?_)
  obtain ⟨WD,hWD⟩:∃ U,W2.drew=U:=⟨_,rfl⟩
  rw [hWD] at QD ⊢
  clear hWD
  refine qTk 0 (v:=?_) QD.out ?_ ?_
  rotate_left
  ·(intro W hw; go_simp; try with_reducible rfl)
  refine qTk 1 (v:=?_) QD.out ?_ ?_
  rotate_left
  ·(intro W hw; obtain ⟨⟨x0,x1,x2⟩,⟨y0,y1,y2⟩,-⟩:=KK.out W hw; go_simp; try with_reducible rfl)
  refine qTk 3 (v:=?_) QD.out ?_ ?_
  rotate_left
  ·(intro W hw; go_simp; try with_reducible rfl)
  refine qTk 4 (v:=?_) QD.out ?_ ?_
  rotate_left
  ·(intro W hw; obtain ⟨⟨x0,x1,x2⟩,⟨y0,y1,y2⟩,-⟩:=KK.out W hw; go_simp; try with_reducible rfl)
  refine qTr3 2 6 7 (fun K hK=>?_) (fun K hK=>?_) (fun K hK=>?_)
  ·
   go_simp
   refine (OA.out _).mono ?_
   rintro e V1 ⟨v1,rfl,⟨s,x0,x1,rfl,p0,p1,h0⟩,hv⟩
   have SVx:=hid (And.intro p0 (And.intro p1 h0))
   have Q1:=hid (bstep QD.out hv)
   clear hv p0 p1 h0
   refine hK.out _ _ Q1.out (fun _=>?_)
   clear hK K
   refine qTr3 5 6 7 (fun K hK=>?_) (fun K hK=>?_) (fun K hK=>?_)
   ·
    go_simp
    refine (OB.out _).mono ?_
    rintro e V2 ⟨v2,rfl,⟨r,y0,y1,rfl,p0,p1,h0⟩,hv⟩
    have SVy:=hid (And.intro p0 (And.intro p1 h0))
    have Q2:=hid (bstep Q1.out hv)
    clear hv p0 p1 h0
    refine hK.out _ _ Q2.out (fun _=>?_)
    clear hK K
    refine qTr2 6 7 (fun K hK=>?_) (fun K hK=>?_)
    ·
     go_simp
     have Q0_:=hid (Q2.out.alloc Q2.out.size (.cells #[.bool false,.int .u64 0,.int .u64 0,.int .u64 0,.int .u64 0,.int .u64 0] 73))
     refine hK.out _ _ Q0_.out (fun _=>?_)
     clear hK K
     obtain ⟨V3,hq,Q3,A3⟩:=TwoA.new Q2.out
     rw [hq]
     clear hq Q0_
     refine qTr1 7 (fun K hK=>?_)
     go_simp
     have Q0_:=hid (Q3.out.alloc Q3.out.size (.cells #[.bool false,.int .u64 0,.int .u64 0,.int .u64 0,.int .u64 0,.int .u64 0] 73))
     refine hK.out _ _ Q0_.out (fun _=>?_)
     clear hK K
     obtain ⟨V4,hq,Q4,B4⟩:=TwoA.new Q3.out
     rw [hq]
     have NE:=hid (Nat.ne_of_lt A3.out.2.lt)
     have A4:=hid (A3.out.to hq)
     clear hq Q0_
     obtain ⟨z0,z1,z2,z3,z4,z5⟩:=wix A4.out.2
     obtain ⟨u0,u1,u2,u3,u4,u5⟩:=frozen6 A4.out.2
     refine qTr1 8 (fun K hK=>?_)
     go_simp
     obtain ⟨V5,hq,Q5,A5,B5⟩:=TwoA.set Q4.out A4.out B4.out (NE.out) (.bool s) (.int .u64 x0) (.int .u64 x1) (.int .u64 0) (.int .u64 0) (.int .u64 0)
     unfold set6Z at hq
     rw [hq]
     clear hq z0 z1 z2 z3 z4 z5 u0 u1 u2 u3 u4 u5
     refine hK.out _ _ Q5.out (fun _=>?_)
     clear hK K
     obtain ⟨z0,z1,z2,z3,z4,z5⟩:=wix B5.out.2
     obtain ⟨u0,u1,u2,u3,u4,u5⟩:=frozen6 B5.out.2
     refine qTr1 9 (fun K hK=>?_)
     go_simp
     obtain ⟨V6,hq,Q6,B6,A6⟩:=TwoA.set Q5.out B5.out A5.out (NE.out.symm) (.bool r) (.int .u64 y0) (.int .u64 y1) (.int .u64 0) (.int .u64 0) (.int .u64 0)
     unfold set6Z at hq
     rw [hq]
     clear hq z0 z1 z2 z3 z4 z5 u0 u1 u2 u3 u4 u5
     refine hK.out _ _ Q6.out (fun _=>?_)
     clear hK K
     refine wpAnyH_done (by kernel_rfl) ?_ _
     try simp only  [Act.put,List.setIfInBounds_toArray,List.set_cons_zero,List.set_cons_succ]
     go_wp2_with fail
     go_meet
     case rel=>exact ⟨_,_,rfl,rfl,⟨s,x0,x1,hid A6.out.2,SVx⟩,⟨r,y0,y1,hid B6.out.2,SVy⟩,Q6⟩
    ·
     go_simp
     have Q0_:=hid (Q2.out.alloc Q2.out.size (.cells #[.bool false,.int .u64 0,.int .u64 0,.int .u64 0,.int .u64 0,.int .u64 0] 73))
     refine hK.out _ _ Q0_.out (fun _=>?_)
     clear hK K
     obtain ⟨V3,hq,Q3,B3⟩:=TwoA.new Q2.out
     rw [hq]
     clear hq Q0_
     refine qTr1 6 (fun K hK=>?_)
     go_simp
     have Q0_:=hid (Q3.out.alloc Q3.out.size (.cells #[.bool false,.int .u64 0,.int .u64 0,.int .u64 0,.int .u64 0,.int .u64 0] 73))
     refine hK.out _ _ Q0_.out (fun _=>?_)
     clear hK K
     obtain ⟨V4,hq,Q4,A4⟩:=TwoA.new Q3.out
     rw [hq]
     have NE:=hid (Nat.ne_of_lt B3.out.2.lt)
     have B4:=hid (B3.out.to hq)
     clear hq Q0_
     obtain ⟨z0,z1,z2,z3,z4,z5⟩:=wix A4.out.2
     obtain ⟨u0,u1,u2,u3,u4,u5⟩:=frozen6 A4.out.2
     refine qTr1 8 (fun K hK=>?_)
     go_simp
     obtain ⟨V5,hq,Q5,A5,B5⟩:=TwoA.set Q4.out A4.out B4.out (NE.out.symm) (.bool s) (.int .u64 x0) (.int .u64 x1) (.int .u64 0) (.int .u64 0) (.int .u64 0)
     unfold set6Z at hq
     rw [hq]
     clear hq z0 z1 z2 z3 z4 z5 u0 u1 u2 u3 u4 u5
     refine hK.out _ _ Q5.out (fun _=>?_)
     clear hK K
     obtain ⟨z0,z1,z2,z3,z4,z5⟩:=wix B5.out.2
     obtain ⟨u0,u1,u2,u3,u4,u5⟩:=frozen6 B5.out.2
     refine qTr1 9 (fun K hK=>?_)
     go_simp
     obtain ⟨V6,hq,Q6,B6,A6⟩:=TwoA.set Q5.out B5.out A5.out (NE.out) (.bool r) (.int .u64 y0) (.int .u64 y1) (.int .u64 0) (.int .u64 0) (.int .u64 0)
     unfold set6Z at hq
     rw [hq]
     clear hq z0 z1 z2 z3 z4 z5 u0 u1 u2 u3 u4 u5
     refine hK.out _ _ Q6.out (fun _=>?_)
     clear hK K
     refine wpAnyH_done (by kernel_rfl) ?_ _
     try simp only  [Act.put,List.setIfInBounds_toArray,List.set_cons_zero,List.set_cons_succ]
     go_wp2_with fail
     go_meet
     case rel=>exact ⟨_,_,rfl,rfl,⟨s,x0,x1,hid A6.out.2,SVx⟩,⟨r,y0,y1,hid B6.out.2,SVy⟩,Q6⟩
   ·
    go_simp
    have Q0_:=hid (Q1.out.alloc Q1.out.size (.cells #[.bool false,.int .u64 0,.int .u64 0,.int .u64 0,.int .u64 0,.int .u64 0] 73))
    refine hK.out _ _ Q0_.out (fun _=>?_)
    clear hK K
    obtain ⟨V2,hq,Q2,A2⟩:=TwoA.new Q1.out
    rw [hq]
    clear hq Q0_
    refine qTr2 5 7 (fun K hK=>?_) (fun K hK=>?_)
    ·
     go_simp
     refine (OB.out _).mono ?_
     rintro e V3 ⟨v3,rfl,⟨r,y0,y1,rfl,p0,p1,h0⟩,hv⟩
     have SVy:=hid (And.intro p0 (And.intro p1 h0))
     have Q3:=hid (bstep Q2.out hv)
     have A3:=hid (A2.out.call hv)
     clear hv p0 p1 h0
     refine hK.out _ _ Q3.out (fun _=>?_)
     clear hK K
     refine qTr1 7 (fun K hK=>?_)
     go_simp
     have Q0_:=hid (Q3.out.alloc Q3.out.size (.cells #[.bool false,.int .u64 0,.int .u64 0,.int .u64 0,.int .u64 0,.int .u64 0] 73))
     refine hK.out _ _ Q0_.out (fun _=>?_)
     clear hK K
     obtain ⟨V4,hq,Q4,B4⟩:=TwoA.new Q3.out
     rw [hq]
     have NE:=hid (Nat.ne_of_lt A3.out.2.lt)
     have A4:=hid (A3.out.to hq)
     clear hq Q0_
     obtain ⟨z0,z1,z2,z3,z4,z5⟩:=wix A4.out.2
     obtain ⟨u0,u1,u2,u3,u4,u5⟩:=frozen6 A4.out.2
     refine qTr1 8 (fun K hK=>?_)
     go_simp
     obtain ⟨V5,hq,Q5,A5,B5⟩:=TwoA.set Q4.out A4.out B4.out (NE.out) (.bool s) (.int .u64 x0) (.int .u64 x1) (.int .u64 0) (.int .u64 0) (.int .u64 0)
     unfold set6Z at hq
     rw [hq]
     clear hq z0 z1 z2 z3 z4 z5 u0 u1 u2 u3 u4 u5
     refine hK.out _ _ Q5.out (fun _=>?_)
     clear hK K
     obtain ⟨z0,z1,z2,z3,z4,z5⟩:=wix B5.out.2
     obtain ⟨u0,u1,u2,u3,u4,u5⟩:=frozen6 B5.out.2
     refine qTr1 9 (fun K hK=>?_)
     go_simp
     obtain ⟨V6,hq,Q6,B6,A6⟩:=TwoA.set Q5.out B5.out A5.out (NE.out.symm) (.bool r) (.int .u64 y0) (.int .u64 y1) (.int .u64 0) (.int .u64 0) (.int .u64 0)
     unfold set6Z at hq
     rw [hq]
     clear hq z0 z1 z2 z3 z4 z5 u0 u1 u2 u3 u4 u5
     refine hK.out _ _ Q6.out (fun _=>?_)
     clear hK K
     refine wpAnyH_done (by kernel_rfl) ?_ _
     try simp only  [Act.put,List.setIfInBounds_toArray,List.set_cons_zero,List.set_cons_succ]
     go_wp2_with fail
     go_meet
     case rel=>exact ⟨_,_,rfl,rfl,⟨s,x0,x1,hid A6.out.2,SVx⟩,⟨r,y0,y1,hid B6.out.2,SVy⟩,Q6⟩
    ·
     go_simp
     have Q0_:=hid (Q2.out.alloc Q2.out.size (.cells #[.bool false,.int .u64 0,.int .u64 0,.int .u64 0,.int .u64 0,.int .u64 0] 73))
     refine hK.out _ _ Q0_.out (fun _=>?_)
     clear hK K
     obtain ⟨V3,hq,Q3,B3⟩:=TwoA.new Q2.out
     rw [hq]
     have NE:=hid (Nat.ne_of_lt A2.out.2.lt)
     have A3:=hid (A2.out.to hq)
     clear hq Q0_
     refine qTr1 5 (fun K hK=>?_)
     go_simp
     refine (OB.out _).mono ?_
     rintro e V4 ⟨v4,rfl,⟨r,y0,y1,rfl,p0,p1,h0⟩,hv⟩
     have SVy:=hid (And.intro p0 (And.intro p1 h0))
     have Q4:=hid (bstep Q3.out hv)
     have A4:=hid (A3.out.call hv)
     have B4:=hid (B3.out.call hv)
     clear hv p0 p1 h0
     refine hK.out _ _ Q4.out (fun _=>?_)
     clear hK K
     obtain ⟨z0,z1,z2,z3,z4,z5⟩:=wix A4.out.2
     obtain ⟨u0,u1,u2,u3,u4,u5⟩:=frozen6 A4.out.2
     refine qTr1 8 (fun K hK=>?_)
     go_simp
     obtain ⟨V5,hq,Q5,A5,B5⟩:=TwoA.set Q4.out A4.out B4.out (NE.out) (.bool s) (.int .u64 x0) (.int .u64 x1) (.int .u64 0) (.int .u64 0) (.int .u64 0)
     unfold set6Z at hq
     rw [hq]
     clear hq z0 z1 z2 z3 z4 z5 u0 u1 u2 u3 u4 u5
     refine hK.out _ _ Q5.out (fun _=>?_)
     clear hK K
     obtain ⟨z0,z1,z2,z3,z4,z5⟩:=wix B5.out.2
     obtain ⟨u0,u1,u2,u3,u4,u5⟩:=frozen6 B5.out.2
     refine qTr1 9 (fun K hK=>?_)
     go_simp
     obtain ⟨V6,hq,Q6,B6,A6⟩:=TwoA.set Q5.out B5.out A5.out (NE.out.symm) (.bool r) (.int .u64 y0) (.int .u64 y1) (.int .u64 0) (.int .u64 0) (.int .u64 0)
     unfold set6Z at hq
     rw [hq]
     clear hq z0 z1 z2 z3 z4 z5 u0 u1 u2 u3 u4 u5
     refine hK.out _ _ Q6.out (fun _=>?_)
     clear hK K
     refine wpAnyH_done (by kernel_rfl) ?_ _
     try simp only  [Act.put,List.setIfInBounds_toArray,List.set_cons_zero,List.set_cons_succ]
     go_wp2_with fail
     go_meet
     case rel=>exact ⟨_,_,rfl,rfl,⟨s,x0,x1,hid A6.out.2,SVx⟩,⟨r,y0,y1,hid B6.out.2,SVy⟩,Q6⟩
   ·
    go_simp
    have Q0_:=hid (Q1.out.alloc Q1.out.size (.cells #[.bool false,.int .u64 0,.int .u64 0,.int .u64 0,.int .u64 0,.int .u64 0] 73))
    refine hK.out _ _ Q0_.out (fun _=>?_)
    clear hK K
    obtain ⟨V2,hq,Q2,B2⟩:=TwoA.new Q1.out
    rw [hq]
    clear hq Q0_
    refine qTr2 5 6 (fun K hK=>?_) (fun K hK=>?_)
    ·
     go_simp
     refine (OB.out _).mono ?_
     rintro e V3 ⟨v3,rfl,⟨r,y0,y1,rfl,p0,p1,h0⟩,hv⟩
     have SVy:=hid (And.intro p0 (And.intro p1 h0))
     have Q3:=hid (bstep Q2.out hv)
     have B3:=hid (B2.out.call hv)
     clear hv p0 p1 h0
     refine hK.out _ _ Q3.out (fun _=>?_)
     clear hK K
     refine qTr1 6 (fun K hK=>?_)
     go_simp
     have Q0_:=hid (Q3.out.alloc Q3.out.size (.cells #[.bool false,.int .u64 0,.int .u64 0,.int .u64 0,.int .u64 0,.int .u64 0] 73))
     refine hK.out _ _ Q0_.out (fun _=>?_)
     clear hK K
     obtain ⟨V4,hq,Q4,A4⟩:=TwoA.new Q3.out
     rw [hq]
     have NE:=hid (Nat.ne_of_lt B3.out.2.lt)
     have B4:=hid (B3.out.to hq)
     clear hq Q0_
     obtain ⟨z0,z1,z2,z3,z4,z5⟩:=wix A4.out.2
     obtain ⟨u0,u1,u2,u3,u4,u5⟩:=frozen6 A4.out.2
     refine qTr1 8 (fun K hK=>?_)
     go_simp
     obtain ⟨V5,hq,Q5,A5,B5⟩:=TwoA.set Q4.out A4.out B4.out (NE.out.symm) (.bool s) (.int .u64 x0) (.int .u64 x1) (.int .u64 0) (.int .u64 0) (.int .u64 0)
     unfold set6Z at hq
     rw [hq]
     clear hq z0 z1 z2 z3 z4 z5 u0 u1 u2 u3 u4 u5
     refine hK.out _ _ Q5.out (fun _=>?_)
     clear hK K
     obtain ⟨z0,z1,z2,z3,z4,z5⟩:=wix B5.out.2
     obtain ⟨u0,u1,u2,u3,u4,u5⟩:=frozen6 B5.out.2
     refine qTr1 9 (fun K hK=>?_)
     go_simp
     obtain ⟨V6,hq,Q6,B6,A6⟩:=TwoA.set Q5.out B5.out A5.out (NE.out) (.bool r) (.int .u64 y0) (.int .u64 y1) (.int .u64 0) (.int .u64 0) (.int .u64 0)
     unfold set6Z at hq
     rw [hq]
     clear hq z0 z1 z2 z3 z4 z5 u0 u1 u2 u3 u4 u5
     refine hK.out _ _ Q6.out (fun _=>?_)
     clear hK K
     refine wpAnyH_done (by kernel_rfl) ?_ _
     try simp only  [Act.put,List.setIfInBounds_toArray,List.set_cons_zero,List.set_cons_succ]
     go_wp2_with fail
     go_meet
     case rel=>exact ⟨_,_,rfl,rfl,⟨s,x0,x1,hid A6.out.2,SVx⟩,⟨r,y0,y1,hid B6.out.2,SVy⟩,Q6⟩
    ·
     go_simp
     have Q0_:=hid (Q2.out.alloc Q2.out.size (.cells #[.bool false,.int .u64 0,.int .u64 0,.int .u64 0,.int .u64 0,.int .u64 0] 73))
     refine hK.out _ _ Q0_.out (fun _=>?_)
     clear hK K
     obtain ⟨V3,hq,Q3,A3⟩:=TwoA.new Q2.out
     rw [hq]
     have NE:=hid (Nat.ne_of_lt B2.out.2.lt)
     have B3:=hid (B2.out.to hq)
     clear hq Q0_
     refine qTr1 5 (fun K hK=>?_)
     go_simp
     refine (OB.out _).mono ?_
     rintro e V4 ⟨v4,rfl,⟨r,y0,y1,rfl,p0,p1,h0⟩,hv⟩
     have SVy:=hid (And.intro p0 (And.intro p1 h0))
     have Q4:=hid (bstep Q3.out hv)
     have B4:=hid (B3.out.call hv)
     have A4:=hid (A3.out.call hv)
     clear hv p0 p1 h0
     refine hK.out _ _ Q4.out (fun _=>?_)
     clear hK K
     obtain ⟨z0,z1,z2,z3,z4,z5⟩:=wix A4.out.2
     obtain ⟨u0,u1,u2,u3,u4,u5⟩:=frozen6 A4.out.2
     refine qTr1 8 (fun K hK=>?_)
     go_simp
     obtain ⟨V5,hq,Q5,A5,B5⟩:=TwoA.set Q4.out A4.out B4.out (NE.out.symm) (.bool s) (.int .u64 x0) (.int .u64 x1) (.int .u64 0) (.int .u64 0) (.int .u64 0)
     unfold set6Z at hq
     rw [hq]
     clear hq z0 z1 z2 z3 z4 z5 u0 u1 u2 u3 u4 u5
     refine hK.out _ _ Q5.out (fun _=>?_)
     clear hK K
     obtain ⟨z0,z1,z2,z3,z4,z5⟩:=wix B5.out.2
     obtain ⟨u0,u1,u2,u3,u4,u5⟩:=frozen6 B5.out.2
     refine qTr1 9 (fun K hK=>?_)
     go_simp
     obtain ⟨V6,hq,Q6,B6,A6⟩:=TwoA.set Q5.out B5.out A5.out (NE.out) (.bool r) (.int .u64 y0) (.int .u64 y1) (.int .u64 0) (.int .u64 0) (.int .u64 0)
     unfold set6Z at hq
     rw [hq]
     clear hq z0 z1 z2 z3 z4 z5 u0 u1 u2 u3 u4 u5
     refine hK.out _ _ Q6.out (fun _=>?_)
     clear hK K
     refine wpAnyH_done (by kernel_rfl) ?_ _
     try simp only  [Act.put,List.setIfInBounds_toArray,List.set_cons_zero,List.set_cons_succ]
     go_wp2_with fail
     go_meet
     case rel=>exact ⟨_,_,rfl,rfl,⟨s,x0,x1,hid A6.out.2,SVx⟩,⟨r,y0,y1,hid B6.out.2,SVy⟩,Q6⟩
  ·
   go_simp
   have Q0_:=hid (QD.out.alloc QD.out.size (.cells #[.bool false,.int .u64 0,.int .u64 0,.int .u64 0,.int .u64 0,.int .u64 0] 73))
   refine hK.out _ _ Q0_.out (fun _=>?_)
   clear hK K
   obtain ⟨V1,hq,Q1,A1⟩:=TwoA.new QD.out
   rw [hq]
   clear hq Q0_
   refine qTr2 2 7 (fun K hK=>?_) (fun K hK=>?_)
   ·
    go_simp
    refine (OA.out _).mono ?_
    rintro e V2 ⟨v2,rfl,⟨s,x0,x1,rfl,p0,p1,h0⟩,hv⟩
    have SVx:=hid (And.intro p0 (And.intro p1 h0))
    have Q2:=hid (bstep Q1.out hv)
    have A2:=hid (A1.out.call hv)
    clear hv p0 p1 h0
    refine hK.out _ _ Q2.out (fun _=>?_)
    clear hK K
    refine qTr2 5 7 (fun K hK=>?_) (fun K hK=>?_)
    ·
     go_simp
     refine (OB.out _).mono ?_
     rintro e V3 ⟨v3,rfl,⟨r,y0,y1,rfl,p0,p1,h0⟩,hv⟩
     have SVy:=hid (And.intro p0 (And.intro p1 h0))
     have Q3:=hid (bstep Q2.out hv)
     have A3:=hid (A2.out.call hv)
     clear hv p0 p1 h0
     refine hK.out _ _ Q3.out (fun _=>?_)
     clear hK K
     refine qTr1 7 (fun K hK=>?_)
     go_simp
     have Q0_:=hid (Q3.out.alloc Q3.out.size (.cells #[.bool false,.int .u64 0,.int .u64 0,.int .u64 0,.int .u64 0,.int .u64 0] 73))
     refine hK.out _ _ Q0_.out (fun _=>?_)
     clear hK K
     obtain ⟨V4,hq,Q4,B4⟩:=TwoA.new Q3.out
     rw [hq]
     have NE:=hid (Nat.ne_of_lt A3.out.2.lt)
     have A4:=hid (A3.out.to hq)
     clear hq Q0_
     obtain ⟨z0,z1,z2,z3,z4,z5⟩:=wix A4.out.2
     obtain ⟨u0,u1,u2,u3,u4,u5⟩:=frozen6 A4.out.2
     refine qTr1 8 (fun K hK=>?_)
     go_simp
     obtain ⟨V5,hq,Q5,A5,B5⟩:=TwoA.set Q4.out A4.out B4.out (NE.out) (.bool s) (.int .u64 x0) (.int .u64 x1) (.int .u64 0) (.int .u64 0) (.int .u64 0)
     unfold set6Z at hq
     rw [hq]
     clear hq z0 z1 z2 z3 z4 z5 u0 u1 u2 u3 u4 u5
     refine hK.out _ _ Q5.out (fun _=>?_)
     clear hK K
     obtain ⟨z0,z1,z2,z3,z4,z5⟩:=wix B5.out.2
     obtain ⟨u0,u1,u2,u3,u4,u5⟩:=frozen6 B5.out.2
     refine qTr1 9 (fun K hK=>?_)
     go_simp
     obtain ⟨V6,hq,Q6,B6,A6⟩:=TwoA.set Q5.out B5.out A5.out (NE.out.symm) (.bool r) (.int .u64 y0) (.int .u64 y1) (.int .u64 0) (.int .u64 0) (.int .u64 0)
     unfold set6Z at hq
     rw [hq]
     clear hq z0 z1 z2 z3 z4 z5 u0 u1 u2 u3 u4 u5
     refine hK.out _ _ Q6.out (fun _=>?_)
     clear hK K
     refine wpAnyH_done (by kernel_rfl) ?_ _
     try simp only  [Act.put,List.setIfInBounds_toArray,List.set_cons_zero,List.set_cons_succ]
     go_wp2_with fail
     go_meet
     case rel=>exact ⟨_,_,rfl,rfl,⟨s,x0,x1,hid A6.out.2,SVx⟩,⟨r,y0,y1,hid B6.out.2,SVy⟩,Q6⟩
    ·
     go_simp
     have Q0_:=hid (Q2.out.alloc Q2.out.size (.cells #[.bool false,.int .u64 0,.int .u64 0,.int .u64 0,.int .u64 0,.int .u64 0] 73))
     refine hK.out _ _ Q0_.out (fun _=>?_)
     clear hK K
     obtain ⟨V3,hq,Q3,B3⟩:=TwoA.new Q2.out
     rw [hq]
     have NE:=hid (Nat.ne_of_lt A2.out.2.lt)
     have A3:=hid (A2.out.to hq)
     clear hq Q0_
     refine qTr1 5 (fun K hK=>?_)
     go_simp
     refine (OB.out _).mono ?_
     rintro e V4 ⟨v4,rfl,⟨r,y0,y1,rfl,p0,p1,h0⟩,hv⟩
     have SVy:=hid (And.intro p0 (And.intro p1 h0))
     have Q4:=hid (bstep Q3.out hv)
     have A4:=hid (A3.out.call hv)
     have B4:=hid (B3.out.call hv)
     clear hv p0 p1 h0
     refine hK.out _ _ Q4.out (fun _=>?_)
     clear hK K
     obtain ⟨z0,z1,z2,z3,z4,z5⟩:=wix A4.out.2
     obtain ⟨u0,u1,u2,u3,u4,u5⟩:=frozen6 A4.out.2
     refine qTr1 8 (fun K hK=>?_)
     go_simp
     obtain ⟨V5,hq,Q5,A5,B5⟩:=TwoA.set Q4.out A4.out B4.out (NE.out) (.bool s) (.int .u64 x0) (.int .u64 x1) (.int .u64 0) (.int .u64 0) (.int .u64 0)
     unfold set6Z at hq
     rw [hq]
     clear hq z0 z1 z2 z3 z4 z5 u0 u1 u2 u3 u4 u5
     refine hK.out _ _ Q5.out (fun _=>?_)
     clear hK K
     obtain ⟨z0,z1,z2,z3,z4,z5⟩:=wix B5.out.2
     obtain ⟨u0,u1,u2,u3,u4,u5⟩:=frozen6 B5.out.2
     refine qTr1 9 (fun K hK=>?_)
     go_simp
     obtain ⟨V6,hq,Q6,B6,A6⟩:=TwoA.set Q5.out B5.out A5.out (NE.out.symm) (.bool r) (.int .u64 y0) (.int .u64 y1) (.int .u64 0) (.int .u64 0) (.int .u64 0)
     unfold set6Z at hq
     rw [hq]
     clear hq z0 z1 z2 z3 z4 z5 u0 u1 u2 u3 u4 u5
     refine hK.out _ _ Q6.out (fun _=>?_)
     clear hK K
     refine wpAnyH_done (by kernel_rfl) ?_ _
     try simp only  [Act.put,List.setIfInBounds_toArray,List.set_cons_zero,List.set_cons_succ]
     go_wp2_with fail
     go_meet
     case rel=>exact ⟨_,_,rfl,rfl,⟨s,x0,x1,hid A6.out.2,SVx⟩,⟨r,y0,y1,hid B6.out.2,SVy⟩,Q6⟩
   ·
    go_simp
    have Q0_:=hid (Q1.out.alloc Q1.out.size (.cells #[.bool false,.int .u64 0,.int .u64 0,.int .u64 0,.int .u64 0,.int .u64 0] 73))
    refine hK.out _ _ Q0_.out (fun _=>?_)
    clear hK K
    obtain ⟨V2,hq,Q2,B2⟩:=TwoA.new Q1.out
    rw [hq]
    have NE:=hid (Nat.ne_of_lt A1.out.2.lt)
    have A2:=hid (A1.out.to hq)
    clear hq Q0_
    refine qTr1 2 (fun K hK=>?_)
    go_simp
    refine (OA.out _).mono ?_
    rintro e V3 ⟨v3,rfl,⟨s,x0,x1,rfl,p0,p1,h0⟩,hv⟩
    have SVx:=hid (And.intro p0 (And.intro p1 h0))
    have Q3:=hid (bstep Q2.out hv)
    have A3:=hid (A2.out.call hv)
    have B3:=hid (B2.out.call hv)
    clear hv p0 p1 h0
    refine hK.out _ _ Q3.out (fun _=>?_)
    clear hK K
    refine qTr1 5 (fun K hK=>?_)
    go_simp
    refine (OB.out _).mono ?_
    rintro e V4 ⟨v4,rfl,⟨r,y0,y1,rfl,p0,p1,h0⟩,hv⟩
    have SVy:=hid (And.intro p0 (And.intro p1 h0))
    have Q4:=hid (bstep Q3.out hv)
    have A4:=hid (A3.out.call hv)
    have B4:=hid (B3.out.call hv)
    clear hv p0 p1 h0
    refine hK.out _ _ Q4.out (fun _=>?_)
    clear hK K
    obtain ⟨z0,z1,z2,z3,z4,z5⟩:=wix A4.out.2
    obtain ⟨u0,u1,u2,u3,u4,u5⟩:=frozen6 A4.out.2
    refine qTr1 8 (fun K hK=>?_)
    go_simp
    obtain ⟨V5,hq,Q5,A5,B5⟩:=TwoA.set Q4.out A4.out B4.out (NE.out) (.bool s) (.int .u64 x0) (.int .u64 x1) (.int .u64 0) (.int .u64 0) (.int .u64 0)
    unfold set6Z at hq
    rw [hq]
    clear hq z0 z1 z2 z3 z4 z5 u0 u1 u2 u3 u4 u5
    refine hK.out _ _ Q5.out (fun _=>?_)
    clear hK K
    obtain ⟨z0,z1,z2,z3,z4,z5⟩:=wix B5.out.2
    obtain ⟨u0,u1,u2,u3,u4,u5⟩:=frozen6 B5.out.2
    refine qTr1 9 (fun K hK=>?_)
    go_simp
    obtain ⟨V6,hq,Q6,B6,A6⟩:=TwoA.set Q5.out B5.out A5.out (NE.out.symm) (.bool r) (.int .u64 y0) (.int .u64 y1) (.int .u64 0) (.int .u64 0) (.int .u64 0)
    unfold set6Z at hq
    rw [hq]
    clear hq z0 z1 z2 z3 z4 z5 u0 u1 u2 u3 u4 u5
    refine hK.out _ _ Q6.out (fun _=>?_)
    clear hK K
    refine wpAnyH_done (by kernel_rfl) ?_ _
    try simp only  [Act.put,List.setIfInBounds_toArray,List.set_cons_zero,List.set_cons_succ]
    go_wp2_with fail
    go_meet
    case rel=>exact ⟨_,_,rfl,rfl,⟨s,x0,x1,hid A6.out.2,SVx⟩,⟨r,y0,y1,hid B6.out.2,SVy⟩,Q6⟩
  ·
   go_simp
   have Q0_:=hid (QD.out.alloc QD.out.size (.cells #[.bool false,.int .u64 0,.int .u64 0,.int .u64 0,.int .u64 0,.int .u64 0] 73))
   refine hK.out _ _ Q0_.out (fun _=>?_)
   clear hK K
   obtain ⟨V1,hq,Q1,B1⟩:=TwoA.new QD.out
   rw [hq]
   clear hq Q0_
   refine qTr2 2 6 (fun K hK=>?_) (fun K hK=>?_)
   ·
    go_simp
    refine (OA.out _).mono ?_
    rintro e V2 ⟨v2,rfl,⟨s,x0,x1,rfl,p0,p1,h0⟩,hv⟩
    have SVx:=hid (And.intro p0 (And.intro p1 h0))
    have Q2:=hid (bstep Q1.out hv)
    have B2:=hid (B1.out.call hv)
    clear hv p0 p1 h0
    refine hK.out _ _ Q2.out (fun _=>?_)
    clear hK K
    refine qTr2 5 6 (fun K hK=>?_) (fun K hK=>?_)
    ·
     go_simp
     refine (OB.out _).mono ?_
     rintro e V3 ⟨v3,rfl,⟨r,y0,y1,rfl,p0,p1,h0⟩,hv⟩
     have SVy:=hid (And.intro p0 (And.intro p1 h0))
     have Q3:=hid (bstep Q2.out hv)
     have B3:=hid (B2.out.call hv)
     clear hv p0 p1 h0
     refine hK.out _ _ Q3.out (fun _=>?_)
     clear hK K
     refine qTr1 6 (fun K hK=>?_)
     go_simp
     have Q0_:=hid (Q3.out.alloc Q3.out.size (.cells #[.bool false,.int .u64 0,.int .u64 0,.int .u64 0,.int .u64 0,.int .u64 0] 73))
     refine hK.out _ _ Q0_.out (fun _=>?_)
     clear hK K
     obtain ⟨V4,hq,Q4,A4⟩:=TwoA.new Q3.out
     rw [hq]
     have NE:=hid (Nat.ne_of_lt B3.out.2.lt)
     have B4:=hid (B3.out.to hq)
     clear hq Q0_
     obtain ⟨z0,z1,z2,z3,z4,z5⟩:=wix A4.out.2
     obtain ⟨u0,u1,u2,u3,u4,u5⟩:=frozen6 A4.out.2
     refine qTr1 8 (fun K hK=>?_)
     go_simp
     obtain ⟨V5,hq,Q5,A5,B5⟩:=TwoA.set Q4.out A4.out B4.out (NE.out.symm) (.bool s) (.int .u64 x0) (.int .u64 x1) (.int .u64 0) (.int .u64 0) (.int .u64 0)
     unfold set6Z at hq
     rw [hq]
     clear hq z0 z1 z2 z3 z4 z5 u0 u1 u2 u3 u4 u5
     refine hK.out _ _ Q5.out (fun _=>?_)
     clear hK K
     obtain ⟨z0,z1,z2,z3,z4,z5⟩:=wix B5.out.2
     obtain ⟨u0,u1,u2,u3,u4,u5⟩:=frozen6 B5.out.2
     refine qTr1 9 (fun K hK=>?_)
     go_simp
     obtain ⟨V6,hq,Q6,B6,A6⟩:=TwoA.set Q5.out B5.out A5.out (NE.out) (.bool r) (.int .u64 y0) (.int .u64 y1) (.int .u64 0) (.int .u64 0) (.int .u64 0)
     unfold set6Z at hq
     rw [hq]
     clear hq z0 z1 z2 z3 z4 z5 u0 u1 u2 u3 u4 u5
     refine hK.out _ _ Q6.out (fun _=>?_)
     clear hK K
     refine wpAnyH_done (by kernel_rfl) ?_ _
     try simp only  [Act.put,List.setIfInBounds_toArray,List.set_cons_zero,List.set_cons_succ]
     go_wp2_with fail
     go_meet
     case rel=>exact ⟨_,_,rfl,rfl,⟨s,x0,x1,hid A6.out.2,SVx⟩,⟨r,y0,y1,hid B6.out.2,SVy⟩,Q6⟩
    ·
     go_simp
     have Q0_:=hid (Q2.out.alloc Q2.out.size (.cells #[.bool false,.int .u64 0,.int .u64 0,.int .u64 0,.int .u64 0,.int .u64 0] 73))
     refine hK.out _ _ Q0_.out (fun _=>?_)
     clear hK K
     obtain ⟨V3,hq,Q3,A3⟩:=TwoA.new Q2.out
     rw [hq]
     have NE:=hid (Nat.ne_of_lt B2.out.2.lt)
     have B3:=hid (B2.out.to hq)
     clear hq Q0_
     refine qTr1 5 (fun K hK=>?_)
     go_simp
     refine (OB.out _).mono ?_
     rintro e V4 ⟨v4,rfl,⟨r,y0,y1,rfl,p0,p1,h0⟩,hv⟩
     have SVy:=hid (And.intro p0 (And.intro p1 h0))
     have Q4:=hid (bstep Q3.out hv)
     have B4:=hid (B3.out.call hv)
     have A4:=hid (A3.out.call hv)
     clear hv p0 p1 h0
     refine hK.out _ _ Q4.out (fun _=>?_)
     clear hK K
     obtain ⟨z0,z1,z2,z3,z4,z5⟩:=wix A4.out.2
     obtain ⟨u0,u1,u2,u3,u4,u5⟩:=frozen6 A4.out.2
     refine qTr1 8 (fun K hK=>?_)
     go_simp
     obtain ⟨V5,hq,Q5,A5,B5⟩:=TwoA.set Q4.out A4.out B4.out (NE.out.symm) (.bool s) (.int .u64 x0) (.int .u64 x1) (.int .u64 0) (.int .u64 0) (.int .u64 0)
     unfold set6Z at hq
     rw [hq]
     clear hq z0 z1 z2 z3 z4 z5 u0 u1 u2 u3 u4 u5
     refine hK.out _ _ Q5.out (fun _=>?_)
     clear hK K
     obtain ⟨z0,z1,z2,z3,z4,z5⟩:=wix B5.out.2
     obtain ⟨u0,u1,u2,u3,u4,u5⟩:=frozen6 B5.out.2
     refine qTr1 9 (fun K hK=>?_)
     go_simp
     obtain ⟨V6,hq,Q6,B6,A6⟩:=TwoA.set Q5.out B5.out A5.out (NE.out) (.bool r) (.int .u64 y0) (.int .u64 y1) (.int .u64 0) (.int .u64 0) (.int .u64 0)
     unfold set6Z at hq
     rw [hq]
     clear hq z0 z1 z2 z3 z4 z5 u0 u1 u2 u3 u4 u5
     refine hK.out _ _ Q6.out (fun _=>?_)
     clear hK K
     refine wpAnyH_done (by kernel_rfl) ?_ _
     try simp only  [Act.put,List.setIfInBounds_toArray,List.set_cons_zero,List.set_cons_succ]
     go_wp2_with fail
     go_meet
     case rel=>exact ⟨_,_,rfl,rfl,⟨s,x0,x1,hid A6.out.2,SVx⟩,⟨r,y0,y1,hid B6.out.2,SVy⟩,Q6⟩
   ·
    go_simp
    have Q0_:=hid (Q1.out.alloc Q1.out.size (.cells #[.bool false,.int .u64 0,.int .u64 0,.int .u64 0,.int .u64 0,.int .u64 0] 73))
    refine hK.out _ _ Q0_.out (fun _=>?_)
    clear hK K
    obtain ⟨V2,hq,Q2,A2⟩:=TwoA.new Q1.out
    rw [hq]
    have NE:=hid (Nat.ne_of_lt B1.out.2.lt)
    have B2:=hid (B1.out.to hq)
    clear hq Q0_
    refine qTr1 2 (fun K hK=>?_)
    go_simp
    refine (OA.out _).mono ?_
    rintro e V3 ⟨v3,rfl,⟨s,x0,x1,rfl,p0,p1,h0⟩,hv⟩
    have SVx:=hid (And.intro p0 (And.intro p1 h0))
    have Q3:=hid (bstep Q2.out hv)
    have B3:=hid (B2.out.call hv)
    have A3:=hid (A2.out.call hv)
    clear hv p0 p1 h0
    refine hK.out _ _ Q3.out (fun _=>?_)
    clear hK K
    refine qTr1 5 (fun K hK=>?_)
    go_simp
    refine (OB.out _).mono ?_
    rintro e V4 ⟨v4,rfl,⟨r,y0,y1,rfl,p0,p1,h0⟩,hv⟩
    have SVy:=hid (And.intro p0 (And.intro p1 h0))
    have Q4:=hid (bstep Q3.out hv)
    have B4:=hid (B3.out.call hv)
    have A4:=hid (A3.out.call hv)
    clear hv p0 p1 h0
    refine hK.out _ _ Q4.out (fun _=>?_)
    clear hK K
    obtain ⟨z0,z1,z2,z3,z4,z5⟩:=wix A4.out.2
    obtain ⟨u0,u1,u2,u3,u4,u5⟩:=frozen6 A4.out.2
    refine qTr1 8 (fun K hK=>?_)
    go_simp
    obtain ⟨V5,hq,Q5,A5,B5⟩:=TwoA.set Q4.out A4.out B4.out (NE.out.symm) (.bool s) (.int .u64 x0) (.int .u64 x1) (.int .u64 0) (.int .u64 0) (.int .u64 0)
    unfold set6Z at hq
    rw [hq]
    clear hq z0 z1 z2 z3 z4 z5 u0 u1 u2 u3 u4 u5
    refine hK.out _ _ Q5.out (fun _=>?_)
    clear hK K
    obtain ⟨z0,z1,z2,z3,z4,z5⟩:=wix B5.out.2
    obtain ⟨u0,u1,u2,u3,u4,u5⟩:=frozen6 B5.out.2
    refine qTr1 9 (fun K hK=>?_)
    go_simp
    obtain ⟨V6,hq,Q6,B6,A6⟩:=TwoA.set Q5.out B5.out A5.out (NE.out) (.bool r) (.int .u64 y0) (.int .u64 y1) (.int .u64 0) (.int .u64 0) (.int .u64 0)
    unfold set6Z at hq
    rw [hq]
    clear hq z0 z1 z2 z3 z4 z5 u0 u1 u2 u3 u4 u5
    refine hK.out _ _ Q6.out (fun _=>?_)
    clear hK K
    refine wpAnyH_done (by kernel_rfl) ?_ _
    try simp only  [Act.put,List.setIfInBounds_toArray,List.set_cons_zero,List.set_cons_succ]
    go_wp2_with fail
    go_meet
    case rel=>exact ⟨_,_,rfl,rfl,⟨s,x0,x1,hid A6.out.2,SVx⟩,⟨r,y0,y1,hid B6.out.2,SVy⟩,Q6⟩
 case rest=>
  obtain ⟨g10,g11,rfl,rfl,⟨s,x0,x1,WX,SVX⟩,⟨r,y0,y1,WY,SVY⟩,HB⟩:=hcut
  obtain ⟨W4,rfl⟩:∃ W4,W4=wc:=⟨wc,rfl⟩
  have S4:=hid (S2.out.call HB.out)
  clear S2 HB OA OB
  obtain ⟨⟨c0,c1,c2⟩,⟨e0,e1,e2⟩,⟨d0,d1,d2⟩⟩:=S4.out.cells
  obtain ⟨f0,f1,f2⟩:=S4.out.frozen
  obtain ⟨z0,z1,z2,z3,z4,z5⟩:=wix WX.out
  obtain ⟨u0,u1,u2,u3,u4,u5⟩:=wix WY.out
  have SX:Hid (Says2 (wide s x0 x1 0 0 0) na):=hid ⟨s,x0,x1,rfl,SVX.out.1,SVX.out.2.1,SVX.out.2.2⟩
  have SY:Hid (Says2 (wide r y0 y1 0 0 0) nb):=hid ⟨r,y0,y1,rfl,SVY.out.1,SVY.out.2.1,SVY.out.2.2⟩
  clear WY SVX SVY
  by_cases tadd:t=[43]
  case pos=>
   have HR:Hid (Ev.bin t ⟨ka,na,sa⟩ ⟨kb,nb,sb⟩=Ev.num (na + nb)):=hid (by rw [HR2.out,if_pos tadd])
   clear HR2
   subst tadd
   have NU:=hid (fun u U (h:Says u (na + nb))=>rnum_any u (na + nb) U h)
   obtain ⟨⟨⟨rk,rn,rs⟩,re_⟩,hr⟩:∃ r,Ev.num (na + nb)=r:=⟨_,rfl⟩
   rw [hr] at NU HR
   unfold outR vv vcells at NU
   dsimp only at NU
   clear hr
   go_wp2_with fail
   refine (wadd_says _ _ _ _ _ SX.out SY.out).mono ?_
   rintro e W5 ⟨v5,rfl,hs5,hv5⟩
   have S5:=hid (S4.out.call hv5)
   clear hv5 z0 z1 z2 z3 z4 z5 u0 u1 u2 u3 u4 u5 c0 c1 c2 e0 e1 e2 d0 d1 d2 f0 f1 f2 SX SY
   go_wp2_with fail
   refine (NU.out _ _ hs5).mono ?_
   rintro e W6 ⟨rfl,hv6⟩
   have S6:=hid (S5.out.call hv6)
   clear hv6 hs5
   obtain ⟨-,-,⟨d0,d1,d2⟩⟩:=S6.out.cells
   obtain ⟨f0,f1,f2⟩:=S6.out.frozen
   go_wp2_with fail
   exact fin_R Tryz.results39 rfl rfl rfl (by exact S6.out.2.2.2) (by first | exact below_drewN S6.out.1 _ | exact S6.out.1.drew | exact S6.out.1) (by omega) (by rw [HR.out])
  by_cases tsub:t=[45]
  case pos=>
   have HR:Hid (Ev.bin t ⟨ka,na,sa⟩ ⟨kb,nb,sb⟩=Ev.num (na + -nb)):=hid (by rw [HR2.out,if_neg tadd,if_pos tsub])
   clear HR2 tadd
   subst tsub
   have NU:=hid (fun u U (h:Says u (na + -nb))=>rnum_any u (na + -nb) U h)
   obtain ⟨⟨⟨rk,rn,rs⟩,re_⟩,hr⟩:∃ r,Ev.num (na + -nb)=r:=⟨_,rfl⟩
   rw [hr] at NU HR
   unfold outR vv vcells at NU
   dsimp only at NU
   clear hr
   clear c0 c1 c2 e0 e1 e2 d0 d1 d2 f0 f1 f2
   go_upto_region 30 with fail
   go_region_with (first | (go_at_call 41; refine (wneg_says _ _ _ SY.out).mono ?_; rintro e U1 ⟨v1,rfl,hs1,hv1⟩; obtain ⟨s1,q10,q11,rfl,k10,k11,hq1⟩:=hs1; have HS1:Hid (Says2 (wide s1 q10 q11 0 0 0) (-nb)):=hid ⟨s1,q10,q11,rfl,k10,k11,hq1⟩; have QU1:=hid (S4.out.call (by first | exact hv1 | exact bstep (Below.refl _ _).drew hv1 | exact bstep (below_drewN (Below.refl _ _) _) hv1)); have WX1:=hid (Whole.below (g:=g10) (t:=73) (cs:=#[.bool s,.int .u64 x0,.int .u64 x1,.int .u64 0,.int .u64 0,.int .u64 0]) (by exact WX.out) hv1 (by exact WX.out.lt)); obtain ⟨z0,z1,z2,z3,z4,z5⟩:=wix WX1.out; clear k10 k11 hq1 hv1) | (go_at_call 70; refine (wadd_says _ _ _ _ _ SX.out HS1.out).mono ?_; rintro e U2 ⟨v2,rfl,hs2,hv2⟩; have HS3:=hid hs2; obtain ⟨s2,q20,q21,q22,q23,rfl,-⟩:=hs2; have QU2:=hid (QU1.out.call (by first | exact hv2 | exact bstep (Below.refl _ _).drew hv2 | exact bstep (below_drewN (Below.refl _ _) _) hv2)); clear hv2) | (go_at_call 40; refine (NU.out _ _ HS3.out).mono ?_; rintro e U3 ⟨rfl,hv3⟩; have S6:=hid (QU2.out.call (by first | exact hv3 | exact bstep (Below.refl _ _).drew hv3 | exact bstep (below_drewN (Below.refl _ _) _) hv3)); obtain ⟨-,-,⟨d0,d1,d2⟩⟩:=S6.out.cells; obtain ⟨f0,f1,f2⟩:=S6.out.frozen))
   all_goals
    go_wp2_with fail
    exact fin_R Tryz.results39 rfl rfl rfl (by exact S6.out.2.2.2) (by first | exact below_drewN S6.out.1 _ | exact S6.out.1.drew | exact S6.out.1) (by omega) (by rw [HR.out])
  by_cases tmul:t=[42]
  case pos=>
   have HR:Hid (Ev.bin t ⟨ka,na,sa⟩ ⟨kb,nb,sb⟩=Ev.num (na * nb)):=hid (by rw [HR2.out,if_neg tadd,if_neg tsub,if_pos tmul])
   clear HR2 tadd tsub
   subst tmul
   have NU:=hid (fun u U (h:Says u (na * nb))=>rnum_any u (na * nb) U h)
   obtain ⟨⟨⟨rk,rn,rs⟩,re_⟩,hr⟩:∃ r,Ev.num (na * nb)=r:=⟨_,rfl⟩
   rw [hr] at NU HR
   unfold outR vv vcells at NU
   dsimp only at NU
   clear hr
   go_wp2_with fail
   refine (wmul_says _ _ _ _ _ SX.out SY.out).mono ?_
   rintro e W5 ⟨v5,rfl,hs5,hv5⟩
   have S5:=hid (S4.out.call hv5)
   clear hv5 z0 z1 z2 z3 z4 z5 u0 u1 u2 u3 u4 u5 c0 c1 c2 e0 e1 e2 d0 d1 d2 f0 f1 f2 SX SY
   go_wp2_with fail
   refine (NU.out _ _ hs5).mono ?_
   rintro e W6 ⟨rfl,hv6⟩
   have S6:=hid (S5.out.call hv6)
   clear hv6 hs5
   obtain ⟨-,-,⟨d0,d1,d2⟩⟩:=S6.out.cells
   obtain ⟨f0,f1,f2⟩:=S6.out.frozen
   go_wp2_with fail
   exact fin_R Tryz.results39 rfl rfl rfl (by exact S6.out.2.2.2) (by first | exact below_drewN S6.out.1 _ | exact S6.out.1.drew | exact S6.out.1) (by omega) (by rw [HR.out])
  have q43:(t == [43])=false:=by simpa using tadd
  have q45:(t == [45])=false:=by simpa using tsub
  have q42:(t == [42])=false:=by simpa using tmul
  have HR3:=HR2.out
  rw [if_neg tadd,if_neg tsub,if_neg tmul] at HR3
  clear HR2 tadd tsub tmul z0 z1 z2 z3 z4 z5 u0 u1 u2 u3 u4 u5 SX SY
  by_cases h0:nb=0
  case pos=>
   have h0':(nb == 0)=true:=by simpa using h0
   have HR:Hid (Ev.bin t ⟨ka,na,sa⟩ ⟨kb,nb,sb⟩=⟨⟨0,0,[]⟩,5⟩):=hid (by rw [HR3,if_pos h0])
   clear h0 HR3
   go_wp2_with fail
   exact fin_R Tryz.results39 rfl rfl rfl (by exact S4.out.2.2.2) (by first | exact below_drewN S4.out.1 _ | exact S4.out.1.drew | exact S4.out.1) (by omega) (by first | (rw [HR.out]; done) | (rw [HR.out]; rfl))
  have h0':(nb == 0)=false:=by simpa using h0
  rw [if_neg h0] at HR3
  have DV:=hid (fun U=>divide_walk na nb U HFA.out HFB.out h0)
  clear h0
  by_cases tdiv:t=[47]
  case pos=>
   have HR:Hid (Ev.bin t ⟨ka,na,sa⟩ ⟨kb,nb,sb⟩=Ev.num (na.tdiv nb)):=hid (by rw [HR3,if_pos tdiv])
   clear HR3
   have q47:(t == [47])=true:=by simpa using tdiv
   clear tdiv
   have NU:=hid (fun u U (h:Says u (na.tdiv nb))=>rnum_any u (na.tdiv nb) U h)
   obtain ⟨⟨⟨rk,rn,rs⟩,re_⟩,hr⟩:∃ r,Ev.num (na.tdiv nb)=r:=⟨_,rfl⟩
   rw [hr] at NU HR
   unfold outR vv vcells at NU
   dsimp only at NU
   clear hr
   go_wp2_with fail
   refine (DV.out _).mono ?_
   rintro e W5 ⟨v5,v6,rfl,⟨hs5,hs6⟩,hv5⟩
   have S5:=hid (S4.out.call hv5)
   have HSN:=hid hs5.wide
   obtain ⟨s5,q50,q51,rfl,-⟩:=hs5
   obtain ⟨s6,q60,q61,rfl,-⟩:=hs6
   clear hv5 c0 c1 c2 e0 e1 e2 d0 d1 d2 f0 f1 f2 DV
   go_wp2_with fail
   refine (NU.out _ _ HSN.out).mono ?_
   rintro e W6 ⟨rfl,hv6⟩
   have S6:=hid (S5.out.call (bstep (by first | exact ((Below.refl _ _).alloc (Nat.le_refl _) _).alloc (by simp) _ | exact below_drewN (((Below.refl _ _).alloc (Nat.le_refl _) _).alloc (by simp) _) _) hv6))
   clear hv6
   obtain ⟨-,-,⟨d0,d1,d2⟩⟩:=S6.out.cells
   obtain ⟨f0,f1,f2⟩:=S6.out.frozen
   go_wp2_with fail
   exact fin_R Tryz.results39 rfl rfl rfl (by exact S6.out.2.2.2) (by first | exact below_drewN S6.out.1 _ | exact S6.out.1.drew | exact S6.out.1) (by omega) (by rw [HR.out])
  case neg=>
   have HR:Hid (Ev.bin t ⟨ka,na,sa⟩ ⟨kb,nb,sb⟩=Ev.num (na.tmod nb)):=hid (by rw [HR3,if_neg tdiv])
   clear HR3
   have q47:(t == [47])=false:=by simpa using tdiv
   clear tdiv
   have NU:=hid (fun u U (h:Says u (na.tmod nb))=>rnum_any u (na.tmod nb) U h)
   obtain ⟨⟨⟨rk,rn,rs⟩,re_⟩,hr⟩:∃ r,Ev.num (na.tmod nb)=r:=⟨_,rfl⟩
   rw [hr] at NU HR
   unfold outR vv vcells at NU
   dsimp only at NU
   clear hr
   go_wp2_with fail
   refine (DV.out _).mono ?_
   rintro e W5 ⟨v5,v6,rfl,⟨hs5,hs6⟩,hv5⟩
   have S5:=hid (S4.out.call hv5)
   have HSN:=hid hs6.wide
   obtain ⟨s5,q50,q51,rfl,-⟩:=hs5
   obtain ⟨s6,q60,q61,rfl,-⟩:=hs6
   clear hv5 c0 c1 c2 e0 e1 e2 d0 d1 d2 f0 f1 f2 DV
   go_wp2_with fail
   refine (NU.out _ _ HSN.out).mono ?_
   rintro e W6 ⟨rfl,hv6⟩
   have S6:=hid (S5.out.call (bstep (by first | exact ((Below.refl _ _).alloc (Nat.le_refl _) _).alloc (by simp) _ | exact below_drewN (((Below.refl _ _).alloc (Nat.le_refl _) _).alloc (by simp) _) _) hv6))
   clear hv6
   obtain ⟨-,-,⟨d0,d1,d2⟩⟩:=S6.out.cells
   obtain ⟨f0,f1,f2⟩:=S6.out.frozen
   go_wp2_with fail
   exact fin_R Tryz.results39 rfl rfl rfl (by exact S6.out.2.2.2) (by first | exact below_drewN S6.out.1 _ | exact S6.out.1.drew | exact S6.out.1) (by omega) (by rw [HR.out])
end Go.Proofs.YteghhmomhlnccaaGreatDoor
