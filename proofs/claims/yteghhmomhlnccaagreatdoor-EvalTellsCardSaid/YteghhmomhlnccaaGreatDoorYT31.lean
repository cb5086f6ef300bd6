import Derived.Test.YteghhmomhlnccaaGreatDoorYT1
import Derived.Test.YteghhmomhlnccaaGreatDoorYT30
set_option linter.unusedVariables false
set_option linter.unusedSimpArgs false
set_option maxRecDepth 100000
set_option maxHeartbeats 100000000
open Go.RowKit Go.Lib
namespace Go.Proofs.YteghhmomhlnccaaGreatDoor
attribute [local go_sem ↓] eqVal neqVal
open Ex (Tree)
open Ev (V R Pl)
def BinS (w W:World) (a b:V):Prop:=Below w.heap.size w W∧Row3 W w.heap.size a.k a.n (tx a.s)∧Row3 W (w.heap.size + 1) b.k b.n (tx b.s)∧Row3 W (w.heap.size + 2) 0 0 ⟨#[]⟩
theorem BinS.call {w W W':World} {a b:V} (h:BinS w W a b) (hb:Below W.heap.size W W'):BinS w W' a b:=⟨bstep h.1 hb,h.2.1.below hb h.2.1.lt,h.2.2.1.below hb h.2.2.1.lt,h.2.2.2.below hb h.2.2.2.lt⟩
theorem BinS.cells {w W:World} {a b:V} (h:BinS w W a b):Holds3 W w.heap.size a.k a.n (tx a.s)∧Holds3 W (w.heap.size + 1) b.k b.n (tx b.s)∧Holds3 W (w.heap.size + 2) 0 0 ⟨#[]⟩:=⟨h.2.1.holds,h.2.2.1.holds,h.2.2.2.holds⟩
theorem BinS.frozen {w W:World} {a b:V} (h:BinS w W a b):W.frozen? ⟨w.heap.size + 2,0,none⟩=false∧W.frozen? ⟨w.heap.size + 2,1,none⟩=false∧W.frozen? ⟨w.heap.size + 2,2,none⟩=false:=⟨h.2.2.2.frozen 0,h.2.2.2.frozen 1,h.2.2.2.frozen 2⟩
theorem befB_less (a b:V):befB a.k a.n (tx a.s) b.k b.n (tx b.s)=Ev.less a b:=by
 unfold befB Ev.less
 rw [ByteArray.toList_eq,ByteArray.toList_eq]
theorem rbin_cmp (t:List UInt8) (a b:V) (w:World) (ha:Pl a) (hb:Pl b) (hl:Ex.lev t=3):Calls Tryz.prog 39 #[.string (tx t),vv a,vv b] w fun e w'=>e=.returned (outR (Ev.bin t a b))∧Below w.heap.size w w':=by
 have b0:=(Below.refl w.heap.size w).alloc (Nat.le_refl _) (.cells (vcells a) 23)
 have b1:=b0.alloc (by simp) (.cells (vcells b) 23)
 have b2:=b1.alloc (by simp; omega) (.cells #[.int .i64 0,.int .i64 0,.string ⟨#[]⟩] 23)
 have ra:=((Row3.new w a.k a.n (tx a.s)).alloc (.cells (vcells b) 23)).alloc (.cells #[.int .i64 0,.int .i64 0,.string ⟨#[]⟩] 23)
 have rb:=(Row3.new (w.alloc (.cells (vcells a) 23)) b.k b.n (tx b.s)).alloc (.cells #[.int .i64 0,.int .i64 0,.string ⟨#[]⟩] 23)
 have r0:=Row3.new ((w.alloc (.cells (vcells a) 23)).alloc (.cells (vcells b) 23)) 0 0 ⟨#[]⟩
 simp only [World.size_alloc] at rb r0
 obtain ⟨W1,hW1⟩:∃ W1,((w.alloc (.cells (vcells a) 23)).alloc (.cells (vcells b) 23)).alloc (.cells #[.int .i64 0,.int .i64 0,.string ⟨#[]⟩] 23)=W1:=⟨_,rfl⟩
 rw [hW1] at b2 ra rb r0
 have B1:Hid (BinS w W1 a b):=hid ⟨b2,ra,rb,r0⟩
 have HL:=hid hl
 have BF:=hid (fun U=>before_any a.k a.n (tx a.s) b.k b.n (tx b.s) U (Nat.le_trans (pl_size ha).1 (by omega)) (Nat.le_trans (pl_size hb).1 (by omega)))
 have BG:=hid (fun U=>before_any b.k b.n (tx b.s) a.k a.n (tx a.s) U (Nat.le_trans (pl_size hb).1 (by omega)) (Nat.le_trans (pl_size ha).1 (by omega)))
 rw [befB_less] at BF BG
 obtain ⟨l,hll⟩:∃ l,Ev.less a b=l:=⟨_,rfl⟩
 obtain ⟨m,hmm⟩:∃ m,Ev.less b a=m:=⟨_,rfl⟩
 have HR1:Hid (a.k=b.k→Ev.bin t a b=Ev.ok (Ev.tru (Ev.cmpB t a b))):=hid (fun h=>by rw [Ev.bin,if_pos hl,if_pos h])
 have HR2:Hid (¬ a.k=b.k→Ev.bin t a b=⟨⟨0,0,[]⟩,10⟩):=hid (fun h=>by rw [Ev.bin,if_pos hl,if_neg h]; rfl)
 rw [hll] at BF
 rw [hmm] at BG
 have HLL:=hid hll
 have HMM:=hid hmm
 obtain ⟨ka,na,sa⟩:=a
 obtain ⟨kb,nb,sb⟩:=b
 have LV:=hid (fun U=>refLevel_any (tx t) U)
 rw [show Ex.refLev (tx t).data.toList=3 from by show Ex.refLev t=3; rw [Ex.refLev,hl]; rfl] at LV
 unfold vv vcells at *
 dsimp only at *
 clear b0 b1 b2 ra rb r0 ha hb hl hll hmm
 go_enter Tryz.func39,Tryz.ntmps39
 go_wp2_with fail
 refine (LV.out _).mono ?_
 rintro e W2 ⟨rfl,hb2⟩
 have S2:=hid (B1.out.call hb2)
 clear hb2 B1 LV
 obtain ⟨⟨x0,x1,x2⟩,⟨y0,y1,y2⟩,⟨d0,d1,d2⟩⟩:=S2.out.cells
 obtain ⟨f0,f1,f2⟩:=S2.out.frozen
 by_cases hk:ka=kb
 case neg=>
  have hk':(ka != kb)=true:=by simpa using hk
  have HR:=hid (HR2.out hk)
  clear hk HR1 HR2 BF BG
  go_wp2_with fail
  exact fin_R Tryz.results39 rfl rfl rfl (by exact S2.out.2.2.2) (by first | exact below_drewN S2.out.1 _ | exact S2.out.1.drew | exact S2.out.1) (by omega) (by first | (rw [HR.out]; done) | (rw [HR.out]; rfl))
 case pos=>
  have hk':(ka != kb)=false:=by simpa using hk
  have HR:=hid (HR1.out hk)
  clear HR1 HR2
  go_upto_region 4 with fail
  clear hk hk' x0 x1 x2 y0 y1 y2 d0 d1 d2 f0 f1 f2
  go_cut [8,9] from 23 to 29 (fun s8 s9 wc=>s8=.bool l∧s9=.bool m∧Hid (Below W2.heap.size W2 wc))
  case first=>
   have QD:Hid (Below W2.heap.size W2 W2.drew):=hid (Below.refl _ _).drew
   have KK:Hid (∀ U,Below W2.heap.size W2 U→Holds3 U w.heap.size ka na (tx sa)∧Holds3 U (w.heap.size + 1) kb nb (tx sb)∧Holds3 U (w.heap.size + 2) 0 0 ⟨#[]⟩):=hid (fun U hU=>(S2.out.call hU).cells)
   refine wp_region_held_drew (S:=fun U=>Below W2.heap.size W2 U) (by kernel_rfl) QD.out (fun _=>?_)
   refine qTk 0 (v:=?_) QD.out ?_ ?_
   rotate_left
   ·(intro W hw; obtain ⟨⟨x0,x1,x2⟩,⟨y0,y1,y2⟩,-⟩:=KK.out W hw; go_simp; try with_reducible rfl)
   refine qTk 1 (v:=?_) QD.out ?_ ?_
   rotate_left
   ·(intro W hw; obtain ⟨⟨x0,x1,x2⟩,⟨y0,y1,y2⟩,-⟩:=KK.out W hw; go_simp; try with_reducible rfl)
   refine qTk 3 (v:=?_) QD.out ?_ ?_
   rotate_left
   ·(intro W hw; obtain ⟨⟨x0,x1,x2⟩,⟨y0,y1,y2⟩,-⟩:=KK.out W hw; go_simp; try with_reducible rfl)
   refine qTk 4 (v:=?_) QD.out ?_ ?_
   rotate_left
   ·(intro W hw; obtain ⟨⟨x0,x1,x2⟩,⟨y0,y1,y2⟩,-⟩:=KK.out W hw; go_simp; try with_reducible rfl)
   refine qTr1 2 (fun K hK=>?_)
   go_simp
   refine (BF.out _).mono ?_
   rintro e V1 ⟨rfl,hv1⟩
   have QV1:=hid (bstep QD.out hv1)
   refine hK.out _ _ QV1.out (fun _=>?_)
   clear hK K
   refine qTr1 5 (fun K hK=>?_)
   go_simp
   refine (BG.out _).mono ?_
   rintro e V2 ⟨rfl,hv2⟩
   have QV2:=hid (bstep QV1.out hv2)
   refine hK.out _ _ QV2.out (fun _=>?_)
   clear hK K
   refine qTk 6 (v:=?_) QV2.out ?_ ?_
   rotate_left
   ·(intro W hw; go_simp; try with_reducible rfl)
   refine qTk 7 (v:=?_) QV2.out ?_ ?_
   rotate_left
   ·(intro W hw; go_simp; try with_reducible rfl)
   refine wpAnyH_done (by kernel_rfl) ?_ _
   try simp only  [Act.put,List.setIfInBounds_toArray,List.set_cons_zero,List.set_cons_succ]
   go_wp2_with fail
   go_meet
   case rel=>exact ⟨rfl,rfl,QV2⟩
  case rest=>
   obtain ⟨rfl,rfl,HB⟩:=hcut
   have S3:=hid (S2.out.call HB.out)
   clear S2 HB
   have RT:=hid rtruth_any
   rcases Ev.lev3.1 HL.out with rfl | rfl | rfl | rfl | rfl | rfl
   all_goals
    cases l <;> cases m
   all_goals
    go_wp2_with fail
    refine (RT.out _ _).mono ?_
    rintro e W4 ⟨rfl,hb4⟩
    have S4:=hid (S3.out.call hb4)
    clear hb4
    obtain ⟨-,-,⟨d0,d1,d2⟩⟩:=S4.out.cells
    obtain ⟨f0,f1,f2⟩:=S4.out.frozen
    go_wp2_with fail
    exact fin_R Tryz.results39 rfl rfl rfl (by exact S4.out.2.2.2) (by first | exact below_drewN S4.out.1 _ | exact S4.out.1.drew | exact S4.out.1) (by omega) (by rw [HR.out]; unfold Ev.cmpB; rw [HLL.out,HMM.out]; rfl)
theorem rbin_and (a b:V) (w:World) (ha:Pl a) (hb:Pl b):Calls Tryz.prog 39 #[.string (tx [38]),vv a,vv b] w fun e w'=>e=.returned (outR (Ev.bin [38] a b))∧Below w.heap.size w w':=by
 have b0:=(Below.refl w.heap.size w).alloc (Nat.le_refl _) (.cells (vcells a) 23)
 have b1:=b0.alloc (by simp) (.cells (vcells b) 23)
 have b2:=b1.alloc (by simp; omega) (.cells #[.int .i64 0,.int .i64 0,.string ⟨#[]⟩] 23)
 have ra:=((Row3.new w a.k a.n (tx a.s)).alloc (.cells (vcells b) 23)).alloc (.cells #[.int .i64 0,.int .i64 0,.string ⟨#[]⟩] 23)
 have rb:=(Row3.new (w.alloc (.cells (vcells a) 23)) b.k b.n (tx b.s)).alloc (.cells #[.int .i64 0,.int .i64 0,.string ⟨#[]⟩] 23)
 have r0:=Row3.new ((w.alloc (.cells (vcells a) 23)).alloc (.cells (vcells b) 23)) 0 0 ⟨#[]⟩
 simp only [World.size_alloc] at rb r0
 obtain ⟨W1,hW1⟩:∃ W1,((w.alloc (.cells (vcells a) 23)).alloc (.cells (vcells b) 23)).alloc (.cells #[.int .i64 0,.int .i64 0,.string ⟨#[]⟩] 23)=W1:=⟨_,rfl⟩
 rw [hW1] at b2 ra rb r0
 have B1:Hid (BinS w W1 a b):=hid ⟨b2,ra,rb,r0⟩
 have HL:Hid (¬ Ex.lev [38]=3):=hid (by decide)
 have HR1:Hid (¬ a.k=2∨¬ b.k=2→Ev.bin [38] a b=⟨⟨0,0,[]⟩,10⟩):=hid (fun h=>by rw [Ev.bin,if_neg HL.out,if_pos rfl,if_neg (by omega)]; rfl)
 have HR2:Hid (a.k=2→b.k=2→¬ a.s.length + b.s.length≤200→Ev.bin [38] a b=⟨⟨0,0,[]⟩,3⟩):=hid (fun h1 h2 h=>by rw [Ev.bin,if_neg HL.out,if_pos rfl,if_pos ⟨h1,h2⟩,if_neg h]; rfl)
 have HR3:Hid (a.k=2→b.k=2→a.s.length + b.s.length≤200→Ev.bin [38] a b=⟨⟨2,0,a.s ++ b.s⟩,0⟩):=hid (fun h1 h2 h=>by rw [Ev.bin,if_neg HL.out,if_pos rfl,if_pos ⟨h1,h2⟩,if_pos h]; rfl)
 have HSA:Hid ((tx a.s).size=a.s.length∧a.s.length≤200):=hid ⟨by simp [ByteArray.size,tx],(pl_size ha).2⟩
 have HSB:Hid ((tx b.s).size=b.s.length∧b.s.length≤200):=hid ⟨by simp [ByteArray.size,tx],(pl_size hb).2⟩
 have HTX:Hid (tx a.s ++ tx b.s=tx (a.s ++ b.s)):=hid (tx_add2 _ _)
 obtain ⟨ka,na,sa⟩:=a
 obtain ⟨kb,nb,sb⟩:=b
 have LV:=hid (fun U=>refLevel_any (tx [38]) U)
 rw [show Ex.refLev (tx [38]).data.toList=4 from by rfl] at LV
 unfold vv vcells at *
 dsimp only at *
 clear b0 b1 b2 ra rb r0 ha hb
 go_enter Tryz.func39,Tryz.ntmps39
 go_wp2_with fail
 refine (LV.out _).mono ?_
 rintro e W2 ⟨rfl,hb2⟩
 have S2:=hid (B1.out.call hb2)
 clear hb2 B1 LV
 obtain ⟨⟨x0,x1,x2⟩,⟨y0,y1,y2⟩,⟨d0,d1,d2⟩⟩:=S2.out.cells
 obtain ⟨f0,f1,f2⟩:=S2.out.frozen
 have HLA:Hid (sa.length≤200∧(tx sa).size=sa.length):=hid ⟨HSA.out.2,HSA.out.1⟩
 have HLB:Hid (sb.length≤200∧(tx sb).size=sb.length):=hid ⟨HSB.out.2,HSB.out.1⟩
 clear HSA HSB
 by_cases h1:ka=2
 case neg=>
  have h1':(ka != 2)=true:=by simpa using h1
  have HR:=hid (HR1.out (.inl h1))
  clear h1 HR1 HR2 HR3
  go_wp2_with fail
  exact fin_R Tryz.results39 rfl rfl rfl (by exact S2.out.2.2.2) (by first | exact below_drewN S2.out.1 _ | exact S2.out.1.drew | exact S2.out.1) (by omega) (by first | (rw [HR.out]; done) | (rw [HR.out]; rfl))
 have h1':(ka != 2)=false:=by simpa using h1
 by_cases h2:kb=2
 case neg=>
  have h2':(kb != 2)=true:=by simpa using h2
  have HR:=hid (HR1.out (.inr h2))
  clear h1 h2 HR1 HR2 HR3
  go_wp2_with fail
  exact fin_R Tryz.results39 rfl rfl rfl (by exact S2.out.2.2.2) (by first | exact below_drewN S2.out.1 _ | exact S2.out.1.drew | exact S2.out.1) (by omega) (by first | (rw [HR.out]; done) | (rw [HR.out]; rfl))
 have h2':(kb != 2)=false:=by simpa using h2
 by_cases h3:sa.length + sb.length≤200
 case neg=>
  have h3':(200:Int) < wrap64 ((sa.length:Int) + (sb.length:Int)):=by have:=HLA.out; have:=HLB.out; unfold wrap64; omega
  have HR:=hid (HR2.out h1 h2 h3)
  have hsa:(tx sa).size≤200:=by have:=HLA.out; omega
  have hsb:(tx sb).size≤200:=by have:=HLB.out; omega
  clear h1 h2 h3 HR1 HR2 HR3
  go_wp2_with fail
  exact fin_R Tryz.results39 rfl rfl rfl (by exact S2.out.2.2.2) (by first | exact below_drewN S2.out.1 _ | exact S2.out.1.drew | exact S2.out.1) (by omega) (by first | (rw [HR.out]; done) | (rw [HR.out]; rfl))
 case pos=>
  have h3':¬ (200:Int) < wrap64 ((sa.length:Int) + (sb.length:Int)):=by have:=HLA.out; have:=HLB.out; unfold wrap64; omega
  have HR:=hid (HR3.out h1 h2 h3)
  have hsa:(tx sa).size≤200:=by have:=HLA.out; omega
  have hsb:(tx sb).size≤200:=by have:=HLB.out; omega
  clear h1 h2 h3 HR1 HR2 HR3
  go_wp2_with fail
  exact fin_R Tryz.results39 rfl rfl rfl (by exact S2.out.2.2.2) (by first | exact below_drewN S2.out.1 _ | exact S2.out.1.drew | exact S2.out.1) (by omega) (by rw [HR.out]; dsimp only [outR,vv,vcells]; rw [HTX.out])
end Go.Proofs.YteghhmomhlnccaaGreatDoor
