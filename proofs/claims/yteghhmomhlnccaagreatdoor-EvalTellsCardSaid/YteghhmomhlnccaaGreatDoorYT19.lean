import Derived.Test.YteghhmomhlnccaaGreatDoorYT18
import Derived.Test.YteghhmomhlnccaaGreatDoorYT1
set_option linter.unusedVariables false
set_option linter.unusedSimpArgs false
set_option maxRecDepth 100000
set_option maxHeartbeats 100000000
open Go.RowKit Go.Lib
namespace Go.Proofs.YteghhmomhlnccaaGreatDoor
open Ex (Tree)
open Ev (V R Pl)
variable {C : List Col} {Ac : Option Addr} {cc : Nat} {W : List V} {Ar : Option Addr} {cr : Nat} {w0 : World}
theorem kid_call {ks:List Tree} {i:Nat} (hi:i < ks.length) (hX:CT C Ac cc W Ar cr w0 ks[i]) {A:Option Addr} {w1:World} (hb:Below w0.heap.size w0 w1) (hk:TreesAt w1 A 0 ks) :
  ∃ kb ko o1 t1 k1 n1 s1 m1 B1 c1,A=some ⟨kb,ko,none⟩∧kb < w1.heap.size ∧
   (∀ U,Below w1.heap.size w1 U→(U.cell? ⟨kb,ko + i * 6,none⟩=some (.int .i64 o1)∧U.cell? ⟨kb,ko + i * 6 + 1,none⟩=some (.string (tx t1))∧U.cell? ⟨kb,ko + i * 6 + 2,none⟩=some (.int .i64 k1)∧U.cell? ⟨kb,ko + i * 6 + 3,none⟩=some (.int .i64 n1)∧U.cell? ⟨kb,ko + i * 6 + 4,none⟩=some (.string (tx s1))∧U.cell? ⟨kb,ko + i * 6 + 5,none⟩=some (.slice B1 m1 c1))) ∧
   (∀ U,Below w1.heap.size w1 U→NodeV U (.agg (ncells o1 t1 k1 n1 s1 B1 m1 c1)) ks[i]) ∧
   (∀ U,Below w1.heap.size w1 U→Calls Tryz.prog 27 #[ovV C Ac cc W Ar cr,.agg (ncells o1 t1 k1 n1 s1 B1 m1 c1)] U fun e w'=>e=.returned (outR (Ev.ev C W ks[i]))∧Below U.heap.size U w'):=by
 obtain ⟨kb,ko,e,hk1⟩:=hk.get i hi
 obtain ⟨op,t,vk,vn,vs,l,he⟩:∃ op t vk vn vs l,ks[i]=.node op t vk vn vs l:=by
  cases hh:ks[i] with
  | node op t vk vn vs l=>exact ⟨op,t,vk,vn,vs,l,rfl⟩
 rw [he] at hk1
 obtain ⟨h0,h1,h2,h3,h4,h5,B,n,h6,h7,h8⟩:=hk1.node
 have nv:∀ U,Below w1.heap.size w1 U→NodeV U (.agg (ncells op t vk vn vs B l.length n)) ks[i]:=fun U hU=>by rw [he]; exact ⟨B,n,rfl,h7,h8.below hU⟩
 exact ⟨kb,ko,op,t,vk,vn,vs,l.length,B,n,e,h0,fun W hW=>⟨(hW.cell (p:=⟨kb,ko + i * 6,none⟩) h0).trans h1,(hW.cell (p:=⟨kb,ko + i * 6 + 1,none⟩) h0).trans h2,(hW.cell (p:=⟨kb,ko + i * 6 + 2,none⟩) h0).trans h3,(hW.cell (p:=⟨kb,ko + i * 6 + 3,none⟩) h0).trans h4,(hW.cell (p:=⟨kb,ko + i * 6 + 4,none⟩) h0).trans h5,(hW.cell (p:=⟨kb,ko + i * 6 + 5,none⟩) h0).trans h6⟩,nv,fun U hU=>hX _ _ (bstep hb hU) (nv U hU)⟩
def OvS (w W:World) (cs:Array Value):Prop:=Below w.heap.size w W∧Whole W w.heap.size 60 cs
theorem OvS.drew {w W:World} {cs:Array Value} (h:OvS w W cs):OvS w W.drew cs:=⟨h.1.drew,h.2⟩
theorem OvS.alloc {w W:World} {cs:Array Value} (h:OvS w W cs) (o:Obj):OvS w (W.alloc o) cs:=⟨h.1.alloc h.1.size o,Whole.alloc h.2 o⟩
theorem OvS.call {w W W':World} {cs:Array Value} (h:OvS w W cs) (hb:Below W.heap.size W W'):OvS w W' cs:=⟨bstep h.1 hb,h.2.below hb h.2.lt⟩
theorem OvS.set3 {w W:World} {cs:Array Value} (h:OvS w W cs) {g:Nat} (hg:w.heap.size + 1≤g) (a b c:Value):OvS w (((W.setCell ⟨g,0,none⟩ a).setCell ⟨g,1,none⟩ b).setCell ⟨g,2,none⟩ c) cs:=
 ⟨((h.1.setCell (p:=⟨g,0,none⟩) (by show _≤g; omega) a).setCell (p:=⟨g,1,none⟩) (by show _≤g; omega) b).setCell (p:=⟨g,2,none⟩) (by show _≤g; omega) c,
  ((((Below.refl (w.heap.size + 1) W).setCell (p:=⟨g,0,none⟩) hg a).setCell (p:=⟨g,1,none⟩) hg b).setCell (p:=⟨g,2,none⟩) hg c).block w.heap.size (Nat.lt_succ_self _) |>.trans h.2⟩
def OvR (w W:World) (cs:Array Value):Prop:=OvS w W cs∧Row3 W (w.heap.size + 1) 0 0 ⟨#[]⟩
theorem OvR.drew {w W:World} {cs:Array Value} (h:OvR w W cs):OvR w W.drew cs:=⟨h.1.drew,h.2⟩
theorem OvR.alloc {w W:World} {cs:Array Value} (h:OvR w W cs) (o:Obj):OvR w (W.alloc o) cs:=⟨h.1.alloc o,h.2.alloc o⟩
theorem OvR.call {w W W':World} {cs:Array Value} (h:OvR w W cs) (hb:Below W.heap.size W W'):OvR w W' cs:=⟨h.1.call hb,h.2.below hb h.2.lt⟩
theorem OvR.set3 {w W:World} {cs:Array Value} (h:OvR w W cs) {g:Nat} (hg:w.heap.size + 2≤g) (a b c:Value):OvR w (((W.setCell ⟨g,0,none⟩ a).setCell ⟨g,1,none⟩ b).setCell ⟨g,2,none⟩ c) cs:=
 ⟨h.1.set3 (by omega) a b c,((((Below.refl (w.heap.size + 2) W).setCell (p:=⟨g,0,none⟩) hg a).setCell (p:=⟨g,1,none⟩) hg b).setCell (p:=⟨g,2,none⟩) hg c).block (w.heap.size + 1) (Nat.lt_succ_self _) |>.trans h.2⟩
theorem OvS.cells {w W:World} {a b:Value} (h:OvS w W #[a,b]):W.cell? ⟨w.heap.size,0,none⟩=some a∧W.cell? ⟨w.heap.size,1,none⟩=some b:=⟨by rw [h.2.cell]; rfl,by rw [h.2.cell]; rfl⟩
theorem fin_R2 {fn:Func} {p u:Tmp} (h:fn.results=#[.cell p 23,.tmp u]) {a:Act} {w W:World} {g:Nat} {k n:Int} {s:ByteArray} {e:Int} (hp:a.tmps.getD p undef=.pointer (some ⟨g,0,none⟩)) (hu:a.tmps.getD u undef=.int .i64 e) (hd:a.defers=[]) (hr:Row3 W g k n s) (hb:Below w.heap.size w W) {r:R} (hR:outR r=.tuple #[val k n s,.int .i64 e]) :
  bodyPost Tryz.prog fn (fun e w'=>e=.returned (outR r)∧Below w.heap.size w w') .ret a W:=
 bodyPost_ret (results_two h _ _ g _ _ _ _ hp hr Tryz.underlying23 rfl sizeVal _ hu) hd ⟨by rw [hR],hb⟩
end Go.Proofs.YteghhmomhlnccaaGreatDoor
namespace Go.Proofs.YteghhmomhlnccaaGreatDoor
attribute [local go_sem ↓] eqVal neqVal
open Ex (Tree)
open Ev (V R Pl)
variable {C : List Col} {Ac : Option Addr} {cc : Nat} {W : List V} {Ar : Option Addr} {cr : Nat} {w0 : World}
def Ev.chR (q y z:R):R:=if q.e=0 then (if q.v.k=3∧q.v.n=1 then y else z) else Ev.err q.e
theorem truth_pl {r:R} (h:Pl r.v):Pl (Ev.truthR r).v:=by
 unfold Ev.truthR
 split
 ·split
  ·exact h
  ·exact Pl.z_
 ·exact Pl.z_
theorem chosen_of {X Y Z:Tree} (hX:CT C Ac cc W Ar cr w0 X) (hY:CT C Ac cc W Ar cr w0 Y) (hZ:CT C Ac cc W Ar cr w0 Z) (hp:Pl (Ev.ev C W X).v) (A:Option Addr) (c:Nat) (w:World) (hb:Below w0.heap.size w0 w) (hk:TreesAt w A 0 [X,Y,Z]) :
  Calls Tryz.prog 57 #[ovV C Ac cc W Ar cr,.slice A 3 c] w fun e w'=>e=.returned (outR (Ev.chR (Ev.truthR (Ev.ev C W X)) (Ev.ev C W Y) (Ev.ev C W Z)))∧Below w.heap.size w w':=by
 have b0:=(Below.refl w.heap.size w).alloc (Nat.le_refl _) (.cells #[.slice Ac C.length cc,.slice Ar W.length cr] 60)
 have b1:=b0.alloc (by simp) (.cells #[.int .i64 0,.int .i64 0,.string ⟨#[]⟩] 23)
 have k0:=(Whole.new w 60 #[.slice Ac C.length cc,.slice Ar W.length cr]).alloc (.cells #[.int .i64 0,.int .i64 0,.string ⟨#[]⟩] 23)
 have r0:=Row3.new (w.alloc (.cells #[.slice Ac C.length cc,.slice Ar W.length cr] 60)) 0 0 ⟨#[]⟩
 rw [World.size_alloc] at r0
 obtain ⟨W1,hW1⟩:∃ W1,(w.alloc (.cells #[.slice Ac C.length cc,.slice Ar W.length cr] 60)).alloc (.cells #[.int .i64 0,.int .i64 0,.string ⟨#[]⟩] 23)=W1:=⟨_,rfl⟩
 rw [hW1] at b1 k0 r0
 obtain ⟨kb,ko,o0,t0,k0,n0,s0,m0,B0,c0,rfl,-,hc0,-,C0⟩:=kid_call (i:=0) (by simp) hX hb hk
 obtain ⟨kb1,ko1,o1,t1,k1,n1,s1,m1,B1,c1,e1,-,hc1,-,C1⟩:=kid_call (i:=1) (by simp) hY hb hk
 cases e1
 obtain ⟨kb2,ko2,o2,t2,k2,n2,s2,m2,B2,c2,e2,-,hc2,-,C2⟩:=kid_call (i:=2) (by simp) hZ hb hk
 cases e2
 simp only [List.getElem_cons_zero,List.getElem_cons_succ] at C0 C1 C2
 obtain ⟨x,hx'⟩:∃ r,Ev.ev C W X=r:=⟨_,rfl⟩
 obtain ⟨y,hy'⟩:∃ r,Ev.ev C W Y=r:=⟨_,rfl⟩
 obtain ⟨z,hz'⟩:∃ r,Ev.ev C W Z=r:=⟨_,rfl⟩
 rw [hx'] at C0 hp ⊢
 rw [hy'] at C1 ⊢
 rw [hz'] at C2 ⊢
 have HP:=hid (truth_pl hp)
 have TR:=hid (fun U=>truth_any x U)
 obtain ⟨q,hq'⟩:∃ q,Ev.truthR x=q:=⟨_,rfl⟩
 rw [hq'] at HP TR ⊢
 clear hx' hy' hz' hq' hX hY hZ hp hb hk b0
 unfold ovV ncells at *
 generalize C.length=cn at *
 generalize W.length=wn at *
 have KB:=hid b1
 have R0:=hid r0
 have Q1:Hid (OvR w W1 #[.slice Ac cn cc,.slice Ar wn cr]):=hid ⟨⟨b1,k0⟩,r0⟩
 have HSZ:Hid (w.heap.size + 2≤W1.heap.size):=hid (by have:=r0.lt; omega)
 have HC0:=hid hc0
 have HK0:=hid C0
 have HC1:=hid hc1
 have HK1:=hid C1
 have HC2:=hid hc2
 have HK2:=hid C2
 obtain ⟨⟨xk,xn,xs_⟩,xe⟩:=x
 obtain ⟨⟨yk,yn,ys_⟩,ye⟩:=y
 obtain ⟨⟨zk,zn,zs_⟩,ze⟩:=z
 obtain ⟨⟨qk,qn,qs_⟩,qe⟩:=q
 unfold outR vv vcells at *
 dsimp only at *
 clear b1 r0 k0 hc0 hc1 hc2 C0 C1 C2
 have KK0:Hid (∀ U,OvS w U #[.slice Ac cn cc,.slice Ar wn cr]→(U.cell? ⟨w.heap.size,0,none⟩=some (.slice Ac cn cc)∧U.cell? ⟨w.heap.size,1,none⟩=some (.slice Ar wn cr))∧U.cell? ⟨kb,ko,none⟩=some (.int .i64 o0)∧U.cell? ⟨kb,ko + 1,none⟩=some (.string (tx t0))∧U.cell? ⟨kb,ko + 2,none⟩=some (.int .i64 k0)∧U.cell? ⟨kb,ko + 3,none⟩=some (.int .i64 n0)∧U.cell? ⟨kb,ko + 4,none⟩=some (.string (tx s0))∧U.cell? ⟨kb,ko + 5,none⟩=some (.slice B0 m0 c0)):=hid (fun U hU=>by
  have h:=HC0.out U hU.1
  simp only [Nat.zero_mul,Nat.one_mul,Nat.add_zero,show 2 * 6=12 from rfl] at h
  exact ⟨hU.cells,h⟩)
 have KK1:Hid (∀ U,OvS w U #[.slice Ac cn cc,.slice Ar wn cr]→(U.cell? ⟨w.heap.size,0,none⟩=some (.slice Ac cn cc)∧U.cell? ⟨w.heap.size,1,none⟩=some (.slice Ar wn cr))∧U.cell? ⟨kb,ko + 6,none⟩=some (.int .i64 o1)∧U.cell? ⟨kb,ko + 6 + 1,none⟩=some (.string (tx t1))∧U.cell? ⟨kb,ko + 6 + 2,none⟩=some (.int .i64 k1)∧U.cell? ⟨kb,ko + 6 + 3,none⟩=some (.int .i64 n1)∧U.cell? ⟨kb,ko + 6 + 4,none⟩=some (.string (tx s1))∧U.cell? ⟨kb,ko + 6 + 5,none⟩=some (.slice B1 m1 c1)):=hid (fun U hU=>by
  have h:=HC1.out U hU.1
  simp only [Nat.zero_mul,Nat.one_mul,Nat.add_zero,show 2 * 6=12 from rfl] at h
  exact ⟨hU.cells,h⟩)
 have KK2:Hid (∀ U,OvS w U #[.slice Ac cn cc,.slice Ar wn cr]→(U.cell? ⟨w.heap.size,0,none⟩=some (.slice Ac cn cc)∧U.cell? ⟨w.heap.size,1,none⟩=some (.slice Ar wn cr))∧U.cell? ⟨kb,ko + 12,none⟩=some (.int .i64 o2)∧U.cell? ⟨kb,ko + 12 + 1,none⟩=some (.string (tx t2))∧U.cell? ⟨kb,ko + 12 + 2,none⟩=some (.int .i64 k2)∧U.cell? ⟨kb,ko + 12 + 3,none⟩=some (.int .i64 n2)∧U.cell? ⟨kb,ko + 12 + 4,none⟩=some (.string (tx s2))∧U.cell? ⟨kb,ko + 12 + 5,none⟩=some (.slice B2 m2 c2)):=hid (fun U hU=>by
  have h:=HC2.out U hU.1
  simp only [Nat.zero_mul,Nat.one_mul,Nat.add_zero,show 2 * 6=12 from rfl] at h
  exact ⟨hU.cells,h⟩)
 go_enter Tryz.func57,Tryz.ntmps57
 go_upto_region 1 with fail
 go_cut [6,7] from 9 to 18 (fun s6 s7 wc=>∃ g,s6=.pointer (some ⟨g,0,none⟩)∧s7=.int .i64 qe∧Hid (Row3 wc g qk qn (tx qs_))∧Hid (OvR w wc #[.slice Ac cn cc,.slice Ar wn cr]))
 case first=>
  have QD:Hid (OvR w W1.drew #[.slice Ac cn cc,.slice Ar wn cr]):=hid Q1.out.drew
  refine wp_region_held_drew (S:=fun U=>OvR w U #[.slice Ac cn cc,.slice Ar wn cr]) (by kernel_rfl) QD.out (fun _=>?_)
  refine qTk 0 (v:=?_) QD.out ?_ ?_
  rotate_left
  ·(intro W hw; obtain ⟨⟨a0,a1⟩,p0,p1,p2,p3,p4,p5⟩:=KK0.out W hw.1; go_simp; try with_reducible rfl)
  refine qTk 1 (v:=?_) QD.out ?_ ?_
  rotate_left
  ·(intro W hw; go_simp; try with_reducible rfl)
  refine qTk 2 (v:=?_) QD.out ?_ ?_
  rotate_left
  ·(intro W hw; go_simp; try with_reducible rfl)
  refine qTk 3 (v:=?_) QD.out ?_ ?_
  rotate_left
  ·(intro W hw; obtain ⟨⟨a0,a1⟩,p0,p1,p2,p3,p4,p5⟩:=KK0.out W hw.1; go_simp; try with_reducible rfl)
  refine qTr2 4 11 (fun K hK=>?_) (fun K hK=>?_)
  ·
   go_simp
   refine (HK0.out _ QD.out.1.1).mono ?_
   rintro e V1 ⟨rfl,hv1⟩
   have QV1:=hid (QD.out.call hv1)
   refine hK.out _ _ QV1.out (fun _=>?_)
   clear hK K
   refine qTk 5 (v:=?_) QV1.out ?_ ?_
   rotate_left
   ·(intro W hw; go_simp; try with_reducible rfl)
   refine qTk 6 (v:=?_) QV1.out ?_ ?_
   rotate_left
   ·(intro W hw; go_simp; try with_reducible rfl)
   refine qTr2 7 11 (fun K hK=>?_) (fun K hK=>?_)
   ·
    go_simp
    refine (TR.out _).mono ?_
    rintro e V2 ⟨rfl,hv2⟩
    have QV2:=hid (QV1.out.call hv2)
    refine hK.out _ _ QV2.out (fun _=>?_)
    clear hK K
    refine qTk 8 (v:=?_) QV2.out ?_ ?_
    rotate_left
    ·(intro W hw; go_simp; try with_reducible rfl)
    refine qTk 9 (v:=?_) QV2.out ?_ ?_
    rotate_left
    ·(intro W hw; go_simp; try with_reducible rfl)
    refine qTk 10 (v:=?_) QV2.out ?_ ?_
    rotate_left
    ·(intro W hw; go_simp; try with_reducible rfl)
    refine qTr1 11 (fun K hK=>?_)
    go_simp
    have QA:=hid (QV2.out.alloc (.cells #[.int .i64 0,.int .i64 0,.string ⟨#[]⟩] 23))
    refine hK.out _ _ QA.out (fun _=>?_)
    clear hK K
    refine qTr1 12 (fun K hK=>?_)
    go_simp
    have QS:=hid (QV2.out.alloc (.cells #[.int .i64 qk,.int .i64 qn,.string (tx qs_)] 23))
    have FW:=hid (Row3.new V2 qk qn (tx qs_))
    refine hK.out _ _ QS.out (fun _=>?_)
    clear hK K
    refine qTk 13 (v:=?_) QS.out ?_ ?_
    rotate_left
    ·(intro W hw; go_simp; try with_reducible rfl)
    refine wpAnyH_done (by kernel_rfl) ?_ _
    try simp only  [Act.put,List.setIfInBounds_toArray,List.set_cons_zero,List.set_cons_succ]
    go_wp2_with fail
    go_meet
    case rel=>exact ⟨_,rfl,rfl,FW,QS⟩
   ·
    go_simp
    have QA:=hid (QV1.out.alloc (.cells #[.int .i64 0,.int .i64 0,.string ⟨#[]⟩] 23))
    refine hK.out _ _ QA.out (fun _=>?_)
    clear hK K
    refine qTr1 7 (fun K hK=>?_)
    go_simp
    refine (TR.out _).mono ?_
    rintro e V2 ⟨rfl,hv2⟩
    have QV2:=hid (QA.out.call hv2)
    have ZB2:=Row3.below (w':=V2) (g:=V1.heap.size) (k:=0) (n:=0) (s:=⟨#[]⟩) (by exact Row3.new V1 0 0 ⟨#[]⟩) hv2 (by simp)
    obtain ⟨z0,z1,z2⟩:=ZB2.holds
    have f0:=ZB2.frozen 0
    have f1:=ZB2.frozen 1
    have f2:=ZB2.frozen 2
    refine hK.out _ _ QV2.out (fun _=>?_)
    clear hK K
    refine qTk 8 (v:=?_) QV2.out ?_ ?_
    rotate_left
    ·(intro W hw; go_simp; try with_reducible rfl)
    refine qTk 9 (v:=?_) QV2.out ?_ ?_
    rotate_left
    ·(intro W hw; go_simp; try with_reducible rfl)
    refine qTk 10 (v:=?_) QV2.out ?_ ?_
    rotate_left
    ·(intro W hw; go_simp; try with_reducible rfl)
    refine qTr1 12 (fun K hK=>?_)
    go_simp
    have QS:=hid (QV2.out.set3 (g:=V1.heap.size) (by exact Nat.succ_le_of_lt QV1.out.2.lt) (.int .i64 qk) (.int .i64 qn) (.string (tx qs_)))
    have FW:=hid (ZB2.set3 qk qn (tx qs_))
    refine hK.out _ _ QS.out (fun _=>?_)
    clear hK K
    refine qTk 13 (v:=?_) QS.out ?_ ?_
    rotate_left
    ·(intro W hw; go_simp; try with_reducible rfl)
    refine wpAnyH_done (by kernel_rfl) ?_ _
    try simp only  [Act.put,List.setIfInBounds_toArray,List.set_cons_zero,List.set_cons_succ]
    go_wp2_with fail
    go_meet
    case rel=>exact ⟨_,rfl,rfl,FW,QS⟩
  ·
   go_simp
   have QA:=hid (QD.out.alloc (.cells #[.int .i64 0,.int .i64 0,.string ⟨#[]⟩] 23))
   refine hK.out _ _ QA.out (fun _=>?_)
   clear hK K
   refine qTr1 4 (fun K hK=>?_)
   go_simp
   refine (HK0.out _ QA.out.1.1).mono ?_
   rintro e V1 ⟨rfl,hv1⟩
   have QV1:=hid (QA.out.call hv1)
   have ZB1:=Row3.below (w':=V1) (g:=W1.heap.size) (k:=0) (n:=0) (s:=⟨#[]⟩) (by exact Row3.new W1 0 0 ⟨#[]⟩) hv1 (by simp)
   obtain ⟨z0,z1,z2⟩:=ZB1.holds
   have f0:=ZB1.frozen 0
   have f1:=ZB1.frozen 1
   have f2:=ZB1.frozen 2
   refine hK.out _ _ QV1.out (fun _=>?_)
   clear hK K
   refine qTk 5 (v:=?_) QV1.out ?_ ?_
   rotate_left
   ·(intro W hw; go_simp; try with_reducible rfl)
   refine qTk 6 (v:=?_) QV1.out ?_ ?_
   rotate_left
   ·(intro W hw; go_simp; try with_reducible rfl)
   refine qTr1 7 (fun K hK=>?_)
   go_simp
   refine (TR.out _).mono ?_
   rintro e V2 ⟨rfl,hv2⟩
   have QV2:=hid (QV1.out.call hv2)
   have ZB2:=Row3.below (w':=V2) ZB1 hv2 ZB1.lt
   obtain ⟨z0,z1,z2⟩:=ZB2.holds
   have f0:=ZB2.frozen 0
   have f1:=ZB2.frozen 1
   have f2:=ZB2.frozen 2
   refine hK.out _ _ QV2.out (fun _=>?_)
   clear hK K
   refine qTk 8 (v:=?_) QV2.out ?_ ?_
   rotate_left
   ·(intro W hw; go_simp; try with_reducible rfl)
   refine qTk 9 (v:=?_) QV2.out ?_ ?_
   rotate_left
   ·(intro W hw; go_simp; try with_reducible rfl)
   refine qTk 10 (v:=?_) QV2.out ?_ ?_
   rotate_left
   ·(intro W hw; go_simp; try with_reducible rfl)
   refine qTr1 12 (fun K hK=>?_)
   go_simp
   have QS:=hid (QV2.out.set3 (g:=W1.heap.size) (by exact Nat.succ_le_of_lt QD.out.2.lt) (.int .i64 qk) (.int .i64 qn) (.string (tx qs_)))
   have FW:=hid (ZB2.set3 qk qn (tx qs_))
   refine hK.out _ _ QS.out (fun _=>?_)
   clear hK K
   refine qTk 13 (v:=?_) QS.out ?_ ?_
   rotate_left
   ·(intro W hw; go_simp; try with_reducible rfl)
   refine wpAnyH_done (by kernel_rfl) ?_ _
   try simp only  [Act.put,List.setIfInBounds_toArray,List.set_cons_zero,List.set_cons_succ]
   go_wp2_with fail
   go_meet
   case rel=>exact ⟨_,rfl,rfl,FW,QS⟩
 case rest=>
  obtain ⟨g,rfl,rfl,HQ,HOR⟩:=hcut
  obtain ⟨W2,rfl⟩:∃ W2,W2=wc:=⟨wc,rfl⟩
  have HOV:=hid HOR.out.1
  have HR0:=hid HOR.out.2
  have QQ:Hid (∀ U,Below W2.heap.size W2 U→Holds3 U g qk qn (tx qs_)):=hid (fun U hU=>(HQ.out.below hU HQ.out.lt).holds)
  have BT:=hid (fun U (hU:Below W2.heap.size W2 U)=>call_over hU (bool_true U))
  clear TR HK0 KK0 HC0
  by_cases h:qe=0
  ·have hx7:(qe != 0)=false:=by simpa using h
   cases hz:decide (qk=3∧qn=1)
   ·have hs:same qk qn (tx qs_) 3 1 ⟨#[]⟩=false:=by rw [← hz]; exact same_b HP.out 1
    have HR:Hid (Ev.chR ⟨⟨qk,qn,qs_⟩,qe⟩ ⟨⟨yk,yn,ys_⟩,ye⟩ ⟨⟨zk,zn,zs_⟩,ze⟩=⟨⟨zk,zn,zs_⟩,ze⟩):=hid (by rw [Ev.chR,if_pos h,if_neg (of_decide_eq_false hz)])
    obtain ⟨z0,z1,z2⟩:=QQ.out W2 (Below.refl _ _)
    clear h hz
    go_upto_region 4 with fail
    go_region_with (go_at_call 29; refine (BT.out _ (by first | exact below_drewN (Below.refl _ _) _ | exact (Below.refl _ _).drew | exact Below.refl _ _)).mono ?_; rintro e V ⟨rfl,hb4⟩; obtain ⟨z0,z1,z2⟩:=QQ.out V hb4; have R4:=hid (HR0.out.below hb4 HR0.out.lt); have Q4:=hid (HOV.out.call hb4))
    all_goals
     clear z0 z1 z2
     have QD:Hid (OvS w V.drew #[.slice Ac cn cc,.slice Ar wn cr]):=hid Q4.out.drew
     go_upto_region 6 with fail
     refine wp_region_held_drew (S:=fun U=>OvS w U #[.slice Ac cn cc,.slice Ar wn cr]) (by kernel_rfl) QD.out (fun _=>?_)
     refine qTk 0 (v:=?_) QD.out ?_ ?_
     rotate_left
     ·(intro W hw; obtain ⟨⟨a0,a1⟩,p0,p1,p2,p3,p4,p5⟩:=KK2.out W hw; go_simp; try with_reducible rfl)
     refine qTk 1 (v:=?_) QD.out ?_ ?_
     rotate_left
     ·(intro W hw; go_simp; try with_reducible rfl)
     refine qTk 2 (v:=?_) QD.out ?_ ?_
     rotate_left
     ·(intro W hw; go_simp; try with_reducible rfl)
     refine qTk 3 (v:=?_) QD.out ?_ ?_
     rotate_left
     ·(intro W hw; obtain ⟨⟨a0,a1⟩,p0,p1,p2,p3,p4,p5⟩:=KK2.out W hw; go_simp; try with_reducible rfl)
     refine qTr1 4 (fun K hK=>?_)
     go_simp
     refine (HK2.out _ QD.out.1).mono ?_
     rintro e V1 ⟨rfl,hv1⟩
     have QV1:=hid (QD.out.call hv1)
     have ZB1:=Row3.below (w':=V1) (g:=w.heap.size + 1) (k:=0) (n:=0) (s:=⟨#[]⟩) (by exact R4.out) hv1 (by exact R4.out.lt)
     obtain ⟨z0,z1,z2⟩:=ZB1.holds
     have f0:=ZB1.frozen 0
     have f1:=ZB1.frozen 1
     have f2:=ZB1.frozen 2
     refine hK.out _ _ QV1.out (fun _=>?_)
     clear hK K
     refine qTk 5 (v:=?_) QV1.out ?_ ?_
     rotate_left
     ·(intro W hw; go_simp; try with_reducible rfl)
     refine qTk 6 (v:=?_) QV1.out ?_ ?_
     rotate_left
     ·(intro W hw; go_simp; try with_reducible rfl)
     refine qTr1 7 (fun K hK=>?_)
     go_simp
     have QS:=hid (QV1.out.set3 (g:=w.heap.size + 1) (by first | omega | exact Nat.le_refl _) (.int .i64 zk) (.int .i64 zn) (.string (tx zs_)))
     have FW:=hid (ZB1.set3 zk zn (tx zs_))
     refine hK.out _ _ QS.out (fun _=>?_)
     clear hK K
     refine qTk 8 (v:=?_) QS.out ?_ ?_
     rotate_left
     ·(intro W hw; go_simp; try with_reducible rfl)
     refine wpAnyH_done (by kernel_rfl) ?_ _
     try simp only  [Act.put,List.setIfInBounds_toArray,List.set_cons_zero,List.set_cons_succ]
     go_wp2_with fail
     exact fin_R2 Tryz.results57 rfl rfl rfl FW.out QS.out.1 (by rw [HR.out])
   ·have hs:same qk qn (tx qs_) 3 1 ⟨#[]⟩=true:=by rw [← hz]; exact same_b HP.out 1
    have HR:Hid (Ev.chR ⟨⟨qk,qn,qs_⟩,qe⟩ ⟨⟨yk,yn,ys_⟩,ye⟩ ⟨⟨zk,zn,zs_⟩,ze⟩=⟨⟨yk,yn,ys_⟩,ye⟩):=hid (by rw [Ev.chR,if_pos h,if_pos (of_decide_eq_true hz)])
    obtain ⟨z0,z1,z2⟩:=QQ.out W2 (Below.refl _ _)
    clear h hz
    go_upto_region 4 with fail
    go_region_with (go_at_call 29; refine (BT.out _ (by first | exact below_drewN (Below.refl _ _) _ | exact (Below.refl _ _).drew | exact Below.refl _ _)).mono ?_; rintro e V ⟨rfl,hb4⟩; obtain ⟨z0,z1,z2⟩:=QQ.out V hb4; have R4:=hid (HR0.out.below hb4 HR0.out.lt); have Q4:=hid (HOV.out.call hb4))
    all_goals
     clear z0 z1 z2
     have QD:Hid (OvS w V.drew #[.slice Ac cn cc,.slice Ar wn cr]):=hid Q4.out.drew
     go_upto_region 5 with fail
     refine wp_region_held_drew (S:=fun U=>OvS w U #[.slice Ac cn cc,.slice Ar wn cr]) (by kernel_rfl) QD.out (fun _=>?_)
     refine qTk 0 (v:=?_) QD.out ?_ ?_
     rotate_left
     ·(intro W hw; obtain ⟨⟨a0,a1⟩,p0,p1,p2,p3,p4,p5⟩:=KK1.out W hw; go_simp; try with_reducible rfl)
     refine qTk 1 (v:=?_) QD.out ?_ ?_
     rotate_left
     ·(intro W hw; go_simp; try with_reducible rfl)
     refine qTk 2 (v:=?_) QD.out ?_ ?_
     rotate_left
     ·(intro W hw; go_simp; try with_reducible rfl)
     refine qTk 3 (v:=?_) QD.out ?_ ?_
     rotate_left
     ·(intro W hw; obtain ⟨⟨a0,a1⟩,p0,p1,p2,p3,p4,p5⟩:=KK1.out W hw; go_simp; try with_reducible rfl)
     refine qTr1 4 (fun K hK=>?_)
     go_simp
     refine (HK1.out _ QD.out.1).mono ?_
     rintro e V1 ⟨rfl,hv1⟩
     have QV1:=hid (QD.out.call hv1)
     have ZB1:=Row3.below (w':=V1) (g:=w.heap.size + 1) (k:=0) (n:=0) (s:=⟨#[]⟩) (by exact R4.out) hv1 (by exact R4.out.lt)
     obtain ⟨z0,z1,z2⟩:=ZB1.holds
     have f0:=ZB1.frozen 0
     have f1:=ZB1.frozen 1
     have f2:=ZB1.frozen 2
     refine hK.out _ _ QV1.out (fun _=>?_)
     clear hK K
     refine qTk 5 (v:=?_) QV1.out ?_ ?_
     rotate_left
     ·(intro W hw; go_simp; try with_reducible rfl)
     refine qTk 6 (v:=?_) QV1.out ?_ ?_
     rotate_left
     ·(intro W hw; go_simp; try with_reducible rfl)
     refine qTr1 7 (fun K hK=>?_)
     go_simp
     have QS:=hid (QV1.out.set3 (g:=w.heap.size + 1) (by first | omega | exact Nat.le_refl _) (.int .i64 yk) (.int .i64 yn) (.string (tx ys_)))
     have FW:=hid (ZB1.set3 yk yn (tx ys_))
     refine hK.out _ _ QS.out (fun _=>?_)
     clear hK K
     refine qTk 8 (v:=?_) QS.out ?_ ?_
     rotate_left
     ·(intro W hw; go_simp; try with_reducible rfl)
     refine wpAnyH_done (by kernel_rfl) ?_ _
     try simp only  [Act.put,List.setIfInBounds_toArray,List.set_cons_zero,List.set_cons_succ]
     go_wp2_with fail
     exact fin_R2 Tryz.results57 rfl rfl rfl FW.out QS.out.1 (by rw [HR.out])
  ·have hx7:(qe != 0)=true:=by simpa using h
   have HR:Hid (Ev.chR ⟨⟨qk,qn,qs_⟩,qe⟩ ⟨⟨yk,yn,ys_⟩,ye⟩ ⟨⟨zk,zn,zs_⟩,ze⟩=Ev.err qe):=hid (by rw [Ev.chR,if_neg h])
   clear h
   go_wp2_with fail
   refine (efail_any _ _).mono ?_
   rintro e w4 ⟨rfl,hb4⟩
   have R4:=hid (HR0.out.below hb4 HR0.out.lt)
   have B4:=hid (bstep HOV.out.1 hb4)
   clear hb4
   obtain ⟨d1,d2,d3⟩:=R4.out.holds
   have f0:=R4.out.frozen 0
   have f1:=R4.out.frozen 1
   have f2:=R4.out.frozen 2
   unfold outR vv vcells Ev.err Ev.z
   go_wp2_with fail
   exact fin_R Tryz.results57 rfl rfl rfl R4.out B4.out (by omega) (by rw [HR.out]; rfl)
end Go.Proofs.YteghhmomhlnccaaGreatDoor
namespace Go.Proofs.YteghhmomhlnccaaGreatDoor
attribute [local go_sem ↓] eqVal neqVal
open Ex (Tree)
open Ev (V R Pl)
variable {C : List Col} {Ac : Option Addr} {cc : Nat} {W : List V} {Ar : Option Addr} {cr : Nat} {w0 : World}
def Ev.decR (s:Bool):V→List R→R
 | o,[]=>Ev.ok o
 | o,r :: l=>if (Ev.truthR r).e=0 then (if (Ev.truthR r).v.k=3∧(Ev.truthR r).v.n=bit s then Ev.ok (Ev.tru s) else Ev.decR s (if (Ev.truthR r).v.k=0 then Ev.z else o) l) else Ev.err (Ev.truthR r).e
theorem Ev.dec_two (s:Bool) {a b:R} (ha:Pl a.v) (hb:Pl b.v):Ev.decR s (Ev.tru (!s)) [a,b]=if a.e=0 then Ev.logic s a.v b else Ev.err a.e:=by
 have key:∀ v:V,Pl v→(v.k=3∧v.n=bit s)→v=Ev.tru s:=fun v hv h=>by
  obtain ⟨k,n,t⟩:=v
  obtain ⟨h1,h2⟩:=h
  have h3:=(hv.truth h1).2
  dsimp only at h1 h2 h3
  subst h1 h2 h3
  rw [← bit_tru]
 have hbit:bit s=if s=true then (1:Int) else 0:=rfl
 have hz:∀ v:V,Pl v→v.k=0→v=Ev.z:=fun v hv h=>hv.null h
 simp only [Ev.decR,Ev.truthR,Ev.logic]
 rw [← hbit]
 by_cases e1:a.e=0
 ·simp only [if_pos e1]
  by_cases k1:a.v.k=3∨a.v.k=0
  ·have k1':a.v.k=0∨a.v.k=3:=k1.symm
   simp only [if_pos k1,if_pos k1',Ev.ok,if_true]
   by_cases d1:a.v.k=3∧a.v.n=bit s
   ·simp only [if_pos d1]; rw [key _ ha d1]
   ·simp only [if_neg d1]
    by_cases e2:b.e=0
    ·simp only [if_pos e2]
     by_cases k2:b.v.k=3∨b.v.k=0
     ·have k2':b.v.k=0∨b.v.k=3:=k2.symm
      simp only [if_pos k2,if_pos k2',if_true]
      by_cases d2:b.v.k=3∧b.v.n=bit s
      ·simp only [if_pos d2]; rw [key _ hb d2]
      ·simp only [if_neg d2]
       by_cases z1:a.v.k=0
       ·by_cases z2:b.v.k=0 <;> simp [z1,z2]
       ·by_cases z2:b.v.k=0 <;> simp [z1,z2]
     ·have k2':¬ (b.v.k=0∨b.v.k=3):=fun h=>k2 h.symm
      simp only [if_neg k2,if_neg k2']; rfl
    ·simp only [if_neg e2]; simp [Ev.err,e2]
  ·have k1':¬ (a.v.k=0∨a.v.k=3):=fun h=>k1 h.symm
   simp only [if_neg k1,if_neg k1']; rfl
 ·simp only [if_neg e1]; simp [Ev.err,e1]
theorem evs_drop {C:List Col} {W:List V} (ks:List Tree) (i:Nat) (hi:i < ks.length):(Ev.evs C W ks).drop i=Ev.ev C W ks[i] :: (Ev.evs C W ks).drop (i + 1):=by
 have h:i < (Ev.evs C W ks).length:=by rw [Ev.evs_len]; exact hi
 rw [List.drop_eq_getElem_cons h]
 have:=Ev.evs_at C W ks i hi
 rw [List.getElem?_eq_getElem h] at this
 rw [Option.some.inj this]
theorem same_not (s:Bool):same 3 (bit s) ⟨#[]⟩ 3 0 ⟨#[]⟩=!s:=by cases s <;> simp [same,bit]
def BW (w W:World):Prop:=Below w.heap.size w W
theorem BW.drew {w W:World} (h:BW w W):BW w W.drew:=Below.drew h
theorem BW.alloc {w W:World} (h:BW w W) (o:Obj):BW w (W.alloc o):=Below.alloc h h.size o
theorem BW.call {w W W':World} (h:BW w W) (hb:Below W.heap.size W W'):BW w W':=bstep h hb
theorem BW.set3 {w W:World} (h:BW w W) {g:Nat} (hg:w.heap.size≤g) (a b c:Value):BW w (((W.setCell ⟨g,0,none⟩ a).setCell ⟨g,1,none⟩ b).setCell ⟨g,2,none⟩ c):=
 ((Below.setCell h (p:=⟨g,0,none⟩) hg a).setCell (p:=⟨g,1,none⟩) hg b).setCell (p:=⟨g,2,none⟩) hg c
structure DecS (w wr:World) (cs:Array Value) (s:Bool) (g:Nat) (o:V):Prop where
 ov:Below w.heap.size w wr
 over:Whole wr w.heap.size 60 cs
 by_:Row3 wr (w.heap.size + 1) 3 (bit s) ⟨#[]⟩
 res:Row3 wr (w.heap.size + 2) 0 0 ⟨#[]⟩
 oth:Row3 wr g o.k o.n (tx o.s)
 far:w.heap.size + 3≤g
theorem DecS.call {w wr w':World} {cs:Array Value} {s:Bool} {g:Nat} {o:V} (h:DecS w wr cs s g o) (hb:Below wr.heap.size wr w'):DecS w w' cs s g o:=
 ⟨bstep h.ov hb,h.over.below hb h.over.lt,h.by_.below hb h.by_.lt,h.res.below hb h.res.lt,h.oth.below hb h.oth.lt,h.far⟩
theorem DecS.alloc {w wr:World} {cs:Array Value} {s:Bool} {g:Nat} {o:V} (h:DecS w wr cs s g o) (x:Obj):DecS w (wr.alloc x) cs s g o:=h.call ((Below.refl _ _).alloc (Nat.le_refl _) x)
theorem DecS.set {w wr:World} {cs:Array Value} {s:Bool} {g:Nat} {o:V} (h:DecS w wr cs s g o) (o':V):DecS w (((wr.setCell ⟨g,0,none⟩ (.int .i64 o'.k)).setCell ⟨g,1,none⟩ (.int .i64 o'.n)).setCell ⟨g,2,none⟩ (.string (tx o'.s))) cs s g o':=by
 have hf:=h.far
 have hb:Below (w.heap.size + 3) wr (((wr.setCell ⟨g,0,none⟩ (.int .i64 o'.k)).setCell ⟨g,1,none⟩ (.int .i64 o'.n)).setCell ⟨g,2,none⟩ (.string (tx o'.s))):=(((Below.refl (w.heap.size + 3) wr).setCell (p:=⟨g,0,none⟩) hf _).setCell (p:=⟨g,1,none⟩) hf _).setCell (p:=⟨g,2,none⟩) hf _
 exact ⟨h.ov.trans (hb.mono (by omega)),(hb.block _ (by omega)).trans h.over,(hb.block _ (by omega)).trans h.by_,(hb.block _ (by omega)).trans h.res,h.oth.set3 _ _ _,hf⟩
theorem decided_of {ks:List Tree} (s:Bool) (hX:∀ i (h:i < ks.length),CT C Ac cc W Ar cr w0 ks[i]) (hp:∀ i (h:i < ks.length),Pl (Ev.ev C W ks[i]).v) (hn:ks.length≤1000000) (A:Option Addr) (c:Nat) (w:World) (hb:Below w0.heap.size w0 w) (hk:TreesAt w A 0 ks) :
  Calls Tryz.prog 54 #[ovV C Ac cc W Ar cr,.slice A ks.length c,.agg #[.int .i64 3,.int .i64 (bit s),.string ⟨#[]⟩]] w fun e w'=>e=.returned (outR (Ev.decR s (Ev.tru (!s)) (Ev.evs C W ks)))∧Below w.heap.size w w':=by
 have b0:=(Below.refl w.heap.size w).alloc (Nat.le_refl _) (.cells #[.slice Ac C.length cc,.slice Ar W.length cr] 60)
 have b1:=b0.alloc (by simp) (.cells #[.int .i64 3,.int .i64 (bit s),.string ⟨#[]⟩] 23)
 have b2:=b1.alloc (by simp; omega) (.cells #[.int .i64 0,.int .i64 0,.string ⟨#[]⟩] 23)
 have k0:=((Whole.new w 60 #[.slice Ac C.length cc,.slice Ar W.length cr]).alloc (.cells #[.int .i64 3,.int .i64 (bit s),.string ⟨#[]⟩] 23)).alloc (.cells #[.int .i64 0,.int .i64 0,.string ⟨#[]⟩] 23)
 have r1:=(Row3.new (w.alloc (.cells #[.slice Ac C.length cc,.slice Ar W.length cr] 60)) 3 (bit s) ⟨#[]⟩).alloc (.cells #[.int .i64 0,.int .i64 0,.string ⟨#[]⟩] 23)
 have r2:=Row3.new ((w.alloc (.cells #[.slice Ac C.length cc,.slice Ar W.length cr] 60)).alloc (.cells #[.int .i64 3,.int .i64 (bit s),.string ⟨#[]⟩] 23)) 0 0 ⟨#[]⟩
 simp only [World.size_alloc] at r1 r2
 obtain ⟨W1,hW1⟩:∃ W1,((w.alloc (.cells #[.slice Ac C.length cc,.slice Ar W.length cr] 60)).alloc (.cells #[.int .i64 3,.int .i64 (bit s),.string ⟨#[]⟩] 23)).alloc (.cells #[.int .i64 0,.int .i64 0,.string ⟨#[]⟩] 23)=W1:=⟨_,rfl⟩
 rw [hW1] at b2 k0 r1 r2
 have HKID:=hid (fun i (h:i < ks.length)=>kid_call h (hX i h) hb hk)
 have HP:=hid hp
 have HSN:=hid (same_not s)
 have KB:=hid b2
 have K0:=hid k0
 have R1:=hid r1
 have R2:=hid r2
 obtain ⟨RES,hres⟩:∃ RES,Ev.decR s (Ev.tru (!s)) (Ev.evs C W ks)=RES:=⟨_,rfl⟩
 have HRES:=hid hres
 rw [hres]
 obtain ⟨n,hn'⟩:∃ n,ks.length=n:=⟨_,rfl⟩
 have HN:=hid hn'
 rw [hn'] at hn ⊢
 have hn9:(n:Int)≤1000000:=by omega
 have HEVL:Hid ((Ev.evs C W ks).length=n):=hid (by rw [Ev.evs_len,hn'])
 clear hres hn' hX hp hb hk hn b0 b1
 unfold ovV at *
 obtain ⟨cn,hcn⟩:∃ cn,C.length=cn:=⟨_,rfl⟩
 obtain ⟨wn,hwn⟩:∃ wn,W.length=wn:=⟨_,rfl⟩
 rw [hcn,hwn] at hW1 k0 HKID K0 ⊢
 clear hcn hwn k0 b2 r1 r2
 obtain ⟨y0,y1,y2⟩:=R1.out.holds
 have hs:=HSN.out
 go_enter Tryz.func54,Tryz.ntmps54
 go_upto_region 1 with fail
 have BF:=hid bool_false
 have BO:=hid (fun U=>bool_any (!s) U)
 go_cut [8] from 13 to 16 (fun s8 wc=>∃ g,s8=.pointer (some ⟨g,0,none⟩)∧Hid (Row3 wc g 3 (bit (!s)) ⟨#[]⟩)∧Hid (BW W1 wc)∧W1.heap.size≤g)
 case first=>
  have QD:Hid (BW W1 W1.drew):=hid (Below.refl _ _).drew
  refine wp_region_held_drew (S:=fun U=>BW W1 U) (by kernel_rfl) QD.out (fun _=>?_)
  refine qTk 0 (v:=?_) QD.out ?_ ?_
  rotate_left
  ·(intro W hw; obtain ⟨p0,p1,p2⟩:=(R1.out.below hw R1.out.lt).holds; go_simp; try with_reducible rfl)
  refine qTr2 1 4 (fun K hK=>?_) (fun K hK=>?_)
  ·
   go_simp
   refine (BF.out _).mono ?_
   rintro e V1 ⟨rfl,hv1⟩
   have QV1:=hid (QD.out.call hv1)
   refine hK.out _ _ QV1.out (fun _=>?_)
   clear hK K
   refine qTk 2 (v:=?_) QV1.out ?_ ?_
   rotate_left
   ·(intro W hw; go_simp; try with_reducible rfl)
   refine qTr2 3 4 (fun K hK=>?_) (fun K hK=>?_)
   ·
    go_simp
    refine (BO.out _).mono ?_
    rintro e V2 ⟨rfl,hv2⟩
    have QV2:=hid (QV1.out.call hv2)
    refine hK.out _ _ QV2.out (fun _=>?_)
    clear hK K
    refine qTr1 4 (fun K hK=>?_)
    go_simp
    have QA:=hid (QV2.out.alloc (.cells #[.int .i64 0,.int .i64 0,.string ⟨#[]⟩] 23))
    refine hK.out _ _ QA.out (fun _=>?_)
    clear hK K
    refine qTr1 5 (fun K hK=>?_)
    go_simp
    have QS:=hid (QV2.out.alloc (.cells #[.int .i64 3,.int .i64 (bit (!s)),.string ⟨#[]⟩] 23))
    have FW:=hid (Row3.new V2 3 (bit (!s)) ⟨#[]⟩)
    refine hK.out _ _ QS.out (fun _=>?_)
    clear hK K
    refine wpAnyH_done (by kernel_rfl) ?_ _
    try simp only  [Act.put,List.setIfInBounds_toArray,List.set_cons_zero,List.set_cons_succ]
    go_wp2_with fail
    go_meet
    case rel=>exact ⟨_,rfl,FW,QS,by first | exact Nat.le_refl _ | exact QV1.out.size | exact QV2.out.size⟩
   ·
    go_simp
    have QA:=hid (QV1.out.alloc (.cells #[.int .i64 0,.int .i64 0,.string ⟨#[]⟩] 23))
    refine hK.out _ _ QA.out (fun _=>?_)
    clear hK K
    refine qTr1 3 (fun K hK=>?_)
    go_simp
    refine (BO.out _).mono ?_
    rintro e V2 ⟨rfl,hv2⟩
    have QV2:=hid (QA.out.call hv2)
    have ZB2:=Row3.below (w':=V2) (g:=V1.heap.size) (k:=0) (n:=0) (s:=⟨#[]⟩) (by exact Row3.new V1 0 0 ⟨#[]⟩) hv2 (by simp)
    obtain ⟨z0,z1,z2⟩:=ZB2.holds
    have f0:=ZB2.frozen 0
    have f1:=ZB2.frozen 1
    have f2:=ZB2.frozen 2
    refine hK.out _ _ QV2.out (fun _=>?_)
    clear hK K
    refine qTr1 5 (fun K hK=>?_)
    go_simp
    have QS:=hid (QV2.out.set3 (g:=V1.heap.size) (by exact QV1.out.size) (.int .i64 3) (.int .i64 (bit (!s))) (.string ⟨#[]⟩))
    have FW:=hid (ZB2.set3 3 (bit (!s)) ⟨#[]⟩)
    refine hK.out _ _ QS.out (fun _=>?_)
    clear hK K
    refine wpAnyH_done (by kernel_rfl) ?_ _
    try simp only  [Act.put,List.setIfInBounds_toArray,List.set_cons_zero,List.set_cons_succ]
    go_wp2_with fail
    go_meet
    case rel=>exact ⟨_,rfl,FW,QS,by first | exact Nat.le_refl _ | exact QV1.out.size | exact QV2.out.size⟩
  ·
   go_simp
   have QA:=hid (QD.out.alloc (.cells #[.int .i64 0,.int .i64 0,.string ⟨#[]⟩] 23))
   refine hK.out _ _ QA.out (fun _=>?_)
   clear hK K
   refine qTr1 1 (fun K hK=>?_)
   go_simp
   refine (BF.out _).mono ?_
   rintro e V1 ⟨rfl,hv1⟩
   have QV1:=hid (QA.out.call hv1)
   have ZB1:=Row3.below (w':=V1) (g:=W1.heap.size) (k:=0) (n:=0) (s:=⟨#[]⟩) (by exact Row3.new W1 0 0 ⟨#[]⟩) hv1 (by simp)
   obtain ⟨z0,z1,z2⟩:=ZB1.holds
   have f0:=ZB1.frozen 0
   have f1:=ZB1.frozen 1
   have f2:=ZB1.frozen 2
   refine hK.out _ _ QV1.out (fun _=>?_)
   clear hK K
   refine qTk 2 (v:=?_) QV1.out ?_ ?_
   rotate_left
   ·(intro W hw; go_simp; try with_reducible rfl)
   refine qTr1 3 (fun K hK=>?_)
   go_simp
   refine (BO.out _).mono ?_
   rintro e V2 ⟨rfl,hv2⟩
   have QV2:=hid (QV1.out.call hv2)
   have ZB2:=Row3.below (w':=V2) ZB1 hv2 ZB1.lt
   obtain ⟨z0,z1,z2⟩:=ZB2.holds
   have f0:=ZB2.frozen 0
   have f1:=ZB2.frozen 1
   have f2:=ZB2.frozen 2
   refine hK.out _ _ QV2.out (fun _=>?_)
   clear hK K
   refine qTr1 5 (fun K hK=>?_)
   go_simp
   have QS:=hid (QV2.out.set3 (g:=W1.heap.size) (by exact QD.out.size) (.int .i64 3) (.int .i64 (bit (!s))) (.string ⟨#[]⟩))
   have FW:=hid (ZB2.set3 3 (bit (!s)) ⟨#[]⟩)
   refine hK.out _ _ QS.out (fun _=>?_)
   clear hK K
   refine wpAnyH_done (by kernel_rfl) ?_ _
   try simp only  [Act.put,List.setIfInBounds_toArray,List.set_cons_zero,List.set_cons_succ]
   go_wp2_with fail
   go_meet
   case rel=>exact ⟨_,rfl,FW,QS,by first | exact Nat.le_refl _ | exact QV1.out.size | exact QV2.out.size⟩
 case rest=>
  obtain ⟨g,rfl,HQ,HOR,hg⟩:=hcut
  obtain ⟨W2,rfl⟩:∃ W2,W2=wc:=⟨wc,rfl⟩
  have HDS:Hid (DecS w W2 #[.slice Ac cn cc,.slice Ar wn cr] s g (Ev.tru (!s))):=hid ⟨bstep KB.out HOR.out,K0.out.below HOR.out K0.out.lt,R1.out.below HOR.out R1.out.lt,R2.out.below HOR.out R2.out.lt,by have:=HQ.out; rw [← bit_tru]; exact this,by have:=R2.out.lt; omega⟩
  clear y0 y1 y2 hs hW1 BF BO HQ HOR K0 R1 R2 KB
  go_wp2_with fail
  go_loopg [10,11,12,19] (n + 1) (fun j s10 s11 s12 s19 wr=>∃ (i:Nat) (o:V),i≤n∧n < i + j∧s19=.int .i64 (i:Nat)∧Hid (DecS w wr #[.slice Ac cn cc,.slice Ar wn cr] s g o)∧Hid (RES=Ev.decR s o ((Ev.evs C W ks).drop i)))
  case atStart=>exact ⟨0,_,by omega,by omega,rfl,HDS,hid (by rw [← HRES.out]; rfl)⟩
  case round=>
   obtain ⟨i,o,hi,hj,rfl,HD,HE⟩:=hrel
   clear HDS
   by_cases hlt:i < n
   ·have hlt':(i:Int) < (n:Int):=by omega
    have hik:i < ks.length:=by rw [HN.out]; exact hlt
    obtain ⟨kb,ko,o1,t1,k1,n1,s1,m1,B1,c1,rfl,hkb,hc,-,CX⟩:=HKID.out i hik
    obtain ⟨p0,p1,p2,p3,p4,p5⟩:=hc wr HD.out.ov
    have HDR:=hid (evs_drop (C:=C) (W:=W) ks i hik)
    have HPX:=hid (truth_pl (HP.out i hik))
    obtain ⟨x,hx⟩:∃ x,Ev.ev C W ks[i]=x:=⟨_,rfl⟩
    rw [hx] at CX HDR HPX
    have TR:=hid (fun U=>truth_any x U)
    have HST:Hid (RES=if (Ev.truthR x).e=0 then (if (Ev.truthR x).v.k=3∧(Ev.truthR x).v.n=bit s then Ev.ok (Ev.tru s) else Ev.decR s (if (Ev.truthR x).v.k=0 then Ev.z else o) ((Ev.evs C W ks).drop (i + 1))) else Ev.err (Ev.truthR x).e):=hid (by rw [HE.out,HDR.out,Ev.decR])
    obtain ⟨q,hq⟩:∃ q,Ev.truthR x=q:=⟨_,rfl⟩
    rw [hq] at TR HST HPX
    unfold ncells at *
    have HCX:=hid (CX _ (HD.out.alloc (.cells #[.int .i64 o1,.string (tx t1),.int .i64 k1,.int .i64 n1,.string (tx s1),.slice B1 m1 c1] 26)).ov)
    have HD1:=hid (HD.out.alloc (.cells #[.int .i64 o1,.string (tx t1),.int .i64 k1,.int .i64 n1,.string (tx s1),.slice B1 m1 c1] 26))
    have x0:=HD1.out.over.cell 0
    have x1:=HD1.out.over.cell 1
    simp only [List.getElem?_toArray,List.getElem?_cons_zero,List.getElem?_cons_succ] at x0 x1
    obtain ⟨e0,e1,e2,e3,e4,e5⟩:=six_of (Whole.new wr 26 (ncells o1 t1 k1 n1 s1 B1 m1 c1))
    unfold ncells at *
    obtain ⟨⟨xk,xn,xs_⟩,xe⟩:=x
    obtain ⟨⟨qk,qn,qs_⟩,qe⟩:=q
    unfold outR vv vcells at *
    dsimp only at *
    clear hx hq hc CX HE HDR
    have hwr:wr.heap.size < (wr.alloc (.cells #[.int .i64 o1,.string (tx t1),.int .i64 k1,.int .i64 n1,.string (tx s1),.slice B1 m1 c1] 26)).heap.size:=by simp
    go_wp2_with fail
    refine HCX.out.mono ?_
    rintro e V1 ⟨rfl,hv1⟩
    have HD2:=hid (HD1.out.call hv1)
    clear x0 x1 p0 p1 p2 p3 p4 p5 e0 e1 e2 e3 e4 e5 hv1 HCX
    go_wp2_with fail
    refine (TR.out _).mono ?_
    rintro e V2 ⟨rfl,hv2⟩
    have HD3:=hid ((HD2.out.call hv2).alloc (.cells #[.int .i64 qk,.int .i64 qn,.string (tx qs_)] 23))
    have HQ3:=hid (Row3.new V2 qk qn (tx qs_))
    obtain ⟨V3,hV3⟩:∃ V3,V2.alloc (.cells #[.int .i64 qk,.int .i64 qn,.string (tx qs_)] 23)=V3:=⟨_,rfl⟩
    rw [hV3] at HD3 HQ3
    have hlt3:=HQ3.out.lt
    obtain ⟨q0,q1,q2⟩:=HQ3.out.holds
    obtain ⟨y0,y1,y2⟩:=HD3.out.by_.holds
    obtain ⟨d0,d1,d2⟩:=HD3.out.res.holds
    have f0:=HD3.out.res.frozen 0
    have f1:=HD3.out.res.frozen 1
    have f2:=HD3.out.res.frozen 2
    have hfar:=HD3.out.far
    clear hv2 TR HD HD1 HD2
    by_cases h:qe=0
    ·have h':(qe != 0)=false:=by simpa using h
     have hs:=same_b HPX.out (bit s)
     dsimp only at hs
     cases hd:decide (qk=3∧qn=bit s)
     ·rw [hd] at hs
      have HST2:Hid (RES=Ev.decR s (if qk=0 then Ev.z else o) ((Ev.evs C W ks).drop (i + 1))):=hid (by rw [HST.out,if_pos h,if_neg (of_decide_eq_false hd)])
      have hz:=same_z HPX.out
      dsimp only at hz
      clear HST h hd
      have NU:=hid (fun U (hU:Below V3.heap.size V3 U)=>call_over hU (null_any U))
      have QQ:Hid (∀ U,Below V3.heap.size V3 U→Holds3 U V2.heap.size qk qn (tx qs_)):=hid (fun U hU=>(HQ3.out.below hU HQ3.out.lt).holds)
      cases hd0:decide (qk=0)
      ·rw [hd0] at hz
       have HST3:Hid (RES=Ev.decR s o ((Ev.evs C W ks).drop (i + 1))):=hid (by rw [HST2.out,if_neg (of_decide_eq_false hd0)])
       clear HST2 hd0
       go_upto_region 10 with fail
       go_region_with (go_at_call 26; refine (NU.out _ (by first | exact below_drewN (Below.refl _ _) _ | exact (Below.refl _ _).drew | exact Below.refl _ _)).mono ?_; rintro e V4 ⟨rfl,hb4⟩; obtain ⟨z0,z1,z2⟩:=QQ.out V4 hb4; have HD4:=hid (HD3.out.call hb4))
       all_goals
        clear z0 z1 z2 y0 y1 y2 d0 d1 d2 f0 f1 f2 q0 q1 q2
        go_wp2_with fail
        go_roundg (n - i)
        case measure=>omega
        case rel=>exact ⟨i + 1,o,by omega,by omega,by go_num,HD4,HST3⟩
      ·rw [hd0] at hz
       have HST3:Hid (RES=Ev.decR s Ev.z ((Ev.evs C W ks).drop (i + 1))):=hid (by rw [HST2.out,if_pos (of_decide_eq_true hd0)])
       clear HST2 hd0
       go_upto_region 10 with fail
       go_region_with (go_at_call 26; refine (NU.out _ (by first | exact below_drewN (Below.refl _ _) _ | exact (Below.refl _ _).drew | exact Below.refl _ _)).mono ?_; rintro e V4 ⟨rfl,hb4⟩; obtain ⟨z0,z1,z2⟩:=QQ.out V4 hb4; have HD4:=hid (HD3.out.call hb4))
       all_goals
        clear z0 z1 z2 y0 y1 y2 d0 d1 d2 f0 f1 f2 q0 q1 q2
        go_wp2_with fail
        refine (null_any _).mono ?_
        rintro e V5 ⟨rfl,hb5⟩
        have HD5:=hid (HD4.out.call hb5)
        obtain ⟨g0,g1,g2⟩:=HD5.out.oth.holds
        have f0:=HD5.out.oth.frozen 0
        have f1:=HD5.out.oth.frozen 1
        have f2:=HD5.out.oth.frozen 2
        have HD6:=hid (HD5.out.set Ev.z)
        clear hb5
        go_wp2_with fail
        go_roundg (n - i)
        case measure=>omega
        case rel=>exact ⟨i + 1,Ev.z,by omega,by omega,by go_num,HD6,HST3⟩
     ·rw [hd] at hs
      have HR:Hid (RES=Ev.ok (Ev.tru s)):=hid (by rw [HST.out,if_pos h,if_pos (of_decide_eq_true hd)])
      clear HST h hd
      go_wp2_with fail
      exact fin_R Tryz.results54 rfl rfl rfl HD3.out.res HD3.out.ov (by omega) (by rw [HR.out,← bit_tru]; rfl)
    ·have h':(qe != 0)=true:=by simpa using h
     have HR:Hid (RES=Ev.err qe):=hid (by rw [HST.out,if_neg h])
     clear HST h y0 y1 y2 d0 d1 d2 f0 f1 f2 q0 q1 q2
     go_wp2_with fail
     refine (efail_any _ _).mono ?_
     rintro e V4 ⟨rfl,hb4⟩
     have HD4:=hid (HD3.out.call hb4)
     clear hb4
     obtain ⟨d0,d1,d2⟩:=HD4.out.res.holds
     have f0:=HD4.out.res.frozen 0
     have f1:=HD4.out.res.frozen 1
     have f2:=HD4.out.res.frozen 2
     unfold outR vv vcells Ev.err Ev.z
     go_wp2_with fail
     exact fin_R Tryz.results54 rfl rfl rfl HD4.out.res HD4.out.ov (by omega) (by rw [HR.out]; rfl)
   ·have hlt':¬ (i:Int) < (n:Int):=by omega
    have HR:Hid (RES=Ev.ok o):=hid (by rw [HE.out,List.drop_of_length_le (by rw [HEVL.out]; omega)]; rfl)
    obtain ⟨g0,g1,g2⟩:=HD.out.oth.holds
    obtain ⟨d0,d1,d2⟩:=HD.out.res.holds
    have f0:=HD.out.res.frozen 0
    have f1:=HD.out.res.frozen 1
    have f2:=HD.out.res.frozen 2
    clear HE
    go_wp2_with fail
    exact fin_R Tryz.results54 rfl rfl rfl HD.out.res HD.out.ov (by omega) (by rw [HR.out]; rfl)
end Go.Proofs.YteghhmomhlnccaaGreatDoor
