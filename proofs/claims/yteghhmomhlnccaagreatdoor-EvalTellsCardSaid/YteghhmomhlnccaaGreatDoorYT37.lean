import Derived.Test.YteghhmomhlnccaaGreatDoorYT32
import Derived.Test.YteghhmomhlnccaaGreatDoorYT34
import Derived.Test.YteghhmomhlnccaaGreatDoorYT35
import Derived.Test.YteghhmomhlnccaaGreatDoorYT36
import Derived.Test.YteghhmomhlnccaaGreatDoorYT23
set_option linter.unusedVariables false
set_option linter.unusedSimpArgs false
set_option maxRecDepth 100000
set_option maxHeartbeats 100000000
open Go.RowKit Go.Lib
namespace Go.Proofs.YteghhmomhlnccaaGreatDoor
attribute [local go_sem ↓] eqVal neqVal
open Ex (Tree)
open Ev (V R Pl)
variable {C : List Col} {Ac : Option Addr} {cc : Nat} {W : List V} {Ar : Option Addr} {cr : Nat} {w0 : World}
def RT (C:List Col) (Ac:Option Addr) (cc:Nat) (W:List V) (Ar:Option Addr) (cr:Nat) (w0:World) (T:Tree):Prop:=
 ∀ v w,Below w0.heap.size w0 w→NodeV w v T→Calls Tryz.prog 17 #[v,.slice Ac C.length cc,.slice Ar W.length cr] w fun e w'=>e=.returned (outR (Ev.ev C W T))∧Below w.heap.size w w'
theorem kid_callR {ks:List Tree} {i:Nat} (hi:i < ks.length) (hX:RT C Ac cc W Ar cr w0 ks[i]) {A:Option Addr} {w1:World} (hb:Below w0.heap.size w0 w1) (hk:TreesAt w1 A 0 ks) :
  ∃ kb ko o1 t1 k1 n1 s1 m1 B1 c1,A=some ⟨kb,ko,none⟩∧kb < w1.heap.size ∧
   (∀ U,Below w1.heap.size w1 U→(U.cell? ⟨kb,ko + i * 6,none⟩=some (.int .i64 o1)∧U.cell? ⟨kb,ko + i * 6 + 1,none⟩=some (.string (tx t1))∧U.cell? ⟨kb,ko + i * 6 + 2,none⟩=some (.int .i64 k1)∧U.cell? ⟨kb,ko + i * 6 + 3,none⟩=some (.int .i64 n1)∧U.cell? ⟨kb,ko + i * 6 + 4,none⟩=some (.string (tx s1))∧U.cell? ⟨kb,ko + i * 6 + 5,none⟩=some (.slice B1 m1 c1))) ∧
   (∀ U,Below w1.heap.size w1 U→Calls Tryz.prog 17 #[.agg (ncells o1 t1 k1 n1 s1 B1 m1 c1),.slice Ac C.length cc,.slice Ar W.length cr] U fun e w'=>e=.returned (outR (Ev.ev C W ks[i]))∧Below U.heap.size U w'):=by
 obtain ⟨kb,ko,e,hk1⟩:=hk.get i hi
 obtain ⟨op,t,vk,vn,vs,l,he⟩:∃ op t vk vn vs l,ks[i]=.node op t vk vn vs l:=by
  cases hh:ks[i] with
  | node op t vk vn vs l=>exact ⟨op,t,vk,vn,vs,l,rfl⟩
 rw [he] at hk1
 obtain ⟨h0,h1,h2,h3,h4,h5,B,n,h6,h7,h8⟩:=hk1.node
 have nv:∀ U,Below w1.heap.size w1 U→NodeV U (.agg (ncells op t vk vn vs B l.length n)) ks[i]:=fun U hU=>by rw [he]; exact ⟨B,n,rfl,h7,h8.below hU⟩
 exact ⟨kb,ko,op,t,vk,vn,vs,l.length,B,n,e,h0,fun W hW=>⟨(hW.cell (p:=⟨kb,ko + i * 6,none⟩) h0).trans h1,(hW.cell (p:=⟨kb,ko + i * 6 + 1,none⟩) h0).trans h2,(hW.cell (p:=⟨kb,ko + i * 6 + 2,none⟩) h0).trans h3,(hW.cell (p:=⟨kb,ko + i * 6 + 3,none⟩) h0).trans h4,(hW.cell (p:=⟨kb,ko + i * 6 + 4,none⟩) h0).trans h5,(hW.cell (p:=⟨kb,ko + i * 6 + 5,none⟩) h0).trans h6⟩,fun U hU=>hX _ _ (bstep hb hU) (nv U hU)⟩
def RS (w W:World) (ns:Array Value):Prop:=Below w.heap.size w W∧Whole W w.heap.size 26 ns∧Row3 W (w.heap.size + 1) 0 0 ⟨#[]⟩∧Row3 W (w.heap.size + 1 + 1) 0 0 ⟨#[]⟩
theorem RS.call {w W W':World} {ns:Array Value} (h:RS w W ns) (hb:Below W.heap.size W W'):RS w W' ns:=⟨bstep h.1 hb,h.2.1.below hb h.2.1.lt,h.2.2.1.below hb h.2.2.1.lt,h.2.2.2.below hb h.2.2.2.lt⟩
theorem RS.new (w:World) (ns:Array Value):RS w (((w.alloc (.cells ns 26)).alloc (.cells #[.int .i64 0,.int .i64 0,.string ⟨#[]⟩] 23)).alloc (.cells #[.int .i64 0,.int .i64 0,.string ⟨#[]⟩] 23)) ns:=
 ⟨(((Below.refl w.heap.size w).alloc (Nat.le_refl _) _).alloc (by simp) _).alloc (by simp; omega) _,((Whole.new w 26 ns).alloc _).alloc _,by have h:=(Row3.new (w.alloc (.cells ns 26)) 0 0 ⟨#[]⟩).alloc (.cells #[.int .i64 0,.int .i64 0,.string ⟨#[]⟩] 23); rw [World.size_alloc] at h; exact h,by have h:=Row3.new ((w.alloc (.cells ns 26)).alloc (.cells #[.int .i64 0,.int .i64 0,.string ⟨#[]⟩] 23)) 0 0 ⟨#[]⟩; rw [World.size_alloc,World.size_alloc] at h; exact h⟩
theorem RS.res {w W:World} {ns:Array Value} (h:RS w W ns):Holds3 W (w.heap.size + 1) 0 0 ⟨#[]⟩∧W.frozen? ⟨w.heap.size + 1,0,none⟩=false∧W.frozen? ⟨w.heap.size + 1,1,none⟩=false∧W.frozen? ⟨w.heap.size + 1,2,none⟩=false:=⟨h.2.2.1.holds,h.2.2.1.frozen 0,h.2.2.1.frozen 1,h.2.2.1.frozen 2⟩
open Ev in
def Ev.dec2 (s:Bool) (a b:R):R:=if a.e=0 then logic s a.v b else err a.e
open Ev in
def Ev.app2 (op:Int) (t:List UInt8) (a b:R):R:=if a.e=0 then (if b.e=0 then (if a.v.k=0∨b.v.k=0 then ok z else if op=5 then bin t a.v b.v else side t a.v b.v) else err b.e) else err a.e
open Ev in
def Ev.app1 (op:Int) (t:List UInt8) (a:R):R:=if a.e=0 then (if a.v.k=0 then ok z else un op t a.v) else err a.e
open Ev in
theorem Ev.comb_two {op:Int} {t:List UInt8} (a b:R) (h0:¬ t=[111,114]) (h1:¬ t=[97,110,100]) (h2:¬ t=[105,115,110,117,108,108]) (h3:¬ t=[110,118,108]) (h4:¬ t=[105,102]):comb op t [a,b]=app2 op t a b:=by
 unfold comb app2
 simp [h0,h1,h2,h3,h4]
open Ev in
theorem Ev.comb_one {op:Int} {t:List UInt8} (a:R) (h0:¬ t=[111,114]) (h1:¬ t=[97,110,100]) (h2:¬ t=[105,115,110,117,108,108]) (h3:¬ t=[110,118,108]) (h4:¬ t=[105,102]):comb op t [a]=app1 op t a:=by
 unfold comb app1
 simp [h0,h1,h2,h3,h4]
theorem RS.set3 {w W:World} {ns:Array Value} (h:RS w W ns) {g:Nat} (hg:w.heap.size + 1 + 1 + 1≤g) (a b c:Value):RS w (((W.setCell ⟨g,0,none⟩ a).setCell ⟨g,1,none⟩ b).setCell ⟨g,2,none⟩ c) ns:=by
 have hb:Below (w.heap.size + 1 + 1 + 1) W (((W.setCell ⟨g,0,none⟩ a).setCell ⟨g,1,none⟩ b).setCell ⟨g,2,none⟩ c):=(((Below.refl (w.heap.size + 1 + 1 + 1) W).setCell (p:=⟨g,0,none⟩) hg a).setCell (p:=⟨g,1,none⟩) hg b).setCell (p:=⟨g,2,none⟩) hg c
 exact ⟨h.1.trans (hb.mono (by omega)),(hb.block _ (by omega)).trans h.2.1,(hb.block _ (by omega)).trans h.2.2.1,(hb.block _ (by omega)).trans h.2.2.2⟩
theorem row3_off {w:World} {g g2:Nat} {k n:Int} {s:ByteArray} (h:Row3 w g2 k n s) (hne:g2 < g) (a b c:Value):Row3 (((w.setCell ⟨g,0,none⟩ a).setCell ⟨g,1,none⟩ b).setCell ⟨g,2,none⟩ c) g2 k n s:=by
 have hb:Below g w (((w.setCell ⟨g,0,none⟩ a).setCell ⟨g,1,none⟩ b).setCell ⟨g,2,none⟩ c):=(((Below.refl g w).setCell (p:=⟨g,0,none⟩) (Nat.le_refl _) a).setCell (p:=⟨g,1,none⟩) (Nat.le_refl _) b).setCell (p:=⟨g,2,none⟩) (Nat.le_refl _) c
 exact (hb.block _ hne).trans h
theorem Ev.app2_err {op:Int} {t:List UInt8} {x y:R} (h:x.e=0) (h2:¬ y.e=0):Ev.app2 op t x y=⟨⟨0,0,[]⟩,y.e⟩:=by rw [Ev.app2,if_pos h,if_neg h2]; rfl
theorem Ev.app2_null {op:Int} {t:List UInt8} {x y:R} (h:x.e=0) (h2:y.e=0) (h3:x.v.k=0∨y.v.k=0):Ev.app2 op t x y=⟨⟨0,0,[]⟩,0⟩:=by rw [Ev.app2,if_pos h,if_pos h2,if_pos h3]; rfl
theorem Ev.app2_mark {t:List UInt8} {x y:R} (h:x.e=0) (h2:y.e=0) (h3:¬ (x.v.k=0∨y.v.k=0)):Ev.app2 5 t x y=Ev.bin t x.v y.v:=by rw [Ev.app2,if_pos h,if_pos h2,if_neg h3,if_pos rfl]
theorem Ev.app2_side {t:List UInt8} {x y:R} (h:x.e=0) (h2:y.e=0) (h3:¬ (x.v.k=0∨y.v.k=0)):Ev.app2 6 t x y=Ev.side t x.v y.v:=by rw [Ev.app2,if_pos h,if_pos h2,if_neg h3,if_neg (by decide)]
theorem Ev.app1_null {op:Int} {t:List UInt8} {x:R} (h:x.e=0) (h3:x.v.k=0):Ev.app1 op t x=⟨⟨0,0,[]⟩,0⟩:=by rw [Ev.app1,if_pos h,if_pos h3]; rfl
theorem Ev.app1_un {op:Int} {t:List UInt8} {x:R} (h:x.e=0) (h3:¬ x.v.k=0):Ev.app1 op t x=Ev.un op t x.v:=by rw [Ev.app1,if_pos h,if_neg h3]
theorem rbin_any (t:List UInt8) (a b:V) (w:World) (ha:Pl a) (hb:Pl b):Calls Tryz.prog 39 #[.string (tx t),vv a,vv b] w fun e w'=>e=.returned (outR (Ev.bin t a b))∧Below w.heap.size w w':=by
 by_cases h:Ex.lev t=3
 ·exact rbin_cmp t a b w ha hb h
 ·by_cases h6:t=[38]
  ·subst h6; exact rbin_and a b w ha hb
  ·exact rbin_num t a b w ha hb h h6
theorem Ev.comb_bad {op:Int} {t:List UInt8} {a:R} {l:List R} (h:¬ a.e=0):Ev.comb op t (a :: l)=⟨⟨0,0,[]⟩,a.e⟩:=by
 unfold Ev.comb
 simp [h,Ev.err,Ev.z]
theorem kidsR {ks:List Tree} (hX:∀ i (h:i < ks.length),RT C Ac cc W Ar cr w0 ks[i]) {A:Option Addr} {w1:World} (hb:Below w0.heap.size w0 w1) (hk:TreesAt w1 A 0 ks) (hn:0 < ks.length) :
  ∃ kb ko,A=some ⟨kb,ko,none⟩∧∀ i (h:i < ks.length),∃ o1 t1 k1 n1 s1 m1 B1 c1,
   (∀ U,Below w1.heap.size w1 U→(U.cell? ⟨kb,ko + i * 6,none⟩=some (.int .i64 o1)∧U.cell? ⟨kb,ko + i * 6 + 1,none⟩=some (.string (tx t1))∧U.cell? ⟨kb,ko + i * 6 + 2,none⟩=some (.int .i64 k1)∧U.cell? ⟨kb,ko + i * 6 + 3,none⟩=some (.int .i64 n1)∧U.cell? ⟨kb,ko + i * 6 + 4,none⟩=some (.string (tx s1))∧U.cell? ⟨kb,ko + i * 6 + 5,none⟩=some (.slice B1 m1 c1))) ∧
   (∀ U,Below w1.heap.size w1 U→Calls Tryz.prog 17 #[.agg (ncells o1 t1 k1 n1 s1 B1 m1 c1),.slice Ac C.length cc,.slice Ar W.length cr] U fun e w'=>e=.returned (outR (Ev.ev C W ks[i]))∧Below U.heap.size U w'):=by
 obtain ⟨kb,ko,_,_,_,_,_,_,_,_,rfl,-,-,-⟩:=kid_callR hn (hX 0 hn) hb hk
 refine ⟨kb,ko,rfl,fun i hi=>?_⟩
 obtain ⟨kb',ko',o1,t1,k1,n1,s1,m1,B1,c1,e,-,h1,h2⟩:=kid_callR hi (hX i hi) hb hk
 cases e
 exact ⟨o1,t1,k1,n1,s1,m1,B1,c1,h1,h2⟩
end Go.Proofs.YteghhmomhlnccaaGreatDoor
namespace Go.Proofs.YteghhmomhlnccaaGreatDoor
attribute [local go_sem ↓] eqVal neqVal
open Ex (Tree)
open Ev (V R Pl)
variable {C : List Col} {Ac : Option Addr} {cc : Nat} {W : List V} {Ar : Option Addr} {cr : Nat} {w0 : World}
theorem rt_val {ks:List Tree} {op vk vn:Int} {t vs:List UInt8} (hX:∀ i (h:i < ks.length),RT C Ac cc W Ar cr w0 ks[i]) (hp:∀ i (h:i < ks.length),Pl (Ev.ev C W ks[i]).v) (hA:ColsAt w0 Ac C) (hV:ValsAt w0 Ar W) (hC:C.length≤1000000) (hl:W.length=C.length) (hc:op=1):RT C Ac cc W Ar cr w0 (.node op t vk vn vs ks):=by
 intro v w hb hv
 subst hc
 obtain ⟨A,c,rfl,hcc,hk⟩:=hv
 have Q1:=RS.new w (ncells 1 t vk vn vs A ks.length c)
 obtain ⟨W1,hW1⟩:∃ W1,(w.alloc (.cells (ncells 1 t vk vn vs A ks.length c) 26)).alloc (.cells #[.int .i64 0,.int .i64 0,.string ⟨#[]⟩] 23)=W1:=⟨_,rfl⟩
 rw [hW1] at Q1
 obtain ⟨RES,hres⟩:∃ RES,Ev.ev C W (.node 1 t vk vn vs ks)=RES:=⟨_,rfl⟩
 rw [hres]
 have hr:RES=Ev.ok ⟨vk,vn,vs⟩:=by rw [← hres,Ev.ev,if_pos rfl]
 subst hr
 unfold outR vv vcells ncells at *
 try dsimp only at *
 clear hX hp hA hV hC hl hb hk hcc hres
 generalize C.length=cn at *
 generalize W.length=wn at *
 generalize ks.length=kn at *
 go_enter Tryz.func17,Tryz.ntmps17
 go_upto_region 2 with fail
 have hsz:W1.heap.size=w.heap.size + 1 + 1:=by rw [← hW1]; simp
 rw [hsz]
 obtain ⟨W2,hW2⟩:∃ W2,W1.alloc (.cells #[.int .i64 0,.int .i64 0,.string ⟨#[]⟩] 23)=W2:=⟨_,rfl⟩
 rw [hW2] at Q1 ⊢
 clear hW1 hW2 hsz
 have S1:=hid Q1
 obtain ⟨c0,c1,c2,c3,c4,c5⟩:=six_of Q1.2.1
 obtain ⟨⟨d0,d1,d2⟩,f0,f1,f2⟩:=Q1.res
 clear Q1
 go_wp2_with fail
 exact fin_R Tryz.results17 rfl rfl rfl S1.out.2.2.1 S1.out.1 (by omega) rfl
end Go.Proofs.YteghhmomhlnccaaGreatDoor
namespace Go.Proofs.YteghhmomhlnccaaGreatDoor
attribute [local go_sem ↓] eqVal neqVal
open Ex (Tree)
open Ev (V R Pl)
variable {C : List Col} {Ac : Option Addr} {cc : Nat} {W : List V} {Ar : Option Addr} {cr : Nat} {w0 : World}
theorem rt_name {ks:List Tree} {op vk vn:Int} {t vs:List UInt8} (hX:∀ i (h:i < ks.length),RT C Ac cc W Ar cr w0 ks[i]) (hp:∀ i (h:i < ks.length),Pl (Ev.ev C W ks[i]).v) (hA:ColsAt w0 Ac C) (hV:ValsAt w0 Ar W) (hC:C.length≤1000000) (hl:W.length=C.length) (hc:op=2):RT C Ac cc W Ar cr w0 (.node op t vk vn vs ks):=by
 intro v w hb hv
 subst hc
 obtain ⟨A,c,rfl,hcc,hk⟩:=hv
 have Q1:=RS.new w (ncells 2 t vk vn vs A ks.length c)
 obtain ⟨W1,hW1⟩:∃ W1,(w.alloc (.cells (ncells 2 t vk vn vs A ks.length c) 26)).alloc (.cells #[.int .i64 0,.int .i64 0,.string ⟨#[]⟩] 23)=W1:=⟨_,rfl⟩
 rw [hW1] at Q1
 obtain ⟨RES,hres⟩:∃ RES,Ev.ev C W (.node 2 t vk vn vs ks)=RES:=⟨_,rfl⟩
 rw [hres]
 have HRN:Hid (Kd.ix C t=none→RES=⟨⟨0,0,[]⟩,9⟩):=hid (fun h=>by rw [← hres,Ev.ev,if_neg (by decide),if_pos rfl,h]; rfl)
 have HRS:Hid (∀ i,Kd.ix C t=some i→RES=⟨W.getD i Ev.z,0⟩):=hid (fun i h=>by rw [← hres,Ev.ev,if_neg (by decide),if_pos rfl,h]; rfl)
 have FD:=hid (fun U (hU:Below w.heap.size w U)=>refFind_any C t Ac cc U (hA.below (bstep hb hU)) hC)
 have HVW:=hid (fun U (hU:Below w.heap.size w U)=>hV.below (bstep hb hU))
 have HLL:=hid hl
 have HL9:=hid hC
 unfold ncells at *
 clear hX hp hA hV hC hl hb hk hcc hres
 generalize ks.length=kn at *
 obtain ⟨cn,hcn⟩:∃ cn,C.length=cn:=⟨_,rfl⟩
 obtain ⟨wn,hwn⟩:∃ wn,W.length=wn:=⟨_,rfl⟩
 have HCN:=hid hcn
 have HWN:=hid hwn
 rw [hcn] at FD ⊢
 rw [hwn]
 clear hcn hwn
 go_enter Tryz.func17,Tryz.ntmps17
 go_upto_region 2 with fail
 have hsz:W1.heap.size=w.heap.size + 1 + 1:=by rw [← hW1]; simp
 rw [hsz]
 obtain ⟨W2,hW2⟩:∃ W2,W1.alloc (.cells #[.int .i64 0,.int .i64 0,.string ⟨#[]⟩] 23)=W2:=⟨_,rfl⟩
 rw [hW2] at Q1 ⊢
 clear hW1 hW2 hsz
 have S1:=hid Q1
 obtain ⟨c0,c1,c2,c3,c4,c5⟩:=six_of Q1.2.1
 obtain ⟨⟨d0,d1,d2⟩,f0,f1,f2⟩:=Q1.res
 clear Q1
 have FD2:=hid (FD.out _ S1.out.1)
 cases hx:Kd.ix C t with
 | none=>
  have HR:=hid (HRN.out hx)
  rw [hx] at FD2
  clear hx
  obtain ⟨l0,l1,l2⟩:=S1.out.2.2.2.holds
  go_wp2_with fail
  refine FD2.out.mono ?_
  rintro e V ⟨rfl,hv⟩
  subst hv
  unfold Kd.ixV
  go_wp2_with fail
  exact fin_R (r:=RES) Tryz.results17 rfl rfl rfl (by exact S1.out.2.2.1) S1.out.1 (by omega) (by first | (rw [HR.out]; done) | (rw [HR.out]; rfl))
 | some i=>
  have HR0:=hid (HRS.out i hx)
  rw [hx] at FD2
  obtain ⟨hiC,-,-⟩:=Kd.ix_spec hx
  have hiW:i < W.length:=by have:=HLL.out; omega
  obtain ⟨b,o,rfl,hbb,x0,x1,x2⟩:=(HVW.out _ S1.out.1) i hiW
  obtain ⟨x,hx'⟩:∃ x,W[i]=x:=⟨_,rfl⟩
  have HR:Hid (RES=⟨⟨x.k,x.n,x.s⟩,0⟩):=hid (by rw [HR0.out,List.getD_eq_getElem?_getD,List.getElem?_eq_getElem hiW,hx']; rfl)
  rw [hx'] at x0 x1 x2
  obtain ⟨xk,xn,xs⟩:=x
  dsimp only at *
  have hi1:i < wn:=by have:=HWN.out; omega
  have hi2:(i:Int) < (wn:Int):=by omega
  have hi0:¬ (i:Int) < 0:=by omega
  clear hx HR0 hiC hiW hx' hbb
  go_wp2_with fail
  refine FD2.out.mono ?_
  rintro e V ⟨rfl,hv⟩
  subst hv
  unfold Kd.ixV
  go_wp2_with fail
  exact fin_R (r:=RES) Tryz.results17 rfl rfl rfl (by exact S1.out.2.2.1) S1.out.1 (by omega) (by first | (rw [HR.out]; done) | (rw [HR.out]; rfl))
end Go.Proofs.YteghhmomhlnccaaGreatDoor
