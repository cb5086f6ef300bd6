import Derived.Test.YteghhmomhlnccaaGreatDoorYT22
import Derived.Test.YteghhmomhlnccaaGreatDoorYT1
set_option linter.unusedVariables false
set_option linter.unusedSimpArgs false
set_option maxRecDepth 100000
set_option maxHeartbeats 100000000
open Go.RowKit Go.Lib
namespace Go.Proofs.YteghhmomhlnccaaGreatDoor
open Ex (Tree)
open Ev (V R Pl)
theorem node_is {op:Int} {t:List UInt8} {vk vn:Int} {vs:List UInt8} {n:Nat} (h:nodeB op t vk vn vs n=true) (h1:¬ op=1) (h2:¬ op=2) :
  (op=5∧t=[111,114]∧n=2)∨(op=5∧t=[97,110,100]∧n=2)∨(op=6∧t=[105,115,110,117,108,108]∧n=1)∨(op=6∧t=[110,118,108]∧n=2)∨(op=6∧t=[105,102]∧n=3) ∨
  (Ev.AllN op t n∧¬ t=[111,114]∧¬ t=[97,110,100]∧¬ t=[105,115,110,117,108,108]∧¬ t=[110,118,108]∧¬ t=[105,102]):=by
 rw [nodeB,if_neg h1,if_neg h2] at h
 by_cases h3:op=3∨op=4
 ·rw [if_pos h3] at h
  simp only [Bool.and_eq_true,List.isEmpty_iff,beq_iff_eq] at h
  obtain ⟨ht,-,hn⟩:=h
  subst ht
  exact .inr (.inr (.inr (.inr (.inr ⟨.inl ⟨h3,by omega⟩,by simp,by simp,by simp,by simp,by simp⟩))))
 ·rw [if_neg h3] at h
  by_cases h5:op=5
  ·rw [if_pos h5] at h
   simp only [Bool.and_eq_true,beq_iff_eq,Bool.not_eq_true',beq_eq_false_iff_ne] at h
   obtain ⟨ht,-,hn⟩:=h
   have hn2:n=2:=by omega
   by_cases e0:t=[111,114]
   ·exact .inl ⟨h5,e0,hn2⟩
   by_cases e1:t=[97,110,100]
   ·exact .inr (.inl ⟨h5,e1,hn2⟩)
   refine .inr (.inr (.inr (.inr (.inr ⟨.inr (.inl ⟨h5,hn2⟩),e0,e1,?_,?_,?_⟩))))
   all_goals (intro e; subst e; exact ht rfl)
  ·rw [if_neg h5] at h
   by_cases h6:op=6
   ·rw [if_pos h6,Bool.and_eq_true,beq_iff_eq] at h
    obtain ⟨hn,-⟩:=h
    by_cases e0:t=[105,115,110,117,108,108]
    ·exact .inr (.inr (.inl ⟨h6,e0,by have:Ex.arity [105,115,110,117,108,108]=1:=rfl; rw [e0] at hn; omega⟩))
    by_cases e1:t=[110,118,108]
    ·exact .inr (.inr (.inr (.inl ⟨h6,e1,by have:Ex.arity [110,118,108]=2:=rfl; rw [e1] at hn; omega⟩)))
    by_cases e2:t=[105,102]
    ·exact .inr (.inr (.inr (.inr (.inl ⟨h6,e2,by have:Ex.arity [105,102]=3:=rfl; rw [e2] at hn; omega⟩))))
    have hall:Ev.AllN op t n:=by
     by_cases a0:t=[108,101,110]
     ·exact .inr (.inr (.inl ⟨h6,by have:Ex.arity [108,101,110]=1:=rfl; rw [a0] at hn; omega,.inl a0⟩))
     by_cases a1:t=[115,116,114]
     ·exact .inr (.inr (.inl ⟨h6,by have:Ex.arity [115,116,114]=1:=rfl; rw [a1] at hn; omega,.inr (.inl a1)⟩))
     by_cases a2:t=[110,117,109]
     ·exact .inr (.inr (.inl ⟨h6,by have:Ex.arity [110,117,109]=1:=rfl; rw [a2] at hn; omega,.inr (.inr a2)⟩))
     by_cases a3:t=[108,101,102,116]
     ·exact .inr (.inr (.inr ⟨h6,by have:Ex.arity [108,101,102,116]=2:=rfl; rw [a3] at hn; omega,.inl a3⟩))
     by_cases a4:t=[114,105,103,104,116]
     ·exact .inr (.inr (.inr ⟨h6,by have:Ex.arity [114,105,103,104,116]=2:=rfl; rw [a4] at hn; omega,.inr a4⟩))
     exfalso
     have h0:Ex.arity t=-1:=by
      unfold Ex.arity
      simp only [beq_eq_false_iff_ne.2 e0,beq_eq_false_iff_ne.2 e1,beq_eq_false_iff_ne.2 e2,beq_eq_false_iff_ne.2 a0,beq_eq_false_iff_ne.2 a1,beq_eq_false_iff_ne.2 a2,beq_eq_false_iff_ne.2 a3,beq_eq_false_iff_ne.2 a4,cond_false,Bool.false_eq_true,if_false]
     omega
    refine .inr (.inr (.inr (.inr (.inr ⟨hall,?_,?_,e0,e1,e2⟩))))
    ·intro e; subst e; have:Ex.arity [111,114]=-1:=rfl; omega
    ·intro e; subst e; have:Ex.arity [97,110,100]=-1:=rfl; omega
   ·rw [if_neg h6] at h; cases h
open Ev in
theorem comb_or (a b:R):comb 5 [111,114] [a,b]=if a.e=0 then logic true a.v b else err a.e:=by
 unfold comb; simp
open Ev in
theorem comb_and (a b:R):comb 5 [97,110,100] [a,b]=if a.e=0 then logic false a.v b else err a.e:=by
 unfold comb; simp
open Ev in
theorem comb_isnull (a:R):comb 6 [105,115,110,117,108,108] [a]=isnR a:=by
 unfold comb isnR; simp
open Ev in
theorem comb_nvl (a b:R):comb 6 [110,118,108] [a,b]=knR a b:=by
 unfold comb knR; simp
open Ev in
theorem comb_if {a:R} (b c:R) (ha:Pl a.v):comb 6 [105,102] [a,b,c]=chR (truthR a) b c:=by
 have h0:a.v.k=0→¬ a.v.n=1:=fun h=>by have:=ha.null h; rw [this]; decide
 unfold comb chR truthR
 simp only [List.getD_cons_zero,List.getD_cons_succ]
 by_cases h:a.e=0
 ·simp only [if_pos h]
  by_cases k3:a.v.k=3
  ·by_cases n1:a.v.n=1 <;> simp [k3,n1,ok]
  ·by_cases k0:a.v.k=0
   ·simp [k0,h0 k0,ok]
   ·simp [k3,k0,err]
 ·simp [h,err]
open Ev in
theorem comb_all {op:Int} {t:List UInt8} {l:List R} (h:AllN op t l.length) (h0:¬ t=[111,114]) (h1:¬ t=[97,110,100]) (h2:¬ t=[105,115,110,117,108,108]) (h3:¬ t=[110,118,108]) (h4:¬ t=[105,102]):comb op t l=allR op t l:=by
 unfold comb allR
 simp only [h0,h1,h2,h3,h4,and_false,if_false]
 match l,h with
 | [],h=>rcases h with ⟨-,h⟩ | ⟨-,h⟩ | ⟨-,h,-⟩ | ⟨-,h,-⟩ <;> cases h
 | [a],h=>
  simp only [errOf,app,List.getD_cons_zero,List.map_cons,List.map_nil,List.any_cons,List.any_nil,Bool.or_false,decide_eq_true_eq]
  by_cases e:a.e=0
  ·simp [e]
  ·simp [e]
 | [a,b],h=>
  simp only [errOf,app,List.getD_cons_zero,List.getD_cons_succ,List.map_cons,List.map_nil,List.any_cons,List.any_nil,Bool.or_false,Bool.or_eq_true,decide_eq_true_eq]
  by_cases e:a.e=0
  ·by_cases e':b.e=0
   ·simp [e,e']
   ·simp [e,e']
  ·simp [e]
 | a :: b :: d :: l,h=>rcases h with ⟨-,h⟩ | ⟨-,h⟩ | ⟨-,h,-⟩ | ⟨-,h,-⟩ <;> simp at h
def NdS (w W:World) (cs ns:Array Value):Prop:=Below w.heap.size w W∧Whole W w.heap.size 60 cs∧Whole W (w.heap.size + 1) 26 ns
theorem NdS.drew {w W:World} {cs ns:Array Value} (h:NdS w W cs ns):NdS w W.drew cs ns:=⟨h.1.drew,h.2⟩
theorem NdS.alloc {w W:World} {cs ns:Array Value} (h:NdS w W cs ns) (o:Obj):NdS w (W.alloc o) cs ns:=⟨h.1.alloc h.1.size o,Whole.alloc h.2.1 o,Whole.alloc h.2.2 o⟩
theorem NdS.call {w W W':World} {cs ns:Array Value} (h:NdS w W cs ns) (hb:Below W.heap.size W W'):NdS w W' cs ns:=⟨bstep h.1 hb,h.2.1.below hb h.2.1.lt,h.2.2.below hb h.2.2.lt⟩
theorem NdS.set3 {w W:World} {cs ns:Array Value} (h:NdS w W cs ns) {g:Nat} (hg:w.heap.size + 2≤g) (a b c:Value):NdS w (((W.setCell ⟨g,0,none⟩ a).setCell ⟨g,1,none⟩ b).setCell ⟨g,2,none⟩ c) cs ns:=by
 have hb:Below (w.heap.size + 2) W (((W.setCell ⟨g,0,none⟩ a).setCell ⟨g,1,none⟩ b).setCell ⟨g,2,none⟩ c):=(((Below.refl (w.heap.size + 2) W).setCell (p:=⟨g,0,none⟩) hg a).setCell (p:=⟨g,1,none⟩) hg b).setCell (p:=⟨g,2,none⟩) hg c
 exact ⟨h.1.trans (hb.mono (by omega)),(hb.block _ (by omega)).trans h.2.1,(hb.block _ (by omega)).trans h.2.2⟩
end Go.Proofs.YteghhmomhlnccaaGreatDoor
namespace Go.Proofs.YteghhmomhlnccaaGreatDoor
attribute [local go_sem ↓] eqVal neqVal
open Ex (Tree)
open Ev (V R Pl)
variable {C : List Col} {Ac : Option Addr} {cc : Nat} {W : List V} {Ar : Option Addr} {cr : Nat} {w0 : World}
theorem ct_val {ks:List Tree} {op vk vn:Int} {t vs:List UInt8} (hX:∀ i (h:i < ks.length),CT C Ac cc W Ar cr w0 ks[i]) (hp:∀ i (h:i < ks.length),Pl (Ev.ev C W ks[i]).v) (hA:ColsAt w0 Ac C) (hV:ValsAt w0 Ar W) (hC:C.length≤1000000) (hl:W.length=C.length) (ad:Addr) (mx:Int) (hE:Env w0 ad mx) (hc:op=1):CT C Ac cc W Ar cr w0 (.node op t vk vn vs ks):=by
 intro v w hb hv
 subst hc
 obtain ⟨A,c,rfl,hcc,hk⟩:=hv
 have b0:=(Below.refl w.heap.size w).alloc (Nat.le_refl _) (.cells #[.slice Ac C.length cc,.slice Ar W.length cr] 60)
 have b1:=b0.alloc (by simp) (.cells (ncells 1 t vk vn vs A ks.length c) 26)
 have b2:=b1.alloc (by simp; omega) (.cells #[.int .i64 0,.int .i64 0,.string ⟨#[]⟩] 23)
 have k0:=((Whole.new w 60 #[.slice Ac C.length cc,.slice Ar W.length cr]).alloc (.cells (ncells 1 t vk vn vs A ks.length c) 26)).alloc (.cells #[.int .i64 0,.int .i64 0,.string ⟨#[]⟩] 23)
 have k1:=(Whole.new (w.alloc (.cells #[.slice Ac C.length cc,.slice Ar W.length cr] 60)) 26 (ncells 1 t vk vn vs A ks.length c)).alloc (.cells #[.int .i64 0,.int .i64 0,.string ⟨#[]⟩] 23)
 have r2:=Row3.new ((w.alloc (.cells #[.slice Ac C.length cc,.slice Ar W.length cr] 60)).alloc (.cells (ncells 1 t vk vn vs A ks.length c) 26)) 0 0 ⟨#[]⟩
 simp only [World.size_alloc] at k1 r2
 obtain ⟨W1,hW1⟩:∃ W1,((w.alloc (.cells #[.slice Ac C.length cc,.slice Ar W.length cr] 60)).alloc (.cells (ncells 1 t vk vn vs A ks.length c) 26)).alloc (.cells #[.int .i64 0,.int .i64 0,.string ⟨#[]⟩] 23)=W1:=⟨_,rfl⟩
 rw [hW1] at b2 k0 k1 r2
 obtain ⟨RES,hres⟩:∃ RES,Ev.ev C W (.node 1 t vk vn vs ks)=RES:=⟨_,rfl⟩
 rw [hres]
 have HR:=hid hres
 have hr:RES=Ev.ok ⟨vk,vn,vs⟩:=by rw [← hres,Ev.ev,if_pos rfl]
 subst hr
 have B2:=hid b2
 have R2:=hid r2
 unfold ovV outR vv vcells ncells at *
 try dsimp only at *
 clear hX hp hA hV hC hl hE hb hk hcc b0 b1 HR hres
 obtain ⟨c0,c1,c2,c3,c4,c5⟩:=six_of k1
 generalize C.length=cn at *
 generalize W.length=wn at *
 generalize ks.length=kn at *
 obtain ⟨d0,d1,d2⟩:=R2.out.holds
 have f0:=R2.out.frozen 0
 have f1:=R2.out.frozen 1
 have f2:=R2.out.frozen 2
 clear b2 r2 k0 k1
 go_enter Tryz.func27,Tryz.ntmps27
 go_wp2_with fail
 exact fin_R Tryz.results27 rfl rfl rfl R2.out B2.out (by omega) rfl
end Go.Proofs.YteghhmomhlnccaaGreatDoor
namespace Go.Proofs.YteghhmomhlnccaaGreatDoor
attribute [local go_sem ↓] eqVal neqVal
open Ex (Tree)
open Ev (V R Pl)
variable {C : List Col} {Ac : Option Addr} {cc : Nat} {W : List V} {Ar : Option Addr} {cr : Nat} {w0 : World}
theorem ct_name {ks:List Tree} {op vk vn:Int} {t vs:List UInt8} (hX:∀ i (h:i < ks.length),CT C Ac cc W Ar cr w0 ks[i]) (hp:∀ i (h:i < ks.length),Pl (Ev.ev C W ks[i]).v) (hA:ColsAt w0 Ac C) (hV:ValsAt w0 Ar W) (hC:C.length≤1000000) (hl:W.length=C.length) (ad:Addr) (mx:Int) (hE:Env w0 ad mx) (hc:op=2):CT C Ac cc W Ar cr w0 (.node op t vk vn vs ks):=by
 intro v w hb hv
 subst hc
 obtain ⟨A,c,rfl,hcc,hk⟩:=hv
 have b0:=(Below.refl w.heap.size w).alloc (Nat.le_refl _) (.cells #[.slice Ac C.length cc,.slice Ar W.length cr] 60)
 have b1:=b0.alloc (by simp) (.cells (ncells 2 t vk vn vs A ks.length c) 26)
 have b2:=b1.alloc (by simp; omega) (.cells #[.int .i64 0,.int .i64 0,.string ⟨#[]⟩] 23)
 have k0:=((Whole.new w 60 #[.slice Ac C.length cc,.slice Ar W.length cr]).alloc (.cells (ncells 2 t vk vn vs A ks.length c) 26)).alloc (.cells #[.int .i64 0,.int .i64 0,.string ⟨#[]⟩] 23)
 have k1:=(Whole.new (w.alloc (.cells #[.slice Ac C.length cc,.slice Ar W.length cr] 60)) 26 (ncells 2 t vk vn vs A ks.length c)).alloc (.cells #[.int .i64 0,.int .i64 0,.string ⟨#[]⟩] 23)
 have r2:=Row3.new ((w.alloc (.cells #[.slice Ac C.length cc,.slice Ar W.length cr] 60)).alloc (.cells (ncells 2 t vk vn vs A ks.length c) 26)) 0 0 ⟨#[]⟩
 simp only [World.size_alloc] at k1 r2
 obtain ⟨W1,hW1⟩:∃ W1,((w.alloc (.cells #[.slice Ac C.length cc,.slice Ar W.length cr] 60)).alloc (.cells (ncells 2 t vk vn vs A ks.length c) 26)).alloc (.cells #[.int .i64 0,.int .i64 0,.string ⟨#[]⟩] 23)=W1:=⟨_,rfl⟩
 rw [hW1] at b2 k0 k1 r2
 obtain ⟨RES,hres⟩:∃ RES,Ev.ev C W (.node 2 t vk vn vs ks)=RES:=⟨_,rfl⟩
 rw [hres]
 have HR:=hid hres
 have CALL:=hid (column_any C W Ac Ar cc cr t W1 (hA.below (bstep hb b2)) (hV.below (bstep hb b2)) hC hl)
 rw [show Ev.colR C W t=RES by rw [← hres,Ev.ev,if_neg (by decide),if_pos rfl]; rfl] at CALL
 have B2:=hid b2
 have R2:=hid r2
 obtain ⟨⟨rk,rn,rs⟩,re_⟩:=RES
 unfold ovV outR vv vcells ncells at *
 try dsimp only at *
 clear hX hp hA hV hC hl hE hb hk hcc b0 b1 HR hres
 generalize C.length=cn at *
 generalize W.length=wn at *
 generalize ks.length=kn at *
 have x0:=k0.cell 0
 have x1:=k0.cell 1
 simp only [List.getElem?_toArray,List.getElem?_cons_zero,List.getElem?_cons_succ] at x0 x1
 obtain ⟨c0,c1,c2,c3,c4,c5⟩:=six_of k1
 clear b2 r2 k0 k1
 go_enter Tryz.func27,Tryz.ntmps27
 go_wp2_with fail
 refine CALL.out.mono ?_
 rintro e V ⟨rfl,hv⟩
 have R3:=hid (R2.out.below hv R2.out.lt)
 have B3:=hid (bstep B2.out hv)
 clear x0 x1 c0 c1 c2 c3 c4 c5 hv
 obtain ⟨d0,d1,d2⟩:=R3.out.holds
 have f0:=R3.out.frozen 0
 have f1:=R3.out.frozen 1
 have f2:=R3.out.frozen 2
 go_wp2_with fail
 exact fin_R (r:=⟨⟨rk,rn,rs⟩,re_⟩) Tryz.results27 rfl rfl rfl R3.out B3.out (by omega) rfl
end Go.Proofs.YteghhmomhlnccaaGreatDoor
namespace Go.Proofs.YteghhmomhlnccaaGreatDoor
attribute [local go_sem ↓] eqVal neqVal
open Ex (Tree)
open Ev (V R Pl)
variable {C : List Col} {Ac : Option Addr} {cc : Nat} {W : List V} {Ar : Option Addr} {cr : Nat} {w0 : World}
theorem ct_nvl {ks:List Tree} {op vk vn:Int} {t vs:List UInt8} (hX:∀ i (h:i < ks.length),CT C Ac cc W Ar cr w0 ks[i]) (hp:∀ i (h:i < ks.length),Pl (Ev.ev C W ks[i]).v) (hA:ColsAt w0 Ac C) (hV:ValsAt w0 Ar W) (hC:C.length≤1000000) (hl:W.length=C.length) (ad:Addr) (mx:Int) (hE:Env w0 ad mx) (hc:op=6∧t=[110,118,108]∧ks.length=2):CT C Ac cc W Ar cr w0 (.node op t vk vn vs ks):=by
 intro v w hb hv
 obtain ⟨hop,ht,hn⟩:=hc
 subst hop ht
 obtain ⟨X,Y,rfl⟩:=Ev.list2 hn
 obtain ⟨A,c,rfl,hcc,hk⟩:=hv
 have b0:=(Below.refl w.heap.size w).alloc (Nat.le_refl _) (.cells #[.slice Ac C.length cc,.slice Ar W.length cr] 60)
 have b1:=b0.alloc (by simp) (.cells (ncells 6 [110,118,108] vk vn vs A 2 c) 26)
 have b2:=b1.alloc (by simp; omega) (.cells #[.int .i64 0,.int .i64 0,.string ⟨#[]⟩] 23)
 have k0:=((Whole.new w 60 #[.slice Ac C.length cc,.slice Ar W.length cr]).alloc (.cells (ncells 6 [110,118,108] vk vn vs A 2 c) 26)).alloc (.cells #[.int .i64 0,.int .i64 0,.string ⟨#[]⟩] 23)
 have k1:=(Whole.new (w.alloc (.cells #[.slice Ac C.length cc,.slice Ar W.length cr] 60)) 26 (ncells 6 [110,118,108] vk vn vs A 2 c)).alloc (.cells #[.int .i64 0,.int .i64 0,.string ⟨#[]⟩] 23)
 have r2:=Row3.new ((w.alloc (.cells #[.slice Ac C.length cc,.slice Ar W.length cr] 60)).alloc (.cells (ncells 6 [110,118,108] vk vn vs A 2 c) 26)) 0 0 ⟨#[]⟩
 simp only [World.size_alloc] at k1 r2
 obtain ⟨W1,hW1⟩:∃ W1,((w.alloc (.cells #[.slice Ac C.length cc,.slice Ar W.length cr] 60)).alloc (.cells (ncells 6 [110,118,108] vk vn vs A 2 c) 26)).alloc (.cells #[.int .i64 0,.int .i64 0,.string ⟨#[]⟩] 23)=W1:=⟨_,rfl⟩
 rw [hW1] at b2 k0 k1 r2
 obtain ⟨RES,hres⟩:∃ RES,Ev.ev C W (.node 6 [110,118,108] vk vn vs [X,Y])=RES:=⟨_,rfl⟩
 rw [hres]
 have HR:=hid hres
 have CALL:=hid (firstKnown_of (hX 0 (by simp)) (hX 1 (by simp)) (hp 0 (by simp)) A c W1 (bstep hb b2) (hk.below b2))
 simp only [List.getElem_cons_zero,List.getElem_cons_succ] at CALL
 rw [show Ev.knR (Ev.ev C W X) (Ev.ev C W Y)=RES by rw [← hres,Ev.ev,if_neg (by decide),if_neg (by decide)]; exact (comb_nvl _ _).symm] at CALL
 have B2:=hid b2
 have R2:=hid r2
 obtain ⟨⟨rk,rn,rs⟩,re_⟩:=RES
 unfold ovV outR vv vcells ncells at *
 try dsimp only at *
 clear hX hp hA hV hC hl hE hb hk hcc b0 b1 HR hres
 generalize C.length=cn at *
 generalize W.length=wn at *
 simp only [List.length_cons,List.length_nil,Nat.zero_add,Nat.reduceAdd]
 have x0:=k0.cell 0
 have x1:=k0.cell 1
 simp only [List.getElem?_toArray,List.getElem?_cons_zero,List.getElem?_cons_succ] at x0 x1
 obtain ⟨c0,c1,c2,c3,c4,c5⟩:=six_of k1
 clear b2 r2 k0 k1
 go_enter Tryz.func27,Tryz.ntmps27
 go_wp2_with fail
 refine CALL.out.mono ?_
 rintro e V ⟨rfl,hv⟩
 have R3:=hid (R2.out.below hv R2.out.lt)
 have B3:=hid (bstep B2.out hv)
 clear x0 x1 c0 c1 c2 c3 c4 c5 hv
 obtain ⟨d0,d1,d2⟩:=R3.out.holds
 have f0:=R3.out.frozen 0
 have f1:=R3.out.frozen 1
 have f2:=R3.out.frozen 2
 go_wp2_with fail
 exact fin_R (r:=⟨⟨rk,rn,rs⟩,re_⟩) Tryz.results27 rfl rfl rfl R3.out B3.out (by omega) rfl
end Go.Proofs.YteghhmomhlnccaaGreatDoor
namespace Go.Proofs.YteghhmomhlnccaaGreatDoor
attribute [local go_sem ↓] eqVal neqVal
open Ex (Tree)
open Ev (V R Pl)
variable {C : List Col} {Ac : Option Addr} {cc : Nat} {W : List V} {Ar : Option Addr} {cr : Nat} {w0 : World}
theorem ct_if {ks:List Tree} {op vk vn:Int} {t vs:List UInt8} (hX:∀ i (h:i < ks.length),CT C Ac cc W Ar cr w0 ks[i]) (hp:∀ i (h:i < ks.length),Pl (Ev.ev C W ks[i]).v) (hA:ColsAt w0 Ac C) (hV:ValsAt w0 Ar W) (hC:C.length≤1000000) (hl:W.length=C.length) (ad:Addr) (mx:Int) (hE:Env w0 ad mx) (hc:op=6∧t=[105,102]∧ks.length=3):CT C Ac cc W Ar cr w0 (.node op t vk vn vs ks):=by
 intro v w hb hv
 obtain ⟨hop,ht,hn⟩:=hc
 subst hop ht
 obtain ⟨X,Y,Z,rfl⟩:=Ev.list3 hn
 obtain ⟨A,c,rfl,hcc,hk⟩:=hv
 have b0:=(Below.refl w.heap.size w).alloc (Nat.le_refl _) (.cells #[.slice Ac C.length cc,.slice Ar W.length cr] 60)
 have b1:=b0.alloc (by simp) (.cells (ncells 6 [105,102] vk vn vs A 3 c) 26)
 have b2:=b1.alloc (by simp; omega) (.cells #[.int .i64 0,.int .i64 0,.string ⟨#[]⟩] 23)
 have k0:=((Whole.new w 60 #[.slice Ac C.length cc,.slice Ar W.length cr]).alloc (.cells (ncells 6 [105,102] vk vn vs A 3 c) 26)).alloc (.cells #[.int .i64 0,.int .i64 0,.string ⟨#[]⟩] 23)
 have k1:=(Whole.new (w.alloc (.cells #[.slice Ac C.length cc,.slice Ar W.length cr] 60)) 26 (ncells 6 [105,102] vk vn vs A 3 c)).alloc (.cells #[.int .i64 0,.int .i64 0,.string ⟨#[]⟩] 23)
 have r2:=Row3.new ((w.alloc (.cells #[.slice Ac C.length cc,.slice Ar W.length cr] 60)).alloc (.cells (ncells 6 [105,102] vk vn vs A 3 c) 26)) 0 0 ⟨#[]⟩
 simp only [World.size_alloc] at k1 r2
 obtain ⟨W1,hW1⟩:∃ W1,((w.alloc (.cells #[.slice Ac C.length cc,.slice Ar W.length cr] 60)).alloc (.cells (ncells 6 [105,102] vk vn vs A 3 c) 26)).alloc (.cells #[.int .i64 0,.int .i64 0,.string ⟨#[]⟩] 23)=W1:=⟨_,rfl⟩
 rw [hW1] at b2 k0 k1 r2
 obtain ⟨RES,hres⟩:∃ RES,Ev.ev C W (.node 6 [105,102] vk vn vs [X,Y,Z])=RES:=⟨_,rfl⟩
 rw [hres]
 have HR:=hid hres
 have CALL:=hid (chosen_of (hX 0 (by simp)) (hX 1 (by simp)) (hX 2 (by simp)) (hp 0 (by simp)) A c W1 (bstep hb b2) (hk.below b2))
 simp only [List.getElem_cons_zero,List.getElem_cons_succ] at CALL
 rw [show Ev.chR (Ev.truthR (Ev.ev C W X)) (Ev.ev C W Y) (Ev.ev C W Z)=RES by rw [← hres,Ev.ev,if_neg (by decide),if_neg (by decide)]; exact (comb_if _ _ (hp 0 (by simp))).symm] at CALL
 have B2:=hid b2
 have R2:=hid r2
 obtain ⟨⟨rk,rn,rs⟩,re_⟩:=RES
 unfold ovV outR vv vcells ncells at *
 try dsimp only at *
 clear hX hp hA hV hC hl hE hb hk hcc b0 b1 HR hres
 generalize C.length=cn at *
 generalize W.length=wn at *
 simp only [List.length_cons,List.length_nil,Nat.zero_add,Nat.reduceAdd]
 have x0:=k0.cell 0
 have x1:=k0.cell 1
 simp only [List.getElem?_toArray,List.getElem?_cons_zero,List.getElem?_cons_succ] at x0 x1
 obtain ⟨c0,c1,c2,c3,c4,c5⟩:=six_of k1
 clear b2 r2 k0 k1
 go_enter Tryz.func27,Tryz.ntmps27
 go_wp2_with fail
 refine CALL.out.mono ?_
 rintro e V ⟨rfl,hv⟩
 have R3:=hid (R2.out.below hv R2.out.lt)
 have B3:=hid (bstep B2.out hv)
 clear x0 x1 c0 c1 c2 c3 c4 c5 hv
 obtain ⟨d0,d1,d2⟩:=R3.out.holds
 have f0:=R3.out.frozen 0
 have f1:=R3.out.frozen 1
 have f2:=R3.out.frozen 2
 go_wp2_with fail
 exact fin_R (r:=⟨⟨rk,rn,rs⟩,re_⟩) Tryz.results27 rfl rfl rfl R3.out B3.out (by omega) rfl
end Go.Proofs.YteghhmomhlnccaaGreatDoor
namespace Go.Proofs.YteghhmomhlnccaaGreatDoor
attribute [local go_sem ↓] eqVal neqVal
open Ex (Tree)
open Ev (V R Pl)
variable {C : List Col} {Ac : Option Addr} {cc : Nat} {W : List V} {Ar : Option Addr} {cr : Nat} {w0 : World}
theorem ct_all {ks:List Tree} {op vk vn:Int} {t vs:List UInt8} (hX:∀ i (h:i < ks.length),CT C Ac cc W Ar cr w0 ks[i]) (hp:∀ i (h:i < ks.length),Pl (Ev.ev C W ks[i]).v) (hA:ColsAt w0 Ac C) (hV:ValsAt w0 Ar W) (hC:C.length≤1000000) (hl:W.length=C.length) (ad:Addr) (mx:Int) (hE:Env w0 ad mx) (h1:¬ op=1) (h2:¬ op=2) (hc:Ev.AllN op t ks.length∧¬ t=[111,114]∧¬ t=[97,110,100]∧¬ t=[105,115,110,117,108,108]∧¬ t=[110,118,108]∧¬ t=[105,102]):CT C Ac cc W Ar cr w0 (.node op t vk vn vs ks):=by
 intro v w hb hv
 obtain ⟨hN,t0,t1,t2,t3,t4⟩:=hc
 obtain ⟨A,c,rfl,hcc,hk⟩:=hv
 have b0:=(Below.refl w.heap.size w).alloc (Nat.le_refl _) (.cells #[.slice Ac C.length cc,.slice Ar W.length cr] 60)
 have b1:=b0.alloc (by simp) (.cells (ncells op t vk vn vs A ks.length c) 26)
 have b2:=b1.alloc (by simp; omega) (.cells #[.int .i64 0,.int .i64 0,.string ⟨#[]⟩] 23)
 have k0:=((Whole.new w 60 #[.slice Ac C.length cc,.slice Ar W.length cr]).alloc (.cells (ncells op t vk vn vs A ks.length c) 26)).alloc (.cells #[.int .i64 0,.int .i64 0,.string ⟨#[]⟩] 23)
 have k1:=(Whole.new (w.alloc (.cells #[.slice Ac C.length cc,.slice Ar W.length cr] 60)) 26 (ncells op t vk vn vs A ks.length c)).alloc (.cells #[.int .i64 0,.int .i64 0,.string ⟨#[]⟩] 23)
 have r2:=Row3.new ((w.alloc (.cells #[.slice Ac C.length cc,.slice Ar W.length cr] 60)).alloc (.cells (ncells op t vk vn vs A ks.length c) 26)) 0 0 ⟨#[]⟩
 simp only [World.size_alloc] at k1 r2
 obtain ⟨W1,hW1⟩:∃ W1,((w.alloc (.cells #[.slice Ac C.length cc,.slice Ar W.length cr] 60)).alloc (.cells (ncells op t vk vn vs A ks.length c) 26)).alloc (.cells #[.int .i64 0,.int .i64 0,.string ⟨#[]⟩] 23)=W1:=⟨_,rfl⟩
 rw [hW1] at b2 k0 k1 r2
 obtain ⟨RES,hres⟩:∃ RES,Ev.ev C W (.node op t vk vn vs ks)=RES:=⟨_,rfl⟩
 rw [hres]
 have HR:=hid hres
 have hev:Ev.allR op t (Ev.evs C W ks)=RES:=by rw [← hres,Ev.ev,if_neg h1,if_neg h2]; exact (comb_all (by rw [Ev.evs_len]; exact hN) t0 t1 t2 t3 t4).symm
 have CALL:=hid (ofAll_of (vk:=vk) (vn:=vn) (vs:=vs) hN hX hp (.agg (ncells op t vk vn vs A ks.length c)) W1 (bstep hb b2) ⟨A,c,rfl,hcc,hk.below b2⟩ ad mx (hE.below (bstep hb b2)))
 rw [hev] at CALL
 have h1':(op == 1)=false:=by simpa using h1
 have h2':(op == 2)=false:=by simpa using h2
 have t0':(t == [111,114])=false:=by simpa using t0
 have t1':(t == [97,110,100])=false:=by simpa using t1
 have t2':(t == [105,115,110,117,108,108])=false:=by simpa using t2
 have t3':(t == [110,118,108])=false:=by simpa using t3
 have t4':(t == [105,102])=false:=by simpa using t4
 clear hev hN h1 h2 t0 t1 t2 t3 t4
 have B2:=hid b2
 have R2:=hid r2
 obtain ⟨⟨rk,rn,rs⟩,re_⟩:=RES
 unfold ovV outR vv vcells ncells at *
 try dsimp only at *
 clear hX hp hA hV hC hl hE hb hk hcc b0 b1 HR hres
 generalize C.length=cn at *
 generalize W.length=wn at *
 generalize ks.length=kn at *
 have x0:=k0.cell 0
 have x1:=k0.cell 1
 simp only [List.getElem?_toArray,List.getElem?_cons_zero,List.getElem?_cons_succ] at x0 x1
 obtain ⟨c0,c1,c2,c3,c4,c5⟩:=six_of k1
 clear b2 r2 k0 k1
 go_enter Tryz.func27,Tryz.ntmps27
 go_wp2_with fail
 refine CALL.out.mono ?_
 rintro e V ⟨rfl,hv⟩
 have R3:=hid (R2.out.below hv R2.out.lt)
 have B3:=hid (bstep B2.out hv)
 clear x0 x1 c0 c1 c2 c3 c4 c5 hv
 obtain ⟨d0,d1,d2⟩:=R3.out.holds
 have f0:=R3.out.frozen 0
 have f1:=R3.out.frozen 1
 have f2:=R3.out.frozen 2
 go_wp2_with fail
 exact fin_R (r:=⟨⟨rk,rn,rs⟩,re_⟩) Tryz.results27 rfl rfl rfl R3.out B3.out (by omega) rfl
end Go.Proofs.YteghhmomhlnccaaGreatDoor
namespace Go.Proofs.YteghhmomhlnccaaGreatDoor
attribute [local go_sem ↓] eqVal neqVal
open Ex (Tree)
open Ev (V R Pl)
variable {C : List Col} {Ac : Option Addr} {cc : Nat} {W : List V} {Ar : Option Addr} {cr : Nat} {w0 : World}
theorem ct_or {ks:List Tree} {op vk vn:Int} {t vs:List UInt8} (hX:∀ i (h:i < ks.length),CT C Ac cc W Ar cr w0 ks[i]) (hp:∀ i (h:i < ks.length),Pl (Ev.ev C W ks[i]).v) (hA:ColsAt w0 Ac C) (hV:ValsAt w0 Ar W) (hC:C.length≤1000000) (hl:W.length=C.length) (ad:Addr) (mx:Int) (hE:Env w0 ad mx) (hc:op=5∧t=[111,114]∧ks.length=2):CT C Ac cc W Ar cr w0 (.node op t vk vn vs ks):=by
 intro v w hb hv
 obtain ⟨hop,ht,hn⟩:=hc
 subst hop ht
 obtain ⟨X,Y,rfl⟩:=Ev.list2 hn
 obtain ⟨A,c,rfl,hcc,hk⟩:=hv
 have b0:=(Below.refl w.heap.size w).alloc (Nat.le_refl _) (.cells #[.slice Ac C.length cc,.slice Ar W.length cr] 60)
 have b1:=b0.alloc (by simp) (.cells (ncells 5 [111,114] vk vn vs A 2 c) 26)
 have b2:=b1.alloc (by simp; omega) (.cells #[.int .i64 0,.int .i64 0,.string ⟨#[]⟩] 23)
 have k0:=((Whole.new w 60 #[.slice Ac C.length cc,.slice Ar W.length cr]).alloc (.cells (ncells 5 [111,114] vk vn vs A 2 c) 26)).alloc (.cells #[.int .i64 0,.int .i64 0,.string ⟨#[]⟩] 23)
 have k1:=(Whole.new (w.alloc (.cells #[.slice Ac C.length cc,.slice Ar W.length cr] 60)) 26 (ncells 5 [111,114] vk vn vs A 2 c)).alloc (.cells #[.int .i64 0,.int .i64 0,.string ⟨#[]⟩] 23)
 have r2:=Row3.new ((w.alloc (.cells #[.slice Ac C.length cc,.slice Ar W.length cr] 60)).alloc (.cells (ncells 5 [111,114] vk vn vs A 2 c) 26)) 0 0 ⟨#[]⟩
 simp only [World.size_alloc] at k1 r2
 obtain ⟨W1,hW1⟩:∃ W1,((w.alloc (.cells #[.slice Ac C.length cc,.slice Ar W.length cr] 60)).alloc (.cells (ncells 5 [111,114] vk vn vs A 2 c) 26)).alloc (.cells #[.int .i64 0,.int .i64 0,.string ⟨#[]⟩] 23)=W1:=⟨_,rfl⟩
 rw [hW1] at b2 k0 k1 r2
 obtain ⟨RES,hres⟩:∃ RES,Ev.ev C W (.node 5 [111,114] vk vn vs [X,Y])=RES:=⟨_,rfl⟩
 rw [hres]
 have HR:=hid hres
 have hev:Ev.decR true (Ev.tru (!true)) (Ev.evs C W [X,Y])=RES:=by
  rw [← hres,Ev.ev,if_neg (by decide),if_neg (by decide)]
  exact (Ev.dec_two true (hp 0 (by simp)) (hp 1 (by simp))).trans (comb_or _ _).symm
 have CALL:Hid (∀ U,Below w.heap.size w U→Calls Tryz.prog 54 #[ovV C Ac cc W Ar cr,.slice A [X,Y].length c,.agg #[.int .i64 3,.int .i64 (bit true),.string ⟨#[]⟩]] U fun e w'=>e=.returned (outR RES)∧Below U.heap.size U w'):=hid (fun U hU=>by
  have h:=decided_of true hX hp (by simp) A c U (bstep hb hU) (hk.below hU)
  rw [hev] at h; exact h)
 rw [show bit true=1 from rfl] at CALL
 have BT:=hid bool_true
 clear hev
 have B2:=hid b2
 have R2:=hid r2
 obtain ⟨⟨rk,rn,rs⟩,re_⟩:=RES
 unfold ovV outR vv vcells ncells at *
 try dsimp only at *
 clear hX hp hA hV hC hl hE hb hk hcc b0 b1 HR hres
 generalize C.length=cn at *
 generalize W.length=wn at *
 simp only [List.length_cons,List.length_nil,Nat.zero_add,Nat.reduceAdd]
 have x0:=k0.cell 0
 have x1:=k0.cell 1
 simp only [List.getElem?_toArray,List.getElem?_cons_zero,List.getElem?_cons_succ] at x0 x1
 obtain ⟨c0,c1,c2,c3,c4,c5⟩:=six_of k1
 simp only [List.length_cons,List.length_nil] at CALL
 have Q1:Hid (NdS w W1 #[.slice Ac cn cc,.slice Ar wn cr] (#[.int .i64 5,.string (tx [111,114]),.int .i64 vk,.int .i64 vn,.string (tx vs),.slice A 2 c])):=hid ⟨b2,k0,k1⟩
 have KK:Hid (∀ U,NdS w U #[.slice Ac cn cc,.slice Ar wn cr] (#[.int .i64 5,.string (tx [111,114]),.int .i64 vk,.int .i64 vn,.string (tx vs),.slice A 2 c])→(U.cell? ⟨w.heap.size,0,none⟩=some (.slice Ac cn cc)∧U.cell? ⟨w.heap.size,1,none⟩=some (.slice Ar wn cr))∧U.cell? ⟨w.heap.size + 1,5,none⟩=some (.slice A 2 c)):=hid (fun U hU=>⟨⟨by rw [hU.2.1.cell]; rfl,by rw [hU.2.1.cell]; rfl⟩,by rw [hU.2.2.cell]; rfl⟩)
 clear b2 r2 k0 k1 x0 x1
 go_enter Tryz.func27,Tryz.ntmps27
 go_upto_region 8 with fail
 clear c0 c1 c2 c3 c4 c5
 have QD:Hid (NdS w W1.drew #[.slice Ac cn cc,.slice Ar wn cr] (#[.int .i64 5,.string (tx [111,114]),.int .i64 vk,.int .i64 vn,.string (tx vs),.slice A 2 c])):=hid Q1.out.drew
 refine wp_region_held_drew (S:=fun U=>NdS w U #[.slice Ac cn cc,.slice Ar wn cr] (#[.int .i64 5,.string (tx [111,114]),.int .i64 vk,.int .i64 vn,.string (tx vs),.slice A 2 c])) (by kernel_rfl) QD.out (fun _=>?_)
 refine qTk 0 (v:=?_) QD.out ?_ ?_
 rotate_left
 ·(intro U hw; obtain ⟨⟨a0,a1⟩,p5⟩:=KK.out U hw; go_simp; try with_reducible rfl)
 refine qTk 1 (v:=?_) QD.out ?_ ?_
 rotate_left
 ·(intro U hw; go_simp; try with_reducible rfl)
 refine qTk 2 (v:=?_) QD.out ?_ ?_
 rotate_left
 ·(intro U hw; obtain ⟨⟨a0,a1⟩,p5⟩:=KK.out U hw; go_simp; try with_reducible rfl)
 refine qTr1 3 (fun K hK=>?_)
 go_simp
 refine (BT.out _).mono ?_
 rintro e V1 ⟨rfl,hv1⟩
 have QV1:=hid (QD.out.call hv1)
 have ZB1:=Row3.below (w':=V1) (g:=w.heap.size + 2) (k:=0) (n:=0) (s:=⟨#[]⟩) (by exact R2.out) hv1 (by exact R2.out.lt)
 obtain ⟨z0,z1,z2⟩:=ZB1.holds
 have f0:=ZB1.frozen 0
 have f1:=ZB1.frozen 1
 have f2:=ZB1.frozen 2
 refine hK.out _ _ QV1.out (fun _=>?_)
 clear hK K
 refine qTr1 4 (fun K hK=>?_)
 go_simp
 refine (CALL.out _ QV1.out.1).mono ?_
 rintro e V2 ⟨rfl,hv2⟩
 have QV2:=hid (QV1.out.call hv2)
 have ZB2:=Row3.below (w':=V2) (g:=w.heap.size + 2) (k:=0) (n:=0) (s:=⟨#[]⟩) (by exact ZB1) hv2 (by exact ZB1.lt)
 obtain ⟨z0,z1,z2⟩:=ZB2.holds
 have f0:=ZB2.frozen 0
 have f1:=ZB2.frozen 1
 have f2:=ZB2.frozen 2
 refine hK.out _ _ QV2.out (fun _=>?_)
 clear hK K
 refine qTk 5 (v:=?_) QV2.out ?_ ?_
 rotate_left
 ·(intro U hw; go_simp; try with_reducible rfl)
 refine qTk 6 (v:=?_) QV2.out ?_ ?_
 rotate_left
 ·(intro U hw; go_simp; try with_reducible rfl)
 refine qTr1 7 (fun K hK=>?_)
 go_simp
 have QS:=hid (QV2.out.set3 (g:=w.heap.size + 2) (by first | omega | exact Nat.le_refl _) (.int .i64 rk) (.int .i64 rn) (.string (tx rs)))
 have FW:=hid (ZB2.set3 rk rn (tx rs))
 refine hK.out _ _ QS.out (fun _=>?_)
 clear hK K
 refine qTk 8 (v:=?_) QS.out ?_ ?_
 rotate_left
 ·(intro U hw; go_simp; try with_reducible rfl)
 refine wpAnyH_done (by kernel_rfl) ?_ _
 try simp only  [Act.put,List.setIfInBounds_toArray,List.set_cons_zero,List.set_cons_succ]
 go_wp2_with fail
 exact fin_R2 (r:=⟨⟨rk,rn,rs⟩,re_⟩) Tryz.results27 rfl rfl rfl FW.out QS.out.1 rfl
end Go.Proofs.YteghhmomhlnccaaGreatDoor
namespace Go.Proofs.YteghhmomhlnccaaGreatDoor
attribute [local go_sem ↓] eqVal neqVal
open Ex (Tree)
open Ev (V R Pl)
variable {C : List Col} {Ac : Option Addr} {cc : Nat} {W : List V} {Ar : Option Addr} {cr : Nat} {w0 : World}
theorem ct_and {ks:List Tree} {op vk vn:Int} {t vs:List UInt8} (hX:∀ i (h:i < ks.length),CT C Ac cc W Ar cr w0 ks[i]) (hp:∀ i (h:i < ks.length),Pl (Ev.ev C W ks[i]).v) (hA:ColsAt w0 Ac C) (hV:ValsAt w0 Ar W) (hC:C.length≤1000000) (hl:W.length=C.length) (ad:Addr) (mx:Int) (hE:Env w0 ad mx) (hc:op=5∧t=[97,110,100]∧ks.length=2):CT C Ac cc W Ar cr w0 (.node op t vk vn vs ks):=by
 intro v w hb hv
 obtain ⟨hop,ht,hn⟩:=hc
 subst hop ht
 obtain ⟨X,Y,rfl⟩:=Ev.list2 hn
 obtain ⟨A,c,rfl,hcc,hk⟩:=hv
 have b0:=(Below.refl w.heap.size w).alloc (Nat.le_refl _) (.cells #[.slice Ac C.length cc,.slice Ar W.length cr] 60)
 have b1:=b0.alloc (by simp) (.cells (ncells 5 [97,110,100] vk vn vs A 2 c) 26)
 have b2:=b1.alloc (by simp; omega) (.cells #[.int .i64 0,.int .i64 0,.string ⟨#[]⟩] 23)
 have k0:=((Whole.new w 60 #[.slice Ac C.length cc,.slice Ar W.length cr]).alloc (.cells (ncells 5 [97,110,100] vk vn vs A 2 c) 26)).alloc (.cells #[.int .i64 0,.int .i64 0,.string ⟨#[]⟩] 23)
 have k1:=(Whole.new (w.alloc (.cells #[.slice Ac C.length cc,.slice Ar W.length cr] 60)) 26 (ncells 5 [97,110,100] vk vn vs A 2 c)).alloc (.cells #[.int .i64 0,.int .i64 0,.string ⟨#[]⟩] 23)
 have r2:=Row3.new ((w.alloc (.cells #[.slice Ac C.length cc,.slice Ar W.length cr] 60)).alloc (.cells (ncells 5 [97,110,100] vk vn vs A 2 c) 26)) 0 0 ⟨#[]⟩
 simp only [World.size_alloc] at k1 r2
 obtain ⟨W1,hW1⟩:∃ W1,((w.alloc (.cells #[.slice Ac C.length cc,.slice Ar W.length cr] 60)).alloc (.cells (ncells 5 [97,110,100] vk vn vs A 2 c) 26)).alloc (.cells #[.int .i64 0,.int .i64 0,.string ⟨#[]⟩] 23)=W1:=⟨_,rfl⟩
 rw [hW1] at b2 k0 k1 r2
 obtain ⟨RES,hres⟩:∃ RES,Ev.ev C W (.node 5 [97,110,100] vk vn vs [X,Y])=RES:=⟨_,rfl⟩
 rw [hres]
 have HR:=hid hres
 have hev:Ev.decR false (Ev.tru (!false)) (Ev.evs C W [X,Y])=RES:=by
  rw [← hres,Ev.ev,if_neg (by decide),if_neg (by decide)]
  exact (Ev.dec_two false (hp 0 (by simp)) (hp 1 (by simp))).trans (comb_and _ _).symm
 have CALL:Hid (∀ U,Below w.heap.size w U→Calls Tryz.prog 54 #[ovV C Ac cc W Ar cr,.slice A [X,Y].length c,.agg #[.int .i64 3,.int .i64 (bit false),.string ⟨#[]⟩]] U fun e w'=>e=.returned (outR RES)∧Below U.heap.size U w'):=hid (fun U hU=>by
  have h:=decided_of false hX hp (by simp) A c U (bstep hb hU) (hk.below hU)
  rw [hev] at h; exact h)
 rw [show bit false=0 from rfl] at CALL
 have BT:=hid bool_false
 clear hev
 have B2:=hid b2
 have R2:=hid r2
 obtain ⟨⟨rk,rn,rs⟩,re_⟩:=RES
 unfold ovV outR vv vcells ncells at *
 try dsimp only at *
 clear hX hp hA hV hC hl hE hb hk hcc b0 b1 HR hres
 generalize C.length=cn at *
 generalize W.length=wn at *
 simp only [List.length_cons,List.length_nil,Nat.zero_add,Nat.reduceAdd]
 have x0:=k0.cell 0
 have x1:=k0.cell 1
 simp only [List.getElem?_toArray,List.getElem?_cons_zero,List.getElem?_cons_succ] at x0 x1
 obtain ⟨c0,c1,c2,c3,c4,c5⟩:=six_of k1
 simp only [List.length_cons,List.length_nil] at CALL
 have Q1:Hid (NdS w W1 #[.slice Ac cn cc,.slice Ar wn cr] (#[.int .i64 5,.string (tx [97,110,100]),.int .i64 vk,.int .i64 vn,.string (tx vs),.slice A 2 c])):=hid ⟨b2,k0,k1⟩
 have KK:Hid (∀ U,NdS w U #[.slice Ac cn cc,.slice Ar wn cr] (#[.int .i64 5,.string (tx [97,110,100]),.int .i64 vk,.int .i64 vn,.string (tx vs),.slice A 2 c])→(U.cell? ⟨w.heap.size,0,none⟩=some (.slice Ac cn cc)∧U.cell? ⟨w.heap.size,1,none⟩=some (.slice Ar wn cr))∧U.cell? ⟨w.heap.size + 1,5,none⟩=some (.slice A 2 c)):=hid (fun U hU=>⟨⟨by rw [hU.2.1.cell]; rfl,by rw [hU.2.1.cell]; rfl⟩,by rw [hU.2.2.cell]; rfl⟩)
 clear b2 r2 k0 k1 x0 x1
 go_enter Tryz.func27,Tryz.ntmps27
 go_upto_region 10 with fail
 clear c0 c1 c2 c3 c4 c5
 have QD:Hid (NdS w W1.drew #[.slice Ac cn cc,.slice Ar wn cr] (#[.int .i64 5,.string (tx [97,110,100]),.int .i64 vk,.int .i64 vn,.string (tx vs),.slice A 2 c])):=hid Q1.out.drew
 refine wp_region_held_drew (S:=fun U=>NdS w U #[.slice Ac cn cc,.slice Ar wn cr] (#[.int .i64 5,.string (tx [97,110,100]),.int .i64 vk,.int .i64 vn,.string (tx vs),.slice A 2 c])) (by kernel_rfl) QD.out (fun _=>?_)
 refine qTk 0 (v:=?_) QD.out ?_ ?_
 rotate_left
 ·(intro U hw; obtain ⟨⟨a0,a1⟩,p5⟩:=KK.out U hw; go_simp; try with_reducible rfl)
 refine qTk 1 (v:=?_) QD.out ?_ ?_
 rotate_left
 ·(intro U hw; go_simp; try with_reducible rfl)
 refine qTk 2 (v:=?_) QD.out ?_ ?_
 rotate_left
 ·(intro U hw; obtain ⟨⟨a0,a1⟩,p5⟩:=KK.out U hw; go_simp; try with_reducible rfl)
 refine qTr1 3 (fun K hK=>?_)
 go_simp
 refine (BT.out _).mono ?_
 rintro e V1 ⟨rfl,hv1⟩
 have QV1:=hid (QD.out.call hv1)
 have ZB1:=Row3.below (w':=V1) (g:=w.heap.size + 2) (k:=0) (n:=0) (s:=⟨#[]⟩) (by exact R2.out) hv1 (by exact R2.out.lt)
 obtain ⟨z0,z1,z2⟩:=ZB1.holds
 have f0:=ZB1.frozen 0
 have f1:=ZB1.frozen 1
 have f2:=ZB1.frozen 2
 refine hK.out _ _ QV1.out (fun _=>?_)
 clear hK K
 refine qTr1 4 (fun K hK=>?_)
 go_simp
 refine (CALL.out _ QV1.out.1).mono ?_
 rintro e V2 ⟨rfl,hv2⟩
 have QV2:=hid (QV1.out.call hv2)
 have ZB2:=Row3.below (w':=V2) (g:=w.heap.size + 2) (k:=0) (n:=0) (s:=⟨#[]⟩) (by exact ZB1) hv2 (by exact ZB1.lt)
 obtain ⟨z0,z1,z2⟩:=ZB2.holds
 have f0:=ZB2.frozen 0
 have f1:=ZB2.frozen 1
 have f2:=ZB2.frozen 2
 refine hK.out _ _ QV2.out (fun _=>?_)
 clear hK K
 refine qTk 5 (v:=?_) QV2.out ?_ ?_
 rotate_left
 ·(intro U hw; go_simp; try with_reducible rfl)
 refine qTk 6 (v:=?_) QV2.out ?_ ?_
 rotate_left
 ·(intro U hw; go_simp; try with_reducible rfl)
 refine qTr1 7 (fun K hK=>?_)
 go_simp
 have QS:=hid (QV2.out.set3 (g:=w.heap.size + 2) (by first | omega | exact Nat.le_refl _) (.int .i64 rk) (.int .i64 rn) (.string (tx rs)))
 have FW:=hid (ZB2.set3 rk rn (tx rs))
 refine hK.out _ _ QS.out (fun _=>?_)
 clear hK K
 refine qTk 8 (v:=?_) QS.out ?_ ?_
 rotate_left
 ·(intro U hw; go_simp; try with_reducible rfl)
 refine wpAnyH_done (by kernel_rfl) ?_ _
 try simp only  [Act.put,List.setIfInBounds_toArray,List.set_cons_zero,List.set_cons_succ]
 go_wp2_with fail
 exact fin_R2 (r:=⟨⟨rk,rn,rs⟩,re_⟩) Tryz.results27 rfl rfl rfl FW.out QS.out.1 rfl
end Go.Proofs.YteghhmomhlnccaaGreatDoor
