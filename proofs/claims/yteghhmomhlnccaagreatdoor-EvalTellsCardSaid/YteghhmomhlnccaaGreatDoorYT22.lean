import Derived.Test.YteghhmomhlnccaaGreatDoorYT19
import Derived.Test.YteghhmomhlnccaaGreatDoorYT20
import Derived.Test.YteghhmomhlnccaaGreatDoorYT21
import Derived.Test.YteghhmomhlnccaaGreatDoorYT18
import Derived.Test.YteghhmomhlnccaaGreatDoorYT1
import Derived.Test.YteghhmomhlnccaaGreatDoorYT11
import Derived.Test.YteghhmomhlnccaaGreatDoorYT16
import Derived.Test.YteghhmomhlnccaaGreatDoorYT17
import Derived.Test.YteghhmomhlnccaaGreatDoorYT10
set_option linter.unusedVariables false
set_option linter.unusedSimpArgs false
set_option maxRecDepth 100000
set_option maxHeartbeats 100000000
open Go.RowKit Go.Lib
namespace Go.Proofs.YteghhmomhlnccaaGreatDoor
attribute [local go_sem ↓] eqVal neqVal
open Ex (Tree)
open Ev (V R Pl)
variable {C : List Col} {Ac : Option Addr} {cc : Nat} {W : List V} {Ar : Option Addr} {cr : Nat} {w0 : World}
theorem append_val {w:World} {base:Nat} {v:Value} {l:List V} (h:RowV w base v l) (x:V) (hn:l.length≤100000) (hbase:base≤w.heap.size) :
  ∃ v' w',Sem.run Tryz.prog (Builtin.append_ #[28,28] 28 #[v,.slice (some ⟨w.heap.size,0,none⟩) 1 1]) (w.alloc (.cells (vcells x) 23))=.ok v' w'∧RowV w' base v' (l ++ [x])∧Touch v.ownBlock.toList w w':=by
 have b0:Below w.heap.size w (w.alloc (.cells (vcells x) 23)):=(Below.refl _ _).alloc (Nat.le_refl _) _
 have k0:=Whole.new w 23 (vcells x)
 have hm:ValsAt (w.alloc (.cells (vcells x) 23)) (some ⟨w.heap.size,0,none⟩) [x]:=ValsAt.of_cells k0.lt (fun j u hu=>by rw [Nat.zero_add,k0.cell,← hu]; simp [valCells])
 obtain ⟨v',w',hr,ho,ht,-⟩:=append_vals (h.below b0) hm (c:=1) (by simp; omega) (by simp; omega)
 exact ⟨v',w',hr,ho,(Touch.of_below b0 _).trans ht (fun k hk=>.inl hk)⟩
def Ev.errOf:List R→Int
 | []=>0
 | r :: l=>if r.e=0 then Ev.errOf l else r.e
def Ev.app (op:Int) (t:List UInt8):List V→R
 | [a]=>Ev.un op t a
 | [a,b]=>if op=5 then Ev.bin t a b else Ev.side t a b
 | _=>Ev.ok Ev.z
def Ev.allR (op:Int) (t:List UInt8) (l:List R):R:=
 if Ev.errOf l=0 then (if (l.map (·.v)).any (fun v=>decide (v.k=0))=true then Ev.ok Ev.z else Ev.app op t (l.map (·.v))) else Ev.err (Ev.errOf l)
def Ev.AllN (op:Int) (t:List UInt8) (n:Nat):Prop:=((op=3∨op=4)∧n=1)∨(op=5∧n=2)∨(op=6∧n=1∧(t=[108,101,110]∨t=[115,116,114]∨t=[110,117,109]))∨(op=6∧n=2∧(t=[108,101,102,116]∨t=[114,105,103,104,116]))
theorem apply_all {op:Int} {t:List UInt8} {l:List V} (h:Ev.AllN op t l.length) (hp:∀ v ∈ l,Pl v) (hz:∀ v ∈ l,¬ v.k=0) (A:Option Addr) (c:Nat) (w:World) (hV:ValsAt w A l) (ad:Addr) (mx:Int) (hE:Env w ad mx) :
  (op=5→Calls Tryz.prog 91 #[.string (tx t),.slice A l.length c] w fun e w'=>e=.returned (outR (Ev.app op t l))∧Below w.heap.size w w') ∧
  (op=6→Calls Tryz.prog 92 #[.string (tx t),.slice A l.length c] w fun e w'=>e=.returned (outR (Ev.app op t l))∧Below w.heap.size w w') ∧
  (op=3∨op=4→Calls Tryz.prog 93 #[.int .i64 op,.slice A l.length c] w fun e w'=>e=.returned (outR (Ev.app op t l))∧Below w.heap.size w w'):=by
 match l,h,hp,hz,hV with
 | [],h,_,_,_=>rcases h with ⟨-,h⟩ | ⟨-,h⟩ | ⟨-,h,-⟩ | ⟨-,h,-⟩ <;> cases h
 | [a],h,hp,hz,hV=>
  have pa:=hp a (by simp)
  have za:=hz a (by simp)
  refine ⟨fun h5=>?_,fun h6=>?_,fun h3=>?_⟩
  ·rcases h with ⟨h,-⟩ | ⟨-,h⟩ | ⟨h,-,-⟩ | ⟨h,-,-⟩
   ·omega
   ·cases h
   ·omega
   ·omega
  ·rcases h with ⟨h,-⟩ | ⟨h,-⟩ | ⟨-,-,hh⟩ | ⟨-,h,-⟩
   ·omega
   ·omega
   ·subst h6
    rcases hh with ht | ht | ht <;> rw [ht]
    ·exact called_len a A c w hV pa za ad mx hE
    ·exact called_str a A c w hV pa za ad mx hE
    ·exact called_num a A c w hV pa za ad mx hE
   ·cases h
  ·rcases h3 with rfl | rfl
   ·exact signed_neg t a A c w hV pa za ad mx hE
   ·exact signed_not t a A c w hV pa za ad mx hE
 | [a,b],h,hp,hz,hV=>
  have pa:=hp a (by simp)
  have pb:=hp b (by simp)
  have za:=hz a (by simp)
  have zb:=hz b (by simp)
  refine ⟨fun h5=>?_,fun h6=>?_,fun h3=>?_⟩
  ·subst h5
   exact marked_any t a b A c w hV pa pb za zb
  ·subst h6
   rcases h with ⟨h,-⟩ | ⟨h,-⟩ | ⟨-,h,-⟩ | ⟨-,-,hh⟩
   ·omega
   ·omega
   ·cases h
   ·rcases hh with ht | ht <;> rw [ht]
    ·exact called_left a b A c w hV pa pb za zb ad mx hE
    ·exact called_right a b A c w hV pa pb za zb ad mx hE
  ·rcases h with ⟨-,h⟩ | ⟨h,-⟩ | ⟨h,-⟩ | ⟨h,-⟩
   ·cases h
   ·omega
   ·omega
   ·omega
 | a :: b :: d :: l,h,_,_,_=>rcases h with ⟨-,h⟩ | ⟨-,h⟩ | ⟨-,h,-⟩ | ⟨-,h,-⟩ <;> simp at h
theorem allR_err {op:Int} {t:List UInt8} {l:List R} {i:Nat} {r:R} {m:List R} (h:Ev.errOf l=Ev.errOf (l.drop i)) (hd:l.drop i=r :: m) (he:r.e ≠ 0):Ev.allR op t l=Ev.err r.e:=by
 have:Ev.errOf l=r.e:=by rw [h,hd,Ev.errOf,if_neg he]
 rw [Ev.allR,this,if_neg he]
theorem errOf_next {l:List R} {i:Nat} {r:R} {m:List R} (h:Ev.errOf l=Ev.errOf (l.drop i)) (hd:l.drop i=r :: m) (he:r.e=0):Ev.errOf l=Ev.errOf (l.drop (i + 1)):=by
 rw [h,hd,Ev.errOf,if_pos he]
 have:l.drop (i + 1)=m:=by rw [← List.drop_drop,hd]; rfl
 rw [this]
theorem etake_next {l:List R} {i:Nat} {r:R} {m:List R} (hd:l.drop i=r :: m):(l.take (i + 1)).map (·.v)=(l.take i).map (·.v) ++ [r.v]:=by
 have hi:i < l.length:=by
  rcases Nat.lt_or_ge i l.length with h | h
  ·exact h
  ·rw [List.drop_of_length_le h] at hd; cases hd
 have hr:l[i]=r:=by rw [List.drop_eq_getElem_cons hi] at hd; exact (List.cons.inj hd).1
 rw [List.take_succ_eq_append_getElem hi,List.map_append,hr]; rfl
theorem RowV.nil (w:World) (base:Nat):RowV w base (.slice none 0 0) []:=⟨rfl,.inl ⟨rfl,rfl⟩⟩
structure AllS (w wr:World) (cs:Array Value) (op:Int) (t:List UInt8) (vk vn:Int) (vs:List UInt8) (A:Option Addr) (n c:Nat):Prop where
 ov:Below w.heap.size w wr
 over:Whole wr w.heap.size 60 cs
 node:Whole wr (w.heap.size + 1) 26 (ncells op t vk vn vs A n c)
 res:Row3 wr (w.heap.size + 2) 0 0 ⟨#[]⟩
theorem AllS.call {w wr w':World} {cs:Array Value} {op t vk vn vs A n c} (h:AllS w wr cs op t vk vn vs A n c) (hb:Below wr.heap.size wr w'):AllS w w' cs op t vk vn vs A n c:=
 ⟨bstep h.ov hb,h.over.below hb h.over.lt,h.node.below hb h.node.lt,h.res.below hb h.res.lt⟩
theorem AllS.alloc {w wr:World} {cs:Array Value} {op t vk vn vs A n c} (h:AllS w wr cs op t vk vn vs A n c) (x:Obj):AllS w (wr.alloc x) cs op t vk vn vs A n c:=h.call ((Below.refl _ _).alloc (Nat.le_refl _) x)
theorem AllS.from {w w1 wr w':World} {cs:Array Value} {op t vk vn vs A n c} (h:AllS w w1 cs op t vk vn vs A n c) (hb:Below w1.heap.size w1 w'):AllS w w' cs op t vk vn vs A n c:=h.call hb
theorem ofAll_of {ks:List Tree} {op:Int} {t:List UInt8} {vk vn:Int} {vs:List UInt8} (hN:Ev.AllN op t ks.length) (hX:∀ i (h:i < ks.length),CT C Ac cc W Ar cr w0 ks[i]) (hp:∀ i (h:i < ks.length),Pl (Ev.ev C W ks[i]).v) (v:Value) (w:World) (hb:Below w0.heap.size w0 w) (hv:NodeV w v (.node op t vk vn vs ks)) (ad:Addr) (mx:Int) (hE:Env w ad mx) :
  Calls Tryz.prog 58 #[ovV C Ac cc W Ar cr,v] w fun e w'=>e=.returned (outR (Ev.allR op t (Ev.evs C W ks)))∧Below w.heap.size w w':=by
 obtain ⟨A,c,rfl,hcc,hk⟩:=hv
 have b0:=(Below.refl w.heap.size w).alloc (Nat.le_refl _) (.cells #[.slice Ac C.length cc,.slice Ar W.length cr] 60)
 have b1:=b0.alloc (by simp) (.cells (ncells op t vk vn vs A ks.length c) 26)
 have b2:=b1.alloc (by simp; omega) (.cells #[.int .i64 0,.int .i64 0,.string ⟨#[]⟩] 23)
 have k0:=((Whole.new w 60 #[.slice Ac C.length cc,.slice Ar W.length cr]).alloc (.cells (ncells op t vk vn vs A ks.length c) 26)).alloc (.cells #[.int .i64 0,.int .i64 0,.string ⟨#[]⟩] 23)
 have k1:=(Whole.new (w.alloc (.cells #[.slice Ac C.length cc,.slice Ar W.length cr] 60)) 26 (ncells op t vk vn vs A ks.length c)).alloc (.cells #[.int .i64 0,.int .i64 0,.string ⟨#[]⟩] 23)
 have r2:=Row3.new ((w.alloc (.cells #[.slice Ac C.length cc,.slice Ar W.length cr] 60)).alloc (.cells (ncells op t vk vn vs A ks.length c) 26)) 0 0 ⟨#[]⟩
 simp only [World.size_alloc] at k1 r2
 obtain ⟨W1,hW1⟩:∃ W1,((w.alloc (.cells #[.slice Ac C.length cc,.slice Ar W.length cr] 60)).alloc (.cells (ncells op t vk vn vs A ks.length c) 26)).alloc (.cells #[.int .i64 0,.int .i64 0,.string ⟨#[]⟩] 23)=W1:=⟨_,rfl⟩
 rw [hW1] at b2 k0 k1 r2
 have HKID:=hid (fun i (h:i < ks.length)=>kid_call h (hX i h) hb hk)
 have HP:=hid hp
 have HE1:=hid (hE.below b2)
 have HA1:Hid (AllS w W1 #[.slice Ac C.length cc,.slice Ar W.length cr] op t vk vn vs A ks.length c):=hid ⟨b2,k0,k1,r2⟩
 obtain ⟨RES,hres⟩:∃ RES,Ev.allR op t (Ev.evs C W ks)=RES:=⟨_,rfl⟩
 have HRES:=hid hres
 have HNN:=hid hN
 have hn5:ks.length≤2:=by rcases hN with ⟨-,h⟩ | ⟨-,h⟩ | ⟨-,h,-⟩ | ⟨-,h,-⟩ <;> omega
 rw [hres]
 obtain ⟨n,hn'⟩:∃ n,ks.length=n:=⟨_,rfl⟩
 have HN:=hid hn'
 rw [hn'] at hn5 hW1 HA1 HNN ⊢
 have HEVL:Hid ((Ev.evs C W ks).length=n):=hid (by rw [Ev.evs_len,hn'])
 have HPE:Hid (∀ v ∈ (Ev.evs C W ks).map (·.v),Pl v):=hid (fun v hv=>by
  obtain ⟨r,hr,rfl⟩:=List.mem_map.1 hv
  obtain ⟨i,hi,rfl⟩:=List.getElem_of_mem hr
  have hi':i < ks.length:=by rw [Ev.evs_len] at hi; exact hi
  have:=Ev.evs_at C W ks i hi'
  rw [List.getElem?_eq_getElem hi] at this
  rw [Option.some.inj this]; exact hp i hi')
 clear hres hn' hN hX hp hb hk hE hcc b0 b1 b2 k0 k1 r2
 unfold ovV at *
 obtain ⟨cn,hcn⟩:∃ cn,C.length=cn:=⟨_,rfl⟩
 obtain ⟨wn,hwn⟩:∃ wn,W.length=wn:=⟨_,rfl⟩
 rw [hcn,hwn] at hW1 HA1 HKID ⊢
 clear hcn hwn
 have hnode:=six_of HA1.out.node
 unfold ncells at *
 obtain ⟨c0,c1,c2,c3,c4,c5⟩:=hnode
 go_enter Tryz.func58,Tryz.ntmps58
 go_wp2_with fail
 go_loopg [6,8,9,10,14] (n + 1) (fun j s6 s8 s9 s10 s14 wr=>∃ (i:Nat),i≤n∧n < i + j∧s14=.int .i64 (i:Nat)∧Hid (Ev.errOf (Ev.evs C W ks)=Ev.errOf ((Ev.evs C W ks).drop i))∧Hid (RowV wr W1.heap.size s6 (((Ev.evs C W ks).take i).map (·.v)))∧Hid (Below W1.heap.size W1 wr))
 case atStart=>exact ⟨0,by omega,by omega,rfl,hid rfl,hid (RowV.nil _ _),hid (Below.refl _ _)⟩
 case round=>
  obtain ⟨i,hi,hj,rfl,HER,HRow,HB⟩:=hrel
  clear c0 c1 c2 c3 c4 c5
  have HAr:=hid (HA1.out.from (wr:=wr) HB.out)
  by_cases hlt:i < n
  ·have hlt':(i:Int) < (n:Int):=by omega
   have hik:i < ks.length:=by rw [HN.out]; exact hlt
   obtain ⟨kb,ko,o1,t1,k1,n1,s1,m1,B1,d1,rfl,hkb,hc,-,CX⟩:=HKID.out i hik
   obtain ⟨p0,p1,p2,p3,p4,p5⟩:=hc wr HAr.out.ov
   have HDR:=hid (evs_drop (C:=C) (W:=W) ks i hik)
   obtain ⟨x,hx⟩:∃ x,Ev.ev C W ks[i]=x:=⟨_,rfl⟩
   rw [hx] at CX HDR
   unfold ncells at *
   have HD1:=hid (HAr.out.alloc (.cells #[.int .i64 o1,.string (tx t1),.int .i64 k1,.int .i64 n1,.string (tx s1),.slice B1 m1 d1] 26))
   have hbk:=(Below.refl wr.heap.size wr).alloc (Nat.le_refl _) (.cells #[.int .i64 o1,.string (tx t1),.int .i64 k1,.int .i64 n1,.string (tx s1),.slice B1 m1 d1] 26)
   have HRw1:=hid (HRow.out.below hbk)
   have HB1:=hid (bstep HB.out hbk)
   have HCX:=hid (CX _ HD1.out.ov)
   have x0:=HD1.out.over.cell 0
   have x1:=HD1.out.over.cell 1
   simp only [List.getElem?_toArray,List.getElem?_cons_zero,List.getElem?_cons_succ] at x0 x1
   obtain ⟨e0,e1,e2,e3,e4,e5⟩:=six_of (Whole.new wr 26 (ncells o1 t1 k1 n1 s1 B1 m1 d1))
   have HERR:Hid (x.e ≠ 0→RES=Ev.err x.e):=hid (fun h=>by rw [← HRES.out]; exact allR_err HER.out HDR.out h)
   have HNX:Hid (x.e=0→Ev.errOf (Ev.evs C W ks)=Ev.errOf ((Ev.evs C W ks).drop (i + 1))):=hid (fun h=>errOf_next HER.out HDR.out h)
   have HTK:Hid (((Ev.evs C W ks).take (i + 1)).map (·.v)=((Ev.evs C W ks).take i).map (·.v) ++ [x.v]):=hid (etake_next HDR.out)
   unfold ncells at *
   obtain ⟨⟨xk,xn,xs_⟩,xe⟩:=x
   unfold outR vv vcells at *
   dsimp only at *
   clear hx hc CX HDR HER HRow hbk
   have hwr:wr.heap.size < (wr.alloc (.cells #[.int .i64 o1,.string (tx t1),.int .i64 k1,.int .i64 n1,.string (tx s1),.slice B1 m1 d1] 26)).heap.size:=by simp
   go_wp2_with fail
   refine HCX.out.mono ?_
   rintro e V2 ⟨rfl,hv2⟩
   have HD3:=hid ((HD1.out.call hv2).alloc (.cells #[.int .i64 xk,.int .i64 xn,.string (tx xs_)] 23))
   have hbv:=(Below.refl V2.heap.size V2).alloc (Nat.le_refl _) (.cells #[.int .i64 xk,.int .i64 xn,.string (tx xs_)] 23)
   have HRw3:=hid ((HRw1.out.below hv2).below hbv)
   have HB3:=hid (bstep (bstep HB1.out hv2) hbv)
   have HQ3:=hid (Row3.new V2 xk xn (tx xs_))
   obtain ⟨V3,hV3⟩:∃ V3,V2.alloc (.cells #[.int .i64 xk,.int .i64 xn,.string (tx xs_)] 23)=V3:=⟨_,rfl⟩
   rw [hV3] at HD3 HQ3 HRw3 HB3
   obtain ⟨q0,q1,q2⟩:=HQ3.out.holds
   clear x0 x1 p0 p1 p2 p3 p4 p5 e0 e1 e2 e3 e4 e5 hv2 hbv HCX HRw1 HB1 HD1
   by_cases h:xe=0
   ·have h':(xe != 0)=false:=by simpa using h
    have HNX2:=hid (HNX.out h)
    obtain ⟨v5,w5,hrun,r5,T5⟩:=append_val HRw3.out ⟨xk,xn,xs_⟩ (by rw [List.length_map,List.length_take]; omega) HB3.out.size
    have HR5:Hid (RowV w5 W1.heap.size v5 (((Ev.evs C W ks).take (i + 1)).map (·.v))):=hid (by rw [HTK.out]; exact r5)
    have B5:Hid (Below W1.heap.size W1 w5):=hid (T5.fresh HB3.out (fun k hk=>(HRw3.out.block k (by simpa using hk)).1))
    unfold vcells at hrun
    have HRUN:=hid hrun
    clear hrun r5 T5 HERR HNX HTK h
    go_wp2_with (at_builtin; refine Lib.wpList_append_run _ rfl (.tmp 30) (.tmp 32) 28 28 rfl _ _ rfl rfl _ _ HRUN.out ?_)
    go_roundg (n - i)
    case measure=>omega
    case rel=>exact ⟨i + 1,by omega,by omega,by go_num,HNX2,HR5,B5⟩
   ·have h':(xe != 0)=true:=by simpa using h
    have HR:Hid (RES=Ev.err xe):=hid (HERR.out h)
    clear h q0 q1 q2
    go_wp2_with fail
    refine (efail_any _ _).mono ?_
    rintro e V4 ⟨rfl,hb4⟩
    have HD4:=hid (HD3.out.call hb4)
    clear hb4
    obtain ⟨d0,d1,d2⟩:=HD4.out.res.holds
    have f0:=HD4.out.res.frozen 0
    have f1:=HD4.out.res.frozen 1
    have f2:=HD4.out.res.frozen 2
    unfold outR vv vcells Ev.err Ev.z
    go_wp2_with fail
    exact fin_R Tryz.results58 rfl rfl rfl HD4.out.res HD4.out.ov (by omega) (by rw [HR.out]; rfl)
  ·have hlt':¬ (i:Int) < (n:Int):=by omega
   have hall:(Ev.evs C W ks).drop i=[]:=List.drop_of_length_le (by rw [HEVL.out]; omega)
   have htk:(Ev.evs C W ks).take i=Ev.evs C W ks:=List.take_of_length_le (by rw [HEVL.out]; omega)
   have HE0:Hid (Ev.errOf (Ev.evs C W ks)=0):=hid (by rw [HER.out,hall]; rfl)
   have HRw:=HRow.out
   rw [htk] at HRw
   have HRES2:Hid (RES=if ((Ev.evs C W ks).map (·.v)).any (fun v=>decide (v.k=0))=true then Ev.ok Ev.z else Ev.app op t ((Ev.evs C W ks).map (·.v))):=hid (by rw [← HRES.out,Ev.allR,if_pos HE0.out])
   have HLL:Hid (((Ev.evs C W ks).map (·.v)).length=n):=hid (by rw [List.length_map,HEVL.out])
   obtain ⟨L,hL⟩:∃ L,(Ev.evs C W ks).map (·.v)=L:=⟨_,rfl⟩
   rw [hL] at HRw HRES2 HLL HPE
   have HRW:=hid HRw
   obtain ⟨A6,c6,rfl,-,-,hV6⟩:=HRw.shape
   have HV6:=hid hV6
   clear hL hV6 HER HRow HRw hall htk HE0 HRES HKID HP
   have CO:=hid (fun U (hU:Below wr.heap.size wr U)=>contains_any L A6 c6 U (HV6.out.below hU) HPE.out (by rw [HLL.out]; omega))
   have AP:=hid (fun (hz:∀ v ∈ L,¬ v.k=0) U (hU:Below wr.heap.size wr U)=>apply_all (op:=op) (t:=t) (by rw [HLL.out]; exact HNN.out) HPE.out hz A6 c6 U (HV6.out.below hU) ad mx ((HE1.out.below HB.out).below hU))
   have HAN:Hid (L.any (fun v=>decide (v.k=0))=false→∀ v ∈ L,¬ v.k=0):=hid (fun h v hv hz=>by
    rw [Bool.eq_false_iff] at h
    exact h (List.any_eq_true.2 ⟨v,hv,by simpa using hz⟩))
   rw [HLL.out] at CO AP ⊢
   go_wp2_with fail
   refine (null_any _).mono ?_
   rintro e V1 ⟨rfl,hb1⟩
   go_wp2_with fail
   refine (CO.out _ hb1).mono ?_
   rintro e V2 ⟨rfl,hb2⟩
   have hb12:=bstep hb1 hb2
   have HD2:=hid (HAr.out.call hb12)
   have HB12:=hid hb12
   clear hb1 hb2 hb12 CO
   obtain ⟨c0,c1,c2,c3,c4,c5⟩:=six_of (HD2.out.node)
   obtain ⟨d0,d1,d2⟩:=HD2.out.res.holds
   have f0:=HD2.out.res.frozen 0
   have f1:=HD2.out.res.frozen 1
   have f2:=HD2.out.res.frozen 2
   cases hany:L.any (fun v=>decide (v.k=0))
   case true=>
    have HR:Hid (RES=Ev.ok Ev.z):=hid (by rw [HRES2.out,if_pos hany])
    clear hany HRES2 c0 c1 c2 c3 c4 c5 d0 d1 d2 f0 f1 f2
    go_wp2_with fail
    refine (null_any _).mono ?_
    rintro e V4 ⟨rfl,hb4⟩
    have HD4:=hid (HD2.out.call hb4)
    clear hb4
    obtain ⟨d0,d1,d2⟩:=HD4.out.res.holds
    have f0:=HD4.out.res.frozen 0
    have f1:=HD4.out.res.frozen 1
    have f2:=HD4.out.res.frozen 2
    go_wp2_with fail
    exact fin_R Tryz.results58 rfl rfl rfl HD4.out.res HD4.out.ov (by omega) (by rw [HR.out]; rfl)
   case false=>
    have HR:Hid (RES=Ev.app op t L):=hid (by rw [HRES2.out,if_neg (by rw [hany]; decide)])
    have AQ:=hid (AP.out (HAN.out hany) V2 HB12.out)
    clear hany HRES2 AP HAN
    obtain ⟨⟨rk,rn,rs⟩,re_⟩:=RES
    rw [← HR.out] at AQ
    unfold outR vv vcells at AQ
    dsimp only at AQ
    have OPS:Hid (op=5∨op=6∨(op=3∨op=4)):=hid (by rcases HNN.out with ⟨h,-⟩ | ⟨h,-⟩ | ⟨h,-,-⟩ | ⟨h,-,-⟩ <;> omega)
    by_cases h5:op=5
    ·have h5':(op == 5)=true:=by simpa using h5
     have A5:=hid (AQ.out.1 h5)
     clear AQ h5
     go_wp2_with fail
     refine A5.out.mono ?_
     rintro e V4 ⟨rfl,hb4⟩
     have HD4:=hid (HD2.out.call hb4)
     clear hb4 d0 d1 d2 f0 f1 f2 c0 c1 c2 c3 c4 c5
     obtain ⟨d0,d1,d2⟩:=HD4.out.res.holds
     have f0:=HD4.out.res.frozen 0
     have f1:=HD4.out.res.frozen 1
     have f2:=HD4.out.res.frozen 2
     go_wp2_with fail
     exact fin_R Tryz.results58 rfl rfl rfl HD4.out.res HD4.out.ov (by omega) rfl
    ·have h5':(op == 5)=false:=by simpa using h5
     by_cases h6:op=6
     ·have h6':(op == 6)=true:=by simpa using h6
      have A5:=hid (AQ.out.2.1 h6)
      clear AQ h5 h6
      go_wp2_with fail
      refine A5.out.mono ?_
      rintro e V4 ⟨rfl,hb4⟩
      have HD4:=hid (HD2.out.call hb4)
      clear hb4 d0 d1 d2 f0 f1 f2 c0 c1 c2 c3 c4 c5
      obtain ⟨d0,d1,d2⟩:=HD4.out.res.holds
      have f0:=HD4.out.res.frozen 0
      have f1:=HD4.out.res.frozen 1
      have f2:=HD4.out.res.frozen 2
      go_wp2_with fail
      exact fin_R Tryz.results58 rfl rfl rfl HD4.out.res HD4.out.ov (by omega) rfl
     ·have h6':(op == 6)=false:=by simpa using h6
      have A5:=hid (AQ.out.2.2 (by have:=OPS.out; omega))
      clear AQ h5 h6
      go_wp2_with fail
      refine A5.out.mono ?_
      rintro e V4 ⟨rfl,hb4⟩
      have HD4:=hid (HD2.out.call hb4)
      clear hb4 d0 d1 d2 f0 f1 f2 c0 c1 c2 c3 c4 c5
      obtain ⟨d0,d1,d2⟩:=HD4.out.res.holds
      have f0:=HD4.out.res.frozen 0
      have f1:=HD4.out.res.frozen 1
      have f2:=HD4.out.res.frozen 2
      go_wp2_with fail
      exact fin_R Tryz.results58 rfl rfl rfl HD4.out.res HD4.out.ov (by omega) rfl
end Go.Proofs.YteghhmomhlnccaaGreatDoor
namespace Go.Proofs.YteghhmomhlnccaaGreatDoor
attribute [local go_sem ↓] eqVal neqVal
open Ex (Tree)
open Ev (V R Pl)
variable {C : List Col} {Ac : Option Addr} {cc : Nat} {W : List V} {Ar : Option Addr} {cr : Nat} {w0 : World}
def Ev.isnR (r:R):R:=if r.e=0 then Ev.ok (Ev.tru (decide (r.v.k=0))) else Ev.err r.e
theorem isNull_of {X:Tree} (hX:CT C Ac cc W Ar cr w0 X) (hp:Pl (Ev.ev C W X).v) (v:Value) (w:World) (hb:Below w0.heap.size w0 w) (hv:NodeV w v X) :
  Calls Tryz.prog 55 #[ovV C Ac cc W Ar cr,v] w fun e w'=>e=.returned (outR (Ev.isnR (Ev.ev C W X)))∧Below w.heap.size w w':=by
 cases X with
 | node op t vk vn vs ks=>
 obtain ⟨A,c,rfl,hcc,hk⟩:=hv
 have b0:=(Below.refl w.heap.size w).alloc (Nat.le_refl _) (.cells #[.slice Ac C.length cc,.slice Ar W.length cr] 60)
 have b1:=b0.alloc (by simp) (.cells (ncells op t vk vn vs A ks.length c) 26)
 have b2:=b1.alloc (by simp; omega) (.cells #[.int .i64 0,.int .i64 0,.string ⟨#[]⟩] 23)
 have k0:=((Whole.new w 60 #[.slice Ac C.length cc,.slice Ar W.length cr]).alloc (.cells (ncells op t vk vn vs A ks.length c) 26)).alloc (.cells #[.int .i64 0,.int .i64 0,.string ⟨#[]⟩] 23)
 have k1:=(Whole.new (w.alloc (.cells #[.slice Ac C.length cc,.slice Ar W.length cr] 60)) 26 (ncells op t vk vn vs A ks.length c)).alloc (.cells #[.int .i64 0,.int .i64 0,.string ⟨#[]⟩] 23)
 have r0:=Row3.new ((w.alloc (.cells #[.slice Ac C.length cc,.slice Ar W.length cr] 60)).alloc (.cells (ncells op t vk vn vs A ks.length c) 26)) 0 0 ⟨#[]⟩
 simp only [World.size_alloc] at k1 r0
 have HC:=hid (hX _ _ (bstep hb b2) ⟨A,c,rfl,hcc,hk.below b2⟩)
 have HP:=hid hp
 obtain ⟨r,hr⟩:∃ r,Ev.ev C W (.node op t vk vn vs ks)=r:=⟨_,rfl⟩
 rw [hr] at HC HP ⊢
 clear hr hX hp hb hk hcc b0 b1
 unfold ovV ncells at *
 generalize ks.length=kn at *
 generalize C.length=cn at *
 generalize W.length=wn at *
 have B2:=hid b2
 have R0:=hid r0
 have x0:=k0.cell 0
 have x1:=k0.cell 1
 simp only [List.getElem?_toArray,List.getElem?_cons_zero,List.getElem?_cons_succ] at x0 x1
 obtain ⟨c0,c1,c2,c3,c4,c5⟩:=six_of k1
 clear b2 r0 k0 k1
 go_enter Tryz.func55,Tryz.ntmps55
 go_wp2_with fail
 refine HC.out.mono ?_
 rintro e w2 ⟨rfl,hb2⟩
 obtain ⟨⟨rk,rn,rs⟩,re_⟩:=r
 unfold outR vv vcells at *
 dsimp only at *
 have R2:=R0.out.below hb2 R0.out.lt
 have R3:=hid (R2.alloc (.cells #[.int .i64 rk,.int .i64 rn,.string (tx rs)] 23))
 have q0:=Row3.new w2 rk rn (tx rs)
 have hbb:=bstep B2.out hb2
 have B3:=hid (hbb.alloc hbb.size (.cells #[.int .i64 rk,.int .i64 rn,.string (tx rs)] 23))
 clear c0 c1 c2 c3 c4 c5 x0 x1 R2 hbb R0 B2 HC hb2
 obtain ⟨q1,q2,q3⟩:=q0.holds
 have Q0:=hid q0
 clear q0
 by_cases h:re_=0
 ·have h':(re_ != 0)=false:=by simpa using h
  have HR:Hid (Ev.isnR ⟨⟨rk,rn,rs⟩,re_⟩=Ev.ok (Ev.tru (same rk rn (tx rs) 0 0 ⟨#[]⟩))):=hid (by rw [Ev.isnR,if_pos h,same_z HP.out])
  clear h
  obtain ⟨W3,hW3⟩:∃ W3,w2.alloc (.cells #[.int .i64 rk,.int .i64 rn,.string (tx rs)] 23)=W3:=⟨_,rfl⟩
  rw [hW3] at R3 B3 Q0 q1 q2 q3
  have NU:=hid (fun U (hU:Below W3.heap.size W3 U)=>call_over hU (null_any U))
  have BO:=hid (fun b U (hU:Below W3.heap.size W3 U)=>(bool_any b U).mono (fun e w' h=>(⟨h.1,bstep hU h.2⟩:e=.returned (val 3 (bit b) ⟨#[]⟩)∧Below W3.heap.size W3 w')))
  have QQ:Hid (∀ U,Below W3.heap.size W3 U→Holds3 U w2.heap.size rk rn (tx rs)):=hid (fun U hU=>(Q0.out.below hU Q0.out.lt).holds)
  go_upto_region 4 with fail
  go_region_with (first
   | (go_at_call 26; refine (NU.out _ (by first | exact below_drewN (Below.refl _ _) _ | exact (Below.refl _ _).drew | exact Below.refl _ _)).mono ?_; rintro e W4 ⟨rfl,hb4⟩; obtain ⟨z0,z1,z2⟩:=QQ.out W4 hb4)
   | (go_at_call 29; refine (BO.out _ _ (by first | exact hb4 | exact hb4.drew | exact below_drewN hb4 _)).mono ?_; rintro e W5 ⟨rfl,hb5⟩; have R5:=hid (R3.out.below hb5 R3.out.lt); obtain ⟨d1,d2,d3⟩:=R5.out.holds; have f0:=R5.out.frozen 0; have f1:=R5.out.frozen 1; have f2:=R5.out.frozen 2; have B5:=hid (B3.out.trans (hb5.mono B3.out.size))))
  all_goals
   go_wp2_with fail
   exact fin_R Tryz.results55 rfl rfl rfl R5.out B5.out (by omega) (by rw [HR.out,← bit_tru]; rfl)
 ·have h':(re_ != 0)=true:=by simpa using h
  have HR:Hid (Ev.isnR ⟨⟨rk,rn,rs⟩,re_⟩=Ev.err re_):=hid (by rw [Ev.isnR,if_neg h])
  clear h
  go_wp2_with fail
  refine (efail_any _ _).mono ?_
  rintro e w4 ⟨rfl,hb4⟩
  have R4:=hid (R3.out.below hb4 R3.out.lt)
  have B4:=hid (bstep B3.out hb4)
  clear hb4
  obtain ⟨d1,d2,d3⟩:=R4.out.holds
  have f0:=R4.out.frozen 0
  have f1:=R4.out.frozen 1
  have f2:=R4.out.frozen 2
  unfold outR vv vcells Ev.err Ev.z
  go_wp2_with fail
  exact fin_R Tryz.results55 rfl rfl rfl R4.out B4.out (by omega) (by rw [HR.out]; rfl)
end Go.Proofs.YteghhmomhlnccaaGreatDoor
namespace Go.Proofs.YteghhmomhlnccaaGreatDoor
attribute [local go_sem ↓] eqVal neqVal
open Ex (Tree)
open Ev (V R Pl)
variable {C : List Col} {Ac : Option Addr} {cc : Nat} {W : List V} {Ar : Option Addr} {cr : Nat} {w0 : World}
def Ev.knR (a b:R):R:=if a.e=0 then (if a.v.k=0 then b else Ev.ok a.v) else Ev.err a.e
theorem firstKnown_of {X Y:Tree} (hX:CT C Ac cc W Ar cr w0 X) (hY:CT C Ac cc W Ar cr w0 Y) (hp:Pl (Ev.ev C W X).v) (A:Option Addr) (c:Nat) (w:World) (hb:Below w0.heap.size w0 w) (hk:TreesAt w A 0 [X,Y]) :
  Calls Tryz.prog 56 #[ovV C Ac cc W Ar cr,.slice A 2 c] w fun e w'=>e=.returned (outR (Ev.knR (Ev.ev C W X) (Ev.ev C W Y)))∧Below w.heap.size w w':=by
 have b0:=(Below.refl w.heap.size w).alloc (Nat.le_refl _) (.cells #[.slice Ac C.length cc,.slice Ar W.length cr] 60)
 have b1:=b0.alloc (by simp) (.cells #[.int .i64 0,.int .i64 0,.string ⟨#[]⟩] 23)
 have k0:=(Whole.new w 60 #[.slice Ac C.length cc,.slice Ar W.length cr]).alloc (.cells #[.int .i64 0,.int .i64 0,.string ⟨#[]⟩] 23)
 have r0:=Row3.new (w.alloc (.cells #[.slice Ac C.length cc,.slice Ar W.length cr] 60)) 0 0 ⟨#[]⟩
 rw [World.size_alloc] at r0
 obtain ⟨W1,hW1⟩:∃ W1,(w.alloc (.cells #[.slice Ac C.length cc,.slice Ar W.length cr] 60)).alloc (.cells #[.int .i64 0,.int .i64 0,.string ⟨#[]⟩] 23)=W1:=⟨_,rfl⟩
 rw [hW1] at b1 k0 r0
 obtain ⟨kb,ko,o0,t0,k0,n0,s0,m0,B0,c0,rfl,-,hc0,-,C0⟩:=kid_call (i:=0) (by simp) hX hb hk
 obtain ⟨kb1,ko1,o1,t1,k1,n1,s1,m1,B1,c1,e1,-,hc1,-,C1⟩:=kid_call (i:=1) (by simp) hY hb hk
 cases e1
 simp only [List.getElem_cons_zero,List.getElem_cons_succ] at C0 C1
 have HE:=hid (@Ev.ev_err C W X)
 have HP:=hid hp
 obtain ⟨x,hx'⟩:∃ r,Ev.ev C W X=r:=⟨_,rfl⟩
 obtain ⟨y,hy'⟩:∃ r,Ev.ev C W Y=r:=⟨_,rfl⟩
 rw [hx'] at C0 HP HE ⊢
 rw [hy'] at C1 ⊢
 clear hx' hy' hX hY hp hb hk b0
 unfold ovV ncells at *
 generalize C.length=cn at *
 generalize W.length=wn at *
 have KB:=hid b1
 have R0:=hid r0
 have Q1:Hid (OvR w W1 #[.slice Ac cn cc,.slice Ar wn cr]):=hid ⟨⟨b1,k0⟩,r0⟩
 have HSZ:Hid (w.heap.size + 2≤W1.heap.size):=hid (by have:=r0.lt; omega)
 have HC0:=hid hc0
 have HK0:=hid C0
 have HC1:=hid hc1
 have HK1:=hid C1
 obtain ⟨⟨xk,xn,xs_⟩,xe⟩:=x
 obtain ⟨⟨yk,yn,ys_⟩,ye⟩:=y
 unfold outR vv vcells at *
 dsimp only at *
 clear b1 r0 k0 hc0 hc1 C0 C1
 have KK0:Hid (∀ U,OvS w U #[.slice Ac cn cc,.slice Ar wn cr]→(U.cell? ⟨w.heap.size,0,none⟩=some (.slice Ac cn cc)∧U.cell? ⟨w.heap.size,1,none⟩=some (.slice Ar wn cr))∧U.cell? ⟨kb,ko,none⟩=some (.int .i64 o0)∧U.cell? ⟨kb,ko + 1,none⟩=some (.string (tx t0))∧U.cell? ⟨kb,ko + 2,none⟩=some (.int .i64 k0)∧U.cell? ⟨kb,ko + 3,none⟩=some (.int .i64 n0)∧U.cell? ⟨kb,ko + 4,none⟩=some (.string (tx s0))∧U.cell? ⟨kb,ko + 5,none⟩=some (.slice B0 m0 c0)):=hid (fun U hU=>by
  have h:=HC0.out U hU.1
  simp only [Nat.zero_mul,Nat.one_mul,Nat.add_zero,show 2 * 6=12 from rfl] at h
  exact ⟨hU.cells,h⟩)
 have KK1:Hid (∀ U,OvS w U #[.slice Ac cn cc,.slice Ar wn cr]→(U.cell? ⟨w.heap.size,0,none⟩=some (.slice Ac cn cc)∧U.cell? ⟨w.heap.size,1,none⟩=some (.slice Ar wn cr))∧U.cell? ⟨kb,ko + 6,none⟩=some (.int .i64 o1)∧U.cell? ⟨kb,ko + 6 + 1,none⟩=some (.string (tx t1))∧U.cell? ⟨kb,ko + 6 + 2,none⟩=some (.int .i64 k1)∧U.cell? ⟨kb,ko + 6 + 3,none⟩=some (.int .i64 n1)∧U.cell? ⟨kb,ko + 6 + 4,none⟩=some (.string (tx s1))∧U.cell? ⟨kb,ko + 6 + 5,none⟩=some (.slice B1 m1 c1)):=hid (fun U hU=>by
  have h:=HC1.out U hU.1
  simp only [Nat.zero_mul,Nat.one_mul,Nat.add_zero,show 2 * 6=12 from rfl] at h
  exact ⟨hU.cells,h⟩)
 go_enter Tryz.func56,Tryz.ntmps56
 go_upto_region 1 with fail
 go_cut [6,7] from 9 to 15 (fun s6 s7 wc=>∃ g,s6=.pointer (some ⟨g,0,none⟩)∧s7=.int .i64 xe∧Hid (Row3 wc g xk xn (tx xs_))∧Hid (OvR w wc #[.slice Ac cn cc,.slice Ar wn cr]))
 case first=>
  have QD:Hid (OvR w W1.drew #[.slice Ac cn cc,.slice Ar wn cr]):=hid Q1.out.drew
  refine wp_region_held_drew (S:=fun U=>OvR w U #[.slice Ac cn cc,.slice Ar wn cr]) (by kernel_rfl) QD.out (fun _=>?_)
  refine qTk 0 (v:=?_) QD.out ?_ ?_
  rotate_left
  ·(intro W hw; obtain ⟨⟨a0,a1⟩,p0,p1,p2,p3,p4,p5⟩:=KK0.out W hw.1; go_simp; try with_reducible rfl)
  refine qTk 1 (v:=?_) QD.out ?_ ?_
  rotate_left
  ·(intro W hw; go_simp; try with_reducible rfl)
  refine qTk 2 (v:=?_) QD.out ?_ ?_
  rotate_left
  ·(intro W hw; go_simp; try with_reducible rfl)
  refine qTk 3 (v:=?_) QD.out ?_ ?_
  rotate_left
  ·(intro W hw; obtain ⟨⟨a0,a1⟩,p0,p1,p2,p3,p4,p5⟩:=KK0.out W hw.1; go_simp; try with_reducible rfl)
  refine qTr2 4 8 (fun K hK=>?_) (fun K hK=>?_)
  ·
   go_simp
   refine (HK0.out _ QD.out.1.1).mono ?_
   rintro e V1 ⟨rfl,hv1⟩
   have QV1:=hid (QD.out.call hv1)
   refine hK.out _ _ QV1.out (fun _=>?_)
   clear hK K
   refine qTk 5 (v:=?_) QV1.out ?_ ?_
   rotate_left
   ·(intro W hw; go_simp; try with_reducible rfl)
   refine qTk 6 (v:=?_) QV1.out ?_ ?_
   rotate_left
   ·(intro W hw; go_simp; try with_reducible rfl)
   refine qTk 7 (v:=?_) QV1.out ?_ ?_
   rotate_left
   ·(intro W hw; go_simp; try with_reducible rfl)
   refine qTr1 8 (fun K hK=>?_)
   go_simp
   have QA:=hid (QV1.out.alloc (.cells #[.int .i64 0,.int .i64 0,.string ⟨#[]⟩] 23))
   refine hK.out _ _ QA.out (fun _=>?_)
   clear hK K
   refine qTr1 9 (fun K hK=>?_)
   go_simp
   have QS:=hid (QV1.out.alloc (.cells #[.int .i64 xk,.int .i64 xn,.string (tx xs_)] 23))
   have FW:=hid (Row3.new V1 xk xn (tx xs_))
   refine hK.out _ _ QS.out (fun _=>?_)
   clear hK K
   refine qTk 10 (v:=?_) QS.out ?_ ?_
   rotate_left
   ·(intro W hw; go_simp; try with_reducible rfl)
   refine wpAnyH_done (by kernel_rfl) ?_ _
   try simp only  [Act.put,List.setIfInBounds_toArray,List.set_cons_zero,List.set_cons_succ]
   go_wp2_with fail
   go_meet
   case rel=>exact ⟨_,rfl,rfl,FW,QS⟩
  ·
   go_simp
   have QA:=hid (QD.out.alloc (.cells #[.int .i64 0,.int .i64 0,.string ⟨#[]⟩] 23))
   refine hK.out _ _ QA.out (fun _=>?_)
   clear hK K
   refine qTr1 4 (fun K hK=>?_)
   go_simp
   refine (HK0.out _ QA.out.1.1).mono ?_
   rintro e V1 ⟨rfl,hv1⟩
   have QV1:=hid (QA.out.call hv1)
   have ZB1:=Row3.below (w':=V1) (g:=W1.heap.size) (k:=0) (n:=0) (s:=⟨#[]⟩) (by exact Row3.new W1 0 0 ⟨#[]⟩) hv1 (by simp)
   obtain ⟨z0,z1,z2⟩:=ZB1.holds
   have f0:=ZB1.frozen 0
   have f1:=ZB1.frozen 1
   have f2:=ZB1.frozen 2
   refine hK.out _ _ QV1.out (fun _=>?_)
   clear hK K
   refine qTk 5 (v:=?_) QV1.out ?_ ?_
   rotate_left
   ·(intro W hw; go_simp; try with_reducible rfl)
   refine qTk 6 (v:=?_) QV1.out ?_ ?_
   rotate_left
   ·(intro W hw; go_simp; try with_reducible rfl)
   refine qTk 7 (v:=?_) QV1.out ?_ ?_
   rotate_left
   ·(intro W hw; go_simp; try with_reducible rfl)
   refine qTr1 9 (fun K hK=>?_)
   go_simp
   have QS:=hid (QV1.out.set3 (g:=W1.heap.size) (by exact Nat.succ_le_of_lt QD.out.2.lt) (.int .i64 xk) (.int .i64 xn) (.string (tx xs_)))
   have FW:=hid (ZB1.set3 xk xn (tx xs_))
   refine hK.out _ _ QS.out (fun _=>?_)
   clear hK K
   refine qTk 10 (v:=?_) QS.out ?_ ?_
   rotate_left
   ·(intro W hw; go_simp; try with_reducible rfl)
   refine wpAnyH_done (by kernel_rfl) ?_ _
   try simp only  [Act.put,List.setIfInBounds_toArray,List.set_cons_zero,List.set_cons_succ]
   go_wp2_with fail
   go_meet
   case rel=>exact ⟨_,rfl,rfl,FW,QS⟩
 case rest=>
  obtain ⟨g,rfl,rfl,HQ,HOR⟩:=hcut
  have HOV:=hid HOR.out.1
  have HR0:=hid HOR.out.2
  obtain ⟨W2,rfl⟩:∃ W2,W2=wc:=⟨wc,rfl⟩
  have QQ:Hid (∀ U,Below W2.heap.size W2 U→Holds3 U g xk xn (tx xs_)):=hid (fun U hU=>(HQ.out.below hU HQ.out.lt).holds)
  obtain ⟨z0,z1,z2⟩:=QQ.out W2 (Below.refl _ _)
  have NU:=hid (fun U (hU:Below W2.heap.size W2 U)=>call_over hU (null_any U))
  by_cases h:xe=0
  ·have hx7:(xe != 0)=false:=by simpa using h
   cases hz:decide (xk=0)
   ·have hs:same xk xn (tx xs_) 0 0 ⟨#[]⟩=false:=by rw [← hz]; exact same_z HP.out
    have HR:Hid (Ev.knR ⟨⟨xk,xn,xs_⟩,xe⟩ ⟨⟨yk,yn,ys_⟩,ye⟩=⟨⟨xk,xn,xs_⟩,xe⟩):=hid (by rw [Ev.knR,if_pos h,if_neg (of_decide_eq_false hz),h]; rfl)
    clear h hz
    go_upto_region 2 with fail
    go_region_with (go_at_call 26; refine (NU.out _ (by first | exact below_drewN (Below.refl _ _) _ | exact (Below.refl _ _).drew | exact Below.refl _ _)).mono ?_; rintro e V ⟨rfl,hb4⟩; obtain ⟨z0,z1,z2⟩:=QQ.out V hb4; have R4:=hid (HR0.out.below hb4 HR0.out.lt); have Q4:=hid (HOV.out.call hb4); obtain ⟨d0,d1,d2⟩:=R4.out.holds; have f0:=R4.out.frozen 0; have f1:=R4.out.frozen 1; have f2:=R4.out.frozen 2)
    all_goals
     go_wp2_with fail
     exact fin_R Tryz.results56 rfl rfl rfl R4.out Q4.out.1 (by omega) (by rw [HR.out])
   ·have hs:same xk xn (tx xs_) 0 0 ⟨#[]⟩=true:=by rw [← hz]; exact same_z HP.out
    have HR:Hid (Ev.knR ⟨⟨xk,xn,xs_⟩,xe⟩ ⟨⟨yk,yn,ys_⟩,ye⟩=⟨⟨yk,yn,ys_⟩,ye⟩):=hid (by rw [Ev.knR,if_pos h,if_pos (of_decide_eq_true hz)])
    clear h hz
    go_upto_region 2 with fail
    go_region_with (go_at_call 26; refine (NU.out _ (by first | exact below_drewN (Below.refl _ _) _ | exact (Below.refl _ _).drew | exact Below.refl _ _)).mono ?_; rintro e V ⟨rfl,hb4⟩; obtain ⟨z0,z1,z2⟩:=QQ.out V hb4; have R4:=hid (HR0.out.below hb4 HR0.out.lt); have Q4:=hid (HOV.out.call hb4))
    all_goals
     clear z0 z1 z2
     have QD:Hid (OvS w V.drew #[.slice Ac cn cc,.slice Ar wn cr]):=hid Q4.out.drew
     go_upto_region 4 with fail
     refine wp_region_held_drew (S:=fun U=>OvS w U #[.slice Ac cn cc,.slice Ar wn cr]) (by kernel_rfl) QD.out (fun _=>?_)
     refine qTk 0 (v:=?_) QD.out ?_ ?_
     rotate_left
     ·(intro W hw; obtain ⟨⟨a0,a1⟩,p0,p1,p2,p3,p4,p5⟩:=KK1.out W hw; go_simp; try with_reducible rfl)
     refine qTk 1 (v:=?_) QD.out ?_ ?_
     rotate_left
     ·(intro W hw; go_simp; try with_reducible rfl)
     refine qTk 2 (v:=?_) QD.out ?_ ?_
     rotate_left
     ·(intro W hw; go_simp; try with_reducible rfl)
     refine qTk 3 (v:=?_) QD.out ?_ ?_
     rotate_left
     ·(intro W hw; obtain ⟨⟨a0,a1⟩,p0,p1,p2,p3,p4,p5⟩:=KK1.out W hw; go_simp; try with_reducible rfl)
     refine qTr1 4 (fun K hK=>?_)
     go_simp
     refine (HK1.out _ QD.out.1).mono ?_
     rintro e V1 ⟨rfl,hv1⟩
     have QV1:=hid (QD.out.call hv1)
     have ZB1:=Row3.below (w':=V1) (g:=w.heap.size + 1) (k:=0) (n:=0) (s:=⟨#[]⟩) (by exact R4.out) hv1 (by exact R4.out.lt)
     obtain ⟨z0,z1,z2⟩:=ZB1.holds
     have f0:=ZB1.frozen 0
     have f1:=ZB1.frozen 1
     have f2:=ZB1.frozen 2
     refine hK.out _ _ QV1.out (fun _=>?_)
     clear hK K
     refine qTk 5 (v:=?_) QV1.out ?_ ?_
     rotate_left
     ·(intro W hw; go_simp; try with_reducible rfl)
     refine qTk 6 (v:=?_) QV1.out ?_ ?_
     rotate_left
     ·(intro W hw; go_simp; try with_reducible rfl)
     refine qTr1 7 (fun K hK=>?_)
     go_simp
     have QS:=hid (QV1.out.set3 (g:=w.heap.size + 1) (by first | omega | exact Nat.le_refl _) (.int .i64 yk) (.int .i64 yn) (.string (tx ys_)))
     have FW:=hid (ZB1.set3 yk yn (tx ys_))
     refine hK.out _ _ QS.out (fun _=>?_)
     clear hK K
     refine qTk 8 (v:=?_) QS.out ?_ ?_
     rotate_left
     ·(intro W hw; go_simp; try with_reducible rfl)
     refine wpAnyH_done (by kernel_rfl) ?_ _
     try simp only  [Act.put,List.setIfInBounds_toArray,List.set_cons_zero,List.set_cons_succ]
     go_wp2_with fail
     exact fin_R2 Tryz.results56 rfl rfl rfl FW.out QS.out.1 (by rw [HR.out])
  ·have hx7:(xe != 0)=true:=by simpa using h
   have HR:Hid (Ev.knR ⟨⟨xk,xn,xs_⟩,xe⟩ ⟨⟨yk,yn,ys_⟩,ye⟩=⟨⟨xk,xn,xs_⟩,xe⟩):=hid (by rw [Ev.knR,if_neg h]; have:=HE.out h; rw [this]; rfl)
   obtain ⟨d0,d1,d2⟩:=HR0.out.holds
   have f0:=HR0.out.frozen 0
   have f1:=HR0.out.frozen 1
   have f2:=HR0.out.frozen 2
   clear h
   go_upto_region 2 with fail
   go_quiet (fail)
   go_wp2_with fail
   exact fin_R Tryz.results56 rfl rfl rfl (by exact HR0.out) (by first | exact below_drewN HOV.out.1 _ | exact HOV.out.1.drew | exact HOV.out.1) (by omega) (by rw [HR.out])
end Go.Proofs.YteghhmomhlnccaaGreatDoor
namespace Go.Proofs.YteghhmomhlnccaaGreatDoor
attribute [local go_sem ↓] eqVal neqVal
def ShapeR (w:World) (g:Int) (l:List Int) (e:Ending) (w':World):Prop:=∃ A,e=.returned (.agg #[.int .i64 g,.slice A l.length l.length])∧IntsAt w' A l∧Below w.heap.size w w'
theorem ShapeR.of {w w':World} {g:Int} {l:List Int} {B:Nat} (h:Whole w' B 3 ((l.map (Value.int .i64)).toArray)) (hb:Below w.heap.size w w'):ShapeR w g l (.returned (.agg #[.int .i64 g,.slice (some ⟨B,0,none⟩) l.length l.length])) w':=⟨_,rfl,IntsAt.whole h,hb⟩
end Go.Proofs.YteghhmomhlnccaaGreatDoor
namespace Go.Proofs.YteghhmomhlnccaaGreatDoor
attribute [local go_sem ↓] eqVal neqVal
end Go.Proofs.YteghhmomhlnccaaGreatDoor
namespace Go.Proofs.YteghhmomhlnccaaGreatDoor
attribute [local go_sem ↓] eqVal neqVal
open Ex (Tree)
theorem Kd.oness_get {p:Int→List UInt8→Int→Int→List UInt8→Nat→Bool} : ∀ {l:List Tree},Ex.oness p l=true→∀ i (h:i < l.length),Ex.ones p l[i]=true
 | [],h,i,hi=>absurd hi (Nat.not_lt_zero _)
 | x :: l,h,0,hi=>by
  rw [Ex.oness,Bool.and_eq_true] at h
  exact h.1
 | x :: l,h,i + 1,hi=>by
  rw [Ex.oness,Bool.and_eq_true] at h
  exact Kd.oness_get h.2 i (by simpa using hi)
end Go.Proofs.YteghhmomhlnccaaGreatDoor
namespace Go.Proofs.YteghhmomhlnccaaGreatDoor
open Ex (Tree)
end Go.Proofs.YteghhmomhlnccaaGreatDoor
