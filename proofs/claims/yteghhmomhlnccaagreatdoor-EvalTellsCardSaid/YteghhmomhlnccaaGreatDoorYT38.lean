import Derived.Test.YteghhmomhlnccaaGreatDoorYT37
set_option linter.unusedVariables false
set_option linter.unusedSimpArgs false
set_option maxRecDepth 100000
set_option maxHeartbeats 100000000
open Go.RowKit Go.Lib
namespace Go.Proofs.YteghhmomhlnccaaGreatDoor
attribute [local go_sem ↓] eqVal neqVal
open Ex (Tree)
open Ev (V R Pl)
variable {C : List Col} {Ac : Option Addr} {cc : Nat} {W : List V} {Ar : Option Addr} {cr : Nat} {w0 : World}
theorem rt_nodeP {ks:List Tree} {op vk vn:Int} {t vs:List UInt8} (hX:∀ i (h:i < ks.length),RT C Ac cc W Ar cr w0 ks[i]) (hp:∀ i (h:i < ks.length),Pl (Ev.ev C W ks[i]).v) (hA:ColsAt w0 Ac C) (hV:ValsAt w0 Ar W) (hC:C.length≤1000000) (hl:W.length=C.length) (h1:¬ op=1) (h2:¬ op=2) (hpos:0 < ks.length) (hcase:((op=5∧t=[111,114]∧ks.length=2)∨(op=5∧t=[97,110,100]∧ks.length=2)∨(op=6∧t=[105,115,110,117,108,108]∧ks.length=1)∨(op=6∧t=[110,118,108]∧ks.length=2)∨(op=6∧t=[105,102]∧ks.length=3))):RT C Ac cc W Ar cr w0 (.node op t vk vn vs ks):=by
 intro v w hb hv
 obtain ⟨X,l,rfl⟩:∃ X l,ks=X :: l:=by
  cases ks with
  | nil=>cases hpos
  | cons X l=>exact ⟨X,l,rfl⟩
 obtain ⟨A,c,rfl,hcc,hk⟩:=hv
 have Q1:=RS.new w (ncells op t vk vn vs A (X :: l).length c)
 obtain ⟨W1,hW1⟩:∃ W1,(w.alloc (.cells (ncells op t vk vn vs A (X :: l).length c) 26)).alloc (.cells #[.int .i64 0,.int .i64 0,.string ⟨#[]⟩] 23)=W1:=⟨_,rfl⟩
 rw [hW1] at Q1
 obtain ⟨RES,hres⟩:∃ RES,Ev.ev C W (.node op t vk vn vs (X :: l))=RES:=⟨_,rfl⟩
 rw [hres]
 have HCB:Hid (RES=Ev.comb op t (Ev.ev C W X :: Ev.evs C W l)):=hid (by rw [← hres,Ev.ev,if_neg h1,if_neg h2,Ev.evs])
 obtain ⟨kb,ko,rfl,hks⟩:=kidsR hX hb hk (by simp)
 have HKS:=hid hks
 have HPS:=hid hp
 have HCASE:=hid hcase
 obtain ⟨ox,ttx,kx,nx,sx,mx,Bx,cx,hcx,Cx⟩:=hks 0 (by simp)
 have HPx:=hid (hp 0 (by simp))
 simp only [List.getElem_cons_zero,Nat.zero_mul,Nat.add_zero] at Cx hcx HPx
 obtain ⟨rx,hx'⟩:∃ r,Ev.ev C W X=r:=⟨_,rfl⟩
 rw [hx'] at Cx HPx HCB
 obtain ⟨⟨xk,xn,xs_⟩,xe⟩:=rx
 have HRX:Hid (¬ xe=0→RES=⟨⟨0,0,[]⟩,xe⟩):=hid (fun h=>by rw [HCB.out]; exact Ev.comb_bad h)
 unfold outR vv vcells at Cx
 unfold ncells at Cx
 dsimp only at Cx
 obtain ⟨cn,hcn⟩:∃ cn,C.length=cn:=⟨_,rfl⟩
 obtain ⟨wn,hwn⟩:∃ wn,W.length=wn:=⟨_,rfl⟩
 obtain ⟨kn,hkn⟩:∃ kn,(X :: l).length=kn:=⟨_,rfl⟩
 have HCN:=hid hcn
 have HWN:=hid hwn
 have HKN:=hid hkn
 rw [hcn,hwn] at Cx
 have HCx:=hid hcx
 have HKx:=hid Cx
 have hk0:0 < kn:=by rw [← hkn]; simp
 have hk0i:(0:Int) < (kn:Int):=by omega
 have q1:(op == 1)=false:=by simpa using h1
 have q2:(op == 2)=false:=by simpa using h2
 unfold ncells at *
 rw [hkn] at Q1 hW1
 rw [hcn,hwn,hkn]
 clear hX hp hA hV hC hl hb hk hcc hres hx' hcx Cx h1 h2 hcn hwn hkn hks hcase hpos
 go_enter Tryz.func17,Tryz.ntmps17
 go_upto_region 2 with fail
 have hsz:W1.heap.size=w.heap.size + 1 + 1:=by rw [← hW1]; simp
 rw [hsz]
 obtain ⟨W2,hW2⟩:∃ W2,W1.alloc (.cells #[.int .i64 0,.int .i64 0,.string ⟨#[]⟩] 23)=W2:=⟨_,rfl⟩
 rw [hW2] at Q1 ⊢
 clear hW1 hW2 hsz
 have S1:=hid Q1
 obtain ⟨c0,c1,c2,c3,c4,c5⟩:=six_of Q1.2.1
 obtain ⟨⟨d0,d1,d2⟩,f0,f1,f2⟩:=Q1.res
 clear Q1
 obtain ⟨p0,p1,p2,p3,p4,p5⟩:=HCx.out W2 S1.out.1
 go_wp2_with fail
 refine (HKx.out _ S1.out.1).mono ?_
 rintro e V ⟨rfl,hv⟩
 have S2:=hid (S1.out.call hv)
 clear c0 c1 c2 c3 c4 c5 p0 p1 p2 p3 p4 p5 d0 d1 d2 f0 f1 f2 hv HCx HKx S1
 have qx:=Row3.new V xk xn (tx xs_)
 have S3:=hid (S2.out.call ((Below.refl _ _).alloc (Nat.le_refl _) (.cells #[.int .i64 xk,.int .i64 xn,.string (tx xs_)] 23)))
 by_cases he:xe=0
 case neg=>
  have he':(xe != 0)=true:=by simpa using he
  have HR:=hid (HRX.out he)
  clear he qx
  obtain ⟨l0,l1,l2⟩:=S3.out.2.2.2.holds
  obtain ⟨⟨d0,d1,d2⟩,f0,f1,f2⟩:=S3.out.res
  go_wp2_with fail
  exact fin_R (r:=RES) Tryz.results17 rfl rfl rfl S3.out.2.2.1 (by first | exact S3.out.1 | exact below_drewN S3.out.1 _) (by omega) (by first | (rw [HR.out]; done) | (rw [HR.out]; rfl))
 subst he
 go_upto_region 12 with fail
 obtain ⟨W3,hW3⟩:∃ W3,V.alloc (.cells #[.int .i64 xk,.int .i64 xn,.string (tx xs_)] 23)=W3:=⟨_,rfl⟩
 rw [hW3] at qx S3 ⊢
 clear hW3 S2
 have QA:=hid qx
 have q0:=qx.holds
 clear qx
 obtain ⟨a0,a1,a2⟩:=q0
 go_cut [12] from 58 to 66 (fun s12 wc=>s12=.bool (decide (xk=0) || decide (xk=3))∧Hid (Below W3.heap.size W3 wc))
 case first=>
  by_cases h0:xk=0
  ·have h0':(xk == 0)=true:=by simpa using h0
   go_wp2_with fail
   go_meet
   case rel=>exact ⟨by first | (simp [h0]; done) | (simp [h0]; rfl),hid (by first | exact below_drewN (Below.refl _ _) _ | exact Below.refl _ _)⟩
  ·have h0':(xk == 0)=false:=by simpa using h0
   go_wp2_with fail
   go_meet
   case rel=>exact ⟨by first | (simp [h0]; done) | (simp [h0]; rfl),hid (by first | exact below_drewN (Below.refl _ _) _ | exact Below.refl _ _)⟩
 case rest=>
  obtain ⟨rfl,HB⟩:=hcut
  obtain ⟨W4,rfl⟩:∃ W4,W4=wc:=⟨wc,rfl⟩
  have S4:=hid (S3.out.call HB.out)
  have Q4:=hid (QA.out.below HB.out QA.out.lt)
  clear S3 QA HB a0 a1 a2
  obtain ⟨a0,a1,a2⟩:=Q4.out.holds
  obtain ⟨c0,c1,c2,c3,c4,c5⟩:=six_of S4.out.2.1
  obtain ⟨⟨d0,d1,d2⟩,f0,f1,f2⟩:=S4.out.res
  rcases HCASE.out with h | h | h | h | h
  ·
   obtain ⟨rfl,rfl,hn⟩:=h
   obtain ⟨Y,rfl⟩:=Ev.list1 (l:=l) (by simpa using hn)
   obtain rfl:kn=2:=by have:=HKN.out; simpa using this.symm
   have HRF:Hid (RES=Ev.dec2 true ⟨⟨xk,xn,xs_⟩,0⟩ (Ev.ev C W Y)):=hid (by rw [HCB.out]; simp only [Ev.evs]; exact comb_or _ _)
   obtain ⟨oy,tty,ky,ny,sy,my,By,cy,hcy,Cy⟩:=HKS.out 1 (by simp)
   have HPy:=hid (HPS.out 1 (by simp))
   simp only [List.getElem_cons_zero,List.getElem_cons_succ,Nat.zero_mul,Nat.one_mul,show 2 * 6=12 from rfl] at Cy hcy HPy
   obtain ⟨ry,hy'⟩:∃ r,Ev.ev C W Y=r:=⟨_,rfl⟩
   rw [hy'] at Cy HPy HRF
   clear hy'
   obtain ⟨⟨yk,yn,ys_⟩,ye⟩:=ry
   unfold outR vv vcells at Cy
   try unfold ncells at Cy
   dsimp only at Cy
   rw [HCN.out,HWN.out] at Cy
   have HCy:=hid hcy
   have HKy:=hid Cy
   clear hcy Cy
   clear HKS HPS HCB HKN
   have RT:Hid (∀ U,Calls Tryz.prog 38 #[.bool true] U fun e w'=>e=.returned (.agg #[.int .i64 3,.int .i64 1,.string ⟨#[]⟩])∧Below U.heap.size U w'):=hid (fun U=>rtruth_any true U)
   go_wp2_with fail
   refine (RT.out _).mono ?_
   rintro e V5 ⟨rfl,hv5⟩
   have S5:=hid (S4.out.call hv5)
   have Q5:=hid (Q4.out.below hv5 Q4.out.lt)
   clear hv5 c0 c1 c2 c3 c4 c5 a0 a1 a2 d0 d1 d2 f0 f1 f2 RT S4 Q4
   go_upto_region 15 with fail
   have qg:=Row3.new V5 3 1 ⟨#[]⟩
   have S6:=hid (S5.out.call ((Below.refl _ _).alloc (Nat.le_refl _) (.cells #[.int .i64 3,.int .i64 1,.string ⟨#[]⟩] 23)))
   have q6:=Q5.out.alloc (.cells #[.int .i64 3,.int .i64 1,.string ⟨#[]⟩] 23)
   obtain ⟨W6,hW6⟩:∃ U,V5.alloc (.cells #[.int .i64 3,.int .i64 1,.string ⟨#[]⟩] 23)=U:=⟨_,rfl⟩
   rw [hW6] at qg S6 q6 ⊢
   clear hW6 S5 Q5
   have Q6:=hid q6
   have G6:=hid qg
   clear q6 qg
   obtain ⟨a0,a1,a2⟩:=Q6.out.holds
   obtain ⟨g0,g1,g2⟩:=G6.out.holds
   obtain ⟨c0,c1,c2,c3,c4,c5⟩:=six_of S6.out.2.1
   obtain ⟨⟨d0,d1,d2⟩,f0,f1,f2⟩:=S6.out.res
   by_cases hb3:xk=0∨xk=3
   case neg=>
    have hb3':(decide (xk=0) || decide (xk=3))=false:=by simpa using hb3
    have HR:Hid (RES=⟨⟨0,0,[]⟩,10⟩):=hid (by rw [HRF.out]; simp only [Ev.dec2,Ev.logic,if_pos,if_neg hb3]; rfl)
    clear hb3
    obtain ⟨l0,l1,l2⟩:=S6.out.2.2.2.holds
    go_wp2_with fail
    exact fin_R (r:=RES) Tryz.results17 rfl rfl rfl S6.out.2.2.1 (by first | exact S6.out.1 | exact below_drewN S6.out.1 _) (by omega) (by first | (rw [HR.out]; done) | (rw [HR.out]; rfl))
   have hb3':(decide (xk=0) || decide (xk=3))=true:=by simpa using hb3
   have hs:=same_b HPx.out 1
   dsimp only at hs
   by_cases hst:xk=3∧xn=1
   case pos=>
    have HR:Hid (RES=⟨⟨xk,xn,xs_⟩,0⟩):=hid (by rw [HRF.out]; simp only [Ev.dec2,Ev.logic,if_pos,if_pos hb3]; rw [if_pos (by simpa using hst)]; rfl)
    rw [decide_eq_true hst] at hs
    clear hst hb3
    go_wp2_with fail
    exact fin_R (r:=RES) Tryz.results17 rfl rfl rfl S6.out.2.2.1 (by first | exact S6.out.1 | exact below_drewN S6.out.1 _) (by omega) (by first | (rw [HR.out]; done) | (rw [HR.out]; rfl))
   have HL:Hid (RES=if ye=0 then (if yk=0∨yk=3 then (if yk=3∧yn=1 then ⟨⟨yk,yn,ys_⟩,0⟩ else if xk=0∨yk=0 then ⟨⟨0,0,[]⟩,0⟩ else ⟨⟨3,bit (!true),[]⟩,0⟩) else ⟨⟨0,0,[]⟩,10⟩) else ⟨⟨0,0,[]⟩,ye⟩):=hid (by
    rw [HRF.out]; simp only [Ev.dec2,Ev.logic,if_pos,if_pos hb3]; rw [if_neg (by simpa using hst),bit_tru]; rfl)
   rw [decide_eq_false hst] at hs
   clear hst HRF
   obtain ⟨p0,p1,p2,p3,p4,p5⟩:=HCy.out _ S6.out.1
   go_wp2_with fail
   refine (HKy.out _ S6.out.1).mono ?_
   rintro e V7 ⟨rfl,hv7⟩
   have S7:=hid (S6.out.call hv7)
   have Q7:=hid (Q6.out.below hv7 Q6.out.lt)
   have G7:=hid (G6.out.below hv7 G6.out.lt)
   clear hv7 p0 p1 p2 p3 p4 p5 a0 a1 a2 g0 g1 g2 hs hb3' S6 Q6 G6
   clear c0 c1 c2 c3 c4 c5 d0 d1 d2 f0 f1 f2
   have qy:=Row3.new V7 yk yn (tx ys_)
   have S8:=hid (S7.out.call ((Below.refl _ _).alloc (Nat.le_refl _) (.cells #[.int .i64 yk,.int .i64 yn,.string (tx ys_)] 23)))
   have qQ:=Q7.out.alloc (.cells #[.int .i64 yk,.int .i64 yn,.string (tx ys_)] 23)
   have qG:=G7.out.alloc (.cells #[.int .i64 yk,.int .i64 yn,.string (tx ys_)] 23)
   go_upto_region 20 with fail
   obtain ⟨W8,hW8⟩:∃ U,V7.alloc (.cells #[.int .i64 yk,.int .i64 yn,.string (tx ys_)] 23)=U:=⟨_,rfl⟩
   rw [hW8] at qy S8 qQ qG ⊢
   clear hW8 S7
   have Q8:=hid qQ
   have G8:=hid qG
   have Y8:=hid qy
   clear qy qQ qG Q7 G7
   obtain ⟨a0,a1,a2⟩:=Q8.out.holds
   obtain ⟨g0,g1,g2⟩:=G8.out.holds
   obtain ⟨y0,y1,y2⟩:=Y8.out.holds
   obtain ⟨c0,c1,c2,c3,c4,c5⟩:=six_of S8.out.2.1
   obtain ⟨⟨d0,d1,d2⟩,f0,f1,f2⟩:=S8.out.res
   by_cases he:ye=0
   case neg=>
    have he':(ye != 0)=true:=by simpa using he
    have HR:Hid (RES=⟨⟨0,0,[]⟩,ye⟩):=hid (by rw [HL.out,if_neg he])
    clear he
    obtain ⟨l0,l1,l2⟩:=S8.out.2.2.2.holds
    go_wp2_with fail
    exact fin_R (r:=RES) Tryz.results17 rfl rfl rfl S8.out.2.2.1 (by first | exact S8.out.1 | exact below_drewN S8.out.1 _) (by omega) (by first | (rw [HR.out]; done) | (rw [HR.out]; rfl))
   subst he
   have hs:=same_b HPy.out 1
   dsimp only at hs
   by_cases hy3:yk=0∨yk=3
   case neg=>
    have h0':(yk != 0)=true:=by simp; omega
    have h3':(yk != 3)=true:=by simp; omega
    have HR:Hid (RES=⟨⟨0,0,[]⟩,10⟩):=hid (by rw [HL.out,if_pos rfl,if_neg hy3])
    clear hy3 hs
    obtain ⟨l0,l1,l2⟩:=S8.out.2.2.2.holds
    go_wp2_with fail
    exact fin_R (r:=RES) Tryz.results17 rfl rfl rfl S8.out.2.2.1 (by first | exact S8.out.1 | exact below_drewN S8.out.1 _) (by omega) (by first | (rw [HR.out]; done) | (rw [HR.out]; rfl))
   by_cases hst:yk=3∧yn=1
   case pos=>
    have HR:Hid (RES=⟨⟨yk,yn,ys_⟩,0⟩):=hid (by rw [HL.out,if_pos rfl,if_pos hy3,if_pos hst])
    rw [decide_eq_true hst] at hs
    have h0':(yk != 0)=true:=by simp; omega
    have h3':(yk != 3)=false:=by simp; omega
    clear hst hy3
    go_wp2_with fail
    exact fin_R (r:=RES) Tryz.results17 rfl rfl rfl S8.out.2.2.1 (by first | exact S8.out.1 | exact below_drewN S8.out.1 _) (by omega) (by first | (rw [HR.out]; done) | (rw [HR.out]; rfl))
   rw [decide_eq_false hst] at hs
   by_cases hy0:yk=0
   case pos=>
    have HR:Hid (RES=⟨⟨0,0,[]⟩,0⟩):=hid (by rw [HL.out,if_pos rfl,if_pos hy3,if_neg hst,if_pos (.inr hy0)])
    have h0':(yk != 0)=false:=by simp; omega
    have h1':(yk == 0)=true:=by simp; omega
    clear hst hy3 hy0
    obtain ⟨l0,l1,l2⟩:=S8.out.2.2.2.holds
    by_cases hx0:xk=0
    ·have hx0':(xk == 0)=true:=by simp; omega
     clear hx0 hb3
     go_wp2_with fail
     exact fin_R (r:=RES) Tryz.results17 rfl rfl rfl S8.out.2.2.1 (by first | exact S8.out.1 | exact below_drewN S8.out.1 _) (by omega) (by first | (rw [HR.out]; done) | (rw [HR.out]; rfl))
    ·have hx0':(xk == 0)=false:=by simp; omega
     clear hx0 hb3
     go_wp2_with fail
     exact fin_R (r:=RES) Tryz.results17 rfl rfl rfl S8.out.2.2.1 (by first | exact S8.out.1 | exact below_drewN S8.out.1 _) (by omega) (by first | (rw [HR.out]; done) | (rw [HR.out]; rfl))
   have h0':(yk != 0)=true:=by simp; omega
   have h3':(yk != 3)=false:=by simp; omega
   have h1':(yk == 0)=false:=by simp; omega
   by_cases hx0:xk=0
   case pos=>
    have HR:Hid (RES=⟨⟨0,0,[]⟩,0⟩):=hid (by rw [HL.out,if_pos rfl,if_pos hy3,if_neg hst,if_pos (.inl hx0)])
    have hx0':(xk == 0)=true:=by simp; omega
    clear hx0 hb3 hst hy3 hy0
    obtain ⟨l0,l1,l2⟩:=S8.out.2.2.2.holds
    go_wp2_with fail
    exact fin_R (r:=RES) Tryz.results17 rfl rfl rfl S8.out.2.2.1 (by first | exact S8.out.1 | exact below_drewN S8.out.1 _) (by omega) (by first | (rw [HR.out]; done) | (rw [HR.out]; rfl))
   have HR:Hid (RES=⟨⟨3,bit (!true),[]⟩,0⟩):=hid (by rw [HL.out,if_pos rfl,if_pos hy3,if_neg hst,if_neg (by omega)])
   have hx0':(xk == 0)=false:=by simp; omega
   clear hx0 hb3 hst hy3 hy0
   go_wp2_with fail
   refine (rtruth_any _ _).mono ?_
   rintro e V9 ⟨rfl,hv9⟩
   have S9:=hid (S8.out.call hv9)
   clear hv9 c0 c1 c2 c3 c4 c5 a0 a1 a2 d0 d1 d2 f0 f1 f2 g0 g1 g2 y0 y1 y2 hs
   obtain ⟨⟨d0,d1,d2⟩,f0,f1,f2⟩:=S9.out.res
   go_wp2_with fail
   exact fin_R (r:=RES) Tryz.results17 rfl rfl rfl S9.out.2.2.1 (by first | exact S9.out.1 | exact below_drewN S9.out.1 _) (by omega) (by first | (rw [HR.out]; done) | (rw [HR.out]; rfl))
  ·
   obtain ⟨rfl,rfl,hn⟩:=h
   obtain ⟨Y,rfl⟩:=Ev.list1 (l:=l) (by simpa using hn)
   obtain rfl:kn=2:=by have:=HKN.out; simpa using this.symm
   have HRF:Hid (RES=Ev.dec2 false ⟨⟨xk,xn,xs_⟩,0⟩ (Ev.ev C W Y)):=hid (by rw [HCB.out]; simp only [Ev.evs]; exact comb_and _ _)
   obtain ⟨oy,tty,ky,ny,sy,my,By,cy,hcy,Cy⟩:=HKS.out 1 (by simp)
   have HPy:=hid (HPS.out 1 (by simp))
   simp only [List.getElem_cons_zero,List.getElem_cons_succ,Nat.zero_mul,Nat.one_mul,show 2 * 6=12 from rfl] at Cy hcy HPy
   obtain ⟨ry,hy'⟩:∃ r,Ev.ev C W Y=r:=⟨_,rfl⟩
   rw [hy'] at Cy HPy HRF
   clear hy'
   obtain ⟨⟨yk,yn,ys_⟩,ye⟩:=ry
   unfold outR vv vcells at Cy
   try unfold ncells at Cy
   dsimp only at Cy
   rw [HCN.out,HWN.out] at Cy
   have HCy:=hid hcy
   have HKy:=hid Cy
   clear hcy Cy
   clear HKS HPS HCB HKN
   have RT:Hid (∀ U,Calls Tryz.prog 38 #[.bool false] U fun e w'=>e=.returned (.agg #[.int .i64 3,.int .i64 0,.string ⟨#[]⟩])∧Below U.heap.size U w'):=hid (fun U=>rtruth_any false U)
   go_wp2_with fail
   refine (RT.out _).mono ?_
   rintro e V5 ⟨rfl,hv5⟩
   have S5:=hid (S4.out.call hv5)
   have Q5:=hid (Q4.out.below hv5 Q4.out.lt)
   clear hv5 c0 c1 c2 c3 c4 c5 a0 a1 a2 d0 d1 d2 f0 f1 f2 RT S4 Q4
   go_upto_region 15 with fail
   have qg:=Row3.new V5 3 0 ⟨#[]⟩
   have S6:=hid (S5.out.call ((Below.refl _ _).alloc (Nat.le_refl _) (.cells #[.int .i64 3,.int .i64 0,.string ⟨#[]⟩] 23)))
   have q6:=Q5.out.alloc (.cells #[.int .i64 3,.int .i64 0,.string ⟨#[]⟩] 23)
   obtain ⟨W6,hW6⟩:∃ U,V5.alloc (.cells #[.int .i64 3,.int .i64 0,.string ⟨#[]⟩] 23)=U:=⟨_,rfl⟩
   rw [hW6] at qg S6 q6 ⊢
   clear hW6 S5 Q5
   have Q6:=hid q6
   have G6:=hid qg
   clear q6 qg
   obtain ⟨a0,a1,a2⟩:=Q6.out.holds
   obtain ⟨g0,g1,g2⟩:=G6.out.holds
   obtain ⟨c0,c1,c2,c3,c4,c5⟩:=six_of S6.out.2.1
   obtain ⟨⟨d0,d1,d2⟩,f0,f1,f2⟩:=S6.out.res
   by_cases hb3:xk=0∨xk=3
   case neg=>
    have hb3':(decide (xk=0) || decide (xk=3))=false:=by simpa using hb3
    have HR:Hid (RES=⟨⟨0,0,[]⟩,10⟩):=hid (by rw [HRF.out]; simp only [Ev.dec2,Ev.logic,if_pos,if_neg hb3]; rfl)
    clear hb3
    obtain ⟨l0,l1,l2⟩:=S6.out.2.2.2.holds
    go_wp2_with fail
    exact fin_R (r:=RES) Tryz.results17 rfl rfl rfl S6.out.2.2.1 (by first | exact S6.out.1 | exact below_drewN S6.out.1 _) (by omega) (by first | (rw [HR.out]; done) | (rw [HR.out]; rfl))
   have hb3':(decide (xk=0) || decide (xk=3))=true:=by simpa using hb3
   have hs:=same_b HPx.out 0
   dsimp only at hs
   by_cases hst:xk=3∧xn=0
   case pos=>
    have HR:Hid (RES=⟨⟨xk,xn,xs_⟩,0⟩):=hid (by rw [HRF.out]; simp only [Ev.dec2,Ev.logic,if_pos,if_pos hb3]; rw [if_pos (by simpa using hst)]; rfl)
    rw [decide_eq_true hst] at hs
    clear hst hb3
    go_wp2_with fail
    exact fin_R (r:=RES) Tryz.results17 rfl rfl rfl S6.out.2.2.1 (by first | exact S6.out.1 | exact below_drewN S6.out.1 _) (by omega) (by first | (rw [HR.out]; done) | (rw [HR.out]; rfl))
   have HL:Hid (RES=if ye=0 then (if yk=0∨yk=3 then (if yk=3∧yn=0 then ⟨⟨yk,yn,ys_⟩,0⟩ else if xk=0∨yk=0 then ⟨⟨0,0,[]⟩,0⟩ else ⟨⟨3,bit (!false),[]⟩,0⟩) else ⟨⟨0,0,[]⟩,10⟩) else ⟨⟨0,0,[]⟩,ye⟩):=hid (by
    rw [HRF.out]; simp only [Ev.dec2,Ev.logic,if_pos,if_pos hb3]; rw [if_neg (by simpa using hst),bit_tru]; rfl)
   rw [decide_eq_false hst] at hs
   clear hst HRF
   obtain ⟨p0,p1,p2,p3,p4,p5⟩:=HCy.out _ S6.out.1
   go_wp2_with fail
   refine (HKy.out _ S6.out.1).mono ?_
   rintro e V7 ⟨rfl,hv7⟩
   have S7:=hid (S6.out.call hv7)
   have Q7:=hid (Q6.out.below hv7 Q6.out.lt)
   have G7:=hid (G6.out.below hv7 G6.out.lt)
   clear hv7 p0 p1 p2 p3 p4 p5 a0 a1 a2 g0 g1 g2 hs hb3' S6 Q6 G6
   clear c0 c1 c2 c3 c4 c5 d0 d1 d2 f0 f1 f2
   have qy:=Row3.new V7 yk yn (tx ys_)
   have S8:=hid (S7.out.call ((Below.refl _ _).alloc (Nat.le_refl _) (.cells #[.int .i64 yk,.int .i64 yn,.string (tx ys_)] 23)))
   have qQ:=Q7.out.alloc (.cells #[.int .i64 yk,.int .i64 yn,.string (tx ys_)] 23)
   have qG:=G7.out.alloc (.cells #[.int .i64 yk,.int .i64 yn,.string (tx ys_)] 23)
   go_upto_region 20 with fail
   obtain ⟨W8,hW8⟩:∃ U,V7.alloc (.cells #[.int .i64 yk,.int .i64 yn,.string (tx ys_)] 23)=U:=⟨_,rfl⟩
   rw [hW8] at qy S8 qQ qG ⊢
   clear hW8 S7
   have Q8:=hid qQ
   have G8:=hid qG
   have Y8:=hid qy
   clear qy qQ qG Q7 G7
   obtain ⟨a0,a1,a2⟩:=Q8.out.holds
   obtain ⟨g0,g1,g2⟩:=G8.out.holds
   obtain ⟨y0,y1,y2⟩:=Y8.out.holds
   obtain ⟨c0,c1,c2,c3,c4,c5⟩:=six_of S8.out.2.1
   obtain ⟨⟨d0,d1,d2⟩,f0,f1,f2⟩:=S8.out.res
   by_cases he:ye=0
   case neg=>
    have he':(ye != 0)=true:=by simpa using he
    have HR:Hid (RES=⟨⟨0,0,[]⟩,ye⟩):=hid (by rw [HL.out,if_neg he])
    clear he
    obtain ⟨l0,l1,l2⟩:=S8.out.2.2.2.holds
    go_wp2_with fail
    exact fin_R (r:=RES) Tryz.results17 rfl rfl rfl S8.out.2.2.1 (by first | exact S8.out.1 | exact below_drewN S8.out.1 _) (by omega) (by first | (rw [HR.out]; done) | (rw [HR.out]; rfl))
   subst he
   have hs:=same_b HPy.out 0
   dsimp only at hs
   by_cases hy3:yk=0∨yk=3
   case neg=>
    have h0':(yk != 0)=true:=by simp; omega
    have h3':(yk != 3)=true:=by simp; omega
    have HR:Hid (RES=⟨⟨0,0,[]⟩,10⟩):=hid (by rw [HL.out,if_pos rfl,if_neg hy3])
    clear hy3 hs
    obtain ⟨l0,l1,l2⟩:=S8.out.2.2.2.holds
    go_wp2_with fail
    exact fin_R (r:=RES) Tryz.results17 rfl rfl rfl S8.out.2.2.1 (by first | exact S8.out.1 | exact below_drewN S8.out.1 _) (by omega) (by first | (rw [HR.out]; done) | (rw [HR.out]; rfl))
   by_cases hst:yk=3∧yn=0
   case pos=>
    have HR:Hid (RES=⟨⟨yk,yn,ys_⟩,0⟩):=hid (by rw [HL.out,if_pos rfl,if_pos hy3,if_pos hst])
    rw [decide_eq_true hst] at hs
    have h0':(yk != 0)=true:=by simp; omega
    have h3':(yk != 3)=false:=by simp; omega
    clear hst hy3
    go_wp2_with fail
    exact fin_R (r:=RES) Tryz.results17 rfl rfl rfl S8.out.2.2.1 (by first | exact S8.out.1 | exact below_drewN S8.out.1 _) (by omega) (by first | (rw [HR.out]; done) | (rw [HR.out]; rfl))
   rw [decide_eq_false hst] at hs
   by_cases hy0:yk=0
   case pos=>
    have HR:Hid (RES=⟨⟨0,0,[]⟩,0⟩):=hid (by rw [HL.out,if_pos rfl,if_pos hy3,if_neg hst,if_pos (.inr hy0)])
    have h0':(yk != 0)=false:=by simp; omega
    have h1':(yk == 0)=true:=by simp; omega
    clear hst hy3 hy0
    obtain ⟨l0,l1,l2⟩:=S8.out.2.2.2.holds
    by_cases hx0:xk=0
    ·have hx0':(xk == 0)=true:=by simp; omega
     clear hx0 hb3
     go_wp2_with fail
     exact fin_R (r:=RES) Tryz.results17 rfl rfl rfl S8.out.2.2.1 (by first | exact S8.out.1 | exact below_drewN S8.out.1 _) (by omega) (by first | (rw [HR.out]; done) | (rw [HR.out]; rfl))
    ·have hx0':(xk == 0)=false:=by simp; omega
     clear hx0 hb3
     go_wp2_with fail
     exact fin_R (r:=RES) Tryz.results17 rfl rfl rfl S8.out.2.2.1 (by first | exact S8.out.1 | exact below_drewN S8.out.1 _) (by omega) (by first | (rw [HR.out]; done) | (rw [HR.out]; rfl))
   have h0':(yk != 0)=true:=by simp; omega
   have h3':(yk != 3)=false:=by simp; omega
   have h1':(yk == 0)=false:=by simp; omega
   by_cases hx0:xk=0
   case pos=>
    have HR:Hid (RES=⟨⟨0,0,[]⟩,0⟩):=hid (by rw [HL.out,if_pos rfl,if_pos hy3,if_neg hst,if_pos (.inl hx0)])
    have hx0':(xk == 0)=true:=by simp; omega
    clear hx0 hb3 hst hy3 hy0
    obtain ⟨l0,l1,l2⟩:=S8.out.2.2.2.holds
    go_wp2_with fail
    exact fin_R (r:=RES) Tryz.results17 rfl rfl rfl S8.out.2.2.1 (by first | exact S8.out.1 | exact below_drewN S8.out.1 _) (by omega) (by first | (rw [HR.out]; done) | (rw [HR.out]; rfl))
   have HR:Hid (RES=⟨⟨3,bit (!false),[]⟩,0⟩):=hid (by rw [HL.out,if_pos rfl,if_pos hy3,if_neg hst,if_neg (by omega)])
   have hx0':(xk == 0)=false:=by simp; omega
   clear hx0 hb3 hst hy3 hy0
   go_wp2_with fail
   refine (rtruth_any _ _).mono ?_
   rintro e V9 ⟨rfl,hv9⟩
   have S9:=hid (S8.out.call hv9)
   clear hv9 c0 c1 c2 c3 c4 c5 a0 a1 a2 d0 d1 d2 f0 f1 f2 g0 g1 g2 y0 y1 y2 hs
   obtain ⟨⟨d0,d1,d2⟩,f0,f1,f2⟩:=S9.out.res
   go_wp2_with fail
   exact fin_R (r:=RES) Tryz.results17 rfl rfl rfl S9.out.2.2.1 (by first | exact S9.out.1 | exact below_drewN S9.out.1 _) (by omega) (by first | (rw [HR.out]; done) | (rw [HR.out]; rfl))
  ·
   obtain ⟨rfl,rfl,hn⟩:=h
   obtain rfl:l=[]:=List.eq_nil_of_length_eq_zero (by simpa using hn)
   obtain rfl:kn=1:=by have:=HKN.out; simpa using this.symm
   have HRF:Hid (RES=Ev.isnR ⟨⟨xk,xn,xs_⟩,0⟩):=hid (by rw [HCB.out]; simp only [Ev.evs]; exact comb_isnull _)
   clear HKS HPS HCB HKN
   have HR:Hid (RES=⟨⟨3,bit (xk == 0),[]⟩,0⟩):=hid (by rw [HRF.out]; simp only [Ev.isnR,if_pos,bit_tru]; rfl)
   go_wp2_with fail
   refine (rtruth_any _ _).mono ?_
   rintro e V5 ⟨rfl,hv5⟩
   have S5:=hid (S4.out.call hv5)
   clear hv5 c0 c1 c2 c3 c4 c5 a0 a1 a2 d0 d1 d2 f0 f1 f2
   obtain ⟨⟨d0,d1,d2⟩,f0,f1,f2⟩:=S5.out.res
   go_wp2_with fail
   exact fin_R (r:=RES) Tryz.results17 rfl rfl rfl S5.out.2.2.1 (by first | exact S5.out.1 | exact below_drewN S5.out.1 _) (by omega) (by first | (rw [HR.out]; done) | (rw [HR.out]; rfl))
  ·
   obtain ⟨rfl,rfl,hn⟩:=h
   obtain ⟨Y,rfl⟩:=Ev.list1 (l:=l) (by simpa using hn)
   obtain rfl:kn=2:=by have:=HKN.out; simpa using this.symm
   have HRF:Hid (RES=Ev.knR ⟨⟨xk,xn,xs_⟩,0⟩ (Ev.ev C W Y)):=hid (by rw [HCB.out]; simp only [Ev.evs]; exact comb_nvl _ _)
   obtain ⟨oy,tty,ky,ny,sy,my,By,cy,hcy,Cy⟩:=HKS.out 1 (by simp)
   have HPy:=hid (HPS.out 1 (by simp))
   simp only [List.getElem_cons_zero,List.getElem_cons_succ,Nat.zero_mul,Nat.one_mul,show 2 * 6=12 from rfl] at Cy hcy HPy
   obtain ⟨ry,hy'⟩:∃ r,Ev.ev C W Y=r:=⟨_,rfl⟩
   rw [hy'] at Cy HPy HRF
   clear hy'
   obtain ⟨⟨yk,yn,ys_⟩,ye⟩:=ry
   unfold outR vv vcells at Cy
   try unfold ncells at Cy
   dsimp only at Cy
   rw [HCN.out,HWN.out] at Cy
   have HCy:=hid hcy
   have HKy:=hid Cy
   clear hcy Cy
   clear HKS HPS HCB HKN
   by_cases h0:xk=0
   case pos=>
    have h0':(xk != 0)=false:=by simpa using h0
    have HR:Hid (RES=⟨⟨yk,yn,ys_⟩,ye⟩):=hid (by rw [HRF.out]; simp [Ev.knR,h0])
    clear h0
    obtain ⟨p0,p1,p2,p3,p4,p5⟩:=HCy.out _ S4.out.1
    go_wp2_with fail
    refine (HKy.out _ S4.out.1).mono ?_
    rintro e V5 ⟨rfl,hv5⟩
    have S5:=hid (S4.out.call hv5)
    clear hv5 c0 c1 c2 c3 c4 c5 a0 a1 a2 d0 d1 d2 f0 f1 f2 p0 p1 p2 p3 p4 p5
    obtain ⟨⟨d0,d1,d2⟩,f0,f1,f2⟩:=S5.out.res
    go_wp2_with fail
    exact fin_R (r:=RES) Tryz.results17 rfl rfl rfl S5.out.2.2.1 (by first | exact S5.out.1 | exact below_drewN S5.out.1 _) (by omega) (by first | (rw [HR.out]; done) | (rw [HR.out]; rfl))
   case neg=>
    have h0':(xk != 0)=true:=by simpa using h0
    have HR:Hid (RES=⟨⟨xk,xn,xs_⟩,0⟩):=hid (by rw [HRF.out]; simp [Ev.knR,h0,Ev.ok])
    clear h0
    go_wp2_with fail
    exact fin_R (r:=RES) Tryz.results17 rfl rfl rfl S4.out.2.2.1 (by first | exact S4.out.1 | exact below_drewN S4.out.1 _) (by omega) (by first | (rw [HR.out]; done) | (rw [HR.out]; rfl))
  ·
   obtain ⟨rfl,rfl,hn⟩:=h
   obtain ⟨Y,Z,rfl⟩:=Ev.list2 (l:=l) (by simpa using hn)
   obtain rfl:kn=3:=by have:=HKN.out; simpa using this.symm
   have HRF:Hid (RES=Ev.chR (Ev.truthR ⟨⟨xk,xn,xs_⟩,0⟩) (Ev.ev C W Y) (Ev.ev C W Z)):=hid (by rw [HCB.out]; simp only [Ev.evs]; exact comb_if _ _ HPx.out)
   obtain ⟨oy,tty,ky,ny,sy,my,By,cy,hcy,Cy⟩:=HKS.out 1 (by simp)
   have HPy:=hid (HPS.out 1 (by simp))
   simp only [List.getElem_cons_zero,List.getElem_cons_succ,Nat.zero_mul,Nat.one_mul,show 2 * 6=12 from rfl] at Cy hcy HPy
   obtain ⟨ry,hy'⟩:∃ r,Ev.ev C W Y=r:=⟨_,rfl⟩
   rw [hy'] at Cy HPy HRF
   clear hy'
   obtain ⟨⟨yk,yn,ys_⟩,ye⟩:=ry
   unfold outR vv vcells at Cy
   try unfold ncells at Cy
   dsimp only at Cy
   rw [HCN.out,HWN.out] at Cy
   have HCy:=hid hcy
   have HKy:=hid Cy
   clear hcy Cy
   obtain ⟨oz,ttz,kz,nz,sz,mz,Bz,cz,hcz,Cz⟩:=HKS.out 2 (by simp)
   have HPz:=hid (HPS.out 2 (by simp))
   simp only [List.getElem_cons_zero,List.getElem_cons_succ,Nat.zero_mul,Nat.one_mul,show 2 * 6=12 from rfl] at Cz hcz HPz
   obtain ⟨rz,hz'⟩:∃ r,Ev.ev C W Z=r:=⟨_,rfl⟩
   rw [hz'] at Cz HPz HRF
   clear hz'
   obtain ⟨⟨zk,zn,zs_⟩,ze⟩:=rz
   unfold outR vv vcells at Cz
   try unfold ncells at Cz
   dsimp only at Cz
   rw [HCN.out,HWN.out] at Cz
   have HCz:=hid hcz
   have HKz:=hid Cz
   clear hcz Cz
   clear HKS HPS HCB HKN
   by_cases hb3:xk=0∨xk=3
   case neg=>
    have hb3':(decide (xk=0) || decide (xk=3))=false:=by simpa using hb3
    have HR:Hid (RES=⟨⟨0,0,[]⟩,10⟩):=hid (by rw [HRF.out]; have h1:¬ xk=3:=by omega
                                                          have h2:¬ xk=0:=by omega
                                                          simp [Ev.chR,Ev.truthR,h1,h2,Ev.err,Ev.z])
    clear hb3
    obtain ⟨l0,l1,l2⟩:=S4.out.2.2.2.holds
    go_wp2_with fail
    exact fin_R (r:=RES) Tryz.results17 rfl rfl rfl S4.out.2.2.1 (by first | exact S4.out.1 | exact below_drewN S4.out.1 _) (by omega) (by first | (rw [HR.out]; done) | (rw [HR.out]; rfl))
   have hb3':(decide (xk=0) || decide (xk=3))=true:=by simpa using hb3
   by_cases h1:xn=1
   case pos=>
    have h1':(xn == 1)=true:=by simpa using h1
    have HR:Hid (RES=⟨⟨yk,yn,ys_⟩,ye⟩):=hid (by
     rw [HRF.out]
     have h3:xk=3:=by
      rcases hb3 with h | h
      ·have:=HPx.out.null h
       have h4:xn=0:=congrArg Ev.V.n this
       omega
      ·exact h
     simp [Ev.chR,Ev.truthR,h3,h1,Ev.ok])
    clear h1 hb3
    obtain ⟨p0,p1,p2,p3,p4,p5⟩:=HCy.out _ S4.out.1
    go_wp2_with fail
    refine (HKy.out _ S4.out.1).mono ?_
    rintro e V5 ⟨rfl,hv5⟩
    have S5:=hid (S4.out.call hv5)
    clear hv5 c0 c1 c2 c3 c4 c5 a0 a1 a2 d0 d1 d2 f0 f1 f2 p0 p1 p2 p3 p4 p5
    obtain ⟨⟨d0,d1,d2⟩,f0,f1,f2⟩:=S5.out.res
    go_wp2_with fail
    exact fin_R (r:=RES) Tryz.results17 rfl rfl rfl S5.out.2.2.1 (by first | exact S5.out.1 | exact below_drewN S5.out.1 _) (by omega) (by first | (rw [HR.out]; done) | (rw [HR.out]; rfl))
   case neg=>
    have h1':(xn == 1)=false:=by simpa using h1
    have HR:Hid (RES=⟨⟨zk,zn,zs_⟩,ze⟩):=hid (by
     rw [HRF.out]
     simp [Ev.chR,Ev.truthR,hb3.symm,h1,Ev.ok])
    clear h1 hb3
    obtain ⟨p0,p1,p2,p3,p4,p5⟩:=HCz.out _ S4.out.1
    go_wp2_with fail
    refine (HKz.out _ S4.out.1).mono ?_
    rintro e V5 ⟨rfl,hv5⟩
    have S5:=hid (S4.out.call hv5)
    clear hv5 c0 c1 c2 c3 c4 c5 a0 a1 a2 d0 d1 d2 f0 f1 f2 p0 p1 p2 p3 p4 p5
    obtain ⟨⟨d0,d1,d2⟩,f0,f1,f2⟩:=S5.out.res
    go_wp2_with fail
    exact fin_R (r:=RES) Tryz.results17 rfl rfl rfl S5.out.2.2.1 (by first | exact S5.out.1 | exact below_drewN S5.out.1 _) (by omega) (by first | (rw [HR.out]; done) | (rw [HR.out]; rfl))
end Go.Proofs.YteghhmomhlnccaaGreatDoor
