import Derived.Test.YteghhmomhlnccaaGreatDoorYT37
set_option linter.unusedVariables false
set_option linter.unusedSimpArgs false
set_option maxRecDepth 100000
set_option maxHeartbeats 100000000
open Go.RowKit Go.Lib
namespace Go.Proofs.YteghhmomhlnccaaGreatDoor
attribute [local go_sem ↓] eqVal neqVal
open Ex (Tree)
open Ev (V R Pl)
variable {C : List Col} {Ac : Option Addr} {cc : Nat} {W : List V} {Ar : Option Addr} {cr : Nat} {w0 : World}
theorem rt_nodeQ {ks:List Tree} {op vk vn:Int} {t vs:List UInt8} (hX:∀ i (h:i < ks.length),RT C Ac cc W Ar cr w0 ks[i]) (hp:∀ i (h:i < ks.length),Pl (Ev.ev C W ks[i]).v) (hA:ColsAt w0 Ac C) (hV:ValsAt w0 Ar W) (hC:C.length≤1000000) (hl:W.length=C.length) (h1:¬ op=1) (h2:¬ op=2) (hpos:0 < ks.length) (hcase:((((op=3∨op=4)∧ks.length=1)∨(op=5∧ks.length=2)∨(op=6∧ks.length=1∧(t=[108,101,110]∨t=[115,116,114]∨t=[110,117,109])))∧¬ t=[111,114]∧¬ t=[97,110,100]∧¬ t=[105,115,110,117,108,108]∧¬ t=[110,118,108]∧¬ t=[105,102])):RT C Ac cc W Ar cr w0 (.node op t vk vn vs ks):=by
 intro v w hb hv
 obtain ⟨X,l,rfl⟩:∃ X l,ks=X :: l:=by
  cases ks with
  | nil=>cases hpos
  | cons X l=>exact ⟨X,l,rfl⟩
 obtain ⟨A,c,rfl,hcc,hk⟩:=hv
 have Q1:=RS.new w (ncells op t vk vn vs A (X :: l).length c)
 obtain ⟨W1,hW1⟩:∃ W1,(w.alloc (.cells (ncells op t vk vn vs A (X :: l).length c) 26)).alloc (.cells #[.int .i64 0,.int .i64 0,.string ⟨#[]⟩] 23)=W1:=⟨_,rfl⟩
 rw [hW1] at Q1
 obtain ⟨RES,hres⟩:∃ RES,Ev.ev C W (.node op t vk vn vs (X :: l))=RES:=⟨_,rfl⟩
 rw [hres]
 have HCB:Hid (RES=Ev.comb op t (Ev.ev C W X :: Ev.evs C W l)):=hid (by rw [← hres,Ev.ev,if_neg h1,if_neg h2,Ev.evs])
 obtain ⟨kb,ko,rfl,hks⟩:=kidsR hX hb hk (by simp)
 have HKS:=hid hks
 have HPS:=hid hp
 have HCASE:=hid hcase
 obtain ⟨ox,ttx,kx,nx,sx,mx,Bx,cx,hcx,Cx⟩:=hks 0 (by simp)
 have HPx:=hid (hp 0 (by simp))
 simp only [List.getElem_cons_zero,Nat.zero_mul,Nat.add_zero] at Cx hcx HPx
 obtain ⟨rx,hx'⟩:∃ r,Ev.ev C W X=r:=⟨_,rfl⟩
 rw [hx'] at Cx HPx HCB
 obtain ⟨⟨xk,xn,xs_⟩,xe⟩:=rx
 have HRX:Hid (¬ xe=0→RES=⟨⟨0,0,[]⟩,xe⟩):=hid (fun h=>by rw [HCB.out]; exact Ev.comb_bad h)
 unfold outR vv vcells at Cx
 unfold ncells at Cx
 dsimp only at Cx
 obtain ⟨cn,hcn⟩:∃ cn,C.length=cn:=⟨_,rfl⟩
 obtain ⟨wn,hwn⟩:∃ wn,W.length=wn:=⟨_,rfl⟩
 obtain ⟨kn,hkn⟩:∃ kn,(X :: l).length=kn:=⟨_,rfl⟩
 have HCN:=hid hcn
 have HWN:=hid hwn
 have HKN:=hid hkn
 rw [hcn,hwn] at Cx
 have HCx:=hid hcx
 have HKx:=hid Cx
 have hk0:0 < kn:=by rw [← hkn]; simp
 have hk0i:(0:Int) < (kn:Int):=by omega
 have q1:(op == 1)=false:=by simpa using h1
 have q2:(op == 2)=false:=by simpa using h2
 unfold ncells at *
 rw [hkn] at Q1 hW1
 rw [hcn,hwn,hkn]
 clear hX hp hA hV hC hl hb hk hcc hres hx' hcx Cx h1 h2 hcn hwn hkn hks hcase hpos
 go_enter Tryz.func17,Tryz.ntmps17
 go_upto_region 2 with fail
 have hsz:W1.heap.size=w.heap.size + 1 + 1:=by rw [← hW1]; simp
 rw [hsz]
 obtain ⟨W2,hW2⟩:∃ W2,W1.alloc (.cells #[.int .i64 0,.int .i64 0,.string ⟨#[]⟩] 23)=W2:=⟨_,rfl⟩
 rw [hW2] at Q1 ⊢
 clear hW1 hW2 hsz
 have S1:=hid Q1
 obtain ⟨c0,c1,c2,c3,c4,c5⟩:=six_of Q1.2.1
 obtain ⟨⟨d0,d1,d2⟩,f0,f1,f2⟩:=Q1.res
 clear Q1
 obtain ⟨p0,p1,p2,p3,p4,p5⟩:=HCx.out W2 S1.out.1
 go_wp2_with fail
 refine (HKx.out _ S1.out.1).mono ?_
 rintro e V ⟨rfl,hv⟩
 have S2:=hid (S1.out.call hv)
 clear c0 c1 c2 c3 c4 c5 p0 p1 p2 p3 p4 p5 d0 d1 d2 f0 f1 f2 hv HCx HKx S1
 have qx:=Row3.new V xk xn (tx xs_)
 have S3:=hid (S2.out.call ((Below.refl _ _).alloc (Nat.le_refl _) (.cells #[.int .i64 xk,.int .i64 xn,.string (tx xs_)] 23)))
 by_cases he:xe=0
 case neg=>
  have he':(xe != 0)=true:=by simpa using he
  have HR:=hid (HRX.out he)
  clear he qx
  obtain ⟨l0,l1,l2⟩:=S3.out.2.2.2.holds
  obtain ⟨⟨d0,d1,d2⟩,f0,f1,f2⟩:=S3.out.res
  go_wp2_with fail
  exact fin_R (r:=RES) Tryz.results17 rfl rfl rfl S3.out.2.2.1 (by first | exact S3.out.1 | exact below_drewN S3.out.1 _) (by omega) (by first | (rw [HR.out]; done) | (rw [HR.out]; rfl))
 subst he
 go_upto_region 12 with fail
 obtain ⟨W3,hW3⟩:∃ W3,V.alloc (.cells #[.int .i64 xk,.int .i64 xn,.string (tx xs_)] 23)=W3:=⟨_,rfl⟩
 rw [hW3] at qx S3 ⊢
 clear hW3 S2
 have QA:=hid qx
 have q0:=qx.holds
 clear qx
 obtain ⟨a0,a1,a2⟩:=q0
 go_cut [12] from 58 to 66 (fun s12 wc=>s12=.bool (decide (xk=0) || decide (xk=3))∧Hid (Below W3.heap.size W3 wc))
 case first=>
  by_cases h0:xk=0
  ·have h0':(xk == 0)=true:=by simpa using h0
   go_wp2_with fail
   go_meet
   case rel=>exact ⟨by first | (simp [h0]; done) | (simp [h0]; rfl),hid (by first | exact below_drewN (Below.refl _ _) _ | exact Below.refl _ _)⟩
  ·have h0':(xk == 0)=false:=by simpa using h0
   go_wp2_with fail
   go_meet
   case rel=>exact ⟨by first | (simp [h0]; done) | (simp [h0]; rfl),hid (by first | exact below_drewN (Below.refl _ _) _ | exact Below.refl _ _)⟩
 case rest=>
  obtain ⟨rfl,HB⟩:=hcut
  obtain ⟨W4,rfl⟩:∃ W4,W4=wc:=⟨wc,rfl⟩
  have S4:=hid (S3.out.call HB.out)
  have Q4:=hid (QA.out.below HB.out QA.out.lt)
  clear S3 QA HB a0 a1 a2
  obtain ⟨a0,a1,a2⟩:=Q4.out.holds
  obtain ⟨c0,c1,c2,c3,c4,c5⟩:=six_of S4.out.2.1
  obtain ⟨⟨d0,d1,d2⟩,f0,f1,f2⟩:=S4.out.res
  obtain ⟨h,t0,t1,t2,t3,t4⟩:=HCASE.out
  rcases h with ⟨h | h,hn⟩ | h | h
  ·
   subst h
   obtain rfl:l=[]:=List.eq_nil_of_length_eq_zero (by simpa using hn)
   obtain rfl:kn=1:=by have:=HKN.out; simpa using this.symm
   have HRF:Hid (RES=Ev.app1 3 t ⟨⟨xk,xn,xs_⟩,0⟩):=hid (by rw [HCB.out]; simp only [Ev.evs]; exact Ev.comb_one _ t0 t1 t2 t3 t4)
   have t0':(t == [111,114])=false:=by simpa using t0
   have t1':(t == [97,110,100])=false:=by simpa using t1
   have t2':(t == [105,115,110,117,108,108])=false:=by simpa using t2
   have t3':(t == [110,118,108])=false:=by simpa using t3
   have t4':(t == [105,102])=false:=by simpa using t4
   clear t0 t1 t2 t3 t4
   clear HKS HPS HCB HKN
   go_upto_region 44 with fail
   have qb:=Row3.new W4 9 0 ⟨#[]⟩
   have S5:=hid (S4.out.call ((Below.refl _ _).alloc (Nat.le_refl _) (.cells #[.int .i64 9,.int .i64 0,.string ⟨#[]⟩] 23)))
   have q5:=Q4.out.alloc (.cells #[.int .i64 9,.int .i64 0,.string ⟨#[]⟩] 23)
   have LT:=hid (show w.heap.size + 1 + 1 + 1≤W4.heap.size from S4.out.2.2.2.lt)
   have LA:=hid Q4.out.lt
   obtain ⟨gb,hgb⟩:∃ gb,W4.heap.size=gb:=⟨_,rfl⟩
   obtain ⟨W5,hW5⟩:∃ U,W4.alloc (.cells #[.int .i64 9,.int .i64 0,.string ⟨#[]⟩] 23)=U:=⟨_,rfl⟩
   rw [hgb] at qb LT LA ⊢
   rw [hW5] at qb S5 q5 ⊢
   clear hW5 hgb S4 Q4 c0 c1 c2 c3 c4 c5 a0 a1 a2 d0 d1 d2 f0 f1 f2
   have Q5:=hid q5
   have B5:=hid qb
   clear q5 qb
   obtain ⟨a0,a1,a2⟩:=Q5.out.holds
   obtain ⟨b0,b1,b2⟩:=B5.out.holds
   obtain ⟨c0,c1,c2,c3,c4,c5⟩:=six_of S5.out.2.1
   obtain ⟨⟨d0,d1,d2⟩,f0,f1,f2⟩:=S5.out.res
   by_cases hx0:xk=0
   case pos=>
    have HR:Hid (RES=⟨⟨0,0,[]⟩,0⟩):=hid (by rw [HRF.out]; exact Ev.app1_null rfl hx0)
    have hx0':(xk == 0)=true:=by simpa using hx0
    clear hx0
    obtain ⟨l0,l1,l2⟩:=S5.out.2.2.2.holds
    go_wp2_with fail
    exact fin_R (r:=RES) Tryz.results17 rfl rfl rfl S5.out.2.2.1 (by first | exact S5.out.1 | exact below_drewN S5.out.1 _) (by omega) (by first | (rw [HR.out]; done) | (rw [HR.out]; rfl))
   have hx0':(xk == 0)=false:=by simpa using hx0
   have HU:Hid (RES=Ev.un 3 t ⟨xk,xn,xs_⟩):=hid (by rw [HRF.out]; exact Ev.app1_un rfl hx0)
   clear hx0
   by_cases hxk:xk=1
   case neg=>
    have HR:Hid (RES=⟨⟨0,0,[]⟩,10⟩):=hid (by rw [HU.out,Ev.un,if_pos rfl,if_neg hxk]; rfl)
    have hxk':(xk != 1)=true:=by simpa using hxk
    clear hxk
    obtain ⟨l0,l1,l2⟩:=S5.out.2.2.2.holds
    go_wp2_with fail
    exact fin_R (r:=RES) Tryz.results17 rfl rfl rfl S5.out.2.2.1 (by first | exact S5.out.1 | exact below_drewN S5.out.1 _) (by omega) (by first | (rw [HR.out]; done) | (rw [HR.out]; rfl))
   have hxk':(xk != 1)=false:=by simpa using hxk
   have HRB:Hid (RES=Ev.num (-xn)):=hid (by rw [HU.out,Ev.un,if_pos rfl,if_pos hxk])
   have OA:=hid (fun U=>of_says xn U (pl_fits HPx.out))
   have NU:=hid (fun u U (h:Says u (-xn))=>rnum_any u (-xn) U h)
   obtain ⟨⟨⟨rk,rn,rs⟩,re_⟩,hr⟩:∃ r,Ev.num (-xn)=r:=⟨_,rfl⟩
   rw [hr] at NU HRB
   have HR:Hid (RES=⟨⟨rk,rn,rs⟩,re_⟩):=HRB
   unfold outR vv vcells at NU
   dsimp only at NU
   clear hr HRB hxk
   go_wp2_with fail
   refine (OA.out _).mono ?_
   rintro e V6 ⟨v6,rfl,hs6,hv6⟩
   have S6:=hid (S5.out.call hv6)
   clear hv6 c0 c1 c2 c3 c4 c5 a0 a1 a2 b0 b1 b2 d0 d1 d2 f0 f1 f2
   go_wp2_with fail
   refine (wneg_says _ _ _ hs6).mono ?_
   rintro e V7 ⟨v7,rfl,hs7,hv7⟩
   have S7:=hid (S6.out.call hv7)
   clear hv7
   go_wp2_with fail
   refine (NU.out _ _ hs7.wide).mono ?_
   rintro e V8 ⟨rfl,hv8⟩
   have S8:=hid (S7.out.call hv8)
   clear hv8 hs6 hs7
   obtain ⟨⟨d0,d1,d2⟩,f0,f1,f2⟩:=S8.out.res
   go_wp2_with fail
   exact fin_R (r:=RES) Tryz.results17 rfl rfl rfl S8.out.2.2.1 (by first | exact S8.out.1 | exact below_drewN S8.out.1 _) (by omega) (by first | (rw [HR.out]; done) | (rw [HR.out]; rfl))
  ·
   subst h
   obtain rfl:l=[]:=List.eq_nil_of_length_eq_zero (by simpa using hn)
   obtain rfl:kn=1:=by have:=HKN.out; simpa using this.symm
   have HRF:Hid (RES=Ev.app1 4 t ⟨⟨xk,xn,xs_⟩,0⟩):=hid (by rw [HCB.out]; simp only [Ev.evs]; exact Ev.comb_one _ t0 t1 t2 t3 t4)
   have t0':(t == [111,114])=false:=by simpa using t0
   have t1':(t == [97,110,100])=false:=by simpa using t1
   have t2':(t == [105,115,110,117,108,108])=false:=by simpa using t2
   have t3':(t == [110,118,108])=false:=by simpa using t3
   have t4':(t == [105,102])=false:=by simpa using t4
   clear t0 t1 t2 t3 t4
   clear HKS HPS HCB HKN
   go_upto_region 44 with fail
   have qb:=Row3.new W4 9 0 ⟨#[]⟩
   have S5:=hid (S4.out.call ((Below.refl _ _).alloc (Nat.le_refl _) (.cells #[.int .i64 9,.int .i64 0,.string ⟨#[]⟩] 23)))
   have q5:=Q4.out.alloc (.cells #[.int .i64 9,.int .i64 0,.string ⟨#[]⟩] 23)
   have LT:=hid (show w.heap.size + 1 + 1 + 1≤W4.heap.size from S4.out.2.2.2.lt)
   have LA:=hid Q4.out.lt
   obtain ⟨gb,hgb⟩:∃ gb,W4.heap.size=gb:=⟨_,rfl⟩
   obtain ⟨W5,hW5⟩:∃ U,W4.alloc (.cells #[.int .i64 9,.int .i64 0,.string ⟨#[]⟩] 23)=U:=⟨_,rfl⟩
   rw [hgb] at qb LT LA ⊢
   rw [hW5] at qb S5 q5 ⊢
   clear hW5 hgb S4 Q4 c0 c1 c2 c3 c4 c5 a0 a1 a2 d0 d1 d2 f0 f1 f2
   have Q5:=hid q5
   have B5:=hid qb
   clear q5 qb
   obtain ⟨a0,a1,a2⟩:=Q5.out.holds
   obtain ⟨b0,b1,b2⟩:=B5.out.holds
   obtain ⟨c0,c1,c2,c3,c4,c5⟩:=six_of S5.out.2.1
   obtain ⟨⟨d0,d1,d2⟩,f0,f1,f2⟩:=S5.out.res
   by_cases hx0:xk=0
   case pos=>
    have HR:Hid (RES=⟨⟨0,0,[]⟩,0⟩):=hid (by rw [HRF.out]; exact Ev.app1_null rfl hx0)
    have hx0':(xk == 0)=true:=by simpa using hx0
    clear hx0
    obtain ⟨l0,l1,l2⟩:=S5.out.2.2.2.holds
    go_wp2_with fail
    exact fin_R (r:=RES) Tryz.results17 rfl rfl rfl S5.out.2.2.1 (by first | exact S5.out.1 | exact below_drewN S5.out.1 _) (by omega) (by first | (rw [HR.out]; done) | (rw [HR.out]; rfl))
   have hx0':(xk == 0)=false:=by simpa using hx0
   have HU:Hid (RES=Ev.un 4 t ⟨xk,xn,xs_⟩):=hid (by rw [HRF.out]; exact Ev.app1_un rfl hx0)
   clear hx0
   by_cases hxk:xk=3
   case neg=>
    have HR:Hid (RES=⟨⟨0,0,[]⟩,10⟩):=hid (by rw [HU.out,Ev.un,if_neg (by decide),if_pos rfl,if_neg hxk]; rfl)
    have hxk':(xk != 3)=true:=by simpa using hxk
    clear hxk
    obtain ⟨l0,l1,l2⟩:=S5.out.2.2.2.holds
    go_wp2_with fail
    exact fin_R (r:=RES) Tryz.results17 rfl rfl rfl S5.out.2.2.1 (by first | exact S5.out.1 | exact below_drewN S5.out.1 _) (by omega) (by first | (rw [HR.out]; done) | (rw [HR.out]; rfl))
   have hxk':(xk != 3)=false:=by simpa using hxk
   have HR:Hid (RES=⟨⟨3,bit (xn == 0),[]⟩,0⟩):=hid (by rw [HU.out,Ev.un,if_neg (by decide),if_pos rfl,if_pos hxk,bit_tru]; rfl)
   clear hxk
   go_wp2_with fail
   refine (rtruth_any _ _).mono ?_
   rintro e V6 ⟨rfl,hv6⟩
   have S6:=hid (S5.out.call hv6)
   clear hv6 c0 c1 c2 c3 c4 c5 a0 a1 a2 b0 b1 b2 d0 d1 d2 f0 f1 f2
   obtain ⟨⟨d0,d1,d2⟩,f0,f1,f2⟩:=S6.out.res
   go_wp2_with fail
   exact fin_R (r:=RES) Tryz.results17 rfl rfl rfl S6.out.2.2.1 (by first | exact S6.out.1 | exact below_drewN S6.out.1 _) (by omega) (by first | (rw [HR.out]; done) | (rw [HR.out]; rfl))
  ·
   obtain ⟨rfl,hn⟩:=h
   obtain ⟨Y,rfl⟩:=Ev.list1 (l:=l) (by simpa using hn)
   obtain rfl:kn=2:=by have:=HKN.out; simpa using this.symm
   have HRF:Hid (RES=Ev.app2 5 t ⟨⟨xk,xn,xs_⟩,0⟩ (Ev.ev C W Y)):=hid (by rw [HCB.out]; simp only [Ev.evs]; exact Ev.comb_two _ _ t0 t1 t2 t3 t4)
   have t0':(t == [111,114])=false:=by simpa using t0
   have t1':(t == [97,110,100])=false:=by simpa using t1
   have t2':(t == [105,115,110,117,108,108])=false:=by simpa using t2
   have t3':(t == [110,118,108])=false:=by simpa using t3
   have t4':(t == [105,102])=false:=by simpa using t4
   clear t0 t1 t2 t3 t4
   obtain ⟨oy,tty,ky,ny,sy,my,By,cy,hcy,Cy⟩:=HKS.out 1 (by simp)
   have HPy:=hid (HPS.out 1 (by simp))
   simp only [List.getElem_cons_zero,List.getElem_cons_succ,Nat.zero_mul,Nat.one_mul,show 2 * 6=12 from rfl] at Cy hcy HPy
   obtain ⟨ry,hy'⟩:∃ r,Ev.ev C W Y=r:=⟨_,rfl⟩
   rw [hy'] at Cy HPy HRF
   clear hy'
   obtain ⟨⟨yk,yn,ys_⟩,ye⟩:=ry
   unfold outR vv vcells at Cy
   try unfold ncells at Cy
   dsimp only at Cy
   rw [HCN.out,HWN.out] at Cy
   have HCy:=hid hcy
   have HKy:=hid Cy
   clear hcy Cy
   clear HKS HPS HCB HKN
   go_upto_region 44 with fail
   have qb:=Row3.new W4 9 0 ⟨#[]⟩
   have S5:=hid (S4.out.call ((Below.refl _ _).alloc (Nat.le_refl _) (.cells #[.int .i64 9,.int .i64 0,.string ⟨#[]⟩] 23)))
   have q5:=Q4.out.alloc (.cells #[.int .i64 9,.int .i64 0,.string ⟨#[]⟩] 23)
   have LT:=hid (show w.heap.size + 1 + 1 + 1≤W4.heap.size from S4.out.2.2.2.lt)
   have LA:=hid Q4.out.lt
   obtain ⟨gb,hgb⟩:∃ gb,W4.heap.size=gb:=⟨_,rfl⟩
   obtain ⟨W5,hW5⟩:∃ U,W4.alloc (.cells #[.int .i64 9,.int .i64 0,.string ⟨#[]⟩] 23)=U:=⟨_,rfl⟩
   rw [hgb] at qb LT LA ⊢
   rw [hW5] at qb S5 q5 ⊢
   clear hW5 hgb S4 Q4 c0 c1 c2 c3 c4 c5 a0 a1 a2 d0 d1 d2 f0 f1 f2
   have Q5:=hid q5
   have B5:=hid qb
   clear q5 qb
   obtain ⟨c0,c1,c2,c3,c4,c5⟩:=six_of S5.out.2.1
   obtain ⟨⟨d0,d1,d2⟩,f0,f1,f2⟩:=S5.out.res
   obtain ⟨p0,p1,p2,p3,p4,p5⟩:=HCy.out _ S5.out.1
   go_wp2_with fail
   refine (HKy.out _ S5.out.1).mono ?_
   rintro e V7 ⟨rfl,hv7⟩
   have S7:=hid (S5.out.call hv7)
   have Q7:=hid (Q5.out.below hv7 Q5.out.lt)
   have B7:=hid (B5.out.below hv7 B5.out.lt)
   clear hv7 p0 p1 p2 p3 p4 p5 S5 Q5 B5
   clear c0 c1 c2 c3 c4 c5 d0 d1 d2 f0 f1 f2
   have qy:=Row3.new V7 yk yn (tx ys_)
   have S8:=hid (S7.out.call ((Below.refl _ _).alloc (Nat.le_refl _) (.cells #[.int .i64 yk,.int .i64 yn,.string (tx ys_)] 23)))
   have qQ:=Q7.out.alloc (.cells #[.int .i64 yk,.int .i64 yn,.string (tx ys_)] 23)
   have qB:=B7.out.alloc (.cells #[.int .i64 yk,.int .i64 yn,.string (tx ys_)] 23)
   go_upto_region 46 with fail
   obtain ⟨W8,hW8⟩:∃ U,V7.alloc (.cells #[.int .i64 yk,.int .i64 yn,.string (tx ys_)] 23)=U:=⟨_,rfl⟩
   rw [hW8] at qy S8 qQ qB ⊢
   clear hW8 S7
   have Q8:=hid qQ
   have B8:=hid qB
   have Y8:=hid qy
   clear qy qQ qB Q7 B7
   obtain ⟨a0,a1,a2⟩:=Q8.out.holds
   obtain ⟨b0,b1,b2⟩:=B8.out.holds
   obtain ⟨y0,y1,y2⟩:=Y8.out.holds
   obtain ⟨c0,c1,c2,c3,c4,c5⟩:=six_of S8.out.2.1
   obtain ⟨⟨d0,d1,d2⟩,f0,f1,f2⟩:=S8.out.res
   by_cases he:ye=0
   case neg=>
    have he':(ye != 0)=true:=by simpa using he
    have HR:Hid (RES=⟨⟨0,0,[]⟩,ye⟩):=hid (by rw [HRF.out]; exact Ev.app2_err rfl he)
    clear he
    obtain ⟨l0,l1,l2⟩:=S8.out.2.2.2.holds
    go_wp2_with fail
    exact fin_R (r:=RES) Tryz.results17 rfl rfl rfl S8.out.2.2.1 (by first | exact S8.out.1 | exact below_drewN S8.out.1 _) (by omega) (by first | (rw [HR.out]; done) | (rw [HR.out]; rfl))
   subst he
   have fb0:=B8.out.frozen 0
   have fb1:=B8.out.frozen 1
   have fb2:=B8.out.frozen 2
   go_upto_region 49 with fail
   have S9:=hid (S8.out.set3 LT.out (.int .i64 yk) (.int .i64 yn) (.string (tx ys_)))
   have q9:=row3_off Q8.out LA.out (.int .i64 yk) (.int .i64 yn) (.string (tx ys_))
   have b9:=B8.out.set3 yk yn (tx ys_)
   obtain ⟨W9,hW9⟩:∃ U,((W8.setCell ⟨gb,0,none⟩ (.int .i64 yk)).setCell ⟨gb,1,none⟩ (.int .i64 yn)).setCell ⟨gb,2,none⟩ (.string (tx ys_))=U:=⟨_,rfl⟩
   rw [hW9] at S9 q9 b9 ⊢
   clear hW9 S8 Q8 B8 Y8 a0 a1 a2 b0 b1 b2 y0 y1 y2 fb0 fb1 fb2 c0 c1 c2 c3 c4 c5 d0 d1 d2 f0 f1 f2
   have Q9:=hid q9
   have B9:=hid b9
   clear q9 b9
   obtain ⟨a0,a1,a2⟩:=Q9.out.holds
   obtain ⟨b0,b1,b2⟩:=B9.out.holds
   obtain ⟨c0,c1,c2,c3,c4,c5⟩:=six_of S9.out.2.1
   obtain ⟨⟨d0,d1,d2⟩,f0,f1,f2⟩:=S9.out.res
   by_cases hx0:xk=0
   case pos=>
    have HR:Hid (RES=⟨⟨0,0,[]⟩,0⟩):=hid (by rw [HRF.out]; exact Ev.app2_null rfl rfl (.inl hx0))
    have hx0':(xk == 0)=true:=by simpa using hx0
    clear hx0
    obtain ⟨l0,l1,l2⟩:=S9.out.2.2.2.holds
    go_wp2_with fail
    exact fin_R (r:=RES) Tryz.results17 rfl rfl rfl S9.out.2.2.1 (by first | exact S9.out.1 | exact below_drewN S9.out.1 _) (by omega) (by first | (rw [HR.out]; done) | (rw [HR.out]; rfl))
   have hx0':(xk == 0)=false:=by simpa using hx0
   by_cases hy0:yk=0
   case pos=>
    have HR:Hid (RES=⟨⟨0,0,[]⟩,0⟩):=hid (by rw [HRF.out]; exact Ev.app2_null rfl rfl (.inr hy0))
    have hy0':(yk == 0)=true:=by simpa using hy0
    clear hx0 hy0
    obtain ⟨l0,l1,l2⟩:=S9.out.2.2.2.holds
    go_wp2_with fail
    exact fin_R (r:=RES) Tryz.results17 rfl rfl rfl S9.out.2.2.1 (by first | exact S9.out.1 | exact below_drewN S9.out.1 _) (by omega) (by first | (rw [HR.out]; done) | (rw [HR.out]; rfl))
   have hy0':(yk == 0)=false:=by simpa using hy0
   have HRB:Hid (RES=Ev.bin t ⟨xk,xn,xs_⟩ ⟨yk,yn,ys_⟩):=hid (by rw [HRF.out]; exact Ev.app2_mark rfl rfl (by rintro (h | h); exact hx0 h; exact hy0 h))
   have BI:=hid (fun U=>rbin_any t ⟨xk,xn,xs_⟩ ⟨yk,yn,ys_⟩ U HPx.out HPy.out)
   obtain ⟨⟨⟨rk,rn,rs⟩,re_⟩,hr⟩:∃ r,Ev.bin t ⟨xk,xn,xs_⟩ ⟨yk,yn,ys_⟩=r:=⟨_,rfl⟩
   rw [hr] at BI HRB
   have HR:Hid (RES=⟨⟨rk,rn,rs⟩,re_⟩):=HRB
   unfold outR vv vcells at BI
   dsimp only at BI
   clear hr HRB hx0 hy0
   go_wp2_with fail
   refine (BI.out _).mono ?_
   rintro e V10 ⟨rfl,hv10⟩
   have S10:=hid (S9.out.call hv10)
   clear hv10 c0 c1 c2 c3 c4 c5 a0 a1 a2 b0 b1 b2 d0 d1 d2 f0 f1 f2
   obtain ⟨⟨d0,d1,d2⟩,f0,f1,f2⟩:=S10.out.res
   go_wp2_with fail
   exact fin_R (r:=RES) Tryz.results17 rfl rfl rfl S10.out.2.2.1 (by first | exact S10.out.1 | exact below_drewN S10.out.1 _) (by omega) (by first | (rw [HR.out]; done) | (rw [HR.out]; rfl))
  ·
   obtain ⟨rfl,hn,h3⟩:=h
   obtain rfl:l=[]:=List.eq_nil_of_length_eq_zero (by simpa using hn)
   obtain rfl:kn=1:=by have:=HKN.out; simpa using this.symm
   have HRF:Hid (RES=Ev.app1 6 t ⟨⟨xk,xn,xs_⟩,0⟩):=hid (by rw [HCB.out]; simp only [Ev.evs]; exact Ev.comb_one _ t0 t1 t2 t3 t4)
   have t0':(t == [111,114])=false:=by simpa using t0
   have t1':(t == [97,110,100])=false:=by simpa using t1
   have t2':(t == [105,115,110,117,108,108])=false:=by simpa using t2
   have t3':(t == [110,118,108])=false:=by simpa using t3
   have t4':(t == [105,102])=false:=by simpa using t4
   clear t0 t1 t2 t3 t4
   clear HKS HPS HCB HKN
   go_upto_region 44 with fail
   have qb:=Row3.new W4 9 0 ⟨#[]⟩
   have S5:=hid (S4.out.call ((Below.refl _ _).alloc (Nat.le_refl _) (.cells #[.int .i64 9,.int .i64 0,.string ⟨#[]⟩] 23)))
   have q5:=Q4.out.alloc (.cells #[.int .i64 9,.int .i64 0,.string ⟨#[]⟩] 23)
   have LT:=hid (show w.heap.size + 1 + 1 + 1≤W4.heap.size from S4.out.2.2.2.lt)
   have LA:=hid Q4.out.lt
   obtain ⟨gb,hgb⟩:∃ gb,W4.heap.size=gb:=⟨_,rfl⟩
   obtain ⟨W5,hW5⟩:∃ U,W4.alloc (.cells #[.int .i64 9,.int .i64 0,.string ⟨#[]⟩] 23)=U:=⟨_,rfl⟩
   rw [hgb] at qb LT LA ⊢
   rw [hW5] at qb S5 q5 ⊢
   clear hW5 hgb S4 Q4 c0 c1 c2 c3 c4 c5 a0 a1 a2 d0 d1 d2 f0 f1 f2
   have Q5:=hid q5
   have B5:=hid qb
   clear q5 qb
   obtain ⟨a0,a1,a2⟩:=Q5.out.holds
   obtain ⟨b0,b1,b2⟩:=B5.out.holds
   obtain ⟨c0,c1,c2,c3,c4,c5⟩:=six_of S5.out.2.1
   obtain ⟨⟨d0,d1,d2⟩,f0,f1,f2⟩:=S5.out.res
   by_cases hx0:xk=0
   case pos=>
    have HR:Hid (RES=⟨⟨0,0,[]⟩,0⟩):=hid (by rw [HRF.out]; exact Ev.app1_null rfl hx0)
    have hx0':(xk == 0)=true:=by simpa using hx0
    clear hx0
    obtain ⟨l0,l1,l2⟩:=S5.out.2.2.2.holds
    go_wp2_with fail
    exact fin_R (r:=RES) Tryz.results17 rfl rfl rfl S5.out.2.2.1 (by first | exact S5.out.1 | exact below_drewN S5.out.1 _) (by omega) (by first | (rw [HR.out]; done) | (rw [HR.out]; rfl))
   have hx0':(xk == 0)=false:=by simpa using hx0
   have HU:Hid (RES=Ev.un 6 t ⟨xk,xn,xs_⟩):=hid (by rw [HRF.out]; exact Ev.app1_un rfl hx0)
   clear hx0
   rcases h3 with rfl | rfl | rfl
   ·
    by_cases hxk:xk=2
    case neg=>
     have HR:Hid (RES=⟨⟨0,0,[]⟩,10⟩):=hid (by rw [HU.out,Ev.un,if_neg (by decide),if_neg (by decide),if_neg (by decide),if_neg hxk]; rfl)
     have hxk':(xk != 2)=true:=by simpa using hxk
     clear hxk
     obtain ⟨l0,l1,l2⟩:=S5.out.2.2.2.holds
     go_wp2_with fail
     exact fin_R (r:=RES) Tryz.results17 rfl rfl rfl S5.out.2.2.1 (by first | exact S5.out.1 | exact below_drewN S5.out.1 _) (by omega) (by first | (rw [HR.out]; done) | (rw [HR.out]; rfl))
    have hxk':(xk != 2)=false:=by simpa using hxk
    have HR:Hid (RES=⟨⟨1,(xs_.length:Nat),[]⟩,0⟩):=hid (by rw [HU.out,Ev.un,if_neg (by decide),if_neg (by decide),if_neg (by decide),if_pos hxk,if_pos rfl]; rfl)
    have hsz:(tx xs_).size=xs_.length:=by simp [ByteArray.size,tx]
    have hl2:xs_.length≤200:=HPx.out.text hxk
    have hszi:((tx xs_).size:Int)=(xs_.length:Int):=by rw [hsz]
    clear hxk
    go_wp2_with fail
    exact fin_R (r:=RES) Tryz.results17 rfl rfl rfl S5.out.2.2.1 (by first | exact S5.out.1 | exact below_drewN S5.out.1 _) (by omega) (by first | (rw [HR.out]; done) | (rw [HR.out]; rfl))
   ·
    by_cases hxk:xk=1
    case neg=>
     have HR:Hid (RES=⟨⟨0,0,[]⟩,10⟩):=hid (by rw [HU.out,Ev.un,if_neg (by decide),if_neg (by decide),if_pos rfl,if_neg hxk]; rfl)
     have hxk':(xk != 1)=true:=by simpa using hxk
     clear hxk
     obtain ⟨l0,l1,l2⟩:=S5.out.2.2.2.holds
     go_wp2_with fail
     exact fin_R (r:=RES) Tryz.results17 rfl rfl rfl S5.out.2.2.1 (by first | exact S5.out.1 | exact below_drewN S5.out.1 _) (by omega) (by first | (rw [HR.out]; done) | (rw [HR.out]; rfl))
    have hxk':(xk != 1)=false:=by simpa using hxk
    have HR:Hid (RES=⟨⟨2,0,itoa xn⟩,0⟩):=hid (by rw [HU.out,Ev.un,if_neg (by decide),if_neg (by decide),if_pos rfl,if_pos hxk]; rfl)
    have PR:=hid (fun U=>refprint_any xn U (pl_fits HPx.out))
    clear hxk
    go_wp2_with fail
    refine (PR.out _).mono ?_
    rintro e V6 ⟨rfl,hv6⟩
    have S6:=hid (S5.out.call hv6)
    clear hv6 c0 c1 c2 c3 c4 c5 a0 a1 a2 b0 b1 b2 d0 d1 d2 f0 f1 f2
    obtain ⟨⟨d0,d1,d2⟩,f0,f1,f2⟩:=S6.out.res
    go_wp2_with fail
    exact fin_R (r:=RES) Tryz.results17 rfl rfl rfl S6.out.2.2.1 (by first | exact S6.out.1 | exact below_drewN S6.out.1 _) (by omega) (by first | (rw [HR.out]; done) | (rw [HR.out]; rfl))
   ·
    by_cases hxk:xk=2
    case neg=>
     have HR:Hid (RES=⟨⟨0,0,[]⟩,10⟩):=hid (by rw [HU.out,Ev.un,if_neg (by decide),if_neg (by decide),if_neg (by decide),if_neg hxk]; rfl)
     have hxk':(xk != 2)=true:=by simpa using hxk
     clear hxk
     obtain ⟨l0,l1,l2⟩:=S5.out.2.2.2.holds
     go_wp2_with fail
     exact fin_R (r:=RES) Tryz.results17 rfl rfl rfl S5.out.2.2.1 (by first | exact S5.out.1 | exact below_drewN S5.out.1 _) (by omega) (by first | (rw [HR.out]; done) | (rw [HR.out]; rfl))
    have hxk':(xk != 2)=false:=by simpa using hxk
    have HRA:Hid (RES=if re xs_=0 then ⟨⟨1,rv xs_,[]⟩,0⟩ else ⟨⟨0,0,[]⟩,re xs_⟩):=hid (by rw [HU.out,Ev.un,if_neg (by decide),if_neg (by decide),if_neg (by decide),if_pos hxk,if_neg (by decide)]; rfl)
    have RD:=hid (fun U=>refread_any (tx xs_) U (by have h:=HPx.out.text hxk; have hsz:(tx xs_).size=xs_.length:=by simp [ByteArray.size,tx]
                                                            dsimp only at h; omega))
    have RD2:Hid (∀ U,Calls Tryz.prog 44 #[.string (tx xs_)] U fun e w'=>e=.returned (.tuple #[.int .i64 (rv xs_),.int .i64 (re xs_)])∧Below U.heap.size U w'):=RD
    clear RD hxk
    obtain ⟨u,hu⟩:∃ u,rv xs_=u:=⟨_,rfl⟩
    obtain ⟨c',hc'⟩:∃ u,re xs_=u:=⟨_,rfl⟩
    rw [hu,hc'] at RD2 HRA
    clear hu hc'
    go_wp2_with fail
    refine (RD2.out _).mono ?_
    rintro e V6 ⟨rfl,hv6⟩
    have S6:=hid (S5.out.call hv6)
    clear hv6 c0 c1 c2 c3 c4 c5 a0 a1 a2 b0 b1 b2 d0 d1 d2 f0 f1 f2
    obtain ⟨⟨d0,d1,d2⟩,f0,f1,f2⟩:=S6.out.res
    by_cases he:c'=0
    case neg=>
     have HR:Hid (RES=⟨⟨0,0,[]⟩,c'⟩):=hid (by rw [HRA.out,if_neg he])
     have he':(c' != 0)=true:=by simpa using he
     clear he
     obtain ⟨l0,l1,l2⟩:=S6.out.2.2.2.holds
     go_wp2_with fail
     exact fin_R (r:=RES) Tryz.results17 rfl rfl rfl S6.out.2.2.1 (by first | exact S6.out.1 | exact below_drewN S6.out.1 _) (by omega) (by first | (rw [HR.out]; done) | (rw [HR.out]; rfl))
    have HR:Hid (RES=⟨⟨1,u,[]⟩,0⟩):=hid (by rw [HRA.out,if_pos he])
    have he':(c' != 0)=false:=by simpa using he
    clear he
    go_wp2_with fail
    exact fin_R (r:=RES) Tryz.results17 rfl rfl rfl S6.out.2.2.1 (by first | exact S6.out.1 | exact below_drewN S6.out.1 _) (by omega) (by first | (rw [HR.out]; done) | (rw [HR.out]; rfl))
end Go.Proofs.YteghhmomhlnccaaGreatDoor
