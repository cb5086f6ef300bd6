import Derived.Test.YteghhmomhlnccaaGreatDoorYT3
import Derived.Test.YteghhmomhlnccaaGreatDoorYT6
import Derived.Test.YteghhmomhlnccaaGreatDoorYT2
set_option linter.unusedVariables false
set_option linter.unusedSimpArgs false
set_option maxRecDepth 100000
set_option maxHeartbeats 100000000
open Go.RowKit Go.Lib
namespace Go.Proofs.YteghhmomhlnccaaGreatDoor
attribute [local go_sem ↓] eqVal neqVal
structure Env (w:World) (a:Addr) (m:Int):Prop where
 tab:Lib.TabIs Tryz.prog w powName .u64 Lib.pow10Tab
 var : w.var? Tryz.prog "strconv.ErrRange" = some #[.iface 242 (.pointer (some a))]
 max:MaxAt w m
theorem errRange_at : Tryz.prog.globalNamed "strconv.ErrRange" = some 0 := by kernel_rfl
theorem pow10_lt:(Tryz.prog.globalNamed powName).all (fun g=>decide (g < 8))=true:=by kernel_rfl
theorem pow10_at:∃ g,Tryz.prog.globalNamed powName=some g∧g < 8:=by
 have h:=pow10_lt
 have h2:(Tryz.prog.globalNamed powName).isSome=true:=by kernel_rfl
 obtain ⟨g,hg⟩:=Option.isSome_iff_exists.1 h2
 rw [hg] at h
 exact ⟨g,hg,by simpa using h⟩
theorem Env.cell {w:World} {a:Addr} {m:Int} (h:Env w a m):w.cell? ⟨0,0,none⟩=some (.iface 242 (.pointer (some a))):=by
 rw [World.var?_cell errRange_at h.var 0]; rfl
theorem Env.below {w w':World} {a:Addr} {m:Int} (h:Env w a m) (hb:Below w.heap.size w w'):Env w' a m:=by
 obtain ⟨g,hg,-⟩:=pow10_at
 have c0:=World.block_lt_of_cell? w _ h.cell
 have c1:w.cell? ⟨g,0,none⟩=some (.int .u64 1):=by
  rw [World.var?_cell hg h.tab 0]; rfl
 have l1:=World.block_lt_of_cell? w _ c1
 exact ⟨var?_below hb hg l1 h.tab,var?_below hb errRange_at c0 h.var,h.max.below hb⟩
abbrev out (t:Told):Value:=.tuple #[val t.k t.n (str t.s),.int .i64 t.e]
theorem readText_yes (s:ByteArray) (w:World) (m:Int) (hm:MaxAt w m) (hs:s.size≤6000) (q r:ByteArray) (hq:q=str (trimSuffix (trimPrefix s.data.toList [39]) [39])) (hr:r=str (replaceAll q.data.toList [39,39] [39])) (hx:((str (quo (cut r).data.toList)).toList == s.toList)=true) :
  Calls Tryz.prog 153 #[.string s] w fun e w'=>e=.returned (.tuple #[val 2 0 (cut r),.int .i64 0])∧Below w.heap.size w w':=by
 have HM:=hid hm
 have hq6:q.size≤6000:=by
  have:=trim_length s.data.toList
  have e:s.data.toList.length=s.size:=by simp
  rw [hq]
  show (trimSuffix (trimPrefix s.data.toList [39]) [39]).toArray.size≤6000
  rw [List.size_toArray]; omega
 have hr6:r.size≤6000:=by
  have:=ra2_length _ q.data.toList (Nat.le_refl _)
  have e:q.data.toList.length=q.size:=by simp
  rw [hr]
  show (replaceAll q.data.toList [39,39] [39]).toArray.size≤6000
  rw [List.size_toArray]; omega
 obtain ⟨p,hp⟩:∃ p,p=str (trimPrefix s.data.toList [39]):=⟨_,rfl⟩
 have P1:Hid (∀ w,Calls Tryz.prog 176 #[.string s,.string ⟨#[39]⟩] w fun e w'=>e=.returned (.string p)∧w'=w):=hid (fun w=>by rw [hp]; exact Tryz.strings_TrimPrefix s ⟨#[39]⟩ w)
 have P2:Hid (∀ w,Calls Tryz.prog 175 #[.string p,.string ⟨#[39]⟩] w fun e w'=>e=.returned (.string q)∧w'=w):=hid (fun w=>by
  rw [hp,hq]
  exact Tryz.strings_TrimSuffix (str (trimPrefix s.data.toList [39])) ⟨#[39]⟩ w (by
   have h2:(trimPrefix s.data.toList [39]).length≤s.data.toList.length:=by unfold trimPrefix; split <;> simp
   have e:s.data.toList.length=s.size:=by simp
   show (trimPrefix s.data.toList [39]).toArray.size≤_
   rw [List.size_toArray]; omega))
 have P3:Hid (∀ w,MaxAt w m→Calls Tryz.prog 177 #[.string q,.string ⟨#[39,39]⟩,.string ⟨#[39]⟩] w fun e w'=>e=.returned (.string r)∧Below w.heap.size w w'):=hid (fun w hm=>by
  rw [hr]
  exact Tryz.strings_ReplaceAll q ⟨#[39,39]⟩ ⟨#[39]⟩ m w (by omega) hm (by decide) (by
   have hc:=Lib.countB_le ⟨#[39,39]⟩ (by decide) q.size q (Nat.le_refl _)
   have e:(⟨#[39]⟩:ByteArray).size=1:=rfl
   rw [e]; omega))
 have P5:=hid (fun w (hm:MaxAt w m)=>print_text (cut r) w (cut_size r) m hm)
 have P4:=hid (fun w=>text_any r w (by omega))
 clear hm hq hr hp
 generalize cut r=v at *
 generalize str (quo v.data.toList)=x at *
 go_enter Tryz.func153,Tryz.ntmps153
 go_wp2_with fail
 refine (P1.out _).mono ?_
 rintro e w' ⟨rfl,rfl⟩
 go_wp2_with fail
 refine (P2.out _).mono ?_
 rintro e w' ⟨rfl,rfl⟩
 have R0:=hid (Row3.new w 0 0 ⟨#[]⟩)
 have B0:=hid ((Below.refl w.heap.size w).alloc (Nat.le_refl _) (.cells #[.int .i64 0,.int .i64 0,.string ⟨#[]⟩] 23))
 go_wp2_with fail
 refine (P3.out _ (HM.out.below B0.out)).mono ?_
 rintro e w1 ⟨rfl,hb1⟩
 have R1:=hid (R0.out.below hb1 R0.out.lt)
 have B1:=hid (bstep B0.out hb1)
 clear hb1 R0 B0
 go_wp2_with fail
 refine (P4.out _).mono ?_
 rintro e w2 ⟨rfl,hb2⟩
 have R2:=hid (R1.out.below hb2 R1.out.lt)
 have B2:=hid (bstep B1.out hb2)
 clear hb2 R1 B1
 go_wp2_with fail
 have R3:=hid (R2.out.alloc (.cells #[.int .i64 2,.int .i64 0,.string v] 23))
 have B3:=hid (B2.out.alloc B2.out.size (.cells #[.int .i64 2,.int .i64 0,.string v] 23))
 have V3:=hid (Holds3.new w2 2 0 v 23)
 refine (P5.out _ (HM.out.below B3.out)).mono ?_
 rintro e w4 ⟨rfl,hb4⟩
 have R4:=hid (R3.out.below hb4 R3.out.lt)
 have V4:=hid (V3.out.below hb4 V3.out.lt)
 have B4:=hid (bstep B3.out hb4)
 clear hb4 R3 B3 V3 R2 B2
 obtain ⟨c1,c2,c3⟩:=V4.out
 obtain ⟨d1,d2,d3⟩:=R4.out.holds
 have f0:=R4.out.frozen 0
 have f1:=R4.out.frozen 1
 have f2:=R4.out.frozen 2
 go_wp2
 have hb:=(((B4.out).setCell (p:=⟨w.heap.size,0,none⟩) (Nat.le_refl _) (.int .i64 2)).setCell (p:=⟨w.heap.size,1,none⟩) (Nat.le_refl _) (.int .i64 0)).setCell (p:=⟨w.heap.size,2,none⟩) (Nat.le_refl _) (.string v)
 have hq:=R4.out.set3 2 0 v
 generalize ((w4.setCell ⟨w.heap.size,0,none⟩ (.int .i64 2)).setCell ⟨w.heap.size,1,none⟩ (.int .i64 0)).setCell ⟨w.heap.size,2,none⟩ (.string v)=W at hb hq ⊢
 obtain ⟨q1,q2,q3⟩:=hq.holds
 exact bodyPost_ret (v:=.tuple #[val 2 0 v,.int .i64 0]) (by simp [results,Tryz.results153,go_sem,q1,q2,q3]) rfl ⟨rfl,hb⟩
theorem readText_no (s:ByteArray) (w:World) (m:Int) (hm:MaxAt w m) (hs:s.size≤6000) (q r:ByteArray) (hq:q=str (trimSuffix (trimPrefix s.data.toList [39]) [39])) (hr:r=str (replaceAll q.data.toList [39,39] [39])) (hx:((str (quo (cut r).data.toList)).toList == s.toList)=false) :
  Calls Tryz.prog 153 #[.string s] w fun e w'=>e=.returned (.tuple #[val 0 0 ⟨#[]⟩,.int .i64 7])∧Below w.heap.size w w':=by
 have HM:=hid hm
 have hq6:q.size≤6000:=by
  have:=trim_length s.data.toList
  have e:s.data.toList.length=s.size:=by simp
  rw [hq]
  show (trimSuffix (trimPrefix s.data.toList [39]) [39]).toArray.size≤6000
  rw [List.size_toArray]; omega
 have hr6:r.size≤6000:=by
  have:=ra2_length _ q.data.toList (Nat.le_refl _)
  have e:q.data.toList.length=q.size:=by simp
  rw [hr]
  show (replaceAll q.data.toList [39,39] [39]).toArray.size≤6000
  rw [List.size_toArray]; omega
 obtain ⟨p,hp⟩:∃ p,p=str (trimPrefix s.data.toList [39]):=⟨_,rfl⟩
 have P1:Hid (∀ w,Calls Tryz.prog 176 #[.string s,.string ⟨#[39]⟩] w fun e w'=>e=.returned (.string p)∧w'=w):=hid (fun w=>by rw [hp]; exact Tryz.strings_TrimPrefix s ⟨#[39]⟩ w)
 have P2:Hid (∀ w,Calls Tryz.prog 175 #[.string p,.string ⟨#[39]⟩] w fun e w'=>e=.returned (.string q)∧w'=w):=hid (fun w=>by
  rw [hp,hq]
  exact Tryz.strings_TrimSuffix (str (trimPrefix s.data.toList [39])) ⟨#[39]⟩ w (by
   have h2:(trimPrefix s.data.toList [39]).length≤s.data.toList.length:=by unfold trimPrefix; split <;> simp
   have e:s.data.toList.length=s.size:=by simp
   show (trimPrefix s.data.toList [39]).toArray.size≤_
   rw [List.size_toArray]; omega))
 have P3:Hid (∀ w,MaxAt w m→Calls Tryz.prog 177 #[.string q,.string ⟨#[39,39]⟩,.string ⟨#[39]⟩] w fun e w'=>e=.returned (.string r)∧Below w.heap.size w w'):=hid (fun w hm=>by
  rw [hr]
  exact Tryz.strings_ReplaceAll q ⟨#[39,39]⟩ ⟨#[39]⟩ m w (by omega) hm (by decide) (by
   have hc:=Lib.countB_le ⟨#[39,39]⟩ (by decide) q.size q (Nat.le_refl _)
   have e:(⟨#[39]⟩:ByteArray).size=1:=rfl
   rw [e]; omega))
 have P5:=hid (fun w (hm:MaxAt w m)=>print_text (cut r) w (cut_size r) m hm)
 have P4:=hid (fun w=>text_any r w (by omega))
 clear hm hq hr hp
 generalize cut r=v at *
 generalize str (quo v.data.toList)=x at *
 go_enter Tryz.func153,Tryz.ntmps153
 go_wp2_with fail
 refine (P1.out _).mono ?_
 rintro e w' ⟨rfl,rfl⟩
 go_wp2_with fail
 refine (P2.out _).mono ?_
 rintro e w' ⟨rfl,rfl⟩
 have R0:=hid (Row3.new w 0 0 ⟨#[]⟩)
 have B0:=hid ((Below.refl w.heap.size w).alloc (Nat.le_refl _) (.cells #[.int .i64 0,.int .i64 0,.string ⟨#[]⟩] 23))
 go_wp2_with fail
 refine (P3.out _ (HM.out.below B0.out)).mono ?_
 rintro e w1 ⟨rfl,hb1⟩
 have R1:=hid (R0.out.below hb1 R0.out.lt)
 have B1:=hid (bstep B0.out hb1)
 clear hb1 R0 B0
 go_wp2_with fail
 refine (P4.out _).mono ?_
 rintro e w2 ⟨rfl,hb2⟩
 have R2:=hid (R1.out.below hb2 R1.out.lt)
 have B2:=hid (bstep B1.out hb2)
 clear hb2 R1 B1
 go_wp2_with fail
 have R3:=hid (R2.out.alloc (.cells #[.int .i64 2,.int .i64 0,.string v] 23))
 have B3:=hid (B2.out.alloc B2.out.size (.cells #[.int .i64 2,.int .i64 0,.string v] 23))
 have V3:=hid (Holds3.new w2 2 0 v 23)
 refine (P5.out _ (HM.out.below B3.out)).mono ?_
 rintro e w4 ⟨rfl,hb4⟩
 have R4:=hid (R3.out.below hb4 R3.out.lt)
 have V4:=hid (V3.out.below hb4 V3.out.lt)
 have B4:=hid (bstep B3.out hb4)
 clear hb4 R3 B3 V3 R2 B2
 obtain ⟨c1,c2,c3⟩:=V4.out
 go_wp2_with fail
 clear c1 c2 c3
 refine (null_any _).mono ?_
 rintro e w5 ⟨rfl,hb5⟩
 have R5:=hid (R4.out.below hb5 R4.out.lt)
 have B5:=hid (bstep B4.out hb5)
 clear hb5
 obtain ⟨d1,d2,d3⟩:=R5.out.holds
 have f0:=R5.out.frozen 0
 have f1:=R5.out.frozen 1
 have f2:=R5.out.frozen 2
 go_wp2
 have hb:=(((B5.out).setCell (p:=⟨w.heap.size,0,none⟩) (Nat.le_refl _) (.int .i64 0)).setCell (p:=⟨w.heap.size,1,none⟩) (Nat.le_refl _) (.int .i64 0)).setCell (p:=⟨w.heap.size,2,none⟩) (Nat.le_refl _) (.string ⟨#[]⟩)
 have hq:=R5.out.set3 0 0 ⟨#[]⟩
 generalize ((w5.setCell ⟨w.heap.size,0,none⟩ (.int .i64 0)).setCell ⟨w.heap.size,1,none⟩ (.int .i64 0)).setCell ⟨w.heap.size,2,none⟩ (.string ⟨#[]⟩)=W at hb hq ⊢
 obtain ⟨q1,q2,q3⟩:=hq.holds
 exact bodyPost_ret (v:=.tuple #[val 0 0 ⟨#[]⟩,.int .i64 7]) (by simp [results,Tryz.results153,go_sem,q1,q2,q3]) rfl ⟨rfl,hb⟩
theorem str_list (l:List UInt8):(str l).toList=l:=by rw [ByteArray.toList_eq]
theorem readText_any (s:ByteArray) (w:World) (m:Int) (hm:MaxAt w m) (hs:s.size≤6000) (hh:s.data.toList.head?=some 39) :
  Calls Tryz.prog 153 #[.string s] w fun e w'=>e=.returned (out (toldText s.data.toList))∧Below w.heap.size w w':=by
 by_cases h:∃ u:List UInt8,u.length≤200∧quo u=s.data.toList
 ·obtain ⟨u,hu,he⟩:=h
  have hc:cut (str u)=str u:=cut_small (by show u.toArray.size≤200; rw [List.size_toArray]; exact hu)
  rw [← he,toldText_quo u hu]
  have K:=readText_yes s w m hm hs (str (esc u)) (str u) (by rw [← he,inside_quo]) (by show _=str (replaceAll (esc u) [39,39] [39]); rw [ra_unesc]) (by
   rw [hc,str_list,ByteArray.toList_eq,← he]; simp)
  rw [hc] at K
  exact K
 ·have hn:∀ u:List UInt8,u.length≤200→quo u ≠ s.data.toList:=fun u hu he=>h ⟨u,hu,he⟩
  rw [toldText_not _ hh hn]
  refine readText_no s w m hm hs _ _ rfl rfl ?_
  rw [beq_eq_false_iff_ne,str_list,ByteArray.toList_eq]
  refine hn _ ?_
  have:=cut_size (str (replaceAll (str (trimSuffix (trimPrefix s.data.toList [39]) [39])).data.toList [39,39] [39]))
  generalize cut (str (replaceAll (str (trimSuffix (trimPrefix s.data.toList [39]) [39])).data.toList [39,39] [39]))=v at *
  have e:v.data.toList.length=v.size:=by simp
  omega
theorem re_cases (l:List UInt8):re l=0∨re l=4∨re l=6:=by
 unfold re se
 split
 ·split <;> simp
 ·simp
theorem readInt_ok (s:ByteArray) (w:World) (a:Addr) (m:Int) (hv:Env w a m) (hs:s.size≤6000) (x:Int) (hx:rv s.data.toList=x) (he:re s.data.toList=0) :
  Calls Tryz.prog 154 #[.string s] w fun e w'=>e=.returned (.tuple #[val 1 x ⟨#[]⟩,.int .i64 0])∧Below w.heap.size w w':=by
 have R0:=hid (Row3.new w 0 0 ⟨#[]⟩)
 have B0:=hid ((Below.refl w.heap.size w).alloc (Nat.le_refl _) (.cells #[.int .i64 0,.int .i64 0,.string ⟨#[]⟩] 23))
 have E0:=hid (hv.below B0.out)
 have P:=read_any s _ hs a E0.out.cell E0.out.var
 rw [hx,he] at P
 have PP:=hid P
 clear P hv hx he
 go_enter Tryz.func154,Tryz.ntmps154
 go_wp2_with fail
 refine (PP.out).mono ?_
 rintro e w1 ⟨rfl,hb1⟩
 have R1:=hid (R0.out.below hb1 R0.out.lt)
 have B1:=hid (bstep B0.out hb1)
 clear hb1
 go_wp2_with fail
 refine (int_any _ _).mono ?_
 rintro e w5 ⟨rfl,hb5⟩
 have R5:=hid (R1.out.below hb5 R1.out.lt)
 have B5:=hid (bstep B1.out hb5)
 clear hb5 R0 B0 E0 PP
 obtain ⟨d1,d2,d3⟩:=R5.out.holds
 have f0:=R5.out.frozen 0
 have f1:=R5.out.frozen 1
 have f2:=R5.out.frozen 2
 go_wp2
 have hb:=(((B5.out).setCell (p:=⟨w.heap.size,0,none⟩) (Nat.le_refl _) (.int .i64 1)).setCell (p:=⟨w.heap.size,1,none⟩) (Nat.le_refl _) (.int .i64 x)).setCell (p:=⟨w.heap.size,2,none⟩) (Nat.le_refl _) (.string ⟨#[]⟩)
 have hq:=R5.out.set3 1 x ⟨#[]⟩
 generalize ((w5.setCell ⟨w.heap.size,0,none⟩ (.int .i64 1)).setCell ⟨w.heap.size,1,none⟩ (.int .i64 x)).setCell ⟨w.heap.size,2,none⟩ (.string ⟨#[]⟩)=W at hb hq ⊢
 obtain ⟨q1,q2,q3⟩:=hq.holds
 exact bodyPost_ret (v:=.tuple #[val 1 x ⟨#[]⟩,.int .i64 0]) (by simp [results,Tryz.results154,go_sem,q1,q2,q3]) rfl ⟨rfl,hb⟩
theorem readInt_over (s:ByteArray) (w:World) (a:Addr) (m:Int) (hv:Env w a m) (hs:s.size≤6000) (x:Int) (hx:rv s.data.toList=x) (he:re s.data.toList=4) :
  Calls Tryz.prog 154 #[.string s] w fun e w'=>e=.returned (.tuple #[val 0 0 ⟨#[]⟩,.int .i64 4])∧Below w.heap.size w w':=by
 have R0:=hid (Row3.new w 0 0 ⟨#[]⟩)
 have B0:=hid ((Below.refl w.heap.size w).alloc (Nat.le_refl _) (.cells #[.int .i64 0,.int .i64 0,.string ⟨#[]⟩] 23))
 have E0:=hid (hv.below B0.out)
 have P:=read_any s _ hs a E0.out.cell E0.out.var
 rw [hx,he] at P
 have PP:=hid P
 clear P hv hx he
 go_enter Tryz.func154,Tryz.ntmps154
 go_wp2_with fail
 refine (PP.out).mono ?_
 rintro e w1 ⟨rfl,hb1⟩
 have R1:=hid (R0.out.below hb1 R0.out.lt)
 have B1:=hid (bstep B0.out hb1)
 clear hb1
 go_wp2_with fail
 refine (null_any _).mono ?_
 rintro e w5 ⟨rfl,hb5⟩
 have R5:=hid (R1.out.below hb5 R1.out.lt)
 have B5:=hid (bstep B1.out hb5)
 clear hb5 R0 B0 E0 PP
 obtain ⟨d1,d2,d3⟩:=R5.out.holds
 have f0:=R5.out.frozen 0
 have f1:=R5.out.frozen 1
 have f2:=R5.out.frozen 2
 go_wp2
 have hb:=(((B5.out).setCell (p:=⟨w.heap.size,0,none⟩) (Nat.le_refl _) (.int .i64 0)).setCell (p:=⟨w.heap.size,1,none⟩) (Nat.le_refl _) (.int .i64 0)).setCell (p:=⟨w.heap.size,2,none⟩) (Nat.le_refl _) (.string ⟨#[]⟩)
 have hq:=R5.out.set3 0 0 ⟨#[]⟩
 generalize ((w5.setCell ⟨w.heap.size,0,none⟩ (.int .i64 0)).setCell ⟨w.heap.size,1,none⟩ (.int .i64 0)).setCell ⟨w.heap.size,2,none⟩ (.string ⟨#[]⟩)=W at hb hq ⊢
 obtain ⟨q1,q2,q3⟩:=hq.holds
 exact bodyPost_ret (v:=.tuple #[val 0 0 ⟨#[]⟩,.int .i64 4]) (by simp [results,Tryz.results154,go_sem,q1,q2,q3]) rfl ⟨rfl,hb⟩
theorem readInt_no (s:ByteArray) (w:World) (a:Addr) (m:Int) (hv:Env w a m) (hs:s.size≤6000) (x:Int) (hx:rv s.data.toList=x) (he:re s.data.toList=6) :
  Calls Tryz.prog 154 #[.string s] w fun e w'=>e=.returned (.tuple #[val 0 0 ⟨#[]⟩,.int .i64 7])∧Below w.heap.size w w':=by
 have R0:=hid (Row3.new w 0 0 ⟨#[]⟩)
 have B0:=hid ((Below.refl w.heap.size w).alloc (Nat.le_refl _) (.cells #[.int .i64 0,.int .i64 0,.string ⟨#[]⟩] 23))
 have E0:=hid (hv.below B0.out)
 have P:=read_any s _ hs a E0.out.cell E0.out.var
 rw [hx,he] at P
 have PP:=hid P
 clear P hv hx he
 go_enter Tryz.func154,Tryz.ntmps154
 go_wp2_with fail
 refine (PP.out).mono ?_
 rintro e w1 ⟨rfl,hb1⟩
 have R1:=hid (R0.out.below hb1 R0.out.lt)
 have B1:=hid (bstep B0.out hb1)
 clear hb1
 go_wp2_with fail
 refine (null_any _).mono ?_
 rintro e w5 ⟨rfl,hb5⟩
 have R5:=hid (R1.out.below hb5 R1.out.lt)
 have B5:=hid (bstep B1.out hb5)
 clear hb5 R0 B0 E0 PP
 obtain ⟨d1,d2,d3⟩:=R5.out.holds
 have f0:=R5.out.frozen 0
 have f1:=R5.out.frozen 1
 have f2:=R5.out.frozen 2
 go_wp2
 have hb:=(((B5.out).setCell (p:=⟨w.heap.size,0,none⟩) (Nat.le_refl _) (.int .i64 0)).setCell (p:=⟨w.heap.size,1,none⟩) (Nat.le_refl _) (.int .i64 0)).setCell (p:=⟨w.heap.size,2,none⟩) (Nat.le_refl _) (.string ⟨#[]⟩)
 have hq:=R5.out.set3 0 0 ⟨#[]⟩
 generalize ((w5.setCell ⟨w.heap.size,0,none⟩ (.int .i64 0)).setCell ⟨w.heap.size,1,none⟩ (.int .i64 0)).setCell ⟨w.heap.size,2,none⟩ (.string ⟨#[]⟩)=W at hb hq ⊢
 obtain ⟨q1,q2,q3⟩:=hq.holds
 exact bodyPost_ret (v:=.tuple #[val 0 0 ⟨#[]⟩,.int .i64 7]) (by simp [results,Tryz.results154,go_sem,q1,q2,q3]) rfl ⟨rfl,hb⟩
theorem readInt_any (s:ByteArray) (w:World) (a:Addr) (m:Int) (hv:Env w a m) (hs:s.size≤6000) :
  Calls Tryz.prog 154 #[.string s] w fun e w'=>e=.returned (out (toldInt s.data.toList))∧Below w.heap.size w w':=by
 unfold toldInt
 rcases re_cases s.data.toList with h | h | h
 ·rw [if_pos h]; exact readInt_ok s w a m hv hs _ rfl h
 ·rw [if_neg (by rw [h]; decide),if_pos h]; exact readInt_over s w a m hv hs _ rfl h
 ·rw [if_neg (by rw [h]; decide),if_neg (by rw [h]; decide)]; exact readInt_no s w a m hv hs _ rfl h
theorem readw_null (s:ByteArray) (w:World) (h1:(s.toList == [110,117,108,108])=true) :
  Calls Tryz.prog 130 #[.string s] w fun e w'=>e=.returned (.tuple #[val 0 0 ⟨#[]⟩,.int .i64 0])∧Below w.heap.size w w':=by
 have R0:=hid (Row3.new w 0 0 ⟨#[]⟩)
 have B0:=hid ((Below.refl w.heap.size w).alloc (Nat.le_refl _) (.cells #[.int .i64 0,.int .i64 0,.string ⟨#[]⟩] 23))
 go_enter Tryz.func130,Tryz.ntmps130
 go_wp2_with fail
 refine (null_any _).mono ?_
 rintro e w5 ⟨rfl,hb5⟩
 have R5:=hid (R0.out.below hb5 R0.out.lt)
 have B5:=hid (bstep B0.out hb5)
 clear hb5 R0 B0
 obtain ⟨d1,d2,d3⟩:=R5.out.holds
 have f0:=R5.out.frozen 0
 have f1:=R5.out.frozen 1
 have f2:=R5.out.frozen 2
 go_wp2
 have hb:=(((B5.out).setCell (p:=⟨w.heap.size,0,none⟩) (Nat.le_refl _) (.int .i64 0)).setCell (p:=⟨w.heap.size,1,none⟩) (Nat.le_refl _) (.int .i64 0)).setCell (p:=⟨w.heap.size,2,none⟩) (Nat.le_refl _) (.string ⟨#[]⟩)
 have hq:=R5.out.set3 0 0 ⟨#[]⟩
 generalize ((w5.setCell ⟨w.heap.size,0,none⟩ (.int .i64 0)).setCell ⟨w.heap.size,1,none⟩ (.int .i64 0)).setCell ⟨w.heap.size,2,none⟩ (.string ⟨#[]⟩)=W at hb hq ⊢
 obtain ⟨q1,q2,q3⟩:=hq.holds
 exact bodyPost_ret (v:=.tuple #[val 0 0 ⟨#[]⟩,.int .i64 0]) (by simp [results,Tryz.results130,go_sem,q1,q2,q3]) rfl ⟨rfl,hb⟩
theorem readw_true (s:ByteArray) (w:World) (h1:(s.toList == [110,117,108,108])=false) (h2:(s.toList == [116,114,117,101])=true) :
  Calls Tryz.prog 130 #[.string s] w fun e w'=>e=.returned (.tuple #[val 3 1 ⟨#[]⟩,.int .i64 0])∧Below w.heap.size w w':=by
 have R0:=hid (Row3.new w 0 0 ⟨#[]⟩)
 have B0:=hid ((Below.refl w.heap.size w).alloc (Nat.le_refl _) (.cells #[.int .i64 0,.int .i64 0,.string ⟨#[]⟩] 23))
 go_enter Tryz.func130,Tryz.ntmps130
 go_wp2_with fail
 refine (bool_true _).mono ?_
 rintro e w5 ⟨rfl,hb5⟩
 have R5:=hid (R0.out.below hb5 R0.out.lt)
 have B5:=hid (bstep B0.out hb5)
 clear hb5 R0 B0
 obtain ⟨d1,d2,d3⟩:=R5.out.holds
 have f0:=R5.out.frozen 0
 have f1:=R5.out.frozen 1
 have f2:=R5.out.frozen 2
 go_wp2
 have hb:=(((B5.out).setCell (p:=⟨w.heap.size,0,none⟩) (Nat.le_refl _) (.int .i64 3)).setCell (p:=⟨w.heap.size,1,none⟩) (Nat.le_refl _) (.int .i64 1)).setCell (p:=⟨w.heap.size,2,none⟩) (Nat.le_refl _) (.string ⟨#[]⟩)
 have hq:=R5.out.set3 3 1 ⟨#[]⟩
 generalize ((w5.setCell ⟨w.heap.size,0,none⟩ (.int .i64 3)).setCell ⟨w.heap.size,1,none⟩ (.int .i64 1)).setCell ⟨w.heap.size,2,none⟩ (.string ⟨#[]⟩)=W at hb hq ⊢
 obtain ⟨q1,q2,q3⟩:=hq.holds
 exact bodyPost_ret (v:=.tuple #[val 3 1 ⟨#[]⟩,.int .i64 0]) (by simp [results,Tryz.results130,go_sem,q1,q2,q3]) rfl ⟨rfl,hb⟩
theorem readw_false (s:ByteArray) (w:World) (h1:(s.toList == [110,117,108,108])=false) (h2:(s.toList == [116,114,117,101])=false) (h3:(s.toList == [102,97,108,115,101])=true) :
  Calls Tryz.prog 130 #[.string s] w fun e w'=>e=.returned (.tuple #[val 3 0 ⟨#[]⟩,.int .i64 0])∧Below w.heap.size w w':=by
 have R0:=hid (Row3.new w 0 0 ⟨#[]⟩)
 have B0:=hid ((Below.refl w.heap.size w).alloc (Nat.le_refl _) (.cells #[.int .i64 0,.int .i64 0,.string ⟨#[]⟩] 23))
 go_enter Tryz.func130,Tryz.ntmps130
 go_wp2_with fail
 refine (bool_false _).mono ?_
 rintro e w5 ⟨rfl,hb5⟩
 have R5:=hid (R0.out.below hb5 R0.out.lt)
 have B5:=hid (bstep B0.out hb5)
 clear hb5 R0 B0
 obtain ⟨d1,d2,d3⟩:=R5.out.holds
 have f0:=R5.out.frozen 0
 have f1:=R5.out.frozen 1
 have f2:=R5.out.frozen 2
 go_wp2
 have hb:=(((B5.out).setCell (p:=⟨w.heap.size,0,none⟩) (Nat.le_refl _) (.int .i64 3)).setCell (p:=⟨w.heap.size,1,none⟩) (Nat.le_refl _) (.int .i64 0)).setCell (p:=⟨w.heap.size,2,none⟩) (Nat.le_refl _) (.string ⟨#[]⟩)
 have hq:=R5.out.set3 3 0 ⟨#[]⟩
 generalize ((w5.setCell ⟨w.heap.size,0,none⟩ (.int .i64 3)).setCell ⟨w.heap.size,1,none⟩ (.int .i64 0)).setCell ⟨w.heap.size,2,none⟩ (.string ⟨#[]⟩)=W at hb hq ⊢
 obtain ⟨q1,q2,q3⟩:=hq.holds
 exact bodyPost_ret (v:=.tuple #[val 3 0 ⟨#[]⟩,.int .i64 0]) (by simp [results,Tryz.results130,go_sem,q1,q2,q3]) rfl ⟨rfl,hb⟩
theorem readw_text (s:ByteArray) (w:World) (h1:(s.toList == [110,117,108,108])=false) (h2:(s.toList == [116,114,117,101])=false) (h3:(s.toList == [102,97,108,115,101])=false) (hp:∀ w,Calls Tryz.prog 101 #[.string s,.string ⟨#[39]⟩] w fun e w'=>e=.returned (.bool true)∧w'=w) (k n:Int) (u:ByteArray) (x:Int) (hc:Calls Tryz.prog 153 #[.string s] (w.alloc (.cells #[.int .i64 0,.int .i64 0,.string ⟨#[]⟩] 23)) fun e w'=>e=.returned (.tuple #[val k n u,.int .i64 x])∧Below (w.alloc (.cells #[.int .i64 0,.int .i64 0,.string ⟨#[]⟩] 23)).heap.size (w.alloc (.cells #[.int .i64 0,.int .i64 0,.string ⟨#[]⟩] 23)) w') :
  Calls Tryz.prog 130 #[.string s] w fun e w'=>e=.returned (.tuple #[val k n u,.int .i64 x])∧Below w.heap.size w w':=by
 have R0:=hid (Row3.new w 0 0 ⟨#[]⟩)
 have B0:=hid ((Below.refl w.heap.size w).alloc (Nat.le_refl _) (.cells #[.int .i64 0,.int .i64 0,.string ⟨#[]⟩] 23))
 have HP:=hid hp
 have CC:=hid hc
 clear hp hc
 go_enter Tryz.func130,Tryz.ntmps130
 go_wp2_with fail
 refine (HP.out _).mono ?_
 rintro e w' ⟨rfl,rfl⟩
 go_wp2_with fail
 refine (CC.out).mono ?_
 rintro e w5 ⟨rfl,hb5⟩
 have R5:=hid (R0.out.below hb5 R0.out.lt)
 have B5:=hid (bstep B0.out hb5)
 clear hb5 R0 B0
 obtain ⟨d1,d2,d3⟩:=R5.out.holds
 have f0:=R5.out.frozen 0
 have f1:=R5.out.frozen 1
 have f2:=R5.out.frozen 2
 go_wp2
 have hb:=(((B5.out).setCell (p:=⟨w.heap.size,0,none⟩) (Nat.le_refl _) (.int .i64 k)).setCell (p:=⟨w.heap.size,1,none⟩) (Nat.le_refl _) (.int .i64 n)).setCell (p:=⟨w.heap.size,2,none⟩) (Nat.le_refl _) (.string u)
 have hq:=R5.out.set3 k n u
 generalize ((w5.setCell ⟨w.heap.size,0,none⟩ (.int .i64 k)).setCell ⟨w.heap.size,1,none⟩ (.int .i64 n)).setCell ⟨w.heap.size,2,none⟩ (.string u)=W at hb hq ⊢
 obtain ⟨q1,q2,q3⟩:=hq.holds
 exact bodyPost_ret (v:=.tuple #[val k n u,.int .i64 x]) (by simp [results,Tryz.results130,go_sem,q1,q2,q3]) rfl ⟨rfl,hb⟩
theorem readw_int (s:ByteArray) (w:World) (h1:(s.toList == [110,117,108,108])=false) (h2:(s.toList == [116,114,117,101])=false) (h3:(s.toList == [102,97,108,115,101])=false) (hp:∀ w,Calls Tryz.prog 101 #[.string s,.string ⟨#[39]⟩] w fun e w'=>e=.returned (.bool false)∧w'=w) (k n:Int) (u:ByteArray) (x:Int) (hc:Calls Tryz.prog 154 #[.string s] (w.alloc (.cells #[.int .i64 0,.int .i64 0,.string ⟨#[]⟩] 23)) fun e w'=>e=.returned (.tuple #[val k n u,.int .i64 x])∧Below (w.alloc (.cells #[.int .i64 0,.int .i64 0,.string ⟨#[]⟩] 23)).heap.size (w.alloc (.cells #[.int .i64 0,.int .i64 0,.string ⟨#[]⟩] 23)) w') :
  Calls Tryz.prog 130 #[.string s] w fun e w'=>e=.returned (.tuple #[val k n u,.int .i64 x])∧Below w.heap.size w w':=by
 have R0:=hid (Row3.new w 0 0 ⟨#[]⟩)
 have B0:=hid ((Below.refl w.heap.size w).alloc (Nat.le_refl _) (.cells #[.int .i64 0,.int .i64 0,.string ⟨#[]⟩] 23))
 have HP:=hid hp
 have CC:=hid hc
 clear hp hc
 go_enter Tryz.func130,Tryz.ntmps130
 go_wp2_with fail
 refine (HP.out _).mono ?_
 rintro e w' ⟨rfl,rfl⟩
 go_wp2_with fail
 refine (CC.out).mono ?_
 rintro e w5 ⟨rfl,hb5⟩
 have R5:=hid (R0.out.below hb5 R0.out.lt)
 have B5:=hid (bstep B0.out hb5)
 clear hb5 R0 B0
 obtain ⟨d1,d2,d3⟩:=R5.out.holds
 have f0:=R5.out.frozen 0
 have f1:=R5.out.frozen 1
 have f2:=R5.out.frozen 2
 go_wp2
 have hb:=(((B5.out).setCell (p:=⟨w.heap.size,0,none⟩) (Nat.le_refl _) (.int .i64 k)).setCell (p:=⟨w.heap.size,1,none⟩) (Nat.le_refl _) (.int .i64 n)).setCell (p:=⟨w.heap.size,2,none⟩) (Nat.le_refl _) (.string u)
 have hq:=R5.out.set3 k n u
 generalize ((w5.setCell ⟨w.heap.size,0,none⟩ (.int .i64 k)).setCell ⟨w.heap.size,1,none⟩ (.int .i64 n)).setCell ⟨w.heap.size,2,none⟩ (.string u)=W at hb hq ⊢
 obtain ⟨q1,q2,q3⟩:=hq.holds
 exact bodyPost_ret (v:=.tuple #[val k n u,.int .i64 x]) (by simp [results,Tryz.results130,go_sem,q1,q2,q3]) rfl ⟨rfl,hb⟩
theorem hasPrefix_mark (l:List UInt8):hasPrefix l [39]=(l.head? == some 39):=by
 cases l with
 | nil=>rfl
 | cons c r=>
  by_cases h:c=39
  ·subst h; simp [hasPrefix,List.isPrefixOf]
  ·have:((39:UInt8) == c)=false:=by simpa using fun e=>h e.symm
   have h2:(c == 39)=false:=by simpa using h
   simp [hasPrefix,List.isPrefixOf,this,h]
theorem vread_any (s:ByteArray) (w:World) (a:Addr) (m:Int) (hv:Env w a m) (hs:s.size≤6000) :
  Calls Tryz.prog 130 #[.string s] w fun e w'=>e=.returned (out (told s.data.toList))∧Below w.heap.size w w':=by
 have el:s.toList=s.data.toList:=ByteArray.toList_eq s
 unfold told
 by_cases h1:s.data.toList=[110,117,108,108]
 ·rw [if_pos h1]; exact readw_null s w (by rw [el,h1]; rfl)
 have b1:(s.toList == [110,117,108,108])=false:=by rw [el]; simpa using h1
 rw [if_neg h1]
 by_cases h2:s.data.toList=[116,114,117,101]
 ·rw [if_pos h2]; exact readw_true s w b1 (by rw [el,h2]; rfl)
 have b2:(s.toList == [116,114,117,101])=false:=by rw [el]; simpa using h2
 rw [if_neg h2]
 by_cases h3:s.data.toList=[102,97,108,115,101]
 ·rw [if_pos h3]; exact readw_false s w b1 b2 (by rw [el,h3]; rfl)
 have b3:(s.toList == [102,97,108,115,101])=false:=by rw [el]; simpa using h3
 rw [if_neg h3]
 have HB:=hv.below ((Below.refl w.heap.size w).alloc (Nat.le_refl _) (.cells #[.int .i64 0,.int .i64 0,.string ⟨#[]⟩] 23))
 have P:=fun w=>Tryz.strings_HasPrefix s ⟨#[39]⟩ w
 rw [show (⟨#[39]⟩:ByteArray).data.toList=[39] from rfl,hasPrefix_mark] at P
 by_cases h4:s.data.toList.head?=some 39
 ·rw [if_pos h4]
  rw [h4] at P
  exact readw_text s w b1 b2 b3 P _ _ _ _ (readText_any s _ m HB.max hs h4)
 ·rw [if_neg h4]
  have e:(s.data.toList.head? == some 39)=false:=by rw [beq_eq_false_iff_ne]; exact h4
  rw [e] at P
  exact readw_int s w b1 b2 b3 P _ _ _ _ (readInt_any s _ a m HB hs)
end Go.Proofs.YteghhmomhlnccaaGreatDoor
namespace Go.Proofs.YteghhmomhlnccaaGreatDoor
abbrev wd (k:Int) (s:ByteArray) (n:Int):Value:=.agg #[.int .i64 k,.string s,.int .i64 n]
def RowW (w:World) (g:Nat) (t:TypeId) (k:Int) (s:ByteArray) (n:Int):Prop:=w.heap[g]?=some (.cells #[.int .i64 k,.string s,.int .i64 n] t (0,0))
theorem RowW.lt {w:World} {g:Nat} {t:TypeId} {k n:Int} {s:ByteArray} (h:RowW w g t k s n):g < w.heap.size:=by
 rcases Nat.lt_or_ge g w.heap.size with hlt | hge
 ·exact hlt
 ·unfold RowW at h; rw [Array.getElem?_eq_none hge] at h; cases h
theorem RowW.new (w:World) (t:TypeId) (k n:Int) (s:ByteArray):RowW (w.alloc (.cells #[.int .i64 k,.string s,.int .i64 n] t)) w.heap.size t k s n:=heap_alloc_new w _
theorem RowW.below {w w':World} {g:Nat} {t:TypeId} {k n:Int} {s:ByteArray} {B:Nat} (h:RowW w g t k s n) (hb:Below B w w') (hg:g < B):RowW w' g t k s n:=(hb.block g hg).trans h
theorem RowW.alloc {w:World} {g:Nat} {t:TypeId} {k n:Int} {s:ByteArray} (h:RowW w g t k s n) (o:Obj):RowW (w.alloc o) g t k s n:=(Below.heap_alloc w o g h.lt).trans h
theorem RowW.cells {w:World} {g:Nat} {t:TypeId} {k n:Int} {s:ByteArray} (h:RowW w g t k s n):w.cell? ⟨g,0,none⟩=some (.int .i64 k)∧w.cell? ⟨g,1,none⟩=some (.string s)∧w.cell? ⟨g,2,none⟩=some (.int .i64 n):=
 ⟨cell_of_row w g 0 _ _ _ h,cell_of_row w g 1 _ _ _ h,cell_of_row w g 2 _ _ _ h⟩
theorem RowW.frozen {w:World} {g:Nat} {t:TypeId} {k n:Int} {s:ByteArray} (h:RowW w g t k s n) (i:Nat):w.frozen? ⟨g,i,none⟩=false:=by
 unfold RowW at h
 simp [World.frozen?,h]
theorem RowW.set3 {w:World} {g:Nat} {t:TypeId} {k n:Int} {s:ByteArray} (h:RowW w g t k s n) (k' n':Int) (s':ByteArray) :
  RowW (((w.setCell ⟨g,0,none⟩ (.int .i64 k')).setCell ⟨g,1,none⟩ (.string s')).setCell ⟨g,2,none⟩ (.int .i64 n')) g t k' s' n':=by
 have h0:=heap_setCell_same w g 0 _ _ (.int .i64 k') h
 have h1:=heap_setCell_same _ g 1 _ _ (.string s') h0
 have h2:=heap_setCell_same _ g 2 _ _ (.int .i64 n') h1
 simpa [RowW] using h2
theorem str_size (l:List UInt8):(str l).size=l.length:=List.size_toArray
theorem retI {a b:Int} (h:a=b):Ending.returned (.int .i64 a)=.returned (.int .i64 b):=by rw [h]
theorem list_size (s:ByteArray):s.data.toList.length=s.size:=by simp
theorem run_any (s cs:ByteArray) (p:UInt8→Bool) (hp:(cs.data.toList.contains ·)=p) (hc:cs.size≤1000) (ha:cs.data.toList.all (fun b=>decide (b.toNat < 128))=true) (w:World) (hs:s.size≤6000) :
  Calls Tryz.prog 103 #[.string s,.string cs] w fun e w'=>e=.returned (.int .i64 ((s.data.toList.takeWhile p).length:Nat))∧Below w.heap.size w w':=by
 have T:=Tryz.strings_TrimLeft_set s cs w (by omega) (ascii_of_all ha)
 rw [Lib.trimLeftS,hp,Lx.dw_drop] at T
 have hl:=Lx.tw_le p s.data.toList
 have hL:=list_size s
 generalize (s.data.toList.takeWhile p).length=n at *
 obtain ⟨d,hd⟩:∃ d:ByteArray,d=⟨(s.data.toList.drop n).toArray⟩:=⟨_,rfl⟩
 have hds:d.size + n=s.size:=by
  have:=str_size (s.data.toList.drop n)
  rw [List.length_drop] at this
  rw [hd]
  show (str (s.data.toList.drop n)).size + n=s.size
  omega
 rw [← hd] at T
 have TT:=hid T
 have h1:(d.size:Int)≤s.size:=by omega
 have h2:(s.size:Int)≤6000:=by omega
 have HD:=hid hds
 clear T hd hp hc ha hl hL hds hs
 go_enter Tryz.func103,Tryz.ntmps103
 go_wp2_with fail
 refine (TT.out).mono ?_
 rintro e w1 ⟨rfl,hb⟩
 have HB:=hid hb
 clear hb
 go_wp2
 go_ret
 exact ⟨retI (by have:=HD.out; omega),HB.out⟩
theorem run_small (s:ByteArray) (w:World) (hs:s.size≤6000):Calls Tryz.prog 103 #[.string s,.string ⟨#[97,98,99,100,101,102,103,104,105,106,107,108,109,110,111,112,113,114,115,116,117,118,119,120,121,122]⟩] w fun e w'=>e=.returned (.int .i64 ((s.data.toList.takeWhile Lx.low).length:Nat))∧Below w.heap.size w w':=
 run_any s _ Lx.low Lx.small_eq (by decide) (by decide) w hs
theorem run_digits (s:ByteArray) (w:World) (hs:s.size≤6000):Calls Tryz.prog 103 #[.string s,.string ⟨#[48,49,50,51,52,53,54,55,56,57]⟩] w fun e w'=>e=.returned (.int .i64 ((s.data.toList.takeWhile dig).length:Nat))∧Below w.heap.size w w':=
 run_any s _ dig Lx.digits_eq (by decide) (by decide) w hs
theorem run_inNames (s:ByteArray) (w:World) (hs:s.size≤6000):Calls Tryz.prog 103 #[.string s,.string ⟨#[97,98,99,100,101,102,103,104,105,106,107,108,109,110,111,112,113,114,115,116,117,118,119,120,121,122,48,49,50,51,52,53,54,55,56,57,95]⟩] w fun e w'=>e=.returned (.int .i64 ((s.data.toList.takeWhile Lx.nm).length:Nat))∧Below w.heap.size w w':=
 run_any s _ Lx.nm Lx.inNames_eq (by decide) (by decide) w hs
theorem trim_any (s:ByteArray) (w:World):Calls Tryz.prog 100 #[.string s,.string ⟨#[32,9,10]⟩] w fun e w'=>e=.returned (.string (str (trimLeftS s.data.toList Lx.blanksL)))∧Below w.heap.size w w':=
 Tryz.strings_TrimLeft_set s ⟨#[32,9,10]⟩ w (by decide) (ascii_of_all (by decide))
theorem trimB_le (l:List UInt8):(trimLeftS l Lx.blanksL).length≤l.length:=by
 rw [Lx.trim_blanks,List.length_drop]; omega
theorem trimB_head (l:List UInt8):∀ c,(trimLeftS l Lx.blanksL).head?=some c→¬ Lx.blank c=true:=fun c hc=>by
 rw [Lx.trim_blanks] at hc
 have:=Lx.tw_next Lx.blank l c hc
 rw [this]; decide
theorem note_any (s:ByteArray) (w:World):Calls Tryz.prog 101 #[.string s,.string ⟨#[35]⟩] w fun e w'=>e=.returned (.bool (s.data.toList.head? == some 35))∧w'=w:=by
 have h:=Tryz.strings_HasPrefix s ⟨#[35]⟩ w
 have e:Lib.hasPrefix s.data.toList (⟨#[35]⟩:ByteArray).data.toList=(s.data.toList.head? == some 35):=by
  unfold Lib.hasPrefix
  show List.isPrefixOf [35] s.data.toList=_
  cases hq:s.data.toList with
  | nil=>rfl
  | cons c r=>
   simp only [List.isPrefixOf,List.head?_cons,Bool.and_true]
   rw [Bool.eq_iff_iff]
   simp only [beq_iff_eq,Option.some.injEq]
   constructor <;> (intro h; exact h.symm)
 rwa [e] at h
theorem cutLine_any (s:ByteArray) (m:Int) (w:World) (hm:MaxAt w m) (hs:s.size≤6000):Calls Tryz.prog 102 #[.string s,.string ⟨#[10]⟩] w fun e w'=>∃ (a:ByteArray) (b:Bool),e=.returned (.tuple #[.string a,.string (str (Lib.cut s.data.toList [10]).2.1),.bool b])∧∃ n,w'=w.drewN n:=
 (Tryz.strings_Cut s ⟨#[10]⟩ m w (by omega) hm).mono fun e w' ⟨h1,h2⟩=>⟨_,_,h1,h2⟩
end Go.Proofs.YteghhmomhlnccaaGreatDoor
