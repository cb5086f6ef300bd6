import Derived.Test.YteghhmomhlnccaaGreatDoorYT24
import Derived.Test.YteghhmomhlnccaaGreatDoorYT29
import Derived.Test.YteghhmomhlnccaaGreatDoorYT18
set_option linter.unusedVariables false
set_option linter.unusedSimpArgs false
set_option maxRecDepth 100000
set_option maxHeartbeats 100000000
open Go.RowKit Go.Lib
namespace Go.Proofs.YteghhmomhlnccaaGreatDoor
attribute [local go_sem ↓] eqVal neqVal
open Ex (Tree)
open Ev (V R Pl)
theorem pl_fits {v:V} (h:Pl v):Fits v.n:=by
 rcases h with ⟨-,h,-⟩ | ⟨-,h,-⟩ | ⟨-,h,-⟩ | ⟨-,h,-⟩
 ·rw [h]; decide
 ·exact h
 ·rw [h]; decide
 ·rcases h with h | h <;> rw [h] <;> decide
theorem rtruth_any (b:Bool) (w:World):Calls Tryz.prog 38 #[.bool b] w fun e w'=>e=.returned (.agg #[.int .i64 3,.int .i64 (bit b),.string ⟨#[]⟩])∧Below w.heap.size w w':=by
 have b0:=hid ((Below.refl w.heap.size w).alloc (Nat.le_refl _) (.cells #[.int .i64 0,.int .i64 0,.string ⟨#[]⟩] 23))
 cases b
 ·go_enter Tryz.func38,Tryz.ntmps38
  go_wp2
  exact bodyPost_ret (v:=val 3 0 ⟨#[]⟩) (by simp [results,Tryz.results38,go_sem]) rfl ⟨rfl,by first | exact (Below.refl _ _).alloc (Nat.le_refl _) _ | exact ((Below.refl _ _).alloc (Nat.le_refl _) _).alloc (by simp) _ | exact b0.out⟩
 ·go_enter Tryz.func38,Tryz.ntmps38
  go_wp2
  exact bodyPost_ret (v:=val 3 1 ⟨#[]⟩) (by simp [results,Tryz.results38,go_sem]) rfl ⟨rfl,by first | exact (Below.refl _ _).alloc (Nat.le_refl _) _ | exact ((Below.refl _ _).alloc (Nat.le_refl _) _).alloc (by simp) _ | exact b0.out⟩
theorem rnum_any (u:Value) (n:Int) (w:World) (h:Says u n):Calls Tryz.prog 40 #[u] w fun e w'=>e=.returned (outR (Ev.num n))∧Below w.heap.size w w':=by
 obtain ⟨s,q0,q1,q2,q3,rfl,h0,h1,h2,h3,hn⟩:=h
 have SM:Hid (∀ U,Calls Tryz.prog 73 #[wide s q0 q1 q2 q3 0] U fun e w'=>e=.returned (.tuple #[.int .i64 (sv n),.int .i64 (se n)])∧Below U.heap.size U w'):=hid (fun U=>by rw [hn]; exact small_any s q0 q1 q2 q3 0 U h0 h1 h2 h3 part0)
 have HW:=hid (Ev.whole_num n)
 generalize Ev.num n=RES at *
 obtain ⟨vn,hvn⟩:∃ x,sv n=x:=⟨_,rfl⟩
 obtain ⟨c,hc⟩:∃ x,se n=x:=⟨_,rfl⟩
 rw [hvn,hc] at SM HW
 clear hvn hc h0 h1 h2 h3 hn
 have b0:=(Below.refl w.heap.size w).alloc (Nat.le_refl _) (.cells #[.bool s,.int .u64 q0,.int .u64 q1,.int .u64 q2,.int .u64 q3,.int .u64 0] 73)
 have B0:=hid (b0.alloc (by simp) (.cells #[.int .i64 0,.int .i64 0,.string ⟨#[]⟩] 23))
 have r0:=Row3.new (w.alloc (.cells #[.bool s,.int .u64 q0,.int .u64 q1,.int .u64 q2,.int .u64 q3,.int .u64 0] 73)) 0 0 ⟨#[]⟩
 rw [World.size_alloc] at r0
 have R0:=hid r0
 clear r0 b0
 by_cases h:c=0
 ·have h':(c != 0)=false:=by simpa using h
  have HR:Hid (RES=Ev.ok ⟨1,vn,[]⟩):=hid (by rw [← HW.out,Ev.wholeR,if_pos h])
  clear h HW
  go_enter Tryz.func40,Tryz.ntmps40
  go_wp2_with fail
  refine (SM.out _).mono ?_
  rintro e w1 ⟨rfl,hb1⟩
  have R1:=hid (R0.out.below hb1 R0.out.lt)
  have B1:=hid (bstep B0.out hb1)
  clear hb1 R0 B0 SM
  obtain ⟨d1,d2,d3⟩:=R1.out.holds
  have f0:=R1.out.frozen 0
  have f1:=R1.out.frozen 1
  have f2:=R1.out.frozen 2
  go_wp2_with fail
  exact fin_R Tryz.results40 rfl rfl rfl R1.out B1.out (by omega) (by rw [HR.out]; rfl)
 ·have h':(c != 0)=true:=by simpa using h
  have HR:Hid (RES=Ev.err c):=hid (by rw [← HW.out,Ev.wholeR,if_neg h])
  clear h HW
  go_enter Tryz.func40,Tryz.ntmps40
  go_wp2_with fail
  refine (SM.out _).mono ?_
  rintro e w1 ⟨rfl,hb1⟩
  have R1:=hid (R0.out.below hb1 R0.out.lt)
  have B1:=hid (bstep B0.out hb1)
  clear hb1 R0 B0 SM
  obtain ⟨d1,d2,d3⟩:=R1.out.holds
  have f0:=R1.out.frozen 0
  have f1:=R1.out.frozen 1
  have f2:=R1.out.frozen 2
  go_wp2_with fail
  exact fin_R Tryz.results40 rfl rfl rfl R1.out B1.out (by omega) (by rw [HR.out]; rfl)
end Go.Proofs.YteghhmomhlnccaaGreatDoor
