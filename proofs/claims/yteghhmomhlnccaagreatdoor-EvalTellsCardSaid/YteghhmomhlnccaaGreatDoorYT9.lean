import Derived.Test.YteghhmomhlnccaaGreatDoorYT7
import Derived.Test.YteghhmomhlnccaaGreatDoorYT4
set_option linter.unusedVariables false
set_option linter.unusedSimpArgs false
set_option maxRecDepth 100000
set_option maxHeartbeats 100000000
open Go.RowKit Go.Lib
namespace Go.Proofs.YteghhmomhlnccaaGreatDoor
theorem between_any (s:ByteArray) (m:Int) (w:World) (hm:MaxAt w m) (hs:s.size≤6000) :
  Calls Tryz.prog 78 #[.string s] w fun e w'=>e=.returned (.int .i64 (Lx.btw s.data.toList:Nat))∧Below w.heap.size w w':=by
 have HM:=hid hm
 have hs2:(s.size:Int)≤6000:=by omega
 clear hm
 have TT:=hid (fun (s:ByteArray) (w:World)=>trim_any s w)
 have NN:=hid (fun (s:ByteArray) (w:World)=>note_any s w)
 go_enter Tryz.func78,Tryz.ntmps78
 go_wp2_with fail
 refine (TT.out _ _).mono ?_
 rintro e w1 ⟨rfl,hb⟩
 have HB:=hid hb
 have hz:(str (trimLeftS s.data.toList Lx.blanksL)).size≤s.size:=by rw [str_size]; have:=trimB_le s.data.toList; have:=list_size s; omega
 have HK:Hid (Lx.sk false (str (trimLeftS s.data.toList Lx.blanksL)).data.toList=Lx.sk false s.data.toList):=hid (by
  show Lx.sk false (trimLeftS s.data.toList Lx.blanksL)=_
  rw [Lx.trim_blanks,Lx.sk_blank])
 have HH:Hid (∀ c,(str (trimLeftS s.data.toList Lx.blanksL)).data.toList.head?=some c→¬ Lx.blank c=true):=hid (trimB_head s.data.toList)
 clear hb
 generalize str (trimLeftS s.data.toList Lx.blanksL)=r at *
 go_wp2_with fail
 go_loopg [3] (s.size + 1) (fun j s3 wr=>∃ r:ByteArray,r.size≤s.size∧r.size < j∧s3=.string r∧Hid (Lx.sk false r.data.toList=Lx.sk false s.data.toList)∧Hid (∀ c,r.data.toList.head?=some c→¬ Lx.blank c=true)∧Hid (Below w.heap.size w wr))
 case atStart=>exact ⟨r,hz,by omega,rfl,HK,HH,HB⟩
 case round=>
  clear HK HH HB hz
  obtain ⟨r,hz,hj,rfl,HK,HH,HB⟩:=hrel
  by_cases h35:r.data.toList.head?=some 35
  ·have hne:r.data.toList ≠ []:=by intro e; rw [e] at h35; cases h35
   obtain ⟨q,hq⟩:∃ q,r.data.toList=35 :: q:=by
    cases hr:r.data.toList with
    | nil=>exact absurd hr hne
    | cons c q=>rw [hr] at h35; cases h35; exact ⟨q,rfl⟩
   have hless:=Lx.note_less r.data.toList hne
   have hc2:(str (Lib.cut r.data.toList [10]).2.1).size≤6000:=by
    rw [str_size,Lx.cut_line,List.length_drop]; have:=list_size r; omega
   have N1:Hid (∀ w,Calls Tryz.prog 101 #[.string r,.string ⟨#[35]⟩] w fun e w'=>e=.returned (.bool true)∧w'=w):=hid (fun w=>by
    have:=NN.out r w; rw [h35] at this; exact this)
   have K1:Hid (Lx.sk false (trimLeftS (Lib.cut r.data.toList [10]).2.1 Lx.blanksL)=Lx.sk false s.data.toList):=hid (by
    rw [← HK.out,hq]; exact (Lx.round_note q).symm)
   have C1:=hid (fun w (hm:MaxAt w m)=>cutLine_any r m w hm (by omega))
   have L1:Hid ((trimLeftS (Lib.cut r.data.toList [10]).2.1 Lx.blanksL).length < r.size):=hid (by rw [list_size] at hless; exact hless)
   clear hless h35 hne hq HK HH
   generalize (Lib.cut r.data.toList [10]).2.1=x at *
   have T1:=hid (fun w=>TT.out (str x) w)
   have HH2:Hid (∀ c,(str (trimLeftS x Lx.blanksL)).data.toList.head?=some c→¬ Lx.blank c=true):=hid (trimB_head x)
   have L2:(str (trimLeftS x Lx.blanksL)).size < r.size:=by rw [str_size]; exact L1.out
   have K2:Hid (Lx.sk false (str (trimLeftS x Lx.blanksL)).data.toList=Lx.sk false s.data.toList):=K1
   have T2:Hid (∀ w,Calls Tryz.prog 100 #[.string (str x),.string ⟨#[32,9,10]⟩] w fun e w'=>e=.returned (.string (str (trimLeftS x Lx.blanksL)))∧Below w.heap.size w w'):=T1
   clear T1 K1 L1
   generalize str (trimLeftS x Lx.blanksL)=y at *
   generalize str x=x at *
   go_wp2_with fail
   refine (N1.out _).mono ?_
   rintro e w2 ⟨rfl,rfl⟩
   go_wp2_with fail
   refine (C1.out _ (HM.out.below HB.out)).mono ?_
   rintro e w3 ⟨a,b,rfl,n,rfl⟩
   go_wp2_with fail
   refine (T2.out _).mono ?_
   rintro e w4 ⟨rfl,hb4⟩
   have HB4:=hid (bstep (below_drewN HB.out n) hb4)
   clear hb4 HB N1 C1 T2
   go_wp2_with fail
   go_roundg (y.size + 1)
   case measure=>omega
   case rel=>exact ⟨y,by omega,by omega,rfl,K2,HH2,HB4⟩
  ·have N1:Hid (∀ w,Calls Tryz.prog 101 #[.string r,.string ⟨#[35]⟩] w fun e w'=>e=.returned (.bool false)∧w'=w):=hid (fun w=>by
    have:=NN.out r w; rw [show (r.data.toList.head? == some 35)=false by rw [beq_eq_false_iff_ne]; exact h35] at this; exact this)
   have E1:Hid ((s.size:Int) - (r.size:Int)=(Lx.btw s.data.toList:Nat)):=hid (by
    have e:Lx.sk false r.data.toList=r.data.toList:=Lx.sk_of_head fun c hc=>⟨HH.out c hc,fun e=>h35 (by rw [hc,e])⟩
    unfold Lx.btw
    rw [← HK.out,e,list_size,list_size]; omega)
   have hz2:(r.size:Int)≤s.size:=by omega
   clear h35 HK HH
   go_wp2_with fail
   refine (N1.out _).mono ?_
   rintro e w2 ⟨rfl,rfl⟩
   go_wp2
   go_ret
   exact ⟨retI E1.out,HB.out⟩
end Go.Proofs.YteghhmomhlnccaaGreatDoor
namespace Go.Proofs.YteghhmomhlnccaaGreatDoor
theorem retB2 {a b:Bool} (h:a=b):Ending.returned (.bool a)=.returned (.bool b):=by rw [h]
theorem reserved_eq:Lx.reserved=[[97,100,100],[100,114,111,112],[114,101,110,97,109,101],[115,112,108,105,116],[109,101,114,103,101],[114,101,116,121,112,101],[105,110,116,111],[116,111],[98,97,99,107],[97,110,100],[111,114],[110,111,116],[116,114,117,101],[102,97,108,115,101],[110,117,108,108],[105,110,116],[116,101,120,116],[98,111,111,108],[115,101,108,101,99,116],[119,104,101,114,101],[102,114,111,109],[108,105,109,105,116]]:=by decide +kernel
theorem res_no (l:List UInt8):Lx.res l=false ↔ ((l == [97,100,100])=false∧(l == [100,114,111,112])=false∧(l == [114,101,110,97,109,101])=false∧(l == [115,112,108,105,116])=false∧(l == [109,101,114,103,101])=false∧(l == [114,101,116,121,112,101])=false∧(l == [105,110,116,111])=false∧(l == [116,111])=false∧(l == [98,97,99,107])=false∧(l == [97,110,100])=false∧(l == [111,114])=false∧(l == [110,111,116])=false∧(l == [116,114,117,101])=false∧(l == [102,97,108,115,101])=false∧(l == [110,117,108,108])=false∧(l == [105,110,116])=false∧(l == [116,101,120,116])=false∧(l == [98,111,111,108])=false∧(l == [115,101,108,101,99,116])=false∧(l == [119,104,101,114,101])=false∧(l == [102,114,111,109])=false∧(l == [108,105,109,105,116])=false):=by
 rw [Lx.res,reserved_eq]
 simp only [List.contains_cons,List.contains_nil,Bool.or_eq_false_iff,and_true,beq_eq_false_iff_ne]
theorem reserved_0 (s:ByteArray) (w:World)  (h0:(s.toList == [97,100,100])=true) :
  Calls Tryz.prog 129 #[.string s] w fun e w'=>e=.returned (.bool true)∧w'=w:=by
 go_enter Tryz.func129,Tryz.ntmps129
 go_wp2
 go_ret
 exact ⟨rfl,rfl⟩
theorem reserved_1 (s:ByteArray) (w:World) (h0:(s.toList == [97,100,100])=false) (h1:(s.toList == [100,114,111,112])=true) :
  Calls Tryz.prog 129 #[.string s] w fun e w'=>e=.returned (.bool true)∧w'=w:=by
 go_enter Tryz.func129,Tryz.ntmps129
 go_wp2
 go_ret
 exact ⟨rfl,rfl⟩
theorem reserved_2 (s:ByteArray) (w:World) (h0:(s.toList == [97,100,100])=false) (h1:(s.toList == [100,114,111,112])=false) (h2:(s.toList == [114,101,110,97,109,101])=true) :
  Calls Tryz.prog 129 #[.string s] w fun e w'=>e=.returned (.bool true)∧w'=w:=by
 go_enter Tryz.func129,Tryz.ntmps129
 go_wp2
 go_ret
 exact ⟨rfl,rfl⟩
theorem reserved_3 (s:ByteArray) (w:World) (h0:(s.toList == [97,100,100])=false) (h1:(s.toList == [100,114,111,112])=false) (h2:(s.toList == [114,101,110,97,109,101])=false) (h3:(s.toList == [115,112,108,105,116])=true) :
  Calls Tryz.prog 129 #[.string s] w fun e w'=>e=.returned (.bool true)∧w'=w:=by
 go_enter Tryz.func129,Tryz.ntmps129
 go_wp2
 go_ret
 exact ⟨rfl,rfl⟩
theorem reserved_4 (s:ByteArray) (w:World) (h0:(s.toList == [97,100,100])=false) (h1:(s.toList == [100,114,111,112])=false) (h2:(s.toList == [114,101,110,97,109,101])=false) (h3:(s.toList == [115,112,108,105,116])=false) (h4:(s.toList == [109,101,114,103,101])=true) :
  Calls Tryz.prog 129 #[.string s] w fun e w'=>e=.returned (.bool true)∧w'=w:=by
 go_enter Tryz.func129,Tryz.ntmps129
 go_wp2
 go_ret
 exact ⟨rfl,rfl⟩
theorem reserved_5 (s:ByteArray) (w:World) (h0:(s.toList == [97,100,100])=false) (h1:(s.toList == [100,114,111,112])=false) (h2:(s.toList == [114,101,110,97,109,101])=false) (h3:(s.toList == [115,112,108,105,116])=false) (h4:(s.toList == [109,101,114,103,101])=false) (h5:(s.toList == [114,101,116,121,112,101])=true) :
  Calls Tryz.prog 129 #[.string s] w fun e w'=>e=.returned (.bool true)∧w'=w:=by
 go_enter Tryz.func129,Tryz.ntmps129
 go_wp2
 go_ret
 exact ⟨rfl,rfl⟩
theorem reserved_6 (s:ByteArray) (w:World) (h0:(s.toList == [97,100,100])=false) (h1:(s.toList == [100,114,111,112])=false) (h2:(s.toList == [114,101,110,97,109,101])=false) (h3:(s.toList == [115,112,108,105,116])=false) (h4:(s.toList == [109,101,114,103,101])=false) (h5:(s.toList == [114,101,116,121,112,101])=false) (h6:(s.toList == [105,110,116,111])=true) :
  Calls Tryz.prog 129 #[.string s] w fun e w'=>e=.returned (.bool true)∧w'=w:=by
 go_enter Tryz.func129,Tryz.ntmps129
 go_wp2
 go_ret
 exact ⟨rfl,rfl⟩
theorem reserved_7 (s:ByteArray) (w:World) (h0:(s.toList == [97,100,100])=false) (h1:(s.toList == [100,114,111,112])=false) (h2:(s.toList == [114,101,110,97,109,101])=false) (h3:(s.toList == [115,112,108,105,116])=false) (h4:(s.toList == [109,101,114,103,101])=false) (h5:(s.toList == [114,101,116,121,112,101])=false) (h6:(s.toList == [105,110,116,111])=false) (h7:(s.toList == [116,111])=true) :
  Calls Tryz.prog 129 #[.string s] w fun e w'=>e=.returned (.bool true)∧w'=w:=by
 go_enter Tryz.func129,Tryz.ntmps129
 go_wp2
 go_ret
 exact ⟨rfl,rfl⟩
theorem reserved_8 (s:ByteArray) (w:World) (h0:(s.toList == [97,100,100])=false) (h1:(s.toList == [100,114,111,112])=false) (h2:(s.toList == [114,101,110,97,109,101])=false) (h3:(s.toList == [115,112,108,105,116])=false) (h4:(s.toList == [109,101,114,103,101])=false) (h5:(s.toList == [114,101,116,121,112,101])=false) (h6:(s.toList == [105,110,116,111])=false) (h7:(s.toList == [116,111])=false) (h8:(s.toList == [98,97,99,107])=true) :
  Calls Tryz.prog 129 #[.string s] w fun e w'=>e=.returned (.bool true)∧w'=w:=by
 go_enter Tryz.func129,Tryz.ntmps129
 go_wp2
 go_ret
 exact ⟨rfl,rfl⟩
theorem reserved_9 (s:ByteArray) (w:World) (h0:(s.toList == [97,100,100])=false) (h1:(s.toList == [100,114,111,112])=false) (h2:(s.toList == [114,101,110,97,109,101])=false) (h3:(s.toList == [115,112,108,105,116])=false) (h4:(s.toList == [109,101,114,103,101])=false) (h5:(s.toList == [114,101,116,121,112,101])=false) (h6:(s.toList == [105,110,116,111])=false) (h7:(s.toList == [116,111])=false) (h8:(s.toList == [98,97,99,107])=false) (h9:(s.toList == [97,110,100])=true) :
  Calls Tryz.prog 129 #[.string s] w fun e w'=>e=.returned (.bool true)∧w'=w:=by
 go_enter Tryz.func129,Tryz.ntmps129
 go_wp2
 go_ret
 exact ⟨rfl,rfl⟩
theorem reserved_10 (s:ByteArray) (w:World) (h0:(s.toList == [97,100,100])=false) (h1:(s.toList == [100,114,111,112])=false) (h2:(s.toList == [114,101,110,97,109,101])=false) (h3:(s.toList == [115,112,108,105,116])=false) (h4:(s.toList == [109,101,114,103,101])=false) (h5:(s.toList == [114,101,116,121,112,101])=false) (h6:(s.toList == [105,110,116,111])=false) (h7:(s.toList == [116,111])=false) (h8:(s.toList == [98,97,99,107])=false) (h9:(s.toList == [97,110,100])=false) (h10:(s.toList == [111,114])=true) :
  Calls Tryz.prog 129 #[.string s] w fun e w'=>e=.returned (.bool true)∧w'=w:=by
 go_enter Tryz.func129,Tryz.ntmps129
 go_wp2
 go_ret
 exact ⟨rfl,rfl⟩
theorem reserved_11 (s:ByteArray) (w:World) (h0:(s.toList == [97,100,100])=false) (h1:(s.toList == [100,114,111,112])=false) (h2:(s.toList == [114,101,110,97,109,101])=false) (h3:(s.toList == [115,112,108,105,116])=false) (h4:(s.toList == [109,101,114,103,101])=false) (h5:(s.toList == [114,101,116,121,112,101])=false) (h6:(s.toList == [105,110,116,111])=false) (h7:(s.toList == [116,111])=false) (h8:(s.toList == [98,97,99,107])=false) (h9:(s.toList == [97,110,100])=false) (h10:(s.toList == [111,114])=false) (h11:(s.toList == [110,111,116])=true) :
  Calls Tryz.prog 129 #[.string s] w fun e w'=>e=.returned (.bool true)∧w'=w:=by
 go_enter Tryz.func129,Tryz.ntmps129
 go_wp2
 go_ret
 exact ⟨rfl,rfl⟩
theorem reserved_12 (s:ByteArray) (w:World) (h0:(s.toList == [97,100,100])=false) (h1:(s.toList == [100,114,111,112])=false) (h2:(s.toList == [114,101,110,97,109,101])=false) (h3:(s.toList == [115,112,108,105,116])=false) (h4:(s.toList == [109,101,114,103,101])=false) (h5:(s.toList == [114,101,116,121,112,101])=false) (h6:(s.toList == [105,110,116,111])=false) (h7:(s.toList == [116,111])=false) (h8:(s.toList == [98,97,99,107])=false) (h9:(s.toList == [97,110,100])=false) (h10:(s.toList == [111,114])=false) (h11:(s.toList == [110,111,116])=false) (h12:(s.toList == [116,114,117,101])=true) :
  Calls Tryz.prog 129 #[.string s] w fun e w'=>e=.returned (.bool true)∧w'=w:=by
 go_enter Tryz.func129,Tryz.ntmps129
 go_wp2
 go_ret
 exact ⟨rfl,rfl⟩
theorem reserved_13 (s:ByteArray) (w:World) (h0:(s.toList == [97,100,100])=false) (h1:(s.toList == [100,114,111,112])=false) (h2:(s.toList == [114,101,110,97,109,101])=false) (h3:(s.toList == [115,112,108,105,116])=false) (h4:(s.toList == [109,101,114,103,101])=false) (h5:(s.toList == [114,101,116,121,112,101])=false) (h6:(s.toList == [105,110,116,111])=false) (h7:(s.toList == [116,111])=false) (h8:(s.toList == [98,97,99,107])=false) (h9:(s.toList == [97,110,100])=false) (h10:(s.toList == [111,114])=false) (h11:(s.toList == [110,111,116])=false) (h12:(s.toList == [116,114,117,101])=false) (h13:(s.toList == [102,97,108,115,101])=true) :
  Calls Tryz.prog 129 #[.string s] w fun e w'=>e=.returned (.bool true)∧w'=w:=by
 go_enter Tryz.func129,Tryz.ntmps129
 go_wp2
 go_ret
 exact ⟨rfl,rfl⟩
theorem reserved_14 (s:ByteArray) (w:World) (h0:(s.toList == [97,100,100])=false) (h1:(s.toList == [100,114,111,112])=false) (h2:(s.toList == [114,101,110,97,109,101])=false) (h3:(s.toList == [115,112,108,105,116])=false) (h4:(s.toList == [109,101,114,103,101])=false) (h5:(s.toList == [114,101,116,121,112,101])=false) (h6:(s.toList == [105,110,116,111])=false) (h7:(s.toList == [116,111])=false) (h8:(s.toList == [98,97,99,107])=false) (h9:(s.toList == [97,110,100])=false) (h10:(s.toList == [111,114])=false) (h11:(s.toList == [110,111,116])=false) (h12:(s.toList == [116,114,117,101])=false) (h13:(s.toList == [102,97,108,115,101])=false) (h14:(s.toList == [110,117,108,108])=true) :
  Calls Tryz.prog 129 #[.string s] w fun e w'=>e=.returned (.bool true)∧w'=w:=by
 go_enter Tryz.func129,Tryz.ntmps129
 go_wp2
 go_ret
 exact ⟨rfl,rfl⟩
theorem reserved_15 (s:ByteArray) (w:World) (h0:(s.toList == [97,100,100])=false) (h1:(s.toList == [100,114,111,112])=false) (h2:(s.toList == [114,101,110,97,109,101])=false) (h3:(s.toList == [115,112,108,105,116])=false) (h4:(s.toList == [109,101,114,103,101])=false) (h5:(s.toList == [114,101,116,121,112,101])=false) (h6:(s.toList == [105,110,116,111])=false) (h7:(s.toList == [116,111])=false) (h8:(s.toList == [98,97,99,107])=false) (h9:(s.toList == [97,110,100])=false) (h10:(s.toList == [111,114])=false) (h11:(s.toList == [110,111,116])=false) (h12:(s.toList == [116,114,117,101])=false) (h13:(s.toList == [102,97,108,115,101])=false) (h14:(s.toList == [110,117,108,108])=false) (h15:(s.toList == [105,110,116])=true) :
  Calls Tryz.prog 129 #[.string s] w fun e w'=>e=.returned (.bool true)∧w'=w:=by
 go_enter Tryz.func129,Tryz.ntmps129
 go_wp2
 go_ret
 exact ⟨rfl,rfl⟩
theorem reserved_16 (s:ByteArray) (w:World) (h0:(s.toList == [97,100,100])=false) (h1:(s.toList == [100,114,111,112])=false) (h2:(s.toList == [114,101,110,97,109,101])=false) (h3:(s.toList == [115,112,108,105,116])=false) (h4:(s.toList == [109,101,114,103,101])=false) (h5:(s.toList == [114,101,116,121,112,101])=false) (h6:(s.toList == [105,110,116,111])=false) (h7:(s.toList == [116,111])=false) (h8:(s.toList == [98,97,99,107])=false) (h9:(s.toList == [97,110,100])=false) (h10:(s.toList == [111,114])=false) (h11:(s.toList == [110,111,116])=false) (h12:(s.toList == [116,114,117,101])=false) (h13:(s.toList == [102,97,108,115,101])=false) (h14:(s.toList == [110,117,108,108])=false) (h15:(s.toList == [105,110,116])=false) (h16:(s.toList == [116,101,120,116])=true) :
  Calls Tryz.prog 129 #[.string s] w fun e w'=>e=.returned (.bool true)∧w'=w:=by
 go_enter Tryz.func129,Tryz.ntmps129
 go_wp2
 go_ret
 exact ⟨rfl,rfl⟩
theorem reserved_17 (s:ByteArray) (w:World) (h0:(s.toList == [97,100,100])=false) (h1:(s.toList == [100,114,111,112])=false) (h2:(s.toList == [114,101,110,97,109,101])=false) (h3:(s.toList == [115,112,108,105,116])=false) (h4:(s.toList == [109,101,114,103,101])=false) (h5:(s.toList == [114,101,116,121,112,101])=false) (h6:(s.toList == [105,110,116,111])=false) (h7:(s.toList == [116,111])=false) (h8:(s.toList == [98,97,99,107])=false) (h9:(s.toList == [97,110,100])=false) (h10:(s.toList == [111,114])=false) (h11:(s.toList == [110,111,116])=false) (h12:(s.toList == [116,114,117,101])=false) (h13:(s.toList == [102,97,108,115,101])=false) (h14:(s.toList == [110,117,108,108])=false) (h15:(s.toList == [105,110,116])=false) (h16:(s.toList == [116,101,120,116])=false) (h17:(s.toList == [98,111,111,108])=true) :
  Calls Tryz.prog 129 #[.string s] w fun e w'=>e=.returned (.bool true)∧w'=w:=by
 go_enter Tryz.func129,Tryz.ntmps129
 go_wp2
 go_ret
 exact ⟨rfl,rfl⟩
theorem reserved_18 (s:ByteArray) (w:World) (h0:(s.toList == [97,100,100])=false) (h1:(s.toList == [100,114,111,112])=false) (h2:(s.toList == [114,101,110,97,109,101])=false) (h3:(s.toList == [115,112,108,105,116])=false) (h4:(s.toList == [109,101,114,103,101])=false) (h5:(s.toList == [114,101,116,121,112,101])=false) (h6:(s.toList == [105,110,116,111])=false) (h7:(s.toList == [116,111])=false) (h8:(s.toList == [98,97,99,107])=false) (h9:(s.toList == [97,110,100])=false) (h10:(s.toList == [111,114])=false) (h11:(s.toList == [110,111,116])=false) (h12:(s.toList == [116,114,117,101])=false) (h13:(s.toList == [102,97,108,115,101])=false) (h14:(s.toList == [110,117,108,108])=false) (h15:(s.toList == [105,110,116])=false) (h16:(s.toList == [116,101,120,116])=false) (h17:(s.toList == [98,111,111,108])=false) (h18:(s.toList == [115,101,108,101,99,116])=true) :
  Calls Tryz.prog 129 #[.string s] w fun e w'=>e=.returned (.bool true)∧w'=w:=by
 go_enter Tryz.func129,Tryz.ntmps129
 go_wp2
 go_ret
 exact ⟨rfl,rfl⟩
theorem reserved_19 (s:ByteArray) (w:World) (h0:(s.toList == [97,100,100])=false) (h1:(s.toList == [100,114,111,112])=false) (h2:(s.toList == [114,101,110,97,109,101])=false) (h3:(s.toList == [115,112,108,105,116])=false) (h4:(s.toList == [109,101,114,103,101])=false) (h5:(s.toList == [114,101,116,121,112,101])=false) (h6:(s.toList == [105,110,116,111])=false) (h7:(s.toList == [116,111])=false) (h8:(s.toList == [98,97,99,107])=false) (h9:(s.toList == [97,110,100])=false) (h10:(s.toList == [111,114])=false) (h11:(s.toList == [110,111,116])=false) (h12:(s.toList == [116,114,117,101])=false) (h13:(s.toList == [102,97,108,115,101])=false) (h14:(s.toList == [110,117,108,108])=false) (h15:(s.toList == [105,110,116])=false) (h16:(s.toList == [116,101,120,116])=false) (h17:(s.toList == [98,111,111,108])=false) (h18:(s.toList == [115,101,108,101,99,116])=false) (h19:(s.toList == [119,104,101,114,101])=true) :
  Calls Tryz.prog 129 #[.string s] w fun e w'=>e=.returned (.bool true)∧w'=w:=by
 go_enter Tryz.func129,Tryz.ntmps129
 go_wp2
 go_ret
 exact ⟨rfl,rfl⟩
theorem reserved_20 (s:ByteArray) (w:World) (h0:(s.toList == [97,100,100])=false) (h1:(s.toList == [100,114,111,112])=false) (h2:(s.toList == [114,101,110,97,109,101])=false) (h3:(s.toList == [115,112,108,105,116])=false) (h4:(s.toList == [109,101,114,103,101])=false) (h5:(s.toList == [114,101,116,121,112,101])=false) (h6:(s.toList == [105,110,116,111])=false) (h7:(s.toList == [116,111])=false) (h8:(s.toList == [98,97,99,107])=false) (h9:(s.toList == [97,110,100])=false) (h10:(s.toList == [111,114])=false) (h11:(s.toList == [110,111,116])=false) (h12:(s.toList == [116,114,117,101])=false) (h13:(s.toList == [102,97,108,115,101])=false) (h14:(s.toList == [110,117,108,108])=false) (h15:(s.toList == [105,110,116])=false) (h16:(s.toList == [116,101,120,116])=false) (h17:(s.toList == [98,111,111,108])=false) (h18:(s.toList == [115,101,108,101,99,116])=false) (h19:(s.toList == [119,104,101,114,101])=false) (h20:(s.toList == [102,114,111,109])=true) :
  Calls Tryz.prog 129 #[.string s] w fun e w'=>e=.returned (.bool true)∧w'=w:=by
 go_enter Tryz.func129,Tryz.ntmps129
 go_wp2
 go_ret
 exact ⟨rfl,rfl⟩
theorem reserved_21 (s:ByteArray) (w:World) (h0:(s.toList == [97,100,100])=false) (h1:(s.toList == [100,114,111,112])=false) (h2:(s.toList == [114,101,110,97,109,101])=false) (h3:(s.toList == [115,112,108,105,116])=false) (h4:(s.toList == [109,101,114,103,101])=false) (h5:(s.toList == [114,101,116,121,112,101])=false) (h6:(s.toList == [105,110,116,111])=false) (h7:(s.toList == [116,111])=false) (h8:(s.toList == [98,97,99,107])=false) (h9:(s.toList == [97,110,100])=false) (h10:(s.toList == [111,114])=false) (h11:(s.toList == [110,111,116])=false) (h12:(s.toList == [116,114,117,101])=false) (h13:(s.toList == [102,97,108,115,101])=false) (h14:(s.toList == [110,117,108,108])=false) (h15:(s.toList == [105,110,116])=false) (h16:(s.toList == [116,101,120,116])=false) (h17:(s.toList == [98,111,111,108])=false) (h18:(s.toList == [115,101,108,101,99,116])=false) (h19:(s.toList == [119,104,101,114,101])=false) (h20:(s.toList == [102,114,111,109])=false) (h21:(s.toList == [108,105,109,105,116])=true) :
  Calls Tryz.prog 129 #[.string s] w fun e w'=>e=.returned (.bool true)∧w'=w:=by
 go_enter Tryz.func129,Tryz.ntmps129
 go_wp2
 go_ret
 exact ⟨rfl,rfl⟩
theorem reserved_none (s:ByteArray) (w:World) (h0:(s.toList == [97,100,100])=false) (h1:(s.toList == [100,114,111,112])=false) (h2:(s.toList == [114,101,110,97,109,101])=false) (h3:(s.toList == [115,112,108,105,116])=false) (h4:(s.toList == [109,101,114,103,101])=false) (h5:(s.toList == [114,101,116,121,112,101])=false) (h6:(s.toList == [105,110,116,111])=false) (h7:(s.toList == [116,111])=false) (h8:(s.toList == [98,97,99,107])=false) (h9:(s.toList == [97,110,100])=false) (h10:(s.toList == [111,114])=false) (h11:(s.toList == [110,111,116])=false) (h12:(s.toList == [116,114,117,101])=false) (h13:(s.toList == [102,97,108,115,101])=false) (h14:(s.toList == [110,117,108,108])=false) (h15:(s.toList == [105,110,116])=false) (h16:(s.toList == [116,101,120,116])=false) (h17:(s.toList == [98,111,111,108])=false) (h18:(s.toList == [115,101,108,101,99,116])=false) (h19:(s.toList == [119,104,101,114,101])=false) (h20:(s.toList == [102,114,111,109])=false) (h21:(s.toList == [108,105,109,105,116])=false) :
  Calls Tryz.prog 129 #[.string s] w fun e w'=>e=.returned (.bool false)∧w'=w:=by
 go_enter Tryz.func129,Tryz.ntmps129
 go_wp2
 go_ret
 exact ⟨rfl,rfl⟩
theorem reserved_any (s:ByteArray) (w:World) :
  Calls Tryz.prog 129 #[.string s] w fun e w'=>e=.returned (.bool (Lx.res s.data.toList))∧w'=w:=by
 have hl:s.toList=s.data.toList:=ByteArray.toList_eq s
 cases hr:Lx.res s.data.toList
 ·rw [← hl] at hr
  obtain ⟨h0,h1,h2,h3,h4,h5,h6,h7,h8,h9,h10,h11,h12,h13,h14,h15,h16,h17,h18,h19,h20,h21⟩:=(res_no _).1 hr
  exact reserved_none s w h0 h1 h2 h3 h4 h5 h6 h7 h8 h9 h10 h11 h12 h13 h14 h15 h16 h17 h18 h19 h20 h21
 ·rw [← hl] at hr
  cases h0:s.toList == [97,100,100]
  case true=>exact reserved_0 s w h0
  cases h1:s.toList == [100,114,111,112]
  case true=>exact reserved_1 s w h0 h1
  cases h2:s.toList == [114,101,110,97,109,101]
  case true=>exact reserved_2 s w h0 h1 h2
  cases h3:s.toList == [115,112,108,105,116]
  case true=>exact reserved_3 s w h0 h1 h2 h3
  cases h4:s.toList == [109,101,114,103,101]
  case true=>exact reserved_4 s w h0 h1 h2 h3 h4
  cases h5:s.toList == [114,101,116,121,112,101]
  case true=>exact reserved_5 s w h0 h1 h2 h3 h4 h5
  cases h6:s.toList == [105,110,116,111]
  case true=>exact reserved_6 s w h0 h1 h2 h3 h4 h5 h6
  cases h7:s.toList == [116,111]
  case true=>exact reserved_7 s w h0 h1 h2 h3 h4 h5 h6 h7
  cases h8:s.toList == [98,97,99,107]
  case true=>exact reserved_8 s w h0 h1 h2 h3 h4 h5 h6 h7 h8
  cases h9:s.toList == [97,110,100]
  case true=>exact reserved_9 s w h0 h1 h2 h3 h4 h5 h6 h7 h8 h9
  cases h10:s.toList == [111,114]
  case true=>exact reserved_10 s w h0 h1 h2 h3 h4 h5 h6 h7 h8 h9 h10
  cases h11:s.toList == [110,111,116]
  case true=>exact reserved_11 s w h0 h1 h2 h3 h4 h5 h6 h7 h8 h9 h10 h11
  cases h12:s.toList == [116,114,117,101]
  case true=>exact reserved_12 s w h0 h1 h2 h3 h4 h5 h6 h7 h8 h9 h10 h11 h12
  cases h13:s.toList == [102,97,108,115,101]
  case true=>exact reserved_13 s w h0 h1 h2 h3 h4 h5 h6 h7 h8 h9 h10 h11 h12 h13
  cases h14:s.toList == [110,117,108,108]
  case true=>exact reserved_14 s w h0 h1 h2 h3 h4 h5 h6 h7 h8 h9 h10 h11 h12 h13 h14
  cases h15:s.toList == [105,110,116]
  case true=>exact reserved_15 s w h0 h1 h2 h3 h4 h5 h6 h7 h8 h9 h10 h11 h12 h13 h14 h15
  cases h16:s.toList == [116,101,120,116]
  case true=>exact reserved_16 s w h0 h1 h2 h3 h4 h5 h6 h7 h8 h9 h10 h11 h12 h13 h14 h15 h16
  cases h17:s.toList == [98,111,111,108]
  case true=>exact reserved_17 s w h0 h1 h2 h3 h4 h5 h6 h7 h8 h9 h10 h11 h12 h13 h14 h15 h16 h17
  cases h18:s.toList == [115,101,108,101,99,116]
  case true=>exact reserved_18 s w h0 h1 h2 h3 h4 h5 h6 h7 h8 h9 h10 h11 h12 h13 h14 h15 h16 h17 h18
  cases h19:s.toList == [119,104,101,114,101]
  case true=>exact reserved_19 s w h0 h1 h2 h3 h4 h5 h6 h7 h8 h9 h10 h11 h12 h13 h14 h15 h16 h17 h18 h19
  cases h20:s.toList == [102,114,111,109]
  case true=>exact reserved_20 s w h0 h1 h2 h3 h4 h5 h6 h7 h8 h9 h10 h11 h12 h13 h14 h15 h16 h17 h18 h19 h20
  cases h21:s.toList == [108,105,109,105,116]
  case true=>exact reserved_21 s w h0 h1 h2 h3 h4 h5 h6 h7 h8 h9 h10 h11 h12 h13 h14 h15 h16 h17 h18 h19 h20 h21
  rw [(res_no _).2 ⟨h0,h1,h2,h3,h4,h5,h6,h7,h8,h9,h10,h11,h12,h13,h14,h15,h16,h17,h18,h19,h20,h21⟩] at hr
  cases hr
end Go.Proofs.YteghhmomhlnccaaGreatDoor
namespace Go.Proofs.YteghhmomhlnccaaGreatDoor
theorem drop_at (s:ByteArray) (k:Nat) (h:k < s.size):s.data.toList.drop k=s[k] :: s.data.toList.drop (k + 1):=by
 rw [List.drop_eq_getElem_cons (by simpa using h)]; rfl
def ts (k:Nat) (z:List UInt8):Nat:=if (Lx.qt z).2.2 then k + (Lx.qt z).2.1 else 0
theorem ts_else (k:Nat) (c:UInt8) (r:List UInt8) (h:c ≠ 39):ts k (c :: r)=ts (k + 1) r:=by
 have e:Lx.qt (c :: r)=(c :: (Lx.qt r).1,(Lx.qt r).2.1 + 1,(Lx.qt r).2.2):=by rw [Lx.qt.eq_def]; simp only [if_neg h]
 unfold ts
 rw [e]
 simp only
 split <;> omega
theorem ts_end (k:Nat):ts k [39]=k + 1:=by simp [ts,Lx.qt]
theorem ts_stop (k:Nat) (d:UInt8) (r:List UInt8) (h:d ≠ 39):ts k (39 :: d :: r)=k + 1:=by simp [ts,Lx.qt,h]
theorem ts_two (k:Nat) (r:List UInt8):ts k (39 :: 39 :: r)=ts (k + 1 + 1) r:=by
 unfold ts
 rw [show Lx.qt (39 :: 39 :: r)=(39 :: (Lx.qt r).1,(Lx.qt r).2.1 + 2,(Lx.qt r).2.2) from by rw [Lx.qt]; simp]
 simp only
 split <;> omega
theorem u8_eq {c:UInt8} : ((c.toNat:Int)=39) ↔ c=39:=by
 constructor
 ·intro h; apply UInt8.toNat_inj.1; show c.toNat=39; omega
 ·rintro rfl; rfl
theorem textSize_any (s:ByteArray) (w:World) (hs:s.size≤6000) :
  Calls Tryz.prog 131 #[.string s] w fun e w'=>e=.returned (.int .i64 (ts 1 (s.data.toList.drop 1):Nat))∧w'=w:=by
 have hs2:(s.size:Int)≤6000:=by omega
 go_enter Tryz.func131,Tryz.ntmps131
 go_wp2_with fail
 go_loopg [3] (s.size + 2) (fun j s3 wr=>∃ k:Nat,1≤k∧k≤s.size + 1∧s.size + 1 < k + j∧s3=.int .i64 (k:Nat)∧Hid (ts k (s.data.toList.drop k)=ts 1 (s.data.toList.drop 1))∧wr=w)
 case atStart=>exact ⟨1,by omega,by omega,by omega,rfl,hid rfl,rfl⟩
 case round=>
  obtain ⟨k,hk1,hk2,hj,rfl,HK,rfl⟩:=hrel
  by_cases hlt:k < s.size
  ·have hlt':(k:Int) < (s.size:Int):=by omega
   have HD:=hid (drop_at s k hlt)
   have hi9:(k:Int) < 6001:=by omega
   by_cases h39:s[k]=39
   ·have b1:((s[k].toNat:Int) != 39)=false:=by rw [bne_eq_false_iff_eq]; exact u8_eq.2 h39
    have H39:=hid h39
    clear h39
    by_cases hl2:k + 1 < s.size
    ·have hl2':((k:Int) + 1) < (s.size:Int):=by omega
     have hne:((k:Int) + 1 == (s.size:Int))=false:=by rw [beq_eq_false_iff_ne]; omega
     have HD2:=hid (drop_at s (k + 1) hl2)
     by_cases h2:s[k + 1]=39
     ·have b2:((s[k + 1].toNat:Int) != 39)=false:=by rw [bne_eq_false_iff_eq]; exact u8_eq.2 h2
      have HT:Hid (ts (k + 2) (s.data.toList.drop (k + 2))=ts 1 (s.data.toList.drop 1)):=hid (by
       rw [← HK.out,HD.out,HD2.out,H39.out,h2]; exact (ts_two k _).symm)
      clear h2 HK HD HD2
      go_wp2_with fail
      go_roundg (s.size + 1 - (k + 1))
      case measure=>omega
      case rel=>exact ⟨k + 2,by omega,by omega,by omega,by go_num,HT,rfl⟩
     ·have b2:((s[k + 1].toNat:Int) != 39)=true:=by rw [bne_iff_ne]; exact fun e=>h2 (u8_eq.1 e)
      have HT:Hid (((k:Int) + 1)=(ts 1 (s.data.toList.drop 1):Nat)):=hid (by
       rw [← HK.out,HD.out,HD2.out,H39.out,ts_stop _ _ _ h2]; rfl)
      clear h2 HK HD HD2
      go_wp2_with fail
      go_ret
      exact ⟨retI HT.out,rfl⟩
    ·have hne:((k:Int) + 1 == (s.size:Int))=true:=by rw [beq_iff_eq]; omega
     have HT:Hid (((k:Int) + 1)=(ts 1 (s.data.toList.drop 1):Nat)):=hid (by
      have e:s.data.toList.drop (k + 1)=[]:=List.drop_of_length_le (by rw [list_size]; omega)
      rw [← HK.out,HD.out,H39.out,e,ts_end]; rfl)
     clear hl2 HK HD
     go_wp2_with fail
     go_ret
     exact ⟨retI HT.out,rfl⟩
   ·have b1:((s[k].toNat:Int) != 39)=true:=by rw [bne_iff_ne]; exact fun e=>h39 (u8_eq.1 e)
    have HT:Hid (ts (k + 1) (s.data.toList.drop (k + 1))=ts 1 (s.data.toList.drop 1)):=hid (by
     rw [← HK.out,HD.out,ts_else _ _ _ h39])
    clear h39 HK HD
    go_wp2_with fail
    go_roundg (s.size + 1 - k)
    case measure=>omega
    case rel=>exact ⟨k + 1,by omega,by omega,by omega,by go_num,HT,rfl⟩
  ·have hlt':¬ (k:Int) < (s.size:Int):=by omega
   have HT:Hid ((0:Int)=(ts 1 (s.data.toList.drop 1):Nat)):=hid (by
    have e:s.data.toList.drop k=[]:=List.drop_of_length_le (by rw [list_size]; omega)
    rw [← HK.out,e]; rfl)
   clear HK
   go_wp2_with fail
   go_ret
   exact ⟨retI (by simpa using HT.out),rfl⟩
def ms (c:UInt8) (r:List UInt8):Nat:=if Lx.pre2 c && r.head? == some 61 then 2 else if Lx.single c then 1 else 0
theorem prefix2 (c:UInt8) (r:List UInt8) (a:UInt8):Lib.hasPrefix (c :: r) [a,61]=(c == a && r.head? == some 61):=by
 unfold Lib.hasPrefix
 rw [List.isPrefixOf]
 cases r with
 | nil=>simp [List.isPrefixOf]
 | cons d r=>
  simp only [List.isPrefixOf,List.head?_cons,Bool.and_true]
  rw [Bool.eq_iff_iff]
  simp only [Bool.and_eq_true,beq_iff_eq,Option.some.injEq]
  constructor <;> (rintro ⟨h1,h2⟩; exact ⟨h1.symm,h2.symm⟩)
theorem index_single (c:UInt8):decide ((0:Int)≤Lib.indexByte Lx.singlesL c)=Lx.single c:=by
 have:=Lx.all_bytes (fun c=>decide ((0:Int)≤Lib.indexByte Lx.singlesL c) == Lx.single c) (by decide +kernel) c
 simpa using this
theorem markSize_any (s:ByteArray) (w:World) (c:UInt8) (r:List UInt8) (h:s.data.toList=c :: r) :
  Calls Tryz.prog 132 #[.string s] w fun e w'=>e=.returned (.int .i64 (ms c r:Nat))∧w'=w:=by
 have h0:0 < s.size:=by rw [← list_size,h]; simp
 have hc:s[0]=c:=by
  have:s.data.toList[0]?=some c:=by rw [h]; rfl
  rw [List.getElem?_eq_getElem (by simpa using h0)] at this
  injection this
 have A1:Hid (∀ w,Calls Tryz.prog 101 #[.string s,.string ⟨#[60,61]⟩] w fun e w'=>e=.returned (.bool (c == 60 && r.head? == some 61))∧w'=w):=hid (fun w=>by
  have:=Tryz.strings_HasPrefix s ⟨#[60,61]⟩ w
  rw [h,show (⟨#[60,61]⟩:ByteArray).data.toList=[60,61] from rfl,prefix2] at this
  exact this)
 have A2:Hid (∀ w,Calls Tryz.prog 101 #[.string s,.string ⟨#[62,61]⟩] w fun e w'=>e=.returned (.bool (c == 62 && r.head? == some 61))∧w'=w):=hid (fun w=>by
  have:=Tryz.strings_HasPrefix s ⟨#[62,61]⟩ w
  rw [h,show (⟨#[62,61]⟩:ByteArray).data.toList=[62,61] from rfl,prefix2] at this
  exact this)
 have A3:Hid (∀ w,Calls Tryz.prog 101 #[.string s,.string ⟨#[33,61]⟩] w fun e w'=>e=.returned (.bool (c == 33 && r.head? == some 61))∧w'=w):=hid (fun w=>by
  have:=Tryz.strings_HasPrefix s ⟨#[33,61]⟩ w
  rw [h,show (⟨#[33,61]⟩:ByteArray).data.toList=[33,61] from rfl,prefix2] at this
  exact this)
 have A4:Hid (∀ w,Calls Tryz.prog 155 #[.string ⟨#[40,41,44,59,61,60,62,43,45,42,47,37,38,58]⟩,.int .u8 (s[0].toNat:Int)] w fun e w'=>e=.returned (.int .i64 (Lib.indexByte Lx.singlesL c))∧w'=w):=hid (fun w=>by
  have:=Tryz.strings_IndexByte ⟨#[40,41,44,59,61,60,62,43,45,42,47,37,38,58]⟩ (s[0].toNat:Int) w
  have e:((s[0].toNat:Int)).toNat.toUInt8=c:=by rw [hc]; simp
  rw [e] at this
  exact this)
 have IX:=hid (index_single c)
 have MS:Hid ((ms c r:Int)=(if (c == 60 && r.head? == some 61) || (c == 62 && r.head? == some 61) || (c == 33 && r.head? == some 61) then 2 else if Lx.single c then 1 else 0:Nat)):=hid (by
  unfold ms Lx.pre2
  congr 2
  cases (r.head? == some 61) <;> simp)
 have h0i:(0:Int) < s.size:=by omega
 clear h hc
 generalize (c == 60 && r.head? == some 61)=b1 at *
 generalize (c == 62 && r.head? == some 61)=b2 at *
 generalize (c == 33 && r.head? == some 61)=b3 at *
 generalize Lib.indexByte Lx.singlesL c=ix at *
 cases b1
 case true=>
  go_enter Tryz.func132,Tryz.ntmps132
  go_wp2_with fail
  refine (A1.out _).mono ?_
  rintro e w2 ⟨rfl,rfl⟩
  go_wp2
  go_ret
  exact ⟨retI (by rw [MS.out]; rfl),rfl⟩
 cases b2
 case true=>
  go_enter Tryz.func132,Tryz.ntmps132
  go_wp2_with fail
  refine (A1.out _).mono ?_
  rintro e w2 ⟨rfl,rfl⟩
  go_wp2_with fail
  refine (A2.out _).mono ?_
  rintro e w2 ⟨rfl,rfl⟩
  go_wp2
  go_ret
  exact ⟨retI (by rw [MS.out]; rfl),rfl⟩
 cases b3
 case true=>
  go_enter Tryz.func132,Tryz.ntmps132
  go_wp2_with fail
  refine (A1.out _).mono ?_
  rintro e w2 ⟨rfl,rfl⟩
  go_wp2_with fail
  refine (A2.out _).mono ?_
  rintro e w2 ⟨rfl,rfl⟩
  go_wp2_with fail
  refine (A3.out _).mono ?_
  rintro e w2 ⟨rfl,rfl⟩
  go_wp2
  go_ret
  exact ⟨retI (by rw [MS.out]; rfl),rfl⟩
 by_cases hx:(0:Int)≤ix
 ·have SX:Hid (Lx.single c=true):=hid (by rw [← IX.out]; exact decide_eq_true hx)
  go_enter Tryz.func132,Tryz.ntmps132
  go_wp2_with fail
  refine (A1.out _).mono ?_
  rintro e w2 ⟨rfl,rfl⟩
  go_wp2_with fail
  refine (A2.out _).mono ?_
  rintro e w2 ⟨rfl,rfl⟩
  go_wp2_with fail
  refine (A3.out _).mono ?_
  rintro e w2 ⟨rfl,rfl⟩
  go_wp2_with fail
  refine (A4.out _).mono ?_
  rintro e w2 ⟨rfl,rfl⟩
  go_wp2
  go_ret
  exact ⟨retI (by rw [MS.out,SX.out]; rfl),rfl⟩
 ·have SX:Hid (Lx.single c=false):=hid (by rw [← IX.out]; exact decide_eq_false hx)
  go_enter Tryz.func132,Tryz.ntmps132
  go_wp2_with fail
  refine (A1.out _).mono ?_
  rintro e w2 ⟨rfl,rfl⟩
  go_wp2_with fail
  refine (A2.out _).mono ?_
  rintro e w2 ⟨rfl,rfl⟩
  go_wp2_with fail
  refine (A3.out _).mono ?_
  rintro e w2 ⟨rfl,rfl⟩
  go_wp2_with fail
  refine (A4.out _).mono ?_
  rintro e w2 ⟨rfl,rfl⟩
  go_wp2
  go_ret
  exact ⟨retI (by rw [MS.out,SX.out]; rfl),rfl⟩
end Go.Proofs.YteghhmomhlnccaaGreatDoor
namespace Go.Proofs.YteghhmomhlnccaaGreatDoor
def outW (x:Lx.Wd):Value:=if x.err=0 then .tuple #[wd x.kind (str x.text) x.n,.int .i64 0] else .tuple #[wd 0 ⟨#[]⟩ 0,.int .i64 x.err]
theorem outW_ok {x:Lx.Wd} (h:x.err=0):outW x=.tuple #[wd x.kind (str x.text) x.n,.int .i64 0]:=if_pos h
theorem outW_bad {x:Lx.Wd} (h:x.err ≠ 0):outW x=.tuple #[wd 0 ⟨#[]⟩ 0,.int .i64 x.err]:=if_neg h
theorem take_str (s:ByteArray) (n:Nat):(s.extract 0 n).data.toList=s.data.toList.take n:=by simp
theorem take_size (s:ByteArray) (n:Nat) (h:n≤s.size):(s.extract 0 n).size=n:=by simp; omega
theorem word_end {w W:World} {g:Nat} {t:TypeId} {k n:Int} {s:ByteArray} (h:RowW W g t k s n) (hb:Below w.heap.size w W) (hg:w.heap.size≤g) (k' n':Int) (s':ByteArray) :
  ∃ W',W'=((W.setCell ⟨g,0,none⟩ (.int .i64 k')).setCell ⟨g,1,none⟩ (.string s')).setCell ⟨g,2,none⟩ (.int .i64 n')∧Below w.heap.size w W'∧RowW W' g t k' s' n':=
 ⟨_,rfl,((hb.setCell (p:=⟨g,0,none⟩) hg _).setCell (p:=⟨g,1,none⟩) hg _).setCell (p:=⟨g,2,none⟩) hg _,h.set3 k' n' s'⟩
theorem firstName_long (s:ByteArray) (w:World) (hs:s.size≤6000) (hn:16 < (s.data.toList.takeWhile Lx.nm).length) :
  Calls Tryz.prog 104 #[.string s] w fun e w'=>e=.returned (.tuple #[wd 0 ⟨#[]⟩ 0,.int .i64 3])∧Below w.heap.size w w':=by
 have R0:=hid (RowW.new w 119 0 0 ⟨#[]⟩)
 have B0:=hid ((Below.refl w.heap.size w).alloc (Nat.le_refl _) (.cells #[.int .i64 0,.string ⟨#[]⟩,.int .i64 0] 119))
 have RN:=hid (fun w=>run_inNames s w hs)
 have hl:=Lx.tw_le Lx.nm s.data.toList
 rw [list_size] at hl
 generalize (s.data.toList.takeWhile Lx.nm).length=n at *
 have hn2:(16:Int) < (n:Int):=by omega
 have hn3:(n:Int)≤s.size:=by omega
 have hs2:(s.size:Int)≤6000:=by omega
 go_enter Tryz.func104,Tryz.ntmps104
 go_wp2_with fail
 refine (RN.out _).mono ?_
 rintro e w1 ⟨rfl,hb1⟩
 have R1:=hid (R0.out.below hb1 R0.out.lt)
 have B1:=hid (bstep B0.out hb1)
 clear hb1 R0 B0 RN
 have R2:=hid (R1.out.alloc (.cells #[.int .i64 1,.string (s.extract 0 n),.int .i64 n] 119))
 have B2:=hid (B1.out.alloc B1.out.size (.cells #[.int .i64 1,.string (s.extract 0 n),.int .i64 n] 119))
 obtain ⟨d1,d2,d3⟩:=R2.out.cells
 have f0:=R2.out.frozen 0
 have f1:=R2.out.frozen 1
 have f2:=R2.out.frozen 2
 go_wp2
 obtain ⟨W,hW,hb,hq⟩:=word_end R2.out B2.out (Nat.le_refl _) 0 0 ⟨#[]⟩
 rw [← hW]
 obtain ⟨q1,q2,q3⟩:=hq.cells
 exact bodyPost_ret (v:=.tuple #[wd 0 ⟨#[]⟩ 0,.int .i64 3]) (by simp [results,Tryz.results104,go_sem,q1,q2,q3]) rfl ⟨rfl,hb⟩
theorem firstName_word (s:ByteArray) (w:World) (hs:s.size≤6000) (hn:(s.data.toList.takeWhile Lx.nm).length≤16) (hr:Lx.res (s.data.toList.takeWhile Lx.nm)=true) :
  Calls Tryz.prog 104 #[.string s] w fun e w'=>e=.returned (.tuple #[wd 2 (str (s.data.toList.takeWhile Lx.nm)) ((s.data.toList.takeWhile Lx.nm).length:Nat),.int .i64 0])∧Below w.heap.size w w':=by
 have R0:=hid (RowW.new w 119 0 0 ⟨#[]⟩)
 have B0:=hid ((Below.refl w.heap.size w).alloc (Nat.le_refl _) (.cells #[.int .i64 0,.string ⟨#[]⟩,.int .i64 0] 119))
 have RN:=hid (fun w=>run_inNames s w hs)
 have hl:=Lx.tw_le Lx.nm s.data.toList
 rw [list_size] at hl
 have ht:=Lx.tw_take Lx.nm s.data.toList
 have he:(s.extract 0 (s.data.toList.takeWhile Lx.nm).length)=str (s.data.toList.takeWhile Lx.nm):=by
  apply ByteArray.ext
  apply Array.ext'
  rw [take_str,ht]
 rw [← he]
 have RS:Hid (∀ w,Calls Tryz.prog 129 #[.string (s.extract 0 (s.data.toList.takeWhile Lx.nm).length)] w fun e w'=>e=.returned (.bool true)∧w'=w):=hid (fun w=>by
  have:=reserved_any (s.extract 0 (s.data.toList.takeWhile Lx.nm).length) w
  rw [take_str,ht,hr] at this
  exact this)
 clear he ht hr
 generalize (s.data.toList.takeWhile Lx.nm).length=n at *
 have hn2:¬ (16:Int) < (n:Int):=by omega
 have hn3:(n:Int)≤s.size:=by omega
 have hs2:(s.size:Int)≤6000:=by omega
 go_enter Tryz.func104,Tryz.ntmps104
 go_wp2_with fail
 refine (RN.out _).mono ?_
 rintro e w1 ⟨rfl,hb1⟩
 have R1:=hid (R0.out.below hb1 R0.out.lt)
 have B1:=hid (bstep B0.out hb1)
 clear hb1 R0 B0 RN
 have R2:=hid (R1.out.alloc (.cells #[.int .i64 2,.string (s.extract 0 n),.int .i64 n] 119))
 have B2:=hid (B1.out.alloc B1.out.size (.cells #[.int .i64 2,.string (s.extract 0 n),.int .i64 n] 119))
 go_wp2_with fail
 refine (RS.out _).mono ?_
 rintro e w2 ⟨rfl,rfl⟩
 obtain ⟨d1,d2,d3⟩:=R2.out.cells
 have f0:=R2.out.frozen 0
 have f1:=R2.out.frozen 1
 have f2:=R2.out.frozen 2
 go_wp2
 obtain ⟨W,hW,hb,hq⟩:=word_end R2.out B2.out (Nat.le_refl _) 2 (n:Int) (s.extract 0 n)
 rw [← hW]
 obtain ⟨q1,q2,q3⟩:=hq.cells
 exact bodyPost_ret (v:=.tuple #[wd 2 (s.extract 0 n) (n:Int),.int .i64 0]) (by simp [results,Tryz.results104,go_sem,q1,q2,q3]) rfl ⟨rfl,hb⟩
theorem firstName_name (s:ByteArray) (w:World) (hs:s.size≤6000) (hn:(s.data.toList.takeWhile Lx.nm).length≤16) (hr:Lx.res (s.data.toList.takeWhile Lx.nm)=false) :
  Calls Tryz.prog 104 #[.string s] w fun e w'=>e=.returned (.tuple #[wd 1 (str (s.data.toList.takeWhile Lx.nm)) ((s.data.toList.takeWhile Lx.nm).length:Nat),.int .i64 0])∧Below w.heap.size w w':=by
 have R0:=hid (RowW.new w 119 0 0 ⟨#[]⟩)
 have B0:=hid ((Below.refl w.heap.size w).alloc (Nat.le_refl _) (.cells #[.int .i64 0,.string ⟨#[]⟩,.int .i64 0] 119))
 have RN:=hid (fun w=>run_inNames s w hs)
 have hl:=Lx.tw_le Lx.nm s.data.toList
 rw [list_size] at hl
 have ht:=Lx.tw_take Lx.nm s.data.toList
 have he:(s.extract 0 (s.data.toList.takeWhile Lx.nm).length)=str (s.data.toList.takeWhile Lx.nm):=by
  apply ByteArray.ext
  apply Array.ext'
  rw [take_str,ht]
 rw [← he]
 have RS:Hid (∀ w,Calls Tryz.prog 129 #[.string (s.extract 0 (s.data.toList.takeWhile Lx.nm).length)] w fun e w'=>e=.returned (.bool false)∧w'=w):=hid (fun w=>by
  have:=reserved_any (s.extract 0 (s.data.toList.takeWhile Lx.nm).length) w
  rw [take_str,ht,hr] at this
  exact this)
 clear he ht hr
 generalize (s.data.toList.takeWhile Lx.nm).length=n at *
 have hn2:¬ (16:Int) < (n:Int):=by omega
 have hn3:(n:Int)≤s.size:=by omega
 have hs2:(s.size:Int)≤6000:=by omega
 go_enter Tryz.func104,Tryz.ntmps104
 go_wp2_with fail
 refine (RN.out _).mono ?_
 rintro e w1 ⟨rfl,hb1⟩
 have R1:=hid (R0.out.below hb1 R0.out.lt)
 have B1:=hid (bstep B0.out hb1)
 clear hb1 R0 B0 RN
 have R2:=hid (R1.out.alloc (.cells #[.int .i64 1,.string (s.extract 0 n),.int .i64 n] 119))
 have B2:=hid (B1.out.alloc B1.out.size (.cells #[.int .i64 1,.string (s.extract 0 n),.int .i64 n] 119))
 go_wp2_with fail
 refine (RS.out _).mono ?_
 rintro e w2 ⟨rfl,rfl⟩
 obtain ⟨d1,d2,d3⟩:=R2.out.cells
 have f0:=R2.out.frozen 0
 have f1:=R2.out.frozen 1
 have f2:=R2.out.frozen 2
 go_wp2
 obtain ⟨W,hW,hb,hq⟩:=word_end R2.out B2.out (Nat.le_refl _) 1 (n:Int) (s.extract 0 n)
 rw [← hW]
 obtain ⟨q1,q2,q3⟩:=hq.cells
 exact bodyPost_ret (v:=.tuple #[wd 1 (s.extract 0 n) (n:Int),.int .i64 0]) (by simp [results,Tryz.results104,go_sem,q1,q2,q3]) rfl ⟨rfl,hb⟩
end Go.Proofs.YteghhmomhlnccaaGreatDoor
namespace Go.Proofs.YteghhmomhlnccaaGreatDoor
theorem firstName_any (s:ByteArray) (w:World) (hs:s.size≤6000) :
  Calls Tryz.prog 104 #[.string s] w fun e w'=>e=.returned (outW (Lx.nameW (s.data.toList.takeWhile Lx.nm)))∧Below w.heap.size w w':=by
 cases hr:Lx.res (s.data.toList.takeWhile Lx.nm)
 ·by_cases hn:16 < (s.data.toList.takeWhile Lx.nm).length
  ·rw [outW_bad (by simp [Lx.nameW,hr,hn])]
   have:=firstName_long s w hs hn
   simpa [Lx.nameW,hr,hn] using this
  ·rw [outW_ok (by simp [Lx.nameW,hr,hn])]
   have:=firstName_name s w hs (by omega) hr
   simpa [Lx.nameW,hr,hn] using this
 ·have hn:(s.data.toList.takeWhile Lx.nm).length≤16:=by have:=Lx.res_le _ hr; omega
  rw [outW_ok (by simp [Lx.nameW,hr])]
  have:=firstName_word s w hs hn hr
  simpa [Lx.nameW,hr] using this
theorem tw_str (p:UInt8→Bool) (s:ByteArray):s.extract 0 (s.data.toList.takeWhile p).length=str (s.data.toList.takeWhile p):=by
 apply ByteArray.ext
 apply Array.ext'
 rw [take_str,Lx.tw_take]
theorem tw_size (p:UInt8→Bool) (s:ByteArray):(s.data.toList.takeWhile p).length≤s.size:=by
 have:=Lx.tw_le p s.data.toList
 rwa [list_size] at this
theorem firstNumber_ok (s:ByteArray) (w:World) (hs:s.size≤6000) (n:Nat) (hn:n≤s.size) (RN:∀ w,Calls Tryz.prog 103 #[.string s,.string ⟨#[48,49,50,51,52,53,54,55,56,57]⟩] w fun e w'=>e=.returned (.int .i64 (n:Nat))∧Below w.heap.size w w')
  (k v:Int) (u:ByteArray) (RV:∀ w',Below w.heap.size w w'→Calls Tryz.prog 130 #[.string (s.extract 0 n)] w' fun e w''=>e=.returned (.tuple #[val k v u,.int .i64 0])∧Below w'.heap.size w' w'') :
  Calls Tryz.prog 105 #[.string s] w fun e w'=>e=.returned (.tuple #[wd 3 (s.extract 0 n) (n:Int),.int .i64 0])∧Below w.heap.size w w':=by
 have R0:=hid (RowW.new w 119 0 0 ⟨#[]⟩)
 have B0:=hid ((Below.refl w.heap.size w).alloc (Nat.le_refl _) (.cells #[.int .i64 0,.string ⟨#[]⟩,.int .i64 0] 119))
 have RN:=hid RN
 have RV:=hid RV
 have hn3:(n:Int)≤s.size:=by omega
 have hs2:(s.size:Int)≤6000:=by omega
 go_enter Tryz.func105,Tryz.ntmps105
 go_wp2_with fail
 refine (RN.out _).mono ?_
 rintro e w1 ⟨rfl,hb1⟩
 have R1:=hid (R0.out.below hb1 R0.out.lt)
 have B1:=hid (bstep B0.out hb1)
 clear hb1 R0 B0
 go_wp2_with fail
 refine (RV.out _ B1.out).mono ?_
 rintro e w2 ⟨rfl,hb2⟩
 have R2:=hid (R1.out.below hb2 R1.out.lt)
 have B2:=hid (bstep B1.out hb2)
 clear hb2 R1 B1
 have R3:=hid (R2.out.alloc (.cells #[.int .i64 k,.int .i64 v,.string u] 23))
 have B3:=hid (B2.out.alloc B2.out.size (.cells #[.int .i64 k,.int .i64 v,.string u] 23))
 clear R2 B2
 obtain ⟨d1,d2,d3⟩:=R3.out.cells
 have f0:=R3.out.frozen 0
 have f1:=R3.out.frozen 1
 have f2:=R3.out.frozen 2
 go_wp2
 obtain ⟨W,hW,hb,hq⟩:=word_end R3.out B3.out (Nat.le_refl _) 3 (n:Int) (s.extract 0 n)
 rw [← hW]
 obtain ⟨q1,q2,q3⟩:=hq.cells
 exact bodyPost_ret (v:=.tuple #[wd 3 (s.extract 0 n) (n:Int),.int .i64 0]) (by simp [results,Tryz.results105,go_sem,q1,q2,q3]) rfl ⟨rfl,hb⟩
theorem firstNumber_bad (s:ByteArray) (w:World) (hs:s.size≤6000) (n:Nat) (hn:n≤s.size) (RN:∀ w,Calls Tryz.prog 103 #[.string s,.string ⟨#[48,49,50,51,52,53,54,55,56,57]⟩] w fun e w'=>e=.returned (.int .i64 (n:Nat))∧Below w.heap.size w w')
  (k v:Int) (u:ByteArray) (x:Int) (hx:x ≠ 0) (RV:∀ w',Below w.heap.size w w'→Calls Tryz.prog 130 #[.string (s.extract 0 n)] w' fun e w''=>e=.returned (.tuple #[val k v u,.int .i64 x])∧Below w'.heap.size w' w'') :
  Calls Tryz.prog 105 #[.string s] w fun e w'=>e=.returned (.tuple #[wd 0 ⟨#[]⟩ 0,.int .i64 x])∧Below w.heap.size w w':=by
 have R0:=hid (RowW.new w 119 0 0 ⟨#[]⟩)
 have B0:=hid ((Below.refl w.heap.size w).alloc (Nat.le_refl _) (.cells #[.int .i64 0,.string ⟨#[]⟩,.int .i64 0] 119))
 have RN:=hid RN
 have RV:=hid RV
 have hn3:(n:Int)≤s.size:=by omega
 have hs2:(s.size:Int)≤6000:=by omega
 have hx1:(x == 0)=false:=by rw [beq_eq_false_iff_ne]; exact hx
 have hx2:(x != 0)=true:=by rw [bne_iff_ne]; exact hx
 clear hx
 go_enter Tryz.func105,Tryz.ntmps105
 go_wp2_with fail
 refine (RN.out _).mono ?_
 rintro e w1 ⟨rfl,hb1⟩
 have R1:=hid (R0.out.below hb1 R0.out.lt)
 have B1:=hid (bstep B0.out hb1)
 clear hb1 R0 B0
 go_wp2_with fail
 refine (RV.out _ B1.out).mono ?_
 rintro e w2 ⟨rfl,hb2⟩
 have R2:=hid (R1.out.below hb2 R1.out.lt)
 have B2:=hid (bstep B1.out hb2)
 clear hb2 R1 B1
 have R3:=hid (R2.out.alloc (.cells #[.int .i64 k,.int .i64 v,.string u] 23))
 have B3:=hid (B2.out.alloc B2.out.size (.cells #[.int .i64 k,.int .i64 v,.string u] 23))
 clear R2 B2
 obtain ⟨d1,d2,d3⟩:=R3.out.cells
 have f0:=R3.out.frozen 0
 have f1:=R3.out.frozen 1
 have f2:=R3.out.frozen 2
 go_wp2
 obtain ⟨W,hW,hb,hq⟩:=word_end R3.out B3.out (Nat.le_refl _) 0 0 ⟨#[]⟩
 rw [← hW]
 obtain ⟨q1,q2,q3⟩:=hq.cells
 exact bodyPost_ret (v:=.tuple #[wd 0 ⟨#[]⟩ 0,.int .i64 x]) (by simp [results,Tryz.results105,go_sem,q1,q2,q3]) rfl ⟨rfl,hb⟩
theorem firstNumber_any (s:ByteArray) (w:World) (a:Addr) (m:Int) (hv:Env w a m) (hs:s.size≤6000) :
  Calls Tryz.prog 105 #[.string s] w fun e w'=>e=.returned (outW (Lx.numW (s.data.toList.takeWhile dig)))∧Below w.heap.size w w':=by
 have ht:=tw_str dig s
 have hn:=tw_size dig s
 have hd:=Lx.told_digits _ (fun c hc=>Lx.tw_all dig s.data.toList c hc)
 have he:=Lx.toldInt_err (s.data.toList.takeWhile dig)
 have RV:∀ w',Below w.heap.size w w'→Calls Tryz.prog 130 #[.string (s.extract 0 (s.data.toList.takeWhile dig).length)] w' fun e w''=>e=.returned (out (toldInt (s.data.toList.takeWhile dig)))∧Below w'.heap.size w' w'':=fun w' hb=>by
  have:=vread_any (s.extract 0 (s.data.toList.takeWhile dig).length) w' a m (hv.below hb) (by rw [take_size _ _ hn]; omega)
  rwa [take_str,Lx.tw_take,hd] at this
 by_cases h0:Lx.numErr (s.data.toList.takeWhile dig)=0
 ·rw [outW_ok h0]
  rw [h0] at he
  have K:=firstNumber_ok s w hs _ hn (fun w=>run_digits s w hs) (toldInt (s.data.toList.takeWhile dig)).k (toldInt (s.data.toList.takeWhile dig)).n (str (toldInt (s.data.toList.takeWhile dig)).s) (fun w' hb=>by
   have:=RV w' hb
   unfold out at this
   rw [he] at this
   exact this)
  rw [ht] at K
  exact K
 ·rw [outW_bad h0]
  exact firstNumber_bad s w hs _ hn (fun w=>run_digits s w hs) (toldInt (s.data.toList.takeWhile dig)).k (toldInt (s.data.toList.takeWhile dig)).n (str (toldInt (s.data.toList.takeWhile dig)).s) _ (by show ((Lx.numErr (s.data.toList.takeWhile dig):Nat):Int) ≠ 0; omega) (fun w' hb=>by
   have:=RV w' hb
   unfold out at this
   rw [he] at this
   exact this)
theorem firstText_none (s:ByteArray) (w:World) (hs:s.size≤6000) (T:∀ w,Calls Tryz.prog 131 #[.string s] w fun e w'=>e=.returned (.int .i64 0)∧w'=w) :
  Calls Tryz.prog 106 #[.string s] w fun e w'=>e=.returned (.tuple #[wd 0 ⟨#[]⟩ 0,.int .i64 7])∧Below w.heap.size w w':=by
 have R0:=hid (RowW.new w 119 0 0 ⟨#[]⟩)
 have B0:=hid ((Below.refl w.heap.size w).alloc (Nat.le_refl _) (.cells #[.int .i64 0,.string ⟨#[]⟩,.int .i64 0] 119))
 have T:=hid T
 go_enter Tryz.func106,Tryz.ntmps106
 go_wp2_with fail
 refine (T.out _).mono ?_
 rintro e w' ⟨rfl,rfl⟩
 go_wp2
 exact bodyPost_ret (v:=.tuple #[wd 0 ⟨#[]⟩ 0,.int .i64 7]) (by simp [results,Tryz.results106,go_sem]) rfl ⟨rfl,(Below.refl _ _).alloc (Nat.le_refl _) _⟩
theorem firstText_ok (s:ByteArray) (w:World) (hs:s.size≤6000) (n:Nat) (h1:1≤n) (hn:n≤s.size) (T:∀ w,Calls Tryz.prog 131 #[.string s] w fun e w'=>e=.returned (.int .i64 (n:Nat))∧w'=w)
  (k v:Int) (u:ByteArray) (RV:∀ w',Below w.heap.size w w'→Calls Tryz.prog 130 #[.string (s.extract 0 n)] w' fun e w''=>e=.returned (.tuple #[val k v u,.int .i64 0])∧Below w'.heap.size w' w'') :
  Calls Tryz.prog 106 #[.string s] w fun e w'=>e=.returned (.tuple #[wd 4 u (n:Int),.int .i64 0])∧Below w.heap.size w w':=by
 have R0:=hid (RowW.new w 119 0 0 ⟨#[]⟩)
 have B0:=hid ((Below.refl w.heap.size w).alloc (Nat.le_refl _) (.cells #[.int .i64 0,.string ⟨#[]⟩,.int .i64 0] 119))
 have T:=hid T
 have RV:=hid RV
 have hn3:(n:Int)≤s.size:=by omega
 have hs2:(s.size:Int)≤6000:=by omega
 have hz:((n:Int) == 0)=false:=by rw [beq_eq_false_iff_ne]; omega
 go_enter Tryz.func106,Tryz.ntmps106
 go_wp2_with fail
 refine (T.out _).mono ?_
 rintro e w' ⟨rfl,rfl⟩
 go_wp2_with fail
 refine (RV.out _ B0.out).mono ?_
 rintro e w2 ⟨rfl,hb2⟩
 have R2:=hid (R0.out.below hb2 R0.out.lt)
 have B2:=hid (bstep B0.out hb2)
 clear hb2 R0 B0
 have R3:=hid (R2.out.alloc (.cells #[.int .i64 k,.int .i64 v,.string u] 23))
 have B3:=hid (B2.out.alloc B2.out.size (.cells #[.int .i64 k,.int .i64 v,.string u] 23))
 clear R2 B2
 obtain ⟨d1,d2,d3⟩:=R3.out.cells
 have f0:=R3.out.frozen 0
 have f1:=R3.out.frozen 1
 have f2:=R3.out.frozen 2
 go_wp2
 obtain ⟨W,hW,hb,hq⟩:=word_end R3.out B3.out (Nat.le_refl _) 4 (n:Int) u
 rw [← hW]
 obtain ⟨q1,q2,q3⟩:=hq.cells
 exact bodyPost_ret (v:=.tuple #[wd 4 u (n:Int),.int .i64 0]) (by simp [results,Tryz.results106,go_sem,q1,q2,q3]) rfl ⟨rfl,hb⟩
theorem firstText_long (s:ByteArray) (w:World) (hs:s.size≤6000) (n:Nat) (h1:1≤n) (hn:n≤s.size) (T:∀ w,Calls Tryz.prog 131 #[.string s] w fun e w'=>e=.returned (.int .i64 (n:Nat))∧w'=w)
  (k v:Int) (u:ByteArray) (x:Int) (hx:x ≠ 0) (RV:∀ w',Below w.heap.size w w'→Calls Tryz.prog 130 #[.string (s.extract 0 n)] w' fun e w''=>e=.returned (.tuple #[val k v u,.int .i64 x])∧Below w'.heap.size w' w'') :
  Calls Tryz.prog 106 #[.string s] w fun e w'=>e=.returned (.tuple #[wd 0 ⟨#[]⟩ 0,.int .i64 3])∧Below w.heap.size w w':=by
 have R0:=hid (RowW.new w 119 0 0 ⟨#[]⟩)
 have B0:=hid ((Below.refl w.heap.size w).alloc (Nat.le_refl _) (.cells #[.int .i64 0,.string ⟨#[]⟩,.int .i64 0] 119))
 have T:=hid T
 have RV:=hid RV
 have hn3:(n:Int)≤s.size:=by omega
 have hs2:(s.size:Int)≤6000:=by omega
 have hz:((n:Int) == 0)=false:=by rw [beq_eq_false_iff_ne]; omega
 have hx1:(x == 0)=false:=by rw [beq_eq_false_iff_ne]; exact hx
 have hx2:(x != 0)=true:=by rw [bne_iff_ne]; exact hx
 clear hx
 go_enter Tryz.func106,Tryz.ntmps106
 go_wp2_with fail
 refine (T.out _).mono ?_
 rintro e w' ⟨rfl,rfl⟩
 go_wp2_with fail
 refine (RV.out _ B0.out).mono ?_
 rintro e w2 ⟨rfl,hb2⟩
 have R2:=hid (R0.out.below hb2 R0.out.lt)
 have B2:=hid (bstep B0.out hb2)
 clear hb2 R0 B0
 have R3:=hid (R2.out.alloc (.cells #[.int .i64 k,.int .i64 v,.string u] 23))
 have B3:=hid (B2.out.alloc B2.out.size (.cells #[.int .i64 k,.int .i64 v,.string u] 23))
 clear R2 B2
 obtain ⟨d1,d2,d3⟩:=R3.out.cells
 have f0:=R3.out.frozen 0
 have f1:=R3.out.frozen 1
 have f2:=R3.out.frozen 2
 go_wp2
 obtain ⟨W,hW,hb,hq⟩:=word_end R3.out B3.out (Nat.le_refl _) 0 0 ⟨#[]⟩
 rw [← hW]
 obtain ⟨q1,q2,q3⟩:=hq.cells
 exact bodyPost_ret (v:=.tuple #[wd 0 ⟨#[]⟩ 0,.int .i64 3]) (by simp [results,Tryz.results106,go_sem,q1,q2,q3]) rfl ⟨rfl,hb⟩
theorem ts_yes {l:List UInt8} (k:Nat) (h:(Lx.qt l).2.2=true):ts k l=k + (Lx.qt l).2.1:=if_pos h
theorem firstText_any (s:ByteArray) (w:World) (a:Addr) (m:Int) (hv:Env w a m) (hs:s.size≤6000) (r:List UInt8) (h:s.data.toList=39 :: r) :
  Calls Tryz.prog 106 #[.string s] w fun e w'=>e=.returned (outW (Lx.textW (Lx.qt r)))∧Below w.heap.size w w':=by
 have hd:s.data.toList.drop 1=r:=by rw [h]; rfl
 have hlen:s.size=r.length + 1:=by rw [← list_size,h]; rfl
 have T:=fun w=>textSize_any s w hs
 rw [hd] at T
 cases hq:(Lx.qt r).2.2
 ·rw [outW_bad (by simp [Lx.textW,hq])]
  rw [show ts 1 r=0 by simp [ts,hq]] at T
  have K:=firstText_none s w hs T
  simpa [Lx.textW,hq] using K
 ·rw [ts_yes 1 hq] at T
  obtain ⟨q1,q2⟩:=Lx.qt_take r hq
  have hx:(s.extract 0 (1 + (Lx.qt r).2.1)).data.toList=quo (Lx.qt r).1:=by
   rw [take_str,h,Nat.add_comm,List.take_succ_cons,q1]; rfl
  have RV:∀ w',Below w.heap.size w w'→Calls Tryz.prog 130 #[.string (s.extract 0 (1 + (Lx.qt r).2.1))] w' fun e w''=>e=.returned (out (if (Lx.qt r).1.length≤200 then ⟨2,0,(Lx.qt r).1,0⟩ else ⟨0,0,[],7⟩))∧Below w'.heap.size w' w'':=fun w' hb=>by
   have:=vread_any (s.extract 0 (1 + (Lx.qt r).2.1)) w' a m (hv.below hb) (by rw [take_size _ _ (by omega)]; omega)
   rwa [hx,Lx.told_text] at this
  by_cases h2:(Lx.qt r).1.length≤200
  ·rw [if_pos h2] at RV
   have h2':¬ 200 < (Lx.qt r).1.length:=by omega
   rw [outW_ok (by simp [Lx.textW,hq]; omega)]
   have K:=firstText_ok s w hs _ (by omega) (by omega) T _ _ _ RV
   simp only [Lx.textW,hq]
   rw [Nat.add_comm (Lx.qt r).2.1 1]
   exact K
  ·rw [if_neg h2] at RV
   have h2':200 < (Lx.qt r).1.length:=by omega
   rw [outW_bad (by simp [Lx.textW,hq,h2'])]
   have K:=firstText_long s w hs _ (by omega) (by omega) T _ _ _ 7 (by decide) RV
   simpa [Lx.textW,hq,h2'] using K
theorem firstMark_none (s:ByteArray) (w:World) (hs:s.size≤6000) (T:∀ w,Calls Tryz.prog 132 #[.string s] w fun e w'=>e=.returned (.int .i64 0)∧w'=w) :
  Calls Tryz.prog 107 #[.string s] w fun e w'=>e=.returned (.tuple #[wd 0 ⟨#[]⟩ 0,.int .i64 7])∧Below w.heap.size w w':=by
 have R0:=hid (RowW.new w 119 0 0 ⟨#[]⟩)
 have B0:=hid ((Below.refl w.heap.size w).alloc (Nat.le_refl _) (.cells #[.int .i64 0,.string ⟨#[]⟩,.int .i64 0] 119))
 have T:=hid T
 go_enter Tryz.func107,Tryz.ntmps107
 go_wp2_with fail
 refine (T.out _).mono ?_
 rintro e w' ⟨rfl,rfl⟩
 go_wp2
 exact bodyPost_ret (v:=.tuple #[wd 0 ⟨#[]⟩ 0,.int .i64 7]) (by simp [results,Tryz.results107,go_sem]) rfl ⟨rfl,(Below.refl _ _).alloc (Nat.le_refl _) _⟩
theorem firstMark_ok (s:ByteArray) (w:World) (hs:s.size≤6000) (n:Nat) (h1:1≤n) (hn:n≤s.size) (T:∀ w,Calls Tryz.prog 132 #[.string s] w fun e w'=>e=.returned (.int .i64 (n:Nat))∧w'=w) :
  Calls Tryz.prog 107 #[.string s] w fun e w'=>e=.returned (.tuple #[wd 5 (s.extract 0 n) (n:Int),.int .i64 0])∧Below w.heap.size w w':=by
 have R0:=hid (RowW.new w 119 0 0 ⟨#[]⟩)
 have B0:=hid ((Below.refl w.heap.size w).alloc (Nat.le_refl _) (.cells #[.int .i64 0,.string ⟨#[]⟩,.int .i64 0] 119))
 have T:=hid T
 have hn3:(n:Int)≤s.size:=by omega
 have hs2:(s.size:Int)≤6000:=by omega
 have hz:((n:Int) == 0)=false:=by rw [beq_eq_false_iff_ne]; omega
 go_enter Tryz.func107,Tryz.ntmps107
 go_wp2_with fail
 refine (T.out _).mono ?_
 rintro e w' ⟨rfl,rfl⟩
 go_wp2
 exact bodyPost_ret (v:=.tuple #[wd 5 (s.extract 0 n) (n:Int),.int .i64 0]) (by simp [results,Tryz.results107,go_sem]) rfl ⟨rfl,(Below.refl _ _).alloc (Nat.le_refl _) _⟩
def markW (c:UInt8) (r:List UInt8):Lx.Wd:=if Lx.pre2 c && r.head? == some 61 then ⟨5,2,[c,61],0⟩ else ⟨5,1,[c],if Lx.single c then 0 else 7⟩
theorem firstMark_any (s:ByteArray) (w:World) (hs:s.size≤6000) (c:UInt8) (r:List UInt8) (h:s.data.toList=c :: r) :
  Calls Tryz.prog 107 #[.string s] w fun e w'=>e=.returned (outW (markW c r))∧Below w.heap.size w w':=by
 have hlen:s.size=r.length + 1:=by rw [← list_size,h]; rfl
 have T:=fun w=>markSize_any s w c r h
 cases hp:(Lx.pre2 c && r.head? == some 61)
 ·cases hs1:Lx.single c
  ·rw [show ms c r=0 by simp only [ms,hp,hs1]; rfl] at T
   have e:markW c r=⟨5,1,[c],7⟩:=by simp only [markW,hp,hs1]; rfl
   rw [e,outW_bad (show (7:Nat) ≠ 0 by decide)]
   exact firstMark_none s w hs T
  ·rw [show ms c r=1 by simp only [ms,hp,hs1]; rfl] at T
   have e:markW c r=⟨5,1,[c],0⟩:=by simp only [markW,hp,hs1]; rfl
   rw [e,outW_ok rfl]
   have K:=firstMark_ok s w hs 1 (by omega) (by omega) T
   have ex:s.extract 0 1=str [c]:=by
    apply ByteArray.ext
    apply Array.ext'
    rw [take_str,h]; rfl
   rw [ex] at K
   exact K
 ·have hr:r.head?=some 61:=by
   simp only [Bool.and_eq_true,beq_iff_eq] at hp
   exact hp.2
  obtain ⟨r',hr'⟩:∃ r',r=61 :: r':=by
   cases r with
   | nil=>cases hr
   | cons d r=>cases hr; exact ⟨r,rfl⟩
  rw [show ms c r=2 by simp only [ms,hp]; rfl] at T
  have e:markW c r=⟨5,2,[c,61],0⟩:=by simp only [markW,hp]; rfl
  rw [e,outW_ok rfl]
  have K:=firstMark_ok s w hs 2 (by omega) (by rw [hlen,hr']; simp) T
  have ex:s.extract 0 2=str [c,61]:=by
   apply ByteArray.ext
   apply Array.ext'
   rw [take_str,h,hr']; rfl
  rw [ex] at K
  exact K
end Go.Proofs.YteghhmomhlnccaaGreatDoor
namespace Go.Proofs.YteghhmomhlnccaaGreatDoor
theorem first_name (s:ByteArray) (w:World) (n1:Nat) (hn1:0 < n1) (R1:∀ w,Calls Tryz.prog 103 #[.string s,.string ⟨#[97,98,99,100,101,102,103,104,105,106,107,108,109,110,111,112,113,114,115,116,117,118,119,120,121,122]⟩] w fun e w'=>e=.returned (.int .i64 (n1:Nat))∧Below w.heap.size w w') (k n:Int) (t:ByteArray) (x:Int) (F:∀ w',Below w.heap.size w w'→Calls Tryz.prog 104 #[.string s] w' fun e w''=>e=.returned (.tuple #[wd k t n,.int .i64 x])∧Below w'.heap.size w' w'') :
  Calls Tryz.prog 79 #[.string s] w fun e w'=>e=.returned (.tuple #[wd k t n,.int .i64 x])∧Below w.heap.size w w':=by
 have R0:=hid (RowW.new w 119 0 0 ⟨#[]⟩)
 have B0:=hid ((Below.refl w.heap.size w).alloc (Nat.le_refl _) (.cells #[.int .i64 0,.string ⟨#[]⟩,.int .i64 0] 119))
 have F:=hid F
 have Q1:=hid R1
 clear R1
 have hi:(0:Int) < (n1:Int):=by omega
 go_enter Tryz.func79,Tryz.ntmps79
 go_wp2_with fail
 refine (Q1.out _).mono ?_
 rintro e w1 ⟨rfl,hb1⟩
 have R1:=hid (R0.out.below hb1 R0.out.lt)
 have B1:=hid (bstep B0.out hb1)
 clear hb1 R0 B0
 go_wp2_with fail
 refine (F.out _ B1.out).mono ?_
 rintro e w3 ⟨rfl,hb3⟩
 have R3:=hid (R1.out.below hb3 R1.out.lt)
 have B3:=hid (bstep B1.out hb3)
 clear hb3 R1 B1
 obtain ⟨d1,d2,d3⟩:=R3.out.cells
 have f0:=R3.out.frozen 0
 have f1:=R3.out.frozen 1
 have f2:=R3.out.frozen 2
 go_wp2
 obtain ⟨W,hW,hb,hq⟩:=word_end R3.out B3.out (Nat.le_refl _) k n t
 rw [← hW]
 obtain ⟨q1,q2,q3⟩:=hq.cells
 exact bodyPost_ret (v:=.tuple #[wd k t n,.int .i64 x]) (by simp [results,Tryz.results79,go_sem,q1,q2,q3]) rfl ⟨rfl,hb⟩
theorem first_num (s:ByteArray) (w:World) (R1:∀ w,Calls Tryz.prog 103 #[.string s,.string ⟨#[97,98,99,100,101,102,103,104,105,106,107,108,109,110,111,112,113,114,115,116,117,118,119,120,121,122]⟩] w fun e w'=>e=.returned (.int .i64 0)∧Below w.heap.size w w') (n2:Nat) (hn2:0 < n2) (R2:∀ w,Calls Tryz.prog 103 #[.string s,.string ⟨#[48,49,50,51,52,53,54,55,56,57]⟩] w fun e w'=>e=.returned (.int .i64 (n2:Nat))∧Below w.heap.size w w') (k n:Int) (t:ByteArray) (x:Int) (F:∀ w',Below w.heap.size w w'→Calls Tryz.prog 105 #[.string s] w' fun e w''=>e=.returned (.tuple #[wd k t n,.int .i64 x])∧Below w'.heap.size w' w'') :
  Calls Tryz.prog 79 #[.string s] w fun e w'=>e=.returned (.tuple #[wd k t n,.int .i64 x])∧Below w.heap.size w w':=by
 have R0:=hid (RowW.new w 119 0 0 ⟨#[]⟩)
 have B0:=hid ((Below.refl w.heap.size w).alloc (Nat.le_refl _) (.cells #[.int .i64 0,.string ⟨#[]⟩,.int .i64 0] 119))
 have F:=hid F
 have Q1:=hid R1
 clear R1
 have Q2:=hid R2
 clear R2
 have hi:(0:Int) < (n2:Int):=by omega
 go_enter Tryz.func79,Tryz.ntmps79
 go_wp2_with fail
 refine (Q1.out _).mono ?_
 rintro e w1 ⟨rfl,hb1⟩
 have R1:=hid (R0.out.below hb1 R0.out.lt)
 have B1:=hid (bstep B0.out hb1)
 clear hb1 R0 B0
 go_wp2_with fail
 refine (Q2.out _).mono ?_
 rintro e w2 ⟨rfl,hb2⟩
 have R2:=hid (R1.out.below hb2 R1.out.lt)
 have B2:=hid (bstep B1.out hb2)
 clear hb2 R1 B1
 go_wp2_with fail
 refine (F.out _ B2.out).mono ?_
 rintro e w3 ⟨rfl,hb3⟩
 have R3:=hid (R2.out.below hb3 R2.out.lt)
 have B3:=hid (bstep B2.out hb3)
 clear hb3 R2 B2
 obtain ⟨d1,d2,d3⟩:=R3.out.cells
 have f0:=R3.out.frozen 0
 have f1:=R3.out.frozen 1
 have f2:=R3.out.frozen 2
 go_wp2
 obtain ⟨W,hW,hb,hq⟩:=word_end R3.out B3.out (Nat.le_refl _) k n t
 rw [← hW]
 obtain ⟨q1,q2,q3⟩:=hq.cells
 exact bodyPost_ret (v:=.tuple #[wd k t n,.int .i64 x]) (by simp [results,Tryz.results79,go_sem,q1,q2,q3]) rfl ⟨rfl,hb⟩
theorem first_text (s:ByteArray) (w:World) (R1:∀ w,Calls Tryz.prog 103 #[.string s,.string ⟨#[97,98,99,100,101,102,103,104,105,106,107,108,109,110,111,112,113,114,115,116,117,118,119,120,121,122]⟩] w fun e w'=>e=.returned (.int .i64 0)∧Below w.heap.size w w') (R2:∀ w,Calls Tryz.prog 103 #[.string s,.string ⟨#[48,49,50,51,52,53,54,55,56,57]⟩] w fun e w'=>e=.returned (.int .i64 0)∧Below w.heap.size w w') (h0:0 < s.size) (b:((s[0].toNat:Int) == 39)=true) (k n:Int) (t:ByteArray) (x:Int) (F:∀ w',Below w.heap.size w w'→Calls Tryz.prog 106 #[.string s] w' fun e w''=>e=.returned (.tuple #[wd k t n,.int .i64 x])∧Below w'.heap.size w' w'') :
  Calls Tryz.prog 79 #[.string s] w fun e w'=>e=.returned (.tuple #[wd k t n,.int .i64 x])∧Below w.heap.size w w':=by
 have R0:=hid (RowW.new w 119 0 0 ⟨#[]⟩)
 have B0:=hid ((Below.refl w.heap.size w).alloc (Nat.le_refl _) (.cells #[.int .i64 0,.string ⟨#[]⟩,.int .i64 0] 119))
 have F:=hid F
 have Q1:=hid R1
 clear R1
 have Q2:=hid R2
 clear R2
 have hi:(0:Int) < (s.size:Int):=by omega
 go_enter Tryz.func79,Tryz.ntmps79
 go_wp2_with fail
 refine (Q1.out _).mono ?_
 rintro e w1 ⟨rfl,hb1⟩
 have R1:=hid (R0.out.below hb1 R0.out.lt)
 have B1:=hid (bstep B0.out hb1)
 clear hb1 R0 B0
 go_wp2_with fail
 refine (Q2.out _).mono ?_
 rintro e w2 ⟨rfl,hb2⟩
 have R2:=hid (R1.out.below hb2 R1.out.lt)
 have B2:=hid (bstep B1.out hb2)
 clear hb2 R1 B1
 go_wp2_with fail
 refine (F.out _ B2.out).mono ?_
 rintro e w3 ⟨rfl,hb3⟩
 have R3:=hid (R2.out.below hb3 R2.out.lt)
 have B3:=hid (bstep B2.out hb3)
 clear hb3 R2 B2
 obtain ⟨d1,d2,d3⟩:=R3.out.cells
 have f0:=R3.out.frozen 0
 have f1:=R3.out.frozen 1
 have f2:=R3.out.frozen 2
 go_wp2
 obtain ⟨W,hW,hb,hq⟩:=word_end R3.out B3.out (Nat.le_refl _) k n t
 rw [← hW]
 obtain ⟨q1,q2,q3⟩:=hq.cells
 exact bodyPost_ret (v:=.tuple #[wd k t n,.int .i64 x]) (by simp [results,Tryz.results79,go_sem,q1,q2,q3]) rfl ⟨rfl,hb⟩
theorem first_mark (s:ByteArray) (w:World) (R1:∀ w,Calls Tryz.prog 103 #[.string s,.string ⟨#[97,98,99,100,101,102,103,104,105,106,107,108,109,110,111,112,113,114,115,116,117,118,119,120,121,122]⟩] w fun e w'=>e=.returned (.int .i64 0)∧Below w.heap.size w w') (R2:∀ w,Calls Tryz.prog 103 #[.string s,.string ⟨#[48,49,50,51,52,53,54,55,56,57]⟩] w fun e w'=>e=.returned (.int .i64 0)∧Below w.heap.size w w') (h0:0 < s.size) (b:((s[0].toNat:Int) == 39)=false) (k n:Int) (t:ByteArray) (x:Int) (F:∀ w',Below w.heap.size w w'→Calls Tryz.prog 107 #[.string s] w' fun e w''=>e=.returned (.tuple #[wd k t n,.int .i64 x])∧Below w'.heap.size w' w'') :
  Calls Tryz.prog 79 #[.string s] w fun e w'=>e=.returned (.tuple #[wd k t n,.int .i64 x])∧Below w.heap.size w w':=by
 have R0:=hid (RowW.new w 119 0 0 ⟨#[]⟩)
 have B0:=hid ((Below.refl w.heap.size w).alloc (Nat.le_refl _) (.cells #[.int .i64 0,.string ⟨#[]⟩,.int .i64 0] 119))
 have F:=hid F
 have Q1:=hid R1
 clear R1
 have Q2:=hid R2
 clear R2
 have hi:(0:Int) < (s.size:Int):=by omega
 go_enter Tryz.func79,Tryz.ntmps79
 go_wp2_with fail
 refine (Q1.out _).mono ?_
 rintro e w1 ⟨rfl,hb1⟩
 have R1:=hid (R0.out.below hb1 R0.out.lt)
 have B1:=hid (bstep B0.out hb1)
 clear hb1 R0 B0
 go_wp2_with fail
 refine (Q2.out _).mono ?_
 rintro e w2 ⟨rfl,hb2⟩
 have R2:=hid (R1.out.below hb2 R1.out.lt)
 have B2:=hid (bstep B1.out hb2)
 clear hb2 R1 B1
 go_wp2_with fail
 refine (F.out _ B2.out).mono ?_
 rintro e w3 ⟨rfl,hb3⟩
 have R3:=hid (R2.out.below hb3 R2.out.lt)
 have B3:=hid (bstep B2.out hb3)
 clear hb3 R2 B2
 obtain ⟨d1,d2,d3⟩:=R3.out.cells
 have f0:=R3.out.frozen 0
 have f1:=R3.out.frozen 1
 have f2:=R3.out.frozen 2
 go_wp2
 obtain ⟨W,hW,hb,hq⟩:=word_end R3.out B3.out (Nat.le_refl _) k n t
 rw [← hW]
 obtain ⟨q1,q2,q3⟩:=hq.cells
 exact bodyPost_ret (v:=.tuple #[wd k t n,.int .i64 x]) (by simp [results,Tryz.results79,go_sem,q1,q2,q3]) rfl ⟨rfl,hb⟩
theorem outW_tuple (x:Lx.Wd):∃ (k n:Int) (t:ByteArray) (e:Int),outW x=.tuple #[wd k t n,.int .i64 e]:=by
 unfold outW
 split
 ·exact ⟨_,_,_,_,rfl⟩
 ·exact ⟨_,_,_,_,rfl⟩
theorem first_any (s:ByteArray) (w:World) (a:Addr) (m:Int) (hv:Env w a m) (hs:s.size≤6000) (c:UInt8) (r:List UInt8) (h:s.data.toList=c :: r) :
  Calls Tryz.prog 79 #[.string s] w fun e w'=>e=.returned (outW (Lx.word (c :: r)))∧Below w.heap.size w w':=by
 have h0:0 < s.size:=by rw [← list_size,h]; simp
 have hc:s[0]=c:=by
  have:s.data.toList[0]?=some c:=by rw [h]; rfl
  rw [List.getElem?_eq_getElem (by simpa using h0)] at this
  injection this
 have R1:=fun w=>run_small s w hs
 have R2:=fun w=>run_digits s w hs
 by_cases h1:Lx.low c=true
 ·have hw:Lx.word (c :: r)=Lx.nameW (c :: r.takeWhile Lx.nm):=by simp only [Lx.word,if_pos h1]
  have hnm:Lx.nm c=true:=by simp [Lx.nm,h1]
  have F:=fun w' (hb:Below w.heap.size w w')=>firstName_any s w' hs
  rw [h,List.takeWhile_cons_of_pos hnm,← hw] at F
  obtain ⟨k,n,t,e,ho⟩:=outW_tuple (Lx.word (c :: r))
  rw [ho] at F ⊢
  exact first_name s w _ (by rw [h,List.takeWhile_cons_of_pos h1]; simp) R1 k n t e F
 ·have hz1:(s.data.toList.takeWhile Lx.low).length=0:=by rw [h,List.takeWhile_cons_of_neg h1]; rfl
  rw [hz1] at R1
  by_cases h2:dig c=true
  ·have hw:Lx.word (c :: r)=Lx.numW (c :: r.takeWhile dig):=by simp only [Lx.word,if_neg h1,if_pos h2]
   have F:=fun w' (hb:Below w.heap.size w w')=>firstNumber_any s w' a m (hv.below hb) hs
   rw [h,List.takeWhile_cons_of_pos h2,← hw] at F
   obtain ⟨k,n,t,e,ho⟩:=outW_tuple (Lx.word (c :: r))
   rw [ho] at F ⊢
   exact first_num s w R1 _ (by rw [h,List.takeWhile_cons_of_pos h2]; simp) R2 k n t e F
  ·have hz2:(s.data.toList.takeWhile dig).length=0:=by rw [h,List.takeWhile_cons_of_neg h2]; rfl
   rw [hz2] at R2
   by_cases h3:c=39
   ·have hw:Lx.word (c :: r)=Lx.textW (Lx.qt r):=by simp only [Lx.word,if_neg h1,if_neg h2,if_pos h3]
    have F:=fun w' (hb:Below w.heap.size w w')=>firstText_any s w' a m (hv.below hb) hs r (by rw [h,h3])
    rw [← hw] at F
    obtain ⟨k,n,t,e,ho⟩:=outW_tuple (Lx.word (c :: r))
    rw [ho] at F ⊢
    exact first_text s w R1 R2 h0 (by rw [hc,beq_iff_eq]; exact u8_eq.2 h3) k n t e F
   ·have hw:Lx.word (c :: r)=markW c r:=by simp only [Lx.word,if_neg h1,if_neg h2,if_neg h3,markW]
    have F:=fun w' (hb:Below w.heap.size w w')=>firstMark_any s w' hs c r h
    rw [← hw] at F
    obtain ⟨k,n,t,e,ho⟩:=outW_tuple (Lx.word (c :: r))
    rw [ho] at F ⊢
    exact first_mark s w R1 R2 h0 (by rw [hc,beq_eq_false_iff_ne]; exact fun e=>h3 (u8_eq.1 e)) k n t e F
end Go.Proofs.YteghhmomhlnccaaGreatDoor
namespace Go.Proofs.YteghhmomhlnccaaGreatDoor
abbrev flt (c p:Int):Value:=.agg #[.int .i64 c,.int .i64 p]
def encT (T:List Lx.Tk):List Value:=T.flatMap fun t=>[.int .i64 (t.kind:Nat),.string (str t.text),.int .i64 (t.at_:Nat)]
theorem encT_append (T U:List Lx.Tk):encT (T ++ U)=encT T ++ encT U:=by simp [encT]
theorem encT_at:∀ (T:List Lx.Tk) (i:Nat) (h:i < T.length),(encT T)[i * 3]?=some (.int .i64 (T[i].kind:Nat))∧(encT T)[i * 3 + 1]?=some (.string (str T[i].text))∧(encT T)[i * 3 + 2]?=some (.int .i64 (T[i].at_:Nat))
 | [],i,h=>absurd h (by simp)
 | x :: T,0,h=>⟨rfl,rfl,rfl⟩
 | x :: T,i + 1,h=>by
  have:=encT_at T i (by simpa using h)
  have e:encT (x :: T)=Value.int .i64 (x.kind:Nat) :: .string (str x.text) :: .int .i64 (x.at_:Nat) :: encT T:=rfl
  rw [e]
  have e0:(i + 1) * 3=i * 3 + 1 + 1 + 1:=by omega
  rw [e0]
  simp only [List.getElem?_cons_succ,List.getElem_cons_succ]
  exact this
theorem cell?_setCell_far {w:World} {b j g k:Nat} {v:Value} (h:b ≠ g):(w.setCell ⟨g,k,none⟩ v).cell? ⟨b,j,none⟩=w.cell? ⟨b,j,none⟩:=by
 have:=Below.heap_setCell w ⟨g,k,none⟩ v b h
 simp only [World.cell?,this]
def TAt (w:World) (a:Option Addr) (T:List Lx.Tk):Prop:=∀ i (h:i < T.length),∃ b off,a=some ⟨b,off,none⟩∧b < w.heap.size∧w.cell? ⟨b,off + i * 3,none⟩=some (.int .i64 (T[i].kind:Nat))∧w.cell? ⟨b,off + i * 3 + 1,none⟩=some (.string (str T[i].text))∧w.cell? ⟨b,off + i * 3 + 2,none⟩=some (.int .i64 (T[i].at_:Nat))
theorem TAt.below {w w':World} {a:Option Addr} {T:List Lx.Tk} (h:TAt w a T) (hb:Below w.heap.size w w'):TAt w' a T:=fun i hi=>by
 obtain ⟨b,off,h1,h2,h3,h4,h5⟩:=h i hi
 exact ⟨b,off,h1,Nat.lt_of_lt_of_le h2 hb.size,(hb.cell h2).trans h3,(hb.cell h2).trans h4,(hb.cell h2).trans h5⟩
theorem TAt.setCell {w:World} {a:Option Addr} {T:List Lx.Tk} (h:TAt w a T) (g k:Nat) (v:Value) (hg:∀ b o,a=some ⟨b,o,none⟩→b ≠ g):TAt (w.setCell ⟨g,k,none⟩ v) a T:=fun i hi=>by
 obtain ⟨b,off,h1,h2,h3,h4,h5⟩:=h i hi
 have e:=fun j=>cell?_setCell_far (w:=w) (b:=b) (j:=j) (g:=g) (k:=k) (v:=v) (hg b off h1)
 exact ⟨b,off,h1,by simpa using h2,(e _).trans h3,(e _).trans h4,(e _).trans h5⟩
def TRow (w:World) (base:Nat) (v:Value) (T:List Lx.Tk):Prop:=w.ownsRow base 87 3 v T.length (encT T)
theorem TRow.shape {w:World} {base:Nat} {v:Value} {T:List Lx.Tk} (h:TRow w base v T):∃ A c,v=.slice A T.length c∧T.length≤c∧TAt w A T∧∀ b o,A=some ⟨b,o,none⟩→base≤b:=by
 obtain ⟨_,h2⟩:=h
 rcases h2 with ⟨rfl,h0⟩ | ⟨g,cap,cur,rfl,hb,hh,hn,hm,hs,ht⟩
 ·exact ⟨none,0,by rw [h0],by omega,fun i hi=>absurd hi (by omega),fun b o e=>by cases e⟩
 ·refine ⟨_,cap,rfl,hn,fun i hi=>⟨g,0,rfl,(Array.getElem?_eq_some_iff.1 hh).1,?_⟩,fun b o e=>by cases e; exact hb⟩
  obtain ⟨k0,k1,k2⟩:=encT_at T i hi
  have key:∀ j u,j < T.length * 3→(encT T)[j]?=some u→w.cell? ⟨g,0 + j,none⟩=some u:=by
   intro j u hj hu
   rw [Nat.zero_add,cell_of_row w g j cur 87 (0,0) hh,← hu,← ht,List.getElem?_take,if_pos hj]
   simp
  exact ⟨key _ _ (by omega) k0,key _ _ (by omega) k1,key _ _ (by omega) k2⟩
theorem TRow.below {w w':World} {base:Nat} {v:Value} {T:List Lx.Tk} (h:TRow w base v T) (hb:Below w.heap.size w w'):TRow w' base v T:=by
 obtain ⟨h1,h2⟩:=h
 refine ⟨h1,h2.imp id ?_⟩
 rintro ⟨g,cap,cur,hv,hg,hh,r⟩
 exact ⟨g,cap,cur,hv,hg,(hb.block g (Array.getElem?_eq_some_iff.1 hh).1).trans hh,r⟩
theorem TRow.block {w:World} {base:Nat} {v:Value} {T:List Lx.Tk} (h:TRow w base v T):∀ k,v.ownBlock=some k→base≤k∧k < w.heap.size:=by
 rcases h.2 with ⟨rfl,_⟩ | ⟨g,cap,cur,rfl,hb,hh,_⟩
 ·intro k e; simp [Value.ownBlock] at e
 ·intro k e
  simp [Value.ownBlock] at e
  subst e
  exact ⟨hb,(Array.getElem?_eq_some_iff.1 hh).1⟩
theorem TRow.nil (w:World) (base:Nat):TRow w base (.slice none 0 0) []:=⟨rfl,.inl ⟨rfl,rfl⟩⟩
theorem TRow.new (w:World):TRow (w.alloc (.cells #[] 87)) w.heap.size (.slice (some ⟨w.heap.size,0,none⟩) 0 0) []:=
 ⟨rfl,.inr ⟨w.heap.size,0,#[],rfl,Nat.le_refl _,heap_alloc_new w _,Nat.le_refl _,Nat.zero_le _,rfl,rfl⟩⟩
theorem TRow.le {w:World} {base base':Nat} {v:Value} {T:List Lx.Tk} (h:TRow w base v T) (hb:base'≤base):TRow w base' v T:=
 ⟨h.1,h.2.imp id fun ⟨g,cap,cur,hv,hg,r⟩=>⟨g,cap,cur,hv,Nat.le_trans hb hg,r⟩⟩
theorem zeroTok:(Tryz.prog.info? 87).map (fun i=>(i.zero.map (fun z=>z.cells.size),i.size,decide (i.bytes≤1000)))=some (some 3,3,true):=by kernel_rfl
abbrev tokObj (x:Lx.Tk):Obj:=.cells #[.int .i64 (x.kind:Nat),.string (str x.text),.int .i64 (x.at_:Nat)] 87
theorem append_tok {w:World} {base:Nat} {v:Value} {T:List Lx.Tk} (h:TRow w base v T) (x:Lx.Tk) (hn:T.length≤10000) (hbase:base≤w.heap.size) :
  ∃ v' w',Sem.run Tryz.prog (Builtin.append_ #[81,81] 81 #[v,.slice (some ⟨w.heap.size,0,none⟩) 1 1]) (w.alloc (tokObj x))=.ok v' w'∧TRow w' base v' (T ++ [x])∧(w.alloc (tokObj x)).grownBy w' v.ownBlock:=by
 have hinf:=zeroTok
 cases hi:Tryz.prog.info? 87 with
 | none=>rw [hi] at hinf; simp at hinf
 | some i=>
  rw [hi] at hinf
  simp at hinf
  obtain ⟨⟨z,hz,i1⟩,i2,i3⟩:=hinf
  have hb:∀ (a b:Nat),a≤10001→b≤1000→a * b≤140737488355328:=fun a b h1 h2=>Nat.le_trans (Nat.mul_le_mul h1 h2) (by omega)
  obtain ⟨v',w',hr,ho,hg,_,_⟩:=run_append_own_at (P:=Tryz.prog) (w.alloc (tokObj x)) base 81 81 87 i z 3 i.bytes Tryz.underlying81 hi hz i2 rfl i1 (by omega) v T.length (encT T) (h.below ((Below.refl _ _).alloc (Nat.le_refl _) _)) ⟨w.heap.size,0,none⟩ 1 1 (encT [x]) rfl (by
   intro j u hu
   rw [Addr.add_lit,Nat.zero_add,cell_of_row _ w.heap.size j #[.int .i64 (x.kind:Nat),.string (str x.text),.int .i64 (x.at_:Nat)] 87 (0,0) (heap_alloc_new w _),← hu,show encT [x]=[Value.int .i64 (x.kind:Nat),.string (str x.text),.int .i64 (x.at_:Nat)] from rfl]
   simp) (by
   intro u hu
   simp [encT] at hu
   rcases hu with rfl | rfl | rfl <;> rfl) (by simp only [maxLen]; omega) (hb _ _ (by omega) i3) (by simp; omega)
  refine ⟨v',w',hr,?_,hg⟩
  unfold TRow
  rw [List.length_append,encT_append]
  exact ho
def LexOk (w:World) (T:List Lx.Tk) (e:Ending) (w':World):Prop:=∃ A c,e=.returned (.tuple #[.slice A T.length c,flt 0 0])∧T.length≤c∧TAt w' A T∧Below w.heap.size w w'∧∀ b o,A=some ⟨b,o,none⟩→w.heap.size≤b
def LexBad (w:World) (c p:Int) (e:Ending) (w':World):Prop:=e=.returned (.tuple #[.slice none 0 0,flt c p])∧Below w.heap.size w w'
namespace Lx
def Out.puts (A:List Tk):Out→Out
 | .ok l=>.ok (A ++ l)
 | .bad c a=>.bad c a
theorem puts_nil (o:Out):o.puts []=o:=by cases o <;> rfl
theorem puts_put (A:List Tk) (t:Tk) (o:Out):(o.put t).puts A=o.puts (A ++ [t]):=by cases o <;> simp [Out.puts,Out.put]
def At (l:List UInt8) (A:List Tk) (p:Nat):Prop:=lx l=(lexF (l.length + 1) p (l.drop p)).puts A∧sk false (l.drop p)=l.drop p∧p≤l.length∧A.length≤p
theorem At.start {l:List UInt8} (h:l.length≤4000):At l [] (btw l):=by
 refine ⟨?_,?_,btw_le l,Nat.zero_le _⟩
 ·rw [puts_nil,lx,if_neg (by omega),lex_sk _ _ _ (Nat.lt_succ_self _),Nat.zero_add,btw_drop]
 ·rw [btw_drop,sk_sk]
theorem At.done {l:List UInt8} {A:List Tk} {p:Nat} (h:At l A p) (hp:p=l.length):lx l=.ok (A ++ [⟨0,[],l.length⟩]):=by
 obtain ⟨h1,-⟩:=h
 rw [h1,hp,List.drop_length]
 rfl
theorem At.next {l:List UInt8} {A:List Tk} {p:Nat} {c:UInt8} {r:List UInt8} (h:At l A p) (hd:l.drop p=c :: r) :
  ((word (c :: r)).err ≠ 0→lx l=.bad (word (c :: r)).err p) ∧
  ((word (c :: r)).err=0→1≤(word (c :: r)).n∧p + (word (c :: r)).n≤l.length ∧
   At l (A ++ [⟨(word (c :: r)).kind,(word (c :: r)).text,p⟩]) (p + (word (c :: r)).n + btw (l.drop (p + (word (c :: r)).n)))):=by
 obtain ⟨h1,h2,h3,h4⟩:=h
 have hh:=sk_head false (l.drop p) (c:=c) (r:=r) (by rw [h2,hd])
 have hlen:l.length - p=r.length + 1:=by have:=congrArg List.length hd; simpa using this
 refine ⟨fun he=>?_,fun he=>?_⟩
 ·rw [h1,hd,lex_bad _ _ _ hh.1 hh.2 he]; rfl
 ·have hw:=word_ok c r he
  generalize hn:(word (c :: r)).n=n at *
  have hdn:l.drop (p + n)=(c :: r).drop n:=by rw [← hd,List.drop_drop]
  have hb:=btw_le (l.drop (p + n))
  rw [List.length_drop] at hb
  have hdd:l.drop (p + n + btw (l.drop (p + n)))=sk false (l.drop (p + n)):=List.drop_drop.symm.trans (btw_drop _)
  refine ⟨hw.1,by omega,?_,?_,by omega,by simp; omega⟩
  ·rw [h1,hd,lex_word _ _ _ hh.1 hh.2 he,puts_put,hn,← hdn]
   congr 1
   rw [hdd,lex_sk _ _ _ (show (l.drop (p + n)).length < l.length by rw [List.length_drop]; omega)]
   have hs:=sk_le false (l.drop (p + n))
   rw [List.length_drop] at hs
   exact lex_fuel _ _ _ _ (by omega) (by omega)
  ·rw [hdd,sk_sk]
end Lx
end Go.Proofs.YteghhmomhlnccaaGreatDoor
namespace Go.Proofs.YteghhmomhlnccaaGreatDoor
def LexPost (w:World) (o:Lx.Out) (e:Ending) (w':World):Prop:=match o with
 | .ok T=>LexOk w T e w'
 | .bad c p=>LexBad w (c:Nat) (p:Nat) e w'
theorem LexPost.ok {w:World} {o:Lx.Out} {T:List Lx.Tk} {e:Ending} {w':World} (h:o=.ok T) (k:LexOk w T e w'):LexPost w o e w':=by rw [h]; exact k
theorem LexPost.bad {w:World} {o:Lx.Out} {c p:Nat} {e:Ending} {w':World} (h:o=.bad c p) (k:LexBad w (c:Nat) (p:Nat) e w'):LexPost w o e w':=by rw [h]; exact k
theorem drop_str (s:ByteArray) (n:Nat):(s.extract n s.size).data.toList=s.data.toList.drop n:=by
 simp
 rw [List.take_of_length_le]; simp
theorem drop_size (s:ByteArray) (n:Nat):(s.extract n s.size).size=s.size - n:=by simp
theorem fault_end {w W:World} {g:Nat} {c0 p0:Int} (h:Whole W g 54 #[.int .i64 c0,.int .i64 p0]) (hb:Below w.heap.size w W) (hg:w.heap.size≤g) (c p:Int) :
  ∃ W',W'=(W.setCell ⟨g,0,none⟩ (.int .i64 c)).setCell ⟨g,1,none⟩ (.int .i64 p)∧Below w.heap.size w W'∧W'.cell? ⟨g,0,none⟩=some (.int .i64 c)∧W'.cell? ⟨g,1,none⟩=some (.int .i64 p):=by
 have h2:=(h.set_ 0 (.int .i64 c)).set_ 1 (.int .i64 p)
 exact ⟨_,rfl,(hb.setCell (p:=⟨g,0,none⟩) hg _).setCell (p:=⟨g,1,none⟩) hg _,by rw [h2.cell 0]; rfl,by rw [h2.cell 1]; rfl⟩
theorem lex_long (s:ByteArray) (w:World) (hs:4000 < s.size) :
  Calls Tryz.prog 49 #[.string s] w fun e w'=>LexBad w 3 0 e w':=by
 have hs2:(4000:Int) < (s.size:Int):=by omega
 go_enter Tryz.func49,Tryz.ntmps49
 go_wp2
 exact bodyPost_ret (v:=.tuple #[.slice none 0 0,flt 3 0]) (by simp [results,Tryz.results49,go_sem]) rfl ⟨rfl,(Below.refl _ _).alloc (Nat.le_refl _) _⟩
theorem lex_short (s:ByteArray) (w:World) (a:Addr) (m:Int) (hv:Env w a m) (hs:s.size≤4000) :
  Calls Tryz.prog 49 #[.string s] w fun e w'=>LexPost w (Lx.lx s.data.toList) e w':=by
 have hs2:¬ (4000:Int) < (s.size:Int):=by omega
 have HV:=hid hv
 have b0:Below w.heap.size w (w.alloc (.cells #[.int .i64 0,.int .i64 0] 54)):=(Below.refl _ _).alloc (Nat.le_refl _) _
 have BT:=hid (between_any s m _ (hv.below b0).max (by omega))
 have W0:Hid (Whole (w.alloc (.cells #[.int .i64 0,.int .i64 0] 54)) w.heap.size 54 #[.int .i64 0,.int .i64 0]):=hid (Whole.new _ _ _)
 have B0:=hid b0
 have A0:Hid (Lx.At s.data.toList [] (Lx.btw s.data.toList)):=hid (Lx.At.start (by rw [list_size]; exact hs))
 have hbt:Lx.btw s.data.toList≤s.size:=by have:=Lx.btw_le s.data.toList; rwa [list_size] at this
 clear hv b0
 generalize Lx.btw s.data.toList=p0 at *
 go_enter Tryz.func49,Tryz.ntmps49
 go_wp2_with fail
 refine (BT.out).mono ?_
 rintro e w1 ⟨rfl,hb1⟩
 have B1:=hid (bstep B0.out hb1)
 have W1:=hid (W0.out.below hb1 W0.out.lt)
 clear hb1 B0 W0 BT
 go_wp2_with fail
 go_loopg [4,5] (s.size + 1) (fun j s4 s5 wr=>∃ (p:Nat) (A:List Lx.Tk),p≤s.size∧s.size < p + j∧s5=.int .i64 (p:Nat)∧Hid (Lx.At s.data.toList A p)∧Hid (TRow wr (w.heap.size + 1) s4 A)∧Hid (Below w.heap.size w wr)∧Hid (Whole wr w.heap.size 54 #[.int .i64 0,.int .i64 0]))
 case atStart=>exact ⟨p0,[],hbt,by omega,rfl,A0,hid (TRow.nil _ _),B1,W1⟩
 case round=>
  clear A0 B1 W1 hbt
  obtain ⟨p,A,hp,hj,rfl,HA,HT,HB,HW⟩:=hrel
  by_cases hlt:p < s.size
  ·have hlt':(p:Int) < (s.size:Int):=by omega
   have hp9:(p:Int) < 4001:=by omega
   obtain ⟨c,r,hd⟩:∃ c r,s.data.toList.drop p=c :: r:=⟨_,_,drop_at s p hlt⟩
   have FA:=first_any (s.extract p s.size) wr a m (HV.out.below HB.out) (by rw [drop_size]; omega) c r (by rw [drop_str,hd])
   have HN:=hid (HA.out.next hd)
   by_cases he:(Lx.word (c :: r)).err=0
   ·rw [outW_ok he] at FA
    obtain ⟨n1,n2,n3⟩:=HN.out.2 he
    rw [list_size] at n2
    clear he HN
    generalize Lx.word (c :: r)=x at *
    obtain ⟨K,N,X,E⟩:=x
    dsimp only at FA n1 n2 n3
    have FF:=hid FA
    have hbl:=Lx.btw_le (s.data.toList.drop (p + N))
    rw [List.length_drop,list_size] at hbl
    have N3:=hid n3
    have ht1:A.length≤10000:=by have:=HA.out.2.2.2; omega
    have hN9:(N:Int) < 4001:=by omega
    have hpn:((p:Int) + (N:Int))≤(s.size:Int):=by omega
    clear FA n3 hd HA
    go_wp2_with fail
    refine (FF.out).mono ?_
    rintro e w2 ⟨rfl,hb2⟩
    have bw:Below w2.heap.size w2 (w2.alloc (.cells #[.int .i64 (K:Nat),.string (str X),.int .i64 (N:Nat)] 119)):=(Below.refl _ _).alloc (Nat.le_refl _) _
    have B2:=hid (bstep HB.out hb2)
    have B3:=hid (bstep B2.out bw)
    have W3:=hid ((HW.out.below hb2 HW.out.lt).below bw (Nat.lt_of_lt_of_le HW.out.lt hb2.size))
    have hT3:=(HT.out.below hb2).below bw
    have hown:=HT.out.block
    have hw3:RowW (w2.alloc (.cells #[.int .i64 (K:Nat),.string (str X),.int .i64 (N:Nat)] 119)) w2.heap.size 119 (K:Nat) (str X) (N:Nat):=RowW.new _ _ _ _ _
    obtain ⟨v5,u4,hap,hvr,hgr⟩:=append_tok hT3 ⟨K,X,p⟩ ht1 (by have:=B3.out.size; have:=bw.size; have:=HW.out.lt; have:=hb2.size; simp at *; omega)
    have B4:=hid (below_grown (bstep B3.out ((Below.refl _ _).alloc (Nat.le_refl _) (tokObj ⟨K,X,p⟩))) hgr (fun k hk=>by have:=(hown k hk).1; omega))
    have hw4:RowW u4 w2.heap.size 119 (K:Nat) (str X) (N:Nat):=by
     have h1:=hw3.alloc (tokObj ⟨K,X,p⟩)
     unfold RowW at *
     rw [hgr.block w2.heap.size (Array.getElem?_eq_some_iff.1 h1).1 (fun e=>by have:=(hown _ e.symm).2; have:=hb2.size; omega)]
     exact h1
    have hW4:Whole u4 w.heap.size 54 #[.int .i64 0,.int .i64 0]:=by
     have h1:=Whole.alloc W3.out (tokObj ⟨K,X,p⟩)
     unfold Whole at *
     rw [hgr.block w.heap.size (Array.getElem?_eq_some_iff.1 h1).1 (fun e=>by have:=(hown _ e.symm).1; omega)]
     exact h1
    obtain ⟨e0,e1,e2⟩:=hw4.cells
    rw [World.size_alloc] at hap
    have BT:=hid (between_any (s.extract (p + N) s.size) m u4 (HV.out.below B4.out).max (by rw [drop_size]; omega))
    have HAP:=hid hap
    have HV4:=hid hvr
    have HW4:=hid hW4
    rw [drop_str] at BT
    clear hap hvr hW4 hw4 hw3 hgr hT3 hown bw hb2 B2 B3 W3 HT HB HW
    go_wp2_with (at_builtin; refine Lib.wpList_append_run _ rfl (.tmp 36) (.tmp 43) 81 81 rfl _ _ rfl rfl _ _ HAP.out ?_)
    refine (BT.out).mono ?_
    rintro e w5 ⟨rfl,hb5⟩
    have B5:=hid (bstep B4.out hb5)
    have HV5:=hid (HV4.out.below hb5)
    have HW5:=hid (Whole.below HW4.out hb5 (Whole.lt HW4.out))
    clear hb5 B4 HV4 HW4 HAP BT FF e0 e1 e2
    generalize Lx.btw (s.data.toList.drop (p + N))=q at *
    have hq9:(q:Int) < 4001:=by omega
    have hpn2:((p:Int) + (N:Int) + (q:Int))≤(s.size:Int):=by omega
    go_wp2_with fail
    go_roundg (s.size - p)
    case measure=>omega
    case rel=>exact ⟨p + N + q,A ++ [⟨K,X,p⟩],by omega,by omega,by go_num,N3,HV5,B5,HW5⟩
   ·rw [outW_bad he] at FA
    have HBAD:=hid (HN.out.1 he)
    clear HN
    generalize Lx.word (c :: r)=x at *
    obtain ⟨K,N,X,E⟩:=x
    dsimp only at FA he HBAD
    have FF:=hid FA
    have hE1:((E:Int) == 0)=false:=by rw [beq_eq_false_iff_ne]; omega
    have hE2:((E:Int) != 0)=true:=by rw [bne_iff_ne]; omega
    clear FA hd HA he
    go_wp2_with fail
    refine (FF.out).mono ?_
    rintro e w2 ⟨rfl,hb2⟩
    have bw:Below w2.heap.size w2 (w2.alloc (.cells #[.int .i64 0,.string ⟨#[]⟩,.int .i64 0] 119)):=(Below.refl _ _).alloc (Nat.le_refl _) _
    have B3:=hid (bstep (bstep HB.out hb2) bw)
    have W3:=hid (Whole.below (Whole.below HW.out hb2 (Whole.lt HW.out)) bw (Nat.lt_of_lt_of_le (Whole.lt HW.out) hb2.size))
    have d0:=Whole.cell W3.out 0
    have d1:=Whole.cell W3.out 1
    simp only [List.getElem?_toArray,List.getElem?_cons_zero,List.getElem?_cons_succ] at d0 d1
    have f0:=Whole.frozen W3.out 0
    have f1:=Whole.frozen W3.out 1
    clear bw hb2 HB HW FF
    go_wp2
    obtain ⟨W,hW,hb,q1,q2⟩:=fault_end W3.out B3.out (Nat.le_refl _) (E:Nat) (p:Nat)
    rw [← hW]
    exact bodyPost_ret (v:=.tuple #[.slice none 0 0,flt (E:Nat) (p:Nat)]) (by simp [results,Tryz.results49,go_sem,q1,q2]) rfl (LexPost.bad HBAD.out ⟨rfl,hb⟩)
  ·have hlt':¬ (p:Int) < (s.size:Int):=by omega
   have hpe:p=s.size:=by omega
   have HD:=hid (HA.out.done (by rw [list_size]; exact hpe))
   have ht1:A.length≤10000:=by have:=HA.out.2.2.2; omega
   have hown:=HT.out.block
   obtain ⟨v5,u4,hap,hvr,hgr⟩:=append_tok HT.out ⟨0,[],s.size⟩ ht1 HW.out.lt
   have B4:=hid (below_grown (bstep HB.out ((Below.refl _ _).alloc (Nat.le_refl _) (tokObj ⟨0,[],s.size⟩))) hgr (fun k hk=>by have:=(hown k hk).1; omega))
   have hW4:Whole u4 w.heap.size 54 #[.int .i64 0,.int .i64 0]:=by
    have h1:=Whole.alloc HW.out (tokObj ⟨0,[],s.size⟩)
    unfold Whole at *
    rw [hgr.block w.heap.size (Array.getElem?_eq_some_iff.1 h1).1 (fun e=>by have:=(hown _ e.symm).1; omega)]
    exact h1
   have hap2:Sem.run Tryz.prog (Builtin.append_ #[81,81] 81 #[_,.slice (some ⟨wr.heap.size,0,none⟩) 1 1]) (wr.alloc (.cells #[.int .i64 0,.string ⟨#[]⟩,.int .i64 (s.size:Nat)] 87))=.ok v5 u4:=hap
   have HAP:=hid hap2
   have HV4:=hid hvr
   have W3:=hid hW4
   have d0:=Whole.cell W3.out 0
   have d1:=Whole.cell W3.out 1
   simp only [List.getElem?_toArray,List.getElem?_cons_zero,List.getElem?_cons_succ] at d0 d1
   have f0:=Whole.frozen W3.out 0
   have f1:=Whole.frozen W3.out 1
   clear hap hap2 hvr hgr hW4 hown HT HB HW HA hpe
   go_wp2_with (at_builtin; refine Lib.wpList_append_run _ rfl (.tmp 49) (.tmp 53) 81 81 rfl _ _ rfl rfl _ _ HAP.out ?_)
   obtain ⟨W,hW,hb,q1,q2⟩:=fault_end W3.out B4.out (Nat.le_refl _) 0 0
   have hrow:TRow W (w.heap.size + 1) v5 (A ++ [⟨0,[],s.size⟩]):=ownsRow_of_heap HV4.out fun b hb=>by
    have:=(HV4.out.block b hb).1
    rw [hW,Below.heap_setCell _ _ _ _ (by show b ≠ w.heap.size; omega),Below.heap_setCell _ _ _ _ (by show b ≠ w.heap.size; omega)]
   rw [← hW]
   clear hW
   obtain ⟨A',c',rfl,hc,hT,hbase⟩:=hrow.shape
   have hpost:LexPost w (Lx.lx s.data.toList) (.returned (.tuple #[.slice A' (A ++ [(⟨0,[],s.size⟩:Lx.Tk)]).length c',flt 0 0])) W:=LexPost.ok (by rw [HD.out,list_size]) ⟨A',c',rfl,hc,hT,hb,fun b o e=>by have:=hbase b o e; omega⟩
   exact bodyPost_ret (v:=.tuple #[.slice A' (A ++ [(⟨0,[],s.size⟩:Lx.Tk)]).length c',flt 0 0]) (by simp [results,Tryz.results49,go_sem,q1,q2]) rfl hpost
theorem lex_any (s:ByteArray) (w:World) (a:Addr) (m:Int) (hv:Env w a m) :
  Calls Tryz.prog 49 #[.string s] w fun e w'=>LexPost w (Lx.lx s.data.toList) e w':=by
 by_cases h:4000 < s.size
 ·exact (lex_long s w h).mono fun e w' k=>LexPost.bad (c:=3) (p:=0) (by rw [Lx.lx,if_pos (by rw [list_size]; exact h)]) k
 ·exact lex_short s w a m hv (by omega)
end Go.Proofs.YteghhmomhlnccaaGreatDoor
namespace Go.Proofs.YteghhmomhlnccaaGreatDoor
end Go.Proofs.YteghhmomhlnccaaGreatDoor
namespace Go.Proofs.YteghhmomhlnccaaGreatDoor.Lx
open Go.Proofs.YteghhmomhlnccaaGreatDoor
theorem lexF_bad:∀ (f p:Nat) (l:List UInt8) (c q:Nat),l.length < f→lexF f p l=.bad c q→c ≠ 0
 | 0,_,l,_,_,h,_=>absurd h (Nat.not_lt_zero _)
 | f + 1,p,[],c,q,_,e=>by rw [lex_nil] at e; cases e
 | f + 1,p,d :: r,c,q,hf,e=>by
  simp only [List.length_cons] at hf
  by_cases h1:blank d=true
  ·rw [lex_blank _ _ _ h1] at e
   exact lexF_bad f _ r c q (by omega) e
  ·by_cases h2:d=35
   ·subst h2
    rw [lex_note] at e
    exact lexF_bad f _ _ c q (by rw [List.length_drop]; omega) e
   ·by_cases h3:(word (d :: r)).err=0
    ·have hw:=word_ok d r h3
     rw [lex_word _ _ _ h1 h2 h3] at e
     cases hs:lexF f (p + (word (d :: r)).n) ((d :: r).drop (word (d :: r)).n) with
     | ok T=>rw [hs] at e; cases e
     | bad a b=>
      rw [hs] at e
      cases e
      exact lexF_bad f _ _ c q (by rw [List.length_drop,List.length_cons]; omega) hs
    ·rw [lex_bad _ _ _ h1 h2 h3] at e
     cases e
     exact h3
theorem lx_bad {l:List UInt8} {c q:Nat} (h:lx l=.bad c q):c ≠ 0:=by
 unfold lx at h
 split at h
 ·cases h; decide
 ·exact lexF_bad _ _ _ _ _ (Nat.lt_succ_self _) h
theorem lx_small {l:List UInt8} {T:List Tk} (h:lx l=.ok T):l.length≤4000∧lexF (l.length + 1) 0 l=.ok T:=by
 unfold lx at h
 split at h
 ·cases h
 ·exact ⟨by omega,h⟩
theorem lx_ok {l:List UInt8} {T:List Tk} (h:lx l=.ok T):∃ A,T=A ++ [⟨0,[],l.length⟩]∧T.length≤l.length + 1∧∀ i (hi:i < T.length),T[i].at_≤l.length:=by
 obtain ⟨-,h2⟩:=lx_small h
 obtain ⟨A,hA,hi⟩:=lex_at _ _ _ _ (Nat.lt_succ_self _) h2
 rw [Nat.zero_add] at hA
 refine ⟨A,hA,?_,fun i hT=>?_⟩
 ·have:A.length≤l.length:=by
   by_cases h0:A.length=0
   ·omega
   ·obtain ⟨q,-,q2,q3,-⟩:=hi (A.length - 1) (by omega)
    omega
  rw [hA]; simp; omega
 ·subst hA
  by_cases hlt:i < A.length
  ·rw [List.getElem_append_left hlt]
   obtain ⟨q,q1,q2,-⟩:=hi i hlt
   omega
  ·rw [List.getElem_append_right (by omega)]
   simp at hT
   have:i - A.length=0:=by omega
   simp [this]
end Go.Proofs.YteghhmomhlnccaaGreatDoor.Lx
namespace Go.Proofs.YteghhmomhlnccaaGreatDoor
theorem low_iff (c:UInt8):Lx.low c=true ↔ (97:Int)≤(c.toNat:Int)∧(c.toNat:Int)≤122:=by
 simp [Lx.low]; omega
theorem dig_iff (c:UInt8):dig c=true ↔ (48:Int)≤(c.toNat:Int)∧(c.toNat:Int)≤57:=by
 simp [dig]; omega
theorem letter_any (c:UInt8) (w:World):Calls Tryz.prog 94 #[.int .u8 (c.toNat:Nat)] w fun e w'=>e=.returned (.bool (Lx.low c))∧w=w':=by
 have hl:=hid (low_iff c)
 by_cases h1:(97:Int)≤(c.toNat:Int)
 ·by_cases h2:(c.toNat:Int)≤122
  ·have E:Hid (Lx.low c=true):=hid (hl.out.2 ⟨h1,h2⟩)
   go_enter Tryz.func94,Tryz.ntmps94
   go_wp2
   go_ret
   exact ⟨retB2 E.out.symm,rfl⟩
  ·have E:Hid (Lx.low c=false):=hid (Bool.eq_false_iff.2 fun h=>h2 (hl.out.1 h).2)
   go_enter Tryz.func94,Tryz.ntmps94
   go_wp2
   go_ret
   exact ⟨retB2 E.out.symm,rfl⟩
 ·have E:Hid (Lx.low c=false):=hid (Bool.eq_false_iff.2 fun h=>h1 (hl.out.1 h).1)
  go_enter Tryz.func94,Tryz.ntmps94
  go_wp2
  go_ret
  exact ⟨retB2 E.out.symm,rfl⟩
theorem digit_any (c:UInt8) (w:World):Calls Tryz.prog 96 #[.int .u8 (c.toNat:Nat)] w fun e w'=>e=.returned (.bool (dig c))∧w=w':=by
 have hl:=hid (dig_iff c)
 by_cases h1:(48:Int)≤(c.toNat:Int)
 ·by_cases h2:(c.toNat:Int)≤57
  ·have E:Hid (dig c=true):=hid (hl.out.2 ⟨h1,h2⟩)
   go_enter Tryz.func96,Tryz.ntmps96
   go_wp2
   go_ret
   exact ⟨retB2 E.out.symm,rfl⟩
  ·have E:Hid (dig c=false):=hid (Bool.eq_false_iff.2 fun h=>h2 (hl.out.1 h).2)
   go_enter Tryz.func96,Tryz.ntmps96
   go_wp2
   go_ret
   exact ⟨retB2 E.out.symm,rfl⟩
 ·have E:Hid (dig c=false):=hid (Bool.eq_false_iff.2 fun h=>h1 (hl.out.1 h).1)
  go_enter Tryz.func96,Tryz.ntmps96
  go_wp2
  go_ret
  exact ⟨retB2 E.out.symm,rfl⟩
def resB:List ByteArray:=[(⟨#[97,100,100]⟩:ByteArray),(⟨#[100,114,111,112]⟩:ByteArray),(⟨#[114,101,110,97,109,101]⟩:ByteArray),(⟨#[115,112,108,105,116]⟩:ByteArray),(⟨#[109,101,114,103,101]⟩:ByteArray),(⟨#[114,101,116,121,112,101]⟩:ByteArray),(⟨#[105,110,116,111]⟩:ByteArray),(⟨#[116,111]⟩:ByteArray),(⟨#[98,97,99,107]⟩:ByteArray),(⟨#[97,110,100]⟩:ByteArray),(⟨#[111,114]⟩:ByteArray),(⟨#[110,111,116]⟩:ByteArray),(⟨#[116,114,117,101]⟩:ByteArray),(⟨#[102,97,108,115,101]⟩:ByteArray),(⟨#[110,117,108,108]⟩:ByteArray),(⟨#[105,110,116]⟩:ByteArray),(⟨#[116,101,120,116]⟩:ByteArray),(⟨#[98,111,111,108]⟩:ByteArray),(⟨#[115,101,108,101,99,116]⟩:ByteArray),(⟨#[119,104,101,114,101]⟩:ByteArray),(⟨#[102,114,111,109]⟩:ByteArray),(⟨#[108,105,109,105,116]⟩:ByteArray)]
theorem resB_eq:resB.map (·.toList)=Lx.reserved:=by
 rw [reserved_eq]
 simp only [resB,List.map_cons,List.map_nil,ByteArray.toList_eq]
theorem resB_len:resB.length=22:=rfl
theorem res_of {s:ByteArray} {i:Nat} (h:i < resB.length) (he:(resB[i].toList == s.toList)=true):Lx.res s.data.toList=true:=by
 have e:resB[i].toList=s.toList:=by simpa using he
 rw [Lx.res,← resB_eq]
 simp only [List.contains_iff_mem,List.mem_map]
 exact ⟨resB[i],List.getElem_mem h,by rw [e,ByteArray.toList_eq]⟩
theorem res_not {s:ByteArray} (h:∀ i (h:i < resB.length),(resB[i].toList == s.toList)=false):Lx.res s.data.toList=false:=by
 rw [Bool.eq_false_iff]
 intro hr
 rw [Lx.res,← resB_eq] at hr
 simp only [List.contains_iff_mem,List.mem_map] at hr
 obtain ⟨b,hb,e⟩:=hr
 obtain ⟨i,hi,rfl⟩:=List.mem_iff_getElem.1 hb
 have:=h i hi
 rw [e,← ByteArray.toList_eq] at this
 simp at this
abbrev resCs:Array Value:=#[.string ⟨#[97,100,100]⟩,.string ⟨#[100,114,111,112]⟩,.string ⟨#[114,101,110,97,109,101]⟩,.string ⟨#[115,112,108,105,116]⟩,.string ⟨#[109,101,114,103,101]⟩,.string ⟨#[114,101,116,121,112,101]⟩,.string ⟨#[105,110,116,111]⟩,.string ⟨#[116,111]⟩,.string ⟨#[98,97,99,107]⟩,.string ⟨#[97,110,100]⟩,.string ⟨#[111,114]⟩,.string ⟨#[110,111,116]⟩,.string ⟨#[116,114,117,101]⟩,.string ⟨#[102,97,108,115,101]⟩,.string ⟨#[110,117,108,108]⟩,.string ⟨#[105,110,116]⟩,.string ⟨#[116,101,120,116]⟩,.string ⟨#[98,111,111,108]⟩,.string ⟨#[115,101,108,101,99,116]⟩,.string ⟨#[119,104,101,114,101]⟩,.string ⟨#[102,114,111,109]⟩,.string ⟨#[108,105,109,105,116]⟩]
theorem resCs_at (i:Nat) (h:i < resB.length):resCs[i]?=some (.string resB[i]):=by
 have e:resCs=(resB.map Value.string).toArray:=rfl
 rw [e,List.getElem?_toArray,List.getElem?_map,List.getElem?_eq_getElem h]; rfl
theorem refReserved_any (s:ByteArray) (w:World) :
  Calls Tryz.prog 95 #[.string s] w fun e w'=>e=.returned (.bool (Lx.res s.data.toList))∧Below w.heap.size w w':=by
 have HW:Hid (Whole (w.alloc (.cells #[.string ⟨#[97,100,100]⟩,.string ⟨#[100,114,111,112]⟩,.string ⟨#[114,101,110,97,109,101]⟩,.string ⟨#[115,112,108,105,116]⟩,.string ⟨#[109,101,114,103,101]⟩,.string ⟨#[114,101,116,121,112,101]⟩,.string ⟨#[105,110,116,111]⟩,.string ⟨#[116,111]⟩,.string ⟨#[98,97,99,107]⟩,.string ⟨#[97,110,100]⟩,.string ⟨#[111,114]⟩,.string ⟨#[110,111,116]⟩,.string ⟨#[116,114,117,101]⟩,.string ⟨#[102,97,108,115,101]⟩,.string ⟨#[110,117,108,108]⟩,.string ⟨#[105,110,116]⟩,.string ⟨#[116,101,120,116]⟩,.string ⟨#[98,111,111,108]⟩,.string ⟨#[115,101,108,101,99,116]⟩,.string ⟨#[119,104,101,114,101]⟩,.string ⟨#[102,114,111,109]⟩,.string ⟨#[108,105,109,105,116]⟩] 9)) w.heap.size 9 #[.string ⟨#[97,100,100]⟩,.string ⟨#[100,114,111,112]⟩,.string ⟨#[114,101,110,97,109,101]⟩,.string ⟨#[115,112,108,105,116]⟩,.string ⟨#[109,101,114,103,101]⟩,.string ⟨#[114,101,116,121,112,101]⟩,.string ⟨#[105,110,116,111]⟩,.string ⟨#[116,111]⟩,.string ⟨#[98,97,99,107]⟩,.string ⟨#[97,110,100]⟩,.string ⟨#[111,114]⟩,.string ⟨#[110,111,116]⟩,.string ⟨#[116,114,117,101]⟩,.string ⟨#[102,97,108,115,101]⟩,.string ⟨#[110,117,108,108]⟩,.string ⟨#[105,110,116]⟩,.string ⟨#[116,101,120,116]⟩,.string ⟨#[98,111,111,108]⟩,.string ⟨#[115,101,108,101,99,116]⟩,.string ⟨#[119,104,101,114,101]⟩,.string ⟨#[102,114,111,109]⟩,.string ⟨#[108,105,109,105,116]⟩]):=hid (Whole.new _ _ _)
 have HB:Hid (Below w.heap.size w (w.alloc (.cells #[.string ⟨#[97,100,100]⟩,.string ⟨#[100,114,111,112]⟩,.string ⟨#[114,101,110,97,109,101]⟩,.string ⟨#[115,112,108,105,116]⟩,.string ⟨#[109,101,114,103,101]⟩,.string ⟨#[114,101,116,121,112,101]⟩,.string ⟨#[105,110,116,111]⟩,.string ⟨#[116,111]⟩,.string ⟨#[98,97,99,107]⟩,.string ⟨#[97,110,100]⟩,.string ⟨#[111,114]⟩,.string ⟨#[110,111,116]⟩,.string ⟨#[116,114,117,101]⟩,.string ⟨#[102,97,108,115,101]⟩,.string ⟨#[110,117,108,108]⟩,.string ⟨#[105,110,116]⟩,.string ⟨#[116,101,120,116]⟩,.string ⟨#[98,111,111,108]⟩,.string ⟨#[115,101,108,101,99,116]⟩,.string ⟨#[119,104,101,114,101]⟩,.string ⟨#[102,114,111,109]⟩,.string ⟨#[108,105,109,105,116]⟩] 9))):=hid ((Below.refl _ _).alloc (Nat.le_refl _) _)
 go_enter Tryz.func95,Tryz.ntmps95
 go_wp2_with fail
 generalize w.alloc (.cells #[.string ⟨#[97,100,100]⟩,.string ⟨#[100,114,111,112]⟩,.string ⟨#[114,101,110,97,109,101]⟩,.string ⟨#[115,112,108,105,116]⟩,.string ⟨#[109,101,114,103,101]⟩,.string ⟨#[114,101,116,121,112,101]⟩,.string ⟨#[105,110,116,111]⟩,.string ⟨#[116,111]⟩,.string ⟨#[98,97,99,107]⟩,.string ⟨#[97,110,100]⟩,.string ⟨#[111,114]⟩,.string ⟨#[110,111,116]⟩,.string ⟨#[116,114,117,101]⟩,.string ⟨#[102,97,108,115,101]⟩,.string ⟨#[110,117,108,108]⟩,.string ⟨#[105,110,116]⟩,.string ⟨#[116,101,120,116]⟩,.string ⟨#[98,111,111,108]⟩,.string ⟨#[115,101,108,101,99,116]⟩,.string ⟨#[119,104,101,114,101]⟩,.string ⟨#[102,114,111,109]⟩,.string ⟨#[108,105,109,105,116]⟩] 9)=W0 at *
 have HW2:Hid (∀ i (h:i < resB.length),W0.cell? ⟨w.heap.size,i,none⟩=some (.string resB[i])):=hid (fun i h=>by rw [HW.out.cell i]; exact resCs_at i h)
 clear HW
 go_loopg [4] 23 (fun j s4 wr=>∃ i:Nat,i≤22∧22 < i + j∧s4=.int .i64 (i:Nat)∧Hid (∀ k (h:k < resB.length),k < i→(resB[k].toList == s.toList)=false)∧wr=W0)
 case atStart=>exact ⟨0,by omega,by omega,rfl,hid (fun k _ h=>absurd h (Nat.not_lt_zero _)),rfl⟩
 case round=>
  obtain ⟨i,hi,hj,rfl,HI,rfl⟩:=hrel
  by_cases hlt:i < 22
  ·have hlt':(i:Int) < 22:=by omega
   have c0:=HW2.out i hlt
   have HR:Hid ((resB[i].toList == s.toList)=true→Lx.res s.data.toList=true):=hid (res_of hlt)
   by_cases he:(resB[i].toList == s.toList)=true
   ·have ER:Hid (Lx.res s.data.toList=true):=hid (HR.out he)
    clear HR HI
    generalize resB[i]=b at *
    go_wp2_with fail
    go_ret
    exact ⟨retB2 ER.out.symm,HB.out⟩
   ·have he':(resB[i].toList == s.toList)=false:=by simpa using he
    have HI2:Hid (∀ k (h:k < resB.length),k < i + 1→(resB[k].toList == s.toList)=false):=hid (fun k h hk=>by
     by_cases hki:k=i
     ·subst hki; exact he'
     ·exact HI.out k h (by omega))
    clear HR HI he
    generalize resB[i]=b at *
    go_wp2_with fail
    go_roundg (22 - i)
    case measure=>omega
    case rel=>exact ⟨i + 1,by omega,by omega,by go_num,HI2,rfl⟩
  ·have hlt':¬ (i:Int) < 22:=by omega
   have ER:Hid (Lx.res s.data.toList=false):=hid (res_not fun k h=>HI.out k h (by rw [resB_len] at h; omega))
   clear HI
   go_wp2_with fail
   go_ret
   exact ⟨retB2 ER.out.symm,HB.out⟩
end Go.Proofs.YteghhmomhlnccaaGreatDoor
namespace Go.Proofs.YteghhmomhlnccaaGreatDoor
namespace Lx
theorem isName_cons (c:UInt8) (r:List UInt8):isName (c :: r)=(decide ((c :: r).length≤16) && low c && r.all nm && !res (c :: r)):=rfl
theorem isName_all {c:UInt8} {r:List UInt8} (h1:(c :: r).length≤16) (h2:low c=true) (h3:res (c :: r)=false):isName (c :: r)=(c :: r).all nm:=by
 have hd:decide ((c :: r).length≤16)=true:=decide_eq_true h1
 have hn:nm c=true:=by simp [nm,h2]
 rw [isName_cons,h2,h3,hd,List.all_cons,hn]
 simp
theorem name_first {s:List UInt8} {T:List Tk} (h:lx s=.ok T) (h0:0 < T.length) (h1:T[0].kind=1) (h2:T[0].text=s):isName s=true:=by
 unfold lx at h
 split at h
 ·cases h
 ·obtain ⟨A,hA,hi⟩:=lex_at _ _ _ _ (Nat.lt_succ_self _) h
  have hA0:0 < A.length:=by
   rcases Nat.eq_zero_or_pos A.length with hz | hz
   ·have:A=[]:=List.eq_nil_of_length_eq_zero hz
    subst this
    subst hA
    simp at h1
   ·exact hz
  have hT0:T[0]=A[0]:=by subst hA; rw [List.getElem_append_left hA0]
  rw [hT0] at h1 h2
  obtain ⟨q,-,q2,-,c,r,q4,-,-,q7,q8,q9⟩:=hi 0 hA0
  have hw:=word_ok c r q7
  have hlen:s.length - q=r.length + 1:=by have:=congrArg List.length q4; simpa using this
  rw [h1] at q8
  rw [h2] at q9
  unfold word at q7 q8 q9
  by_cases n1:low c=true
  ·simp only [if_pos n1,nameW] at q7 q8 q9
   have htl:=tw_le nm r
   have hsl:=congrArg List.length q9
   simp only [List.length_cons] at hsl
   have hres:res (c :: r.takeWhile nm)=false:=by
    cases hr:res (c :: r.takeWhile nm)
    ·rfl
    ·rw [hr] at q8; simp at q8
   simp only [hres,Bool.false_eq_true,if_false] at q7
   have h16:¬ 16 < (c :: r.takeWhile nm).length:=fun h=>by rw [if_pos h] at q7; cases q7
   rw [q9]
   simp only [isName,Bool.and_eq_true,decide_eq_true_eq,Bool.not_eq_true',List.all_eq_true]
   exact ⟨⟨⟨by omega,n1⟩,fun x hx=>tw_all nm r x hx⟩,hres⟩
  ·simp only [if_neg n1] at q8
   exfalso
   by_cases n2:dig c=true
   ·simp only [if_pos n2,numW] at q8; exact absurd q8 (by decide)
   ·simp only [if_neg n2] at q8
    by_cases n3:c=39
    ·simp only [if_pos n3,textW] at q8; exact absurd q8 (by decide)
    ·simp only [if_neg n3] at q8
     by_cases n4:(pre2 c && r.head? == some 61)=true
     ·simp only [if_pos n4] at q8; exact absurd q8 (by decide)
     ·simp only [if_neg n4] at q8; exact absurd q8 (by decide)
theorem not_bad {s:List UInt8} {c p:Nat} (h:lx s=.bad c p):isName s=false:=by
 rw [Bool.eq_false_iff]
 intro hn
 rw [name_lex hn] at h
 cases h
end Lx
theorem refName_any (s:ByteArray) (w:World) (hs:s.size≤6000) :
  Calls Tryz.prog 60 #[.string s] w fun e w'=>e=.returned (.bool (Lx.isName s.data.toList))∧Below w.heap.size w w':=by
 by_cases hz:s.size=0
 ·have E:Hid (Lx.isName s.data.toList=false):=hid (by
   have:s.data.toList=[]:=List.eq_nil_of_length_eq_zero (by rw [list_size]; exact hz)
   rw [this]; rfl)
  have h1:((s.size:Int) == 0)=true:=by rw [beq_iff_eq]; omega
  clear hz
  go_enter Tryz.func60,Tryz.ntmps60
  go_wp2
  go_ret
  exact ⟨retB2 E.out.symm,Below.refl _ _⟩
 ·have h1:((s.size:Int) == 0)=false:=by rw [beq_eq_false_iff_ne]; omega
  have h0:0 < s.size:=by omega
  have h0i:(0:Int) < (s.size:Int):=by omega
  have hd:s.data.toList=s[0] :: s.data.toList.drop 1:=by have:=drop_at s 0 h0; rwa [List.drop_zero] at this
  have HD:=hid hd
  clear hz
  by_cases h16:16 < s.size
  ·have E:Hid (Lx.isName s.data.toList=false):=hid (by
    rw [hd,Lx.isName_cons,← hd,list_size]
    have:decide (s.size≤16)=false:=by simp; omega
    rw [this]; rfl)
   have d1:decide ((16:Int) < (s.size:Int))=true:=by simp; omega
   clear hd h16
   go_enter Tryz.func60,Tryz.ntmps60
   go_wp2
   go_ret
   exact ⟨retB2 E.out.symm,Below.refl _ _⟩
  ·have d1:decide ((16:Int) < (s.size:Int))=false:=by simp; omega
   have LE:=hid (letter_any s[0] w)
   cases hl:Lx.low s[0]
   ·have E:Hid (Lx.isName s.data.toList=false):=hid (by
     rw [hd,Lx.isName_cons,hl]; simp)
    rw [hl] at LE
    clear hd hl h16
    go_enter Tryz.func60,Tryz.ntmps60
    go_wp2_with fail
    refine (LE.out).mono ?_
    rintro e w' ⟨rfl,rfl⟩
    go_wp2
    go_ret
    exact ⟨retB2 E.out.symm,Below.refl _ _⟩
   ·rw [hl] at LE
    have RS:=hid (refReserved_any s w)
    cases hr:Lx.res s.data.toList
    ·have E:Hid (Lx.isName s.data.toList=s.data.toList.all Lx.nm):=hid (by
      have hr2:=hr
      rw [hd] at hr2 ⊢
      exact Lx.isName_all (by rw [← hd,list_size]; omega) hl hr2)
     rw [hr] at RS
     have hs16:(s.size:Int)≤16:=by omega
     clear hd hl h16 hr
     go_enter Tryz.func60,Tryz.ntmps60
     go_wp2_with fail
     refine (LE.out).mono ?_
     rintro e w' ⟨rfl,rfl⟩
     go_wp2_with fail
     refine (RS.out).mono ?_
     rintro e w1 ⟨rfl,hb1⟩
     have B1:=hid hb1
     clear hb1 RS LE
     go_wp2_with fail
     go_loopg [3] (s.size + 1) (fun j s3 wr=>∃ i:Nat,i≤s.size∧s.size < i + j∧s3=.int .i64 (i:Nat)∧Hid (∀ c ∈ s.data.toList.take i,Lx.nm c=true)∧wr=w1)
     case atStart=>exact ⟨0,by omega,by omega,rfl,hid (by simp),rfl⟩
     case round=>
      obtain ⟨i,hi,hj,rfl,HI,rfl⟩:=hrel
      by_cases hlt:i < s.size
      ·have hlt':(i:Int) < (s.size:Int):=by omega
       have hi9:(i:Int) < 17:=by omega
       have LC:=hid (letter_any s[i] wr)
       have DC:=hid (digit_any s[i] wr)
       have HN:Hid (Lx.nm s[i]=true→∀ c ∈ s.data.toList.take (i + 1),Lx.nm c=true):=hid (fun hc=>by
        rw [take_snoc' s i hlt]
        intro c hc2
        rw [List.mem_append] at hc2
        rcases hc2 with hc2 | hc2
        ·exact HI.out c hc2
        ·simp only [List.mem_singleton] at hc2; subst hc2; exact hc)
       have HF:Hid (Lx.nm s[i]=false→Lx.isName s.data.toList=false):=hid (fun hc=>by
        rw [E.out,List.all_eq_false]
        exact ⟨s[i],List.getElem_mem (l:=s.data.toList) (by simpa using hlt),by rw [hc]; decide⟩)
       cases hl:Lx.low s[i]
       ·rw [hl] at LC
        cases hdg:dig s[i]
        ·rw [hdg] at DC
         by_cases h95:s[i]=95
         ·have b1:((s[i].toNat:Int) != 95)=false:=by rw [bne_eq_false_iff_eq,h95]; rfl
          have HI2:=hid (HN.out (by rw [Lx.nm,h95]; decide))
          clear hl hdg h95 HN HF HI
          go_wp2_with fail
          refine (LC.out).mono ?_
          rintro e w' ⟨rfl,rfl⟩
          go_wp2_with fail
          refine (DC.out).mono ?_
          rintro e w' ⟨rfl,rfl⟩
          go_wp2_with fail
          go_roundg (s.size - i)
          case measure=>omega
          case rel=>exact ⟨i + 1,by omega,by omega,by go_num,HI2,rfl⟩
         ·have b1:((s[i].toNat:Int) != 95)=true:=by
           rw [bne_iff_ne]; intro e; apply h95; apply UInt8.toNat_inj.1; show s[i].toNat=95; omega
          have EF:=hid (HF.out (by rw [Lx.nm,hl,hdg]; simpa using h95))
          clear hl hdg h95 HN HF HI
          go_wp2_with fail
          refine (LC.out).mono ?_
          rintro e w' ⟨rfl,rfl⟩
          go_wp2_with fail
          refine (DC.out).mono ?_
          rintro e w' ⟨rfl,rfl⟩
          go_wp2_with fail
          go_ret
          exact ⟨retB2 EF.out.symm,B1.out⟩
        ·rw [hdg] at DC
         have HI2:=hid (HN.out (by rw [Lx.nm,hdg]; simp))
         clear hl hdg HN HF HI
         go_wp2_with fail
         refine (LC.out).mono ?_
         rintro e w' ⟨rfl,rfl⟩
         go_wp2_with fail
         refine (DC.out).mono ?_
         rintro e w' ⟨rfl,rfl⟩
         go_wp2_with fail
         go_roundg (s.size - i)
         case measure=>omega
         case rel=>exact ⟨i + 1,by omega,by omega,by go_num,HI2,rfl⟩
       ·rw [hl] at LC
        have HI2:=hid (HN.out (by rw [Lx.nm,hl]; simp))
        clear hl HN HF HI
        go_wp2_with fail
        refine (LC.out).mono ?_
        rintro e w' ⟨rfl,rfl⟩
        go_wp2_with fail
        go_roundg (s.size - i)
        case measure=>omega
        case rel=>exact ⟨i + 1,by omega,by omega,by go_num,HI2,rfl⟩
      ·have hlt':¬ (i:Int) < (s.size:Int):=by omega
       have ET:Hid (Lx.isName s.data.toList=true):=hid (by
        rw [E.out,List.all_eq_true]
        have:=HI.out
        rwa [List.take_of_length_le (by rw [list_size]; omega)] at this)
       clear HI
       go_wp2_with fail
       go_ret
       exact ⟨retB2 ET.out.symm,B1.out⟩
    ·have E:Hid (Lx.isName s.data.toList=false):=hid (by
      have hr2:=hr
      rw [hd] at hr2 ⊢
      rw [Lx.isName_cons,hr2]; simp)
     rw [hr] at RS
     clear hd hl h16 hr
     go_enter Tryz.func60,Tryz.ntmps60
     go_wp2_with fail
     refine (LE.out).mono ?_
     rintro e w' ⟨rfl,rfl⟩
     go_wp2_with fail
     refine (RS.out).mono ?_
     rintro e w1 ⟨rfl,hb1⟩
     have B1:=hid hb1
     clear hb1 RS LE
     go_wp2
     go_ret
     exact ⟨retB2 E.out.symm,B1.out⟩
theorem first_word {w:World} {A:Option Addr} {T:List Lx.Tk} (h:TAt w A T) (h0:0 < T.length):∃ b off,A=some ⟨b,off,none⟩∧w.cell? ⟨b,off,none⟩=some (.int .i64 (T[0].kind:Nat))∧w.cell? ⟨b,off + 1,none⟩=some (.string (str T[0].text)):=by
 obtain ⟨b,off,h1,-,h3,h4,-⟩:=h 0 h0
 rw [Nat.zero_mul,Nat.add_zero] at h3 h4
 exact ⟨b,off,h1,h3,h4⟩
theorem lexName_any (s:ByteArray) (w:World) (a:Addr) (m:Int) (hv:Env w a m) :
  Calls Tryz.prog 86 #[.string s] w fun e w'=>e=.returned (.bool (Lx.isName s.data.toList))∧Below w.heap.size w w':=by
 have L1:=hid (lex_any s w a m hv)
 clear hv
 cases hlx:Lx.lx s.data.toList with
 | bad c p=>
  have hc:=Lx.lx_bad hlx
  have E:=hid (Lx.not_bad hlx)
  have L2:Hid (Calls Tryz.prog 49 #[.string s] w fun e w'=>LexBad w (c:Nat) (p:Nat) e w'):=hid (by have:=L1.out; rw [hlx] at this; exact this)
  have hc1:((c:Int) == 0)=false:=by rw [beq_eq_false_iff_ne]; omega
  clear L1 hlx hc
  go_enter Tryz.func86,Tryz.ntmps86
  go_wp2_with fail
  refine (L2.out).mono ?_
  rintro e w2 ⟨rfl,hb2⟩
  have B2:=hid hb2
  clear hb2 L2
  go_wp2
  go_ret
  exact ⟨retB2 E.out.symm,B2.out.alloc B2.out.size _⟩
 | ok T=>
  have L2:Hid (Calls Tryz.prog 49 #[.string s] w fun e w'=>LexOk w T e w'):=hid (by have:=L1.out; rw [hlx] at this; exact this)
  obtain ⟨A0,hA0,hTl,-⟩:=Lx.lx_ok hlx
  have h0:0 < T.length:=by rw [hA0]; simp
  have h0i:(0:Int) < (T.length:Int):=by omega
  have HNF:=hid (Lx.name_first hlx h0)
  have HNL:Hid (Lx.isName s.data.toList=true→T[0].kind=1∧T[0].text=s.data.toList):=hid (fun hn=>by
   have:=Lx.name_lex hn
   rw [hlx] at this
   cases this
   exact ⟨rfl,rfl⟩)
  clear L1 hlx hA0
  go_enter Tryz.func86,Tryz.ntmps86
  go_wp2_with fail
  refine (L2.out).mono ?_
  rintro e w2 ⟨AA,cp,rfl,hcp,hT,hb2,-⟩
  have bw:Below w2.heap.size w2 (w2.alloc (.cells #[.int .i64 0,.int .i64 0] 54)):=(Below.refl _ _).alloc (Nat.le_refl _) _
  have B3:=hid (bstep hb2 bw)
  obtain ⟨b,off,rfl,c0,c1⟩:=first_word (hT.below bw) h0
  clear hb2 L2 hT bw
  generalize T[0]=x at *
  obtain ⟨xk,xt,xa⟩:=x
  dsimp only at c0 c1 HNF HNL
  by_cases hk:xk=1
  ·subst hk
   by_cases ht:xt=s.data.toList
   ·have E:=hid (HNF.out rfl ht)
    have HB2:Hid ((xt == s.toList)=true):=hid (by rw [ByteArray.toList_eq,beq_iff_eq]; exact ht)
    clear ht HNF HNL
    go_wp2
    go_ret
    exact ⟨retB2 (HB2.out.trans E.out.symm),B3.out⟩
   ·have E:Hid (Lx.isName s.data.toList=false):=hid (by rw [Bool.eq_false_iff]; exact fun h=>ht (HNL.out h).2)
    have HB2:Hid ((xt == s.toList)=false):=hid (by rw [ByteArray.toList_eq,beq_eq_false_iff_ne]; exact ht)
    clear ht HNF HNL
    go_wp2
    go_ret
    exact ⟨retB2 (HB2.out.trans E.out.symm),B3.out⟩
  ·have E:Hid (Lx.isName s.data.toList=false):=hid (by rw [Bool.eq_false_iff]; exact fun h=>hk (HNL.out h).1)
   have hb:((xk:Int) == 1)=false:=by rw [beq_eq_false_iff_ne]; omega
   clear hk HNF HNL
   go_wp2
   go_ret
   exact ⟨retB2 E.out.symm,B3.out⟩
def oneB (T:List Lx.Tk) (s:List UInt8):Bool:=T.length == 2 && (T.map fun t=>(t.kind,t.text)).head? == some (1,s)
end Go.Proofs.YteghhmomhlnccaaGreatDoor
