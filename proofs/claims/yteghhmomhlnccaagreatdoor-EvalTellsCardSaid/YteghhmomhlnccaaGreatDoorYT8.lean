import Derived.Test.YteghhmomhlnccaaGreatDoorYT7
import Derived.Test.YteghhmomhlnccaaGreatDoorYT4
set_option linter.unusedVariables false
set_option linter.unusedSimpArgs false
set_option maxRecDepth 100000
set_option maxHeartbeats 100000000
open Go.RowKit Go.Lib
namespace Go.Proofs.YteghhmomhlnccaaGreatDoor
theorem level_0 (s:ByteArray) (w:World)  (h0:(s.toList == [111,114])=true) :
  Calls Tryz.prog 87 #[.string s] w fun e w'=>e=.returned (.int .i64 1)∧w'=w:=by
 go_enter Tryz.func87,Tryz.ntmps87
 go_wp2
 go_ret
 exact ⟨rfl,rfl⟩
theorem level_1 (s:ByteArray) (w:World) (h0:(s.toList == [111,114])=false) (h1:(s.toList == [97,110,100])=true) :
  Calls Tryz.prog 87 #[.string s] w fun e w'=>e=.returned (.int .i64 2)∧w'=w:=by
 go_enter Tryz.func87,Tryz.ntmps87
 go_wp2
 go_ret
 exact ⟨rfl,rfl⟩
theorem level_2 (s:ByteArray) (w:World) (h0:(s.toList == [111,114])=false) (h1:(s.toList == [97,110,100])=false) (h2:(s.toList == [61])=true) :
  Calls Tryz.prog 87 #[.string s] w fun e w'=>e=.returned (.int .i64 3)∧w'=w:=by
 go_enter Tryz.func87,Tryz.ntmps87
 go_wp2
 go_ret
 exact ⟨rfl,rfl⟩
theorem level_3 (s:ByteArray) (w:World) (h0:(s.toList == [111,114])=false) (h1:(s.toList == [97,110,100])=false) (h2:(s.toList == [61])=false) (h3:(s.toList == [33,61])=true) :
  Calls Tryz.prog 87 #[.string s] w fun e w'=>e=.returned (.int .i64 3)∧w'=w:=by
 go_enter Tryz.func87,Tryz.ntmps87
 go_wp2
 go_ret
 exact ⟨rfl,rfl⟩
theorem level_4 (s:ByteArray) (w:World) (h0:(s.toList == [111,114])=false) (h1:(s.toList == [97,110,100])=false) (h2:(s.toList == [61])=false) (h3:(s.toList == [33,61])=false) (h4:(s.toList == [60])=true) :
  Calls Tryz.prog 87 #[.string s] w fun e w'=>e=.returned (.int .i64 3)∧w'=w:=by
 go_enter Tryz.func87,Tryz.ntmps87
 go_wp2
 go_ret
 exact ⟨rfl,rfl⟩
theorem level_5 (s:ByteArray) (w:World) (h0:(s.toList == [111,114])=false) (h1:(s.toList == [97,110,100])=false) (h2:(s.toList == [61])=false) (h3:(s.toList == [33,61])=false) (h4:(s.toList == [60])=false) (h5:(s.toList == [60,61])=true) :
  Calls Tryz.prog 87 #[.string s] w fun e w'=>e=.returned (.int .i64 3)∧w'=w:=by
 go_enter Tryz.func87,Tryz.ntmps87
 go_wp2
 go_ret
 exact ⟨rfl,rfl⟩
theorem level_6 (s:ByteArray) (w:World) (h0:(s.toList == [111,114])=false) (h1:(s.toList == [97,110,100])=false) (h2:(s.toList == [61])=false) (h3:(s.toList == [33,61])=false) (h4:(s.toList == [60])=false) (h5:(s.toList == [60,61])=false) (h6:(s.toList == [62])=true) :
  Calls Tryz.prog 87 #[.string s] w fun e w'=>e=.returned (.int .i64 3)∧w'=w:=by
 go_enter Tryz.func87,Tryz.ntmps87
 go_wp2
 go_ret
 exact ⟨rfl,rfl⟩
theorem level_7 (s:ByteArray) (w:World) (h0:(s.toList == [111,114])=false) (h1:(s.toList == [97,110,100])=false) (h2:(s.toList == [61])=false) (h3:(s.toList == [33,61])=false) (h4:(s.toList == [60])=false) (h5:(s.toList == [60,61])=false) (h6:(s.toList == [62])=false) (h7:(s.toList == [62,61])=true) :
  Calls Tryz.prog 87 #[.string s] w fun e w'=>e=.returned (.int .i64 3)∧w'=w:=by
 go_enter Tryz.func87,Tryz.ntmps87
 go_wp2
 go_ret
 exact ⟨rfl,rfl⟩
theorem level_8 (s:ByteArray) (w:World) (h0:(s.toList == [111,114])=false) (h1:(s.toList == [97,110,100])=false) (h2:(s.toList == [61])=false) (h3:(s.toList == [33,61])=false) (h4:(s.toList == [60])=false) (h5:(s.toList == [60,61])=false) (h6:(s.toList == [62])=false) (h7:(s.toList == [62,61])=false) (h8:(s.toList == [43])=true) :
  Calls Tryz.prog 87 #[.string s] w fun e w'=>e=.returned (.int .i64 4)∧w'=w:=by
 go_enter Tryz.func87,Tryz.ntmps87
 go_wp2
 go_ret
 exact ⟨rfl,rfl⟩
theorem level_9 (s:ByteArray) (w:World) (h0:(s.toList == [111,114])=false) (h1:(s.toList == [97,110,100])=false) (h2:(s.toList == [61])=false) (h3:(s.toList == [33,61])=false) (h4:(s.toList == [60])=false) (h5:(s.toList == [60,61])=false) (h6:(s.toList == [62])=false) (h7:(s.toList == [62,61])=false) (h8:(s.toList == [43])=false) (h9:(s.toList == [45])=true) :
  Calls Tryz.prog 87 #[.string s] w fun e w'=>e=.returned (.int .i64 4)∧w'=w:=by
 go_enter Tryz.func87,Tryz.ntmps87
 go_wp2
 go_ret
 exact ⟨rfl,rfl⟩
theorem level_10 (s:ByteArray) (w:World) (h0:(s.toList == [111,114])=false) (h1:(s.toList == [97,110,100])=false) (h2:(s.toList == [61])=false) (h3:(s.toList == [33,61])=false) (h4:(s.toList == [60])=false) (h5:(s.toList == [60,61])=false) (h6:(s.toList == [62])=false) (h7:(s.toList == [62,61])=false) (h8:(s.toList == [43])=false) (h9:(s.toList == [45])=false) (h10:(s.toList == [38])=true) :
  Calls Tryz.prog 87 #[.string s] w fun e w'=>e=.returned (.int .i64 4)∧w'=w:=by
 go_enter Tryz.func87,Tryz.ntmps87
 go_wp2
 go_ret
 exact ⟨rfl,rfl⟩
theorem level_11 (s:ByteArray) (w:World) (h0:(s.toList == [111,114])=false) (h1:(s.toList == [97,110,100])=false) (h2:(s.toList == [61])=false) (h3:(s.toList == [33,61])=false) (h4:(s.toList == [60])=false) (h5:(s.toList == [60,61])=false) (h6:(s.toList == [62])=false) (h7:(s.toList == [62,61])=false) (h8:(s.toList == [43])=false) (h9:(s.toList == [45])=false) (h10:(s.toList == [38])=false) (h11:(s.toList == [42])=true) :
  Calls Tryz.prog 87 #[.string s] w fun e w'=>e=.returned (.int .i64 5)∧w'=w:=by
 go_enter Tryz.func87,Tryz.ntmps87
 go_wp2
 go_ret
 exact ⟨rfl,rfl⟩
theorem level_12 (s:ByteArray) (w:World) (h0:(s.toList == [111,114])=false) (h1:(s.toList == [97,110,100])=false) (h2:(s.toList == [61])=false) (h3:(s.toList == [33,61])=false) (h4:(s.toList == [60])=false) (h5:(s.toList == [60,61])=false) (h6:(s.toList == [62])=false) (h7:(s.toList == [62,61])=false) (h8:(s.toList == [43])=false) (h9:(s.toList == [45])=false) (h10:(s.toList == [38])=false) (h11:(s.toList == [42])=false) (h12:(s.toList == [47])=true) :
  Calls Tryz.prog 87 #[.string s] w fun e w'=>e=.returned (.int .i64 5)∧w'=w:=by
 go_enter Tryz.func87,Tryz.ntmps87
 go_wp2
 go_ret
 exact ⟨rfl,rfl⟩
theorem level_13 (s:ByteArray) (w:World) (h0:(s.toList == [111,114])=false) (h1:(s.toList == [97,110,100])=false) (h2:(s.toList == [61])=false) (h3:(s.toList == [33,61])=false) (h4:(s.toList == [60])=false) (h5:(s.toList == [60,61])=false) (h6:(s.toList == [62])=false) (h7:(s.toList == [62,61])=false) (h8:(s.toList == [43])=false) (h9:(s.toList == [45])=false) (h10:(s.toList == [38])=false) (h11:(s.toList == [42])=false) (h12:(s.toList == [47])=false) (h13:(s.toList == [37])=true) :
  Calls Tryz.prog 87 #[.string s] w fun e w'=>e=.returned (.int .i64 5)∧w'=w:=by
 go_enter Tryz.func87,Tryz.ntmps87
 go_wp2
 go_ret
 exact ⟨rfl,rfl⟩
theorem level_none (s:ByteArray) (w:World) (h0:(s.toList == [111,114])=false) (h1:(s.toList == [97,110,100])=false) (h2:(s.toList == [61])=false) (h3:(s.toList == [33,61])=false) (h4:(s.toList == [60])=false) (h5:(s.toList == [60,61])=false) (h6:(s.toList == [62])=false) (h7:(s.toList == [62,61])=false) (h8:(s.toList == [43])=false) (h9:(s.toList == [45])=false) (h10:(s.toList == [38])=false) (h11:(s.toList == [42])=false) (h12:(s.toList == [47])=false) (h13:(s.toList == [37])=false) :
  Calls Tryz.prog 87 #[.string s] w fun e w'=>e=.returned (.int .i64 (0))∧w'=w:=by
 go_enter Tryz.func87,Tryz.ntmps87
 go_wp2
 go_ret
 exact ⟨rfl,rfl⟩
theorem level_any (s:ByteArray) (w:World):Calls Tryz.prog 87 #[.string s] w fun e w'=>e=.returned (.int .i64 (Ex.lev s.data.toList))∧w'=w:=by
 have hl:s.data.toList=s.toList:=(ByteArray.toList_eq s).symm
 rw [hl,Ex.lev]
 cases h0:s.toList == [111,114]
 case true=>exact level_0 s w h0
 rw [cond_false]
 cases h1:s.toList == [97,110,100]
 case true=>exact level_1 s w h0 h1
 rw [cond_false]
 cases h2:s.toList == [61]
 case true=>exact level_2 s w h0 h1 h2
 rw [cond_false]
 cases h3:s.toList == [33,61]
 case true=>exact level_3 s w h0 h1 h2 h3
 rw [cond_false]
 cases h4:s.toList == [60]
 case true=>exact level_4 s w h0 h1 h2 h3 h4
 rw [cond_false]
 cases h5:s.toList == [60,61]
 case true=>exact level_5 s w h0 h1 h2 h3 h4 h5
 rw [cond_false]
 cases h6:s.toList == [62]
 case true=>exact level_6 s w h0 h1 h2 h3 h4 h5 h6
 rw [cond_false]
 cases h7:s.toList == [62,61]
 case true=>exact level_7 s w h0 h1 h2 h3 h4 h5 h6 h7
 rw [cond_false]
 cases h8:s.toList == [43]
 case true=>exact level_8 s w h0 h1 h2 h3 h4 h5 h6 h7 h8
 rw [cond_false]
 cases h9:s.toList == [45]
 case true=>exact level_9 s w h0 h1 h2 h3 h4 h5 h6 h7 h8 h9
 rw [cond_false]
 cases h10:s.toList == [38]
 case true=>exact level_10 s w h0 h1 h2 h3 h4 h5 h6 h7 h8 h9 h10
 rw [cond_false]
 cases h11:s.toList == [42]
 case true=>exact level_11 s w h0 h1 h2 h3 h4 h5 h6 h7 h8 h9 h10 h11
 rw [cond_false]
 cases h12:s.toList == [47]
 case true=>exact level_12 s w h0 h1 h2 h3 h4 h5 h6 h7 h8 h9 h10 h11 h12
 rw [cond_false]
 cases h13:s.toList == [37]
 case true=>exact level_13 s w h0 h1 h2 h3 h4 h5 h6 h7 h8 h9 h10 h11 h12 h13
 rw [cond_false]
 exact level_none s w h0 h1 h2 h3 h4 h5 h6 h7 h8 h9 h10 h11 h12 h13
theorem arity_0 (s:ByteArray) (w:World)  (h0:(s.toList == [108,101,110])=true) :
  Calls Tryz.prog 88 #[.string s] w fun e w'=>e=.returned (.int .i64 1)∧w'=w:=by
 go_enter Tryz.func88,Tryz.ntmps88
 go_wp2
 go_ret
 exact ⟨rfl,rfl⟩
theorem arity_1 (s:ByteArray) (w:World) (h0:(s.toList == [108,101,110])=false) (h1:(s.toList == [115,116,114])=true) :
  Calls Tryz.prog 88 #[.string s] w fun e w'=>e=.returned (.int .i64 1)∧w'=w:=by
 go_enter Tryz.func88,Tryz.ntmps88
 go_wp2
 go_ret
 exact ⟨rfl,rfl⟩
theorem arity_2 (s:ByteArray) (w:World) (h0:(s.toList == [108,101,110])=false) (h1:(s.toList == [115,116,114])=false) (h2:(s.toList == [110,117,109])=true) :
  Calls Tryz.prog 88 #[.string s] w fun e w'=>e=.returned (.int .i64 1)∧w'=w:=by
 go_enter Tryz.func88,Tryz.ntmps88
 go_wp2
 go_ret
 exact ⟨rfl,rfl⟩
theorem arity_3 (s:ByteArray) (w:World) (h0:(s.toList == [108,101,110])=false) (h1:(s.toList == [115,116,114])=false) (h2:(s.toList == [110,117,109])=false) (h3:(s.toList == [105,115,110,117,108,108])=true) :
  Calls Tryz.prog 88 #[.string s] w fun e w'=>e=.returned (.int .i64 1)∧w'=w:=by
 go_enter Tryz.func88,Tryz.ntmps88
 go_wp2
 go_ret
 exact ⟨rfl,rfl⟩
theorem arity_4 (s:ByteArray) (w:World) (h0:(s.toList == [108,101,110])=false) (h1:(s.toList == [115,116,114])=false) (h2:(s.toList == [110,117,109])=false) (h3:(s.toList == [105,115,110,117,108,108])=false) (h4:(s.toList == [110,118,108])=true) :
  Calls Tryz.prog 88 #[.string s] w fun e w'=>e=.returned (.int .i64 2)∧w'=w:=by
 go_enter Tryz.func88,Tryz.ntmps88
 go_wp2
 go_ret
 exact ⟨rfl,rfl⟩
theorem arity_5 (s:ByteArray) (w:World) (h0:(s.toList == [108,101,110])=false) (h1:(s.toList == [115,116,114])=false) (h2:(s.toList == [110,117,109])=false) (h3:(s.toList == [105,115,110,117,108,108])=false) (h4:(s.toList == [110,118,108])=false) (h5:(s.toList == [108,101,102,116])=true) :
  Calls Tryz.prog 88 #[.string s] w fun e w'=>e=.returned (.int .i64 2)∧w'=w:=by
 go_enter Tryz.func88,Tryz.ntmps88
 go_wp2
 go_ret
 exact ⟨rfl,rfl⟩
theorem arity_6 (s:ByteArray) (w:World) (h0:(s.toList == [108,101,110])=false) (h1:(s.toList == [115,116,114])=false) (h2:(s.toList == [110,117,109])=false) (h3:(s.toList == [105,115,110,117,108,108])=false) (h4:(s.toList == [110,118,108])=false) (h5:(s.toList == [108,101,102,116])=false) (h6:(s.toList == [114,105,103,104,116])=true) :
  Calls Tryz.prog 88 #[.string s] w fun e w'=>e=.returned (.int .i64 2)∧w'=w:=by
 go_enter Tryz.func88,Tryz.ntmps88
 go_wp2
 go_ret
 exact ⟨rfl,rfl⟩
theorem arity_7 (s:ByteArray) (w:World) (h0:(s.toList == [108,101,110])=false) (h1:(s.toList == [115,116,114])=false) (h2:(s.toList == [110,117,109])=false) (h3:(s.toList == [105,115,110,117,108,108])=false) (h4:(s.toList == [110,118,108])=false) (h5:(s.toList == [108,101,102,116])=false) (h6:(s.toList == [114,105,103,104,116])=false) (h7:(s.toList == [105,102])=true) :
  Calls Tryz.prog 88 #[.string s] w fun e w'=>e=.returned (.int .i64 3)∧w'=w:=by
 go_enter Tryz.func88,Tryz.ntmps88
 go_wp2
 go_ret
 exact ⟨rfl,rfl⟩
theorem arity_none (s:ByteArray) (w:World) (h0:(s.toList == [108,101,110])=false) (h1:(s.toList == [115,116,114])=false) (h2:(s.toList == [110,117,109])=false) (h3:(s.toList == [105,115,110,117,108,108])=false) (h4:(s.toList == [110,118,108])=false) (h5:(s.toList == [108,101,102,116])=false) (h6:(s.toList == [114,105,103,104,116])=false) (h7:(s.toList == [105,102])=false) :
  Calls Tryz.prog 88 #[.string s] w fun e w'=>e=.returned (.int .i64 (-1))∧w'=w:=by
 go_enter Tryz.func88,Tryz.ntmps88
 go_wp2
 go_ret
 exact ⟨rfl,rfl⟩
theorem arity_any (s:ByteArray) (w:World):Calls Tryz.prog 88 #[.string s] w fun e w'=>e=.returned (.int .i64 (Ex.arity s.data.toList))∧w'=w:=by
 have hl:s.data.toList=s.toList:=(ByteArray.toList_eq s).symm
 rw [hl,Ex.arity]
 cases h0:s.toList == [108,101,110]
 case true=>exact arity_0 s w h0
 rw [cond_false]
 cases h1:s.toList == [115,116,114]
 case true=>exact arity_1 s w h0 h1
 rw [cond_false]
 cases h2:s.toList == [110,117,109]
 case true=>exact arity_2 s w h0 h1 h2
 rw [cond_false]
 cases h3:s.toList == [105,115,110,117,108,108]
 case true=>exact arity_3 s w h0 h1 h2 h3
 rw [cond_false]
 cases h4:s.toList == [110,118,108]
 case true=>exact arity_4 s w h0 h1 h2 h3 h4
 rw [cond_false]
 cases h5:s.toList == [108,101,102,116]
 case true=>exact arity_5 s w h0 h1 h2 h3 h4 h5
 rw [cond_false]
 cases h6:s.toList == [114,105,103,104,116]
 case true=>exact arity_6 s w h0 h1 h2 h3 h4 h5 h6
 rw [cond_false]
 cases h7:s.toList == [105,102]
 case true=>exact arity_7 s w h0 h1 h2 h3 h4 h5 h6 h7
 rw [cond_false]
 exact arity_none s w h0 h1 h2 h3 h4 h5 h6 h7
theorem refArity_0 (s:ByteArray) (w:World)  (h0:(s.toList == [108,101,110])=true) :
  Calls Tryz.prog 97 #[.string s] w fun e w'=>e=.returned (.int .i64 1)∧w'=w:=by
 go_enter Tryz.func97,Tryz.ntmps97
 go_wp2
 go_ret
 exact ⟨rfl,rfl⟩
theorem refArity_1 (s:ByteArray) (w:World) (h0:(s.toList == [108,101,110])=false) (h1:(s.toList == [115,116,114])=true) :
  Calls Tryz.prog 97 #[.string s] w fun e w'=>e=.returned (.int .i64 1)∧w'=w:=by
 go_enter Tryz.func97,Tryz.ntmps97
 go_wp2
 go_ret
 exact ⟨rfl,rfl⟩
theorem refArity_2 (s:ByteArray) (w:World) (h0:(s.toList == [108,101,110])=false) (h1:(s.toList == [115,116,114])=false) (h2:(s.toList == [110,117,109])=true) :
  Calls Tryz.prog 97 #[.string s] w fun e w'=>e=.returned (.int .i64 1)∧w'=w:=by
 go_enter Tryz.func97,Tryz.ntmps97
 go_wp2
 go_ret
 exact ⟨rfl,rfl⟩
theorem refArity_3 (s:ByteArray) (w:World) (h0:(s.toList == [108,101,110])=false) (h1:(s.toList == [115,116,114])=false) (h2:(s.toList == [110,117,109])=false) (h3:(s.toList == [105,115,110,117,108,108])=true) :
  Calls Tryz.prog 97 #[.string s] w fun e w'=>e=.returned (.int .i64 1)∧w'=w:=by
 go_enter Tryz.func97,Tryz.ntmps97
 go_wp2
 go_ret
 exact ⟨rfl,rfl⟩
theorem refArity_4 (s:ByteArray) (w:World) (h0:(s.toList == [108,101,110])=false) (h1:(s.toList == [115,116,114])=false) (h2:(s.toList == [110,117,109])=false) (h3:(s.toList == [105,115,110,117,108,108])=false) (h4:(s.toList == [110,118,108])=true) :
  Calls Tryz.prog 97 #[.string s] w fun e w'=>e=.returned (.int .i64 2)∧w'=w:=by
 go_enter Tryz.func97,Tryz.ntmps97
 go_wp2
 go_ret
 exact ⟨rfl,rfl⟩
theorem refArity_5 (s:ByteArray) (w:World) (h0:(s.toList == [108,101,110])=false) (h1:(s.toList == [115,116,114])=false) (h2:(s.toList == [110,117,109])=false) (h3:(s.toList == [105,115,110,117,108,108])=false) (h4:(s.toList == [110,118,108])=false) (h5:(s.toList == [108,101,102,116])=true) :
  Calls Tryz.prog 97 #[.string s] w fun e w'=>e=.returned (.int .i64 2)∧w'=w:=by
 go_enter Tryz.func97,Tryz.ntmps97
 go_wp2
 go_ret
 exact ⟨rfl,rfl⟩
theorem refArity_6 (s:ByteArray) (w:World) (h0:(s.toList == [108,101,110])=false) (h1:(s.toList == [115,116,114])=false) (h2:(s.toList == [110,117,109])=false) (h3:(s.toList == [105,115,110,117,108,108])=false) (h4:(s.toList == [110,118,108])=false) (h5:(s.toList == [108,101,102,116])=false) (h6:(s.toList == [114,105,103,104,116])=true) :
  Calls Tryz.prog 97 #[.string s] w fun e w'=>e=.returned (.int .i64 2)∧w'=w:=by
 go_enter Tryz.func97,Tryz.ntmps97
 go_wp2
 go_ret
 exact ⟨rfl,rfl⟩
theorem refArity_7 (s:ByteArray) (w:World) (h0:(s.toList == [108,101,110])=false) (h1:(s.toList == [115,116,114])=false) (h2:(s.toList == [110,117,109])=false) (h3:(s.toList == [105,115,110,117,108,108])=false) (h4:(s.toList == [110,118,108])=false) (h5:(s.toList == [108,101,102,116])=false) (h6:(s.toList == [114,105,103,104,116])=false) (h7:(s.toList == [105,102])=true) :
  Calls Tryz.prog 97 #[.string s] w fun e w'=>e=.returned (.int .i64 3)∧w'=w:=by
 go_enter Tryz.func97,Tryz.ntmps97
 go_wp2
 go_ret
 exact ⟨rfl,rfl⟩
theorem refArity_none (s:ByteArray) (w:World) (h0:(s.toList == [108,101,110])=false) (h1:(s.toList == [115,116,114])=false) (h2:(s.toList == [110,117,109])=false) (h3:(s.toList == [105,115,110,117,108,108])=false) (h4:(s.toList == [110,118,108])=false) (h5:(s.toList == [108,101,102,116])=false) (h6:(s.toList == [114,105,103,104,116])=false) (h7:(s.toList == [105,102])=false) :
  Calls Tryz.prog 97 #[.string s] w fun e w'=>e=.returned (.int .i64 (-1))∧w'=w:=by
 go_enter Tryz.func97,Tryz.ntmps97
 go_wp2
 go_ret
 exact ⟨rfl,rfl⟩
theorem refArity_any (s:ByteArray) (w:World):Calls Tryz.prog 97 #[.string s] w fun e w'=>e=.returned (.int .i64 (Ex.arity s.data.toList))∧w'=w:=by
 have hl:s.data.toList=s.toList:=(ByteArray.toList_eq s).symm
 rw [hl,Ex.arity]
 cases h0:s.toList == [108,101,110]
 case true=>exact refArity_0 s w h0
 rw [cond_false]
 cases h1:s.toList == [115,116,114]
 case true=>exact refArity_1 s w h0 h1
 rw [cond_false]
 cases h2:s.toList == [110,117,109]
 case true=>exact refArity_2 s w h0 h1 h2
 rw [cond_false]
 cases h3:s.toList == [105,115,110,117,108,108]
 case true=>exact refArity_3 s w h0 h1 h2 h3
 rw [cond_false]
 cases h4:s.toList == [110,118,108]
 case true=>exact refArity_4 s w h0 h1 h2 h3 h4
 rw [cond_false]
 cases h5:s.toList == [108,101,102,116]
 case true=>exact refArity_5 s w h0 h1 h2 h3 h4 h5
 rw [cond_false]
 cases h6:s.toList == [114,105,103,104,116]
 case true=>exact refArity_6 s w h0 h1 h2 h3 h4 h5 h6
 rw [cond_false]
 cases h7:s.toList == [105,102]
 case true=>exact refArity_7 s w h0 h1 h2 h3 h4 h5 h6 h7
 rw [cond_false]
 exact refArity_none s w h0 h1 h2 h3 h4 h5 h6 h7
end Go.Proofs.YteghhmomhlnccaaGreatDoor
