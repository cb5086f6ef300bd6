import Derived.Shelf.Strings.Trim
import Derived.Shelf.Strings.SlTrimAscii
import Derived.Shelf.Small.Strs
import Derived.Shelf.Strings.Cut
import Derived.Shelf.Small.Wraps
import Derived.Shelf.LaysM
import Derived.Shelf.Strconv.Itoa4
import Derived.Shelf.LaysC
import Derived.Shelf.Strconv.ParseIntPublic10
import Derived.Shelf.Strconv.ErrVarParseInt
import Derived.Shelf.Strings.Prefix
import Derived.Shelf.Strings.Replace
import Derived.Test.YteghhmomhlnccaaGreatDoorRows
import Derived.Test.YteghhmomhlnccaaGreatDoorYP1
import Derived.SizedLaws
import Derived.ChangeSame
import Derived.ChangeVars
import Derived.ChangeMaps5
import Derived.JoinedOf
import Derived.JoinedAt
import Derived.RowKit3
import Derived.RowKitTokens
import Derived.LaidLaws
import Derived.DataShut
import Derived.ShutString
import Derived.Lib.SmallJoins
import Derived.Shelf.Vars
import Derived.Lay
import Derived.MakeChecks
import Derived.Handed
import Derived.SevenTiedAt
import Derived.Lib.Hide
import Derived.Lib.ItoaNum
import Derived.Lib.ParseIntB
set_option linter.unusedVariables false
set_option linter.unusedSimpArgs false
namespace Go.Proofs.YteghhmomhlnccaaGreatDoor
open Go.Shelf
def powName : String := Rows.evalTellsRow.named[3]?.getD ("")
def Tryz.lays161_ren : Go.Shelf.Ren := ⟨fun | 161 => 100 | 231 => 123 | 227 => 124 | 233 => 125 | 235 => 126 | 228 => 149 | 197 => 150 | 151 => 151 | 260 => 169 | 152 => 170 | 137 => 155 | 119 => 192 | 224 => 173 | 225 => 172 | 217 => 171 | 266 => 193 | n => n, fun | 9 => 9 | 4 => 4 | 3 => 3 | 5 => 5 | 117 => 155 | 116 => 154 | 0 => 0 | 124 => 158 | 105 => 172 | 21 => 21 | 119 => 214 | 46 => 42 | 139 => 217 | 138 => 216 | n => n, fun | 3 => 2 | 4 => 3 | n => n⟩
theorem Tryz.lays161 : Go.Proofs.Lays.n161 Tryz.prog Tryz.lays161_ren := {
 mixed := by kernel_rfl
 f119 := Tryz.func192.trans (congrArg some (by kernel_rfl))
 f137 := Tryz.func155.trans (congrArg some (by kernel_rfl))
 f151 := Tryz.func151.trans (congrArg some (by kernel_rfl))
 f152 := Tryz.func170.trans (congrArg some (by kernel_rfl))
 f161 := Tryz.func100.trans (congrArg some (by kernel_rfl))
 f197 := Tryz.func150.trans (congrArg some (by kernel_rfl))
 f217 := Tryz.func171.trans (congrArg some (by kernel_rfl))
 f224 := Tryz.func173.trans (congrArg some (by kernel_rfl))
 f225 := Tryz.func172.trans (congrArg some (by kernel_rfl))
 f227 := Tryz.func124.trans (congrArg some (by kernel_rfl))
 f228 := Tryz.func149.trans (congrArg some (by kernel_rfl))
 f231 := Tryz.func123.trans (congrArg some (by kernel_rfl))
 f233 := Tryz.func125.trans (congrArg some (by kernel_rfl))
 f235 := Tryz.func126.trans (congrArg some (by kernel_rfl))
 f260 := Tryz.func169.trans (congrArg some (by kernel_rfl))
 f266 := Tryz.func193.trans (congrArg some (by kernel_rfl))
 t0 := Tryz.underlying0
 a0 := Tryz.isAgg0
 z0 := Tryz.sizeOf0
 v0 := Tryz.zeroValue0
 t3 := Tryz.underlying3
 a3 := Tryz.isAgg3
 z3 := Tryz.sizeOf3
 v3 := Tryz.zeroValue3
 t4 := Tryz.underlying4
 a4 := Tryz.isAgg4
 z4 := Tryz.sizeOf4
 v4 := Tryz.zeroValue4
 t5 := Tryz.underlying5
 a5 := Tryz.isAgg5
 z5 := Tryz.sizeOf5
 v5 := Tryz.zeroValue5
 t9 := Tryz.underlying9
 a9 := Tryz.isAgg9
 z9 := Tryz.sizeOf9
 v9 := Tryz.zeroValue9
 t21 := Tryz.underlying21
 a21 := Tryz.isAgg21
 z21 := Tryz.sizeOf21
 v21 := Tryz.zeroValue21
 t46 := Tryz.underlying42
 a46 := Tryz.isAgg42
 z46 := Tryz.sizeOf42
 v46 := Tryz.zeroValue42
 t105 := Tryz.underlying172
 a105 := Tryz.isAgg172
 z105 := Tryz.sizeOf172
 v105 := Tryz.zeroValue172
 t116 := Tryz.underlying154
 a116 := Tryz.isAgg154
 z116 := Tryz.sizeOf154
 t117 := Tryz.underlying155
 a117 := Tryz.isAgg155
 z117 := Tryz.sizeOf155
 v117 := Tryz.zeroValue155
 t119 := Tryz.underlying214
 a119 := Tryz.isAgg214
 z119 := Tryz.sizeOf214
 t124 := Tryz.underlying158
 a124 := Tryz.isAgg158
 z124 := Tryz.sizeOf158
 v124 := Tryz.zeroValue158
 t138 := Tryz.underlying216
 a138 := Tryz.isAgg216
 z138 := Tryz.sizeOf216
 v138 := Tryz.zeroValue216
 t139 := Tryz.underlying217
 a139 := Tryz.isAgg217
 z139 := Tryz.sizeOf217
 v139 := Tryz.zeroValue217
 g3 := by kernel_rfl
 g4 := by kernel_rfl }
def Tryz.lays137_ren : Go.Shelf.Ren := ⟨fun | 137 => 155 | 217 => 171 | 266 => 193 | n => n, fun | 9 => 9 | 5 => 5 | 3 => 3 | n => n, fun | n => n⟩
theorem Tryz.lays137 : Go.Proofs.Lays.n137 Tryz.prog Tryz.lays137_ren := {
 mixed := by kernel_rfl
 f137 := Tryz.func155.trans (congrArg some (by kernel_rfl))
 f217 := Tryz.func171.trans (congrArg some (by kernel_rfl))
 f266 := Tryz.func193.trans (congrArg some (by kernel_rfl))
 t3 := Tryz.underlying3
 a3 := Tryz.isAgg3
 z3 := Tryz.sizeOf3
 v3 := Tryz.zeroValue3
 t5 := Tryz.underlying5
 a5 := Tryz.isAgg5
 z5 := Tryz.sizeOf5
 v5 := Tryz.zeroValue5
 t9 := Tryz.underlying9
 a9 := Tryz.isAgg9
 z9 := Tryz.sizeOf9
 v9 := Tryz.zeroValue9 }
open Go.RowKit in
theorem Tryz.strings_IndexByte (s : ByteArray) (c : Int) (w : World) :
  Calls Tryz.prog 155 #[.string s, .int .u8 c] w fun e w' => e = .returned (.int .i64 (Lib.indexByte s.data.toList c.toNat.toUInt8)) ∧ w' = w := Any.strings_IndexByte Tryz.lays137 s c w
def Tryz.lays103_ren : Go.Shelf.Ren := ⟨fun | 103 => 163 | 210 => 186 | 206 => 127 | n => n, fun | 9 => 9 | 4 => 4 | 24 => 180 | 3 => 3 | n => n, fun | n => n⟩
theorem Tryz.lays103 : Go.Proofs.Lays.n103 Tryz.prog Tryz.lays103_ren := {
 mixed := by kernel_rfl
 f103 := Tryz.func163.trans (congrArg some (by kernel_rfl))
 f206 := Tryz.func127.trans (congrArg some (by kernel_rfl))
 f210 := Tryz.func186.trans (congrArg some (by kernel_rfl))
 t3 := Tryz.underlying3
 a3 := Tryz.isAgg3
 z3 := Tryz.sizeOf3
 v3 := Tryz.zeroValue3
 t4 := Tryz.underlying4
 a4 := Tryz.isAgg4
 z4 := Tryz.sizeOf4
 v4 := Tryz.zeroValue4
 t9 := Tryz.underlying9
 a9 := Tryz.isAgg9
 z9 := Tryz.sizeOf9
 v9 := Tryz.zeroValue9
 t24 := Tryz.underlying180
 a24 := Tryz.isAgg180
 z24 := Tryz.sizeOf180
 v24 := Tryz.zeroValue180 }
open Go.RowKit in
theorem Tryz.strings_CutPrefix (s p : ByteArray) (w : World) :
  Calls Tryz.prog 163 #[.string s, .string p] w fun e w' => e = .returned (.tuple #[.string ⟨(Lib.trimPrefix s.data.toList p.data.toList).toArray⟩, .bool (Lib.hasPrefix s.data.toList p.data.toList)]) ∧ w' = w := Any.strings_CutPrefix Tryz.lays103 s p w
def Tryz.laysM173_ren : Go.Shelf.Ren := ⟨fun | 173 => 145 | 246 => 162 | 283 => 182 | 284 => 183 | 285 => 184 | 286 => 185 | 129 => 201 | 317 => 200 | 318 => 202 | 319 => 203 | 320 => 204 | 337 => 217 | 338 => 218 | n => n, fun | 2 => 2 | 3 => 3 | 9 => 9 | 4 => 4 | 171 => 192 | 0 => 0 | 53 => 70 | 37 => 111 | 5 => 5 | 173 => 195 | 212 => 225 | 51 => 219 | 20 => 20 | 213 => 226 | 46 => 42 | 232 => 245 | 233 => 246 | n => n, fun | 17 => 4 | 18 => 6 | 19 => 7 | n => n⟩
theorem Tryz.laysM173 : Go.Proofs.LaysM.n173 Tryz.prog Tryz.laysM173_ren := {
 mixed := by kernel_rfl
 f129 := Tryz.func201.trans (congrArg some (by kernel_rfl))
 f173 := Tryz.func145.trans (congrArg some (by kernel_rfl))
 f246 := Tryz.func162.trans (congrArg some (by kernel_rfl))
 f283 := Tryz.func182.trans (congrArg some (by kernel_rfl))
 f284 := Tryz.func183.trans (congrArg some (by kernel_rfl))
 f285 := Tryz.func184.trans (congrArg some (by kernel_rfl))
 f286 := Tryz.func185.trans (congrArg some (by kernel_rfl))
 f317 := Tryz.func200.trans (congrArg some (by kernel_rfl))
 f318 := Tryz.func202.trans (congrArg some (by kernel_rfl))
 f319 := Tryz.func203.trans (congrArg some (by kernel_rfl))
 f320 := Tryz.func204.trans (congrArg some (by kernel_rfl))
 f337 := Tryz.func217.trans (congrArg some (by kernel_rfl))
 f338 := Tryz.func218.trans (congrArg some (by kernel_rfl))
 t0 := Tryz.underlying0
 a0 := Tryz.isAgg0
 z0 := Tryz.sizeOf0
 v0 := Tryz.zeroValue0
 t2 := Tryz.underlying2
 a2 := Tryz.isAgg2
 z2 := Tryz.sizeOf2
 v2 := Tryz.zeroValue2
 t3 := Tryz.underlying3
 a3 := Tryz.isAgg3
 z3 := Tryz.sizeOf3
 v3 := Tryz.zeroValue3
 t4 := Tryz.underlying4
 a4 := Tryz.isAgg4
 z4 := Tryz.sizeOf4
 v4 := Tryz.zeroValue4
 t5 := Tryz.underlying5
 a5 := Tryz.isAgg5
 z5 := Tryz.sizeOf5
 v5 := Tryz.zeroValue5
 t9 := Tryz.underlying9
 a9 := Tryz.isAgg9
 z9 := Tryz.sizeOf9
 v9 := Tryz.zeroValue9
 t20 := Tryz.underlying20
 a20 := Tryz.isAgg20
 z20 := Tryz.sizeOf20
 v20 := Tryz.zeroValue20
 t37 := Tryz.underlying111
 a37 := Tryz.isAgg111
 z37 := Tryz.sizeOf111
 v37 := Tryz.zeroValue111
 t46 := Tryz.underlying42
 a46 := Tryz.isAgg42
 z46 := Tryz.sizeOf42
 v46 := Tryz.zeroValue42
 t51 := Tryz.underlying219
 a51 := Tryz.isAgg219
 z51 := Tryz.sizeOf219
 v51 := Tryz.zeroValue219
 t53 := Tryz.underlying70
 a53 := Tryz.isAgg70
 z53 := Tryz.sizeOf70
 v53 := Tryz.zeroValue70
 t171 := Tryz.underlying192
 a171 := Tryz.isAgg192
 z171 := Tryz.sizeOf192
 v171 := Tryz.zeroValue192
 t173 := Tryz.underlying195
 a173 := Tryz.isAgg195
 z173 := Tryz.sizeOf195
 v173 := Tryz.zeroValue195
 t212 := Tryz.underlying225
 a212 := Tryz.isAgg225
 z212 := Tryz.sizeOf225
 v212 := Tryz.zeroValue225
 t213 := Tryz.underlying226
 a213 := Tryz.isAgg226
 z213 := Tryz.sizeOf226
 t232 := Tryz.underlying245
 a232 := Tryz.isAgg245
 z232 := Tryz.sizeOf245
 v232 := Tryz.zeroValue245
 t233 := Tryz.underlying246
 a233 := Tryz.isAgg246
 z233 := Tryz.sizeOf246
 v233 := Tryz.zeroValue246
 g17 := by kernel_rfl
 g18 := by kernel_rfl
 g19 := by kernel_rfl
 i0 := by kernel_rfl
 i2 := by kernel_rfl
 i3 := by kernel_rfl
 i4 := by kernel_rfl
 i5 := by kernel_rfl
 i9 := by kernel_rfl
 i20 := by kernel_rfl
 i37 := by kernel_rfl
 i46 := by kernel_rfl
 i51 := by kernel_rfl
 i53 := by kernel_rfl
 i171 := by kernel_rfl
 i173 := by kernel_rfl
 i212 := by kernel_rfl
 i232 := by kernel_rfl
 i233 := by kernel_rfl
 m17 := by kernel_rfl
 m18 := by kernel_rfl
 m19 := by kernel_rfl }
open Go.RowKit Go.Sort Go.Lib in
theorem Tryz.strconv_FormatInt_10 (n : Int) (h0 : -9223372036854775808 ≤ n) (h1 : n ≤ 9223372036854775807) (w : World) (htab : Lib.TabIs Tryz.prog w powName .u64 Lib.pow10Tab) :
  Calls Tryz.prog 145 #[.int .i64 n, .int .i64 10] w fun e w' => e = .returned (.string ⟨(Lib.itoa n).toArray⟩) ∧ ∃ k os, w' = grow (w.drewN k) os := Any.strconv_FormatInt_10 Tryz.laysM173 n h0 h1 w htab
def Tryz.laysC174_ren : Go.Shelf.Ren := ⟨fun | 174 => 147 | 247 => 165 | 245 => 166 | 287 => 187 | 279 => 188 | 280 => 189 | 281 => 190 | 282 => 191 | 321 => 205 | 322 => 206 | 316 => 207 | 171 => 209 | 205 => 208 | 243 => 219 | 246 => 162 | 283 => 182 | 284 => 183 | 285 => 184 | 286 => 185 | 129 => 201 | 317 => 200 | 318 => 202 | 319 => 203 | 320 => 204 | 337 => 217 | 338 => 218 | n => n, fun | 9 => 9 | 3 => 3 | 2 => 2 | 75 => 168 | 85 => 169 | 4 => 4 | 167 => 197 | 5 => 5 | 53 => 70 | 175 => 198 | 46 => 42 | 168 => 200 | 37 => 111 | 0 => 0 | 210 => 231 | 21 => 21 | 127 => 241 | 145 => 244 | 143 => 242 | 171 => 192 | 173 => 195 | 212 => 225 | 51 => 219 | 20 => 20 | 213 => 226 | 232 => 245 | 233 => 246 | 80 => 239 | n => n, fun | 15 => 5 | 16 => 0 | 17 => 4 | 18 => 6 | 19 => 7 | n => n⟩
theorem Tryz.laysC174 : Go.Proofs.LaysC.n174 Tryz.prog Tryz.laysC174_ren := {
 mixed := by kernel_rfl
 f129 := Tryz.func201.trans (congrArg some (by kernel_rfl))
 f171 := Tryz.func209.trans (congrArg some (by kernel_rfl))
 f174 := Tryz.func147.trans (congrArg some (by kernel_rfl))
 f205 := Tryz.func208.trans (congrArg some (by kernel_rfl))
 f243 := Tryz.func219.trans (congrArg some (by kernel_rfl))
 f245 := Tryz.func166.trans (congrArg some (by kernel_rfl))
 f246 := Tryz.func162.trans (congrArg some (by kernel_rfl))
 f247 := Tryz.func165.trans (congrArg some (by kernel_rfl))
 f279 := Tryz.func188.trans (congrArg some (by kernel_rfl))
 f280 := Tryz.func189.trans (congrArg some (by kernel_rfl))
 f281 := Tryz.func190.trans (congrArg some (by kernel_rfl))
 f282 := Tryz.func191.trans (congrArg some (by kernel_rfl))
 f283 := Tryz.func182.trans (congrArg some (by kernel_rfl))
 f284 := Tryz.func183.trans (congrArg some (by kernel_rfl))
 f285 := Tryz.func184.trans (congrArg some (by kernel_rfl))
 f286 := Tryz.func185.trans (congrArg some (by kernel_rfl))
 f287 := Tryz.func187.trans (congrArg some (by kernel_rfl))
 f316 := Tryz.func207.trans (congrArg some (by kernel_rfl))
 f317 := Tryz.func200.trans (congrArg some (by kernel_rfl))
 f318 := Tryz.func202.trans (congrArg some (by kernel_rfl))
 f319 := Tryz.func203.trans (congrArg some (by kernel_rfl))
 f320 := Tryz.func204.trans (congrArg some (by kernel_rfl))
 f321 := Tryz.func205.trans (congrArg some (by kernel_rfl))
 f322 := Tryz.func206.trans (congrArg some (by kernel_rfl))
 f337 := Tryz.func217.trans (congrArg some (by kernel_rfl))
 f338 := Tryz.func218.trans (congrArg some (by kernel_rfl))
 t0 := Tryz.underlying0
 a0 := Tryz.isAgg0
 z0 := Tryz.sizeOf0
 v0 := Tryz.zeroValue0
 t2 := Tryz.underlying2
 a2 := Tryz.isAgg2
 z2 := Tryz.sizeOf2
 v2 := Tryz.zeroValue2
 t3 := Tryz.underlying3
 a3 := Tryz.isAgg3
 z3 := Tryz.sizeOf3
 v3 := Tryz.zeroValue3
 t4 := Tryz.underlying4
 a4 := Tryz.isAgg4
 z4 := Tryz.sizeOf4
 v4 := Tryz.zeroValue4
 t5 := Tryz.underlying5
 a5 := Tryz.isAgg5
 z5 := Tryz.sizeOf5
 v5 := Tryz.zeroValue5
 t9 := Tryz.underlying9
 a9 := Tryz.isAgg9
 z9 := Tryz.sizeOf9
 v9 := Tryz.zeroValue9
 t20 := Tryz.underlying20
 a20 := Tryz.isAgg20
 z20 := Tryz.sizeOf20
 v20 := Tryz.zeroValue20
 t21 := Tryz.underlying21
 a21 := Tryz.isAgg21
 z21 := Tryz.sizeOf21
 v21 := Tryz.zeroValue21
 t37 := Tryz.underlying111
 a37 := Tryz.isAgg111
 z37 := Tryz.sizeOf111
 v37 := Tryz.zeroValue111
 t46 := Tryz.underlying42
 a46 := Tryz.isAgg42
 z46 := Tryz.sizeOf42
 v46 := Tryz.zeroValue42
 t51 := Tryz.underlying219
 a51 := Tryz.isAgg219
 z51 := Tryz.sizeOf219
 v51 := Tryz.zeroValue219
 t53 := Tryz.underlying70
 a53 := Tryz.isAgg70
 z53 := Tryz.sizeOf70
 v53 := Tryz.zeroValue70
 t75 := Tryz.underlying168
 a75 := Tryz.isAgg168
 z75 := Tryz.sizeOf168
 v75 := Tryz.zeroValue168
 t85 := Tryz.underlying169
 a85 := Tryz.isAgg169
 z85 := Tryz.sizeOf169
 v85 := Tryz.zeroValue169
 t127 := Tryz.underlying241
 a127 := Tryz.isAgg241
 z127 := Tryz.sizeOf241
 v127 := Tryz.zeroValue241
 t143 := Tryz.underlying242
 a143 := Tryz.isAgg242
 z143 := Tryz.sizeOf242
 v143 := Tryz.zeroValue242
 t145 := Tryz.underlying244
 a145 := Tryz.isAgg244
 z145 := Tryz.sizeOf244
 v145 := Tryz.zeroValue244
 t167 := Tryz.underlying197
 a167 := Tryz.isAgg197
 z167 := Tryz.sizeOf197
 v167 := Tryz.zeroValue197
 t168 := Tryz.underlying200
 a168 := Tryz.isAgg200
 z168 := Tryz.sizeOf200
 v168 := Tryz.zeroValue200
 t171 := Tryz.underlying192
 a171 := Tryz.isAgg192
 z171 := Tryz.sizeOf192
 v171 := Tryz.zeroValue192
 t173 := Tryz.underlying195
 a173 := Tryz.isAgg195
 z173 := Tryz.sizeOf195
 v173 := Tryz.zeroValue195
 t175 := Tryz.underlying198
 a175 := Tryz.isAgg198
 z175 := Tryz.sizeOf198
 v175 := Tryz.zeroValue198
 t210 := Tryz.underlying231
 a210 := Tryz.isAgg231
 z210 := Tryz.sizeOf231
 v210 := Tryz.zeroValue231
 t212 := Tryz.underlying225
 a212 := Tryz.isAgg225
 z212 := Tryz.sizeOf225
 v212 := Tryz.zeroValue225
 t213 := Tryz.underlying226
 a213 := Tryz.isAgg226
 z213 := Tryz.sizeOf226
 t232 := Tryz.underlying245
 a232 := Tryz.isAgg245
 z232 := Tryz.sizeOf245
 v232 := Tryz.zeroValue245
 t233 := Tryz.underlying246
 a233 := Tryz.isAgg246
 z233 := Tryz.sizeOf246
 v233 := Tryz.zeroValue246
 g15 := by kernel_rfl
 g16 := by kernel_rfl
 g17 := by kernel_rfl
 g18 := by kernel_rfl
 g19 := by kernel_rfl
 t80 := Tryz.underlying239
 a80 := Tryz.isAgg239
 z80 := Tryz.sizeOf239
 v80 := Tryz.zeroValue239
 i0 := by kernel_rfl
 i2 := by kernel_rfl
 i3 := by kernel_rfl
 i4 := by kernel_rfl
 i5 := by kernel_rfl
 i9 := by kernel_rfl
 i20 := by kernel_rfl
 i21 := by kernel_rfl
 i37 := by kernel_rfl
 i46 := by kernel_rfl
 i51 := by kernel_rfl
 i53 := by kernel_rfl
 i75 := by kernel_rfl
 i80 := by kernel_rfl
 i85 := by kernel_rfl
 i127 := by kernel_rfl
 i143 := by kernel_rfl
 i145 := by kernel_rfl
 i167 := by kernel_rfl
 i168 := by kernel_rfl
 i171 := by kernel_rfl
 i173 := by kernel_rfl
 i175 := by kernel_rfl
 i210 := by kernel_rfl
 i212 := by kernel_rfl
 i232 := by kernel_rfl
 i233 := by kernel_rfl
 m15 := by kernel_rfl
 m16 := by kernel_rfl
 m17 := by kernel_rfl
 m18 := by kernel_rfl
 m19 := by kernel_rfl
 c0 := by kernel_rfl
 c2 := by kernel_rfl
 c3 := by kernel_rfl
 c4 := by kernel_rfl
 c5 := by kernel_rfl
 c9 := by kernel_rfl
 c20 := by kernel_rfl
 c21 := by kernel_rfl
 c37 := by kernel_rfl
 c46 := by kernel_rfl
 c51 := by kernel_rfl
 c53 := by kernel_rfl
 c75 := by kernel_rfl
 c80 := by kernel_rfl
 c85 := by kernel_rfl
 c127 := by kernel_rfl
 c143 := by kernel_rfl
 c145 := by kernel_rfl
 c167 := by kernel_rfl
 c168 := by kernel_rfl
 c171 := by kernel_rfl
 c173 := by kernel_rfl
 c175 := by kernel_rfl
 c210 := by kernel_rfl
 c212 := by kernel_rfl
 c213 := by kernel_rfl
 c232 := by kernel_rfl
 c233 := by kernel_rfl }
open Go.RowKit in
theorem Tryz.strconv_ParseInt_10_at64_ok (s : ByteArray) (hmax : s.size ≤ 9223372036854775806) (v : Int) (h : Lib.parseIntB 64 s.data.toList = .ok v) (w : World) :
  Calls Tryz.prog 147 #[.string s, .int .i64 10, .int .i64 64] w fun e w' => e = .returned (.tuple #[.int .i64 v, .nilIface]) ∧ (w' = w ∨ ∃ t, w' = Lib.bytesWorld w 5 t) := Any.strconv_ParseInt_10_at64_ok Tryz.laysC174 s hmax v h w
open Go.RowKit in
theorem Tryz.strconv_ParseInt_10_at64_range_var (s : ByteArray) (hlim : s.size ≤ 281474976710656) (h : Lib.parseIntB 64 s.data.toList = .range) (tp : TypeId) (p : Value) (w : World) (hvar : w.var? Tryz.prog "strconv.ErrRange" = some #[.iface tp p]) :
  Calls Tryz.prog 147 #[.string s, .int .i64 10, .int .i64 64] w fun e w' => ∃ N, e = .returned (.tuple #[.int .i64 (Lib.intSat 64 s.data.toList), .iface 200 (.pointer (some ⟨N, 0, none⟩))]) ∧ w.heap.size ≤ N ∧ w'.heap[N]? = some (.cells #[.string ⟨#[80, 97, 114, 115, 101, 73, 110, 116]⟩, .string s, .iface tp p] 231 (0, 0)) ∧ Below w.heap.size w w' := Any.strconv_ParseInt_10_at64_range_var Tryz.laysC174 s hlim h tp p w hvar
def Tryz.lays145_ren : Go.Shelf.Ren := ⟨fun | 145 => 102 | 220 => 128 | 219 => 152 | 217 => 171 | 225 => 172 | 224 => 173 | 267 => 174 | 266 => 193 | 314 => 194 | n => n, fun | 9 => 9 | 4 => 4 | 59 => 139 | 3 => 3 | 5 => 5 | 46 => 42 | 146 => 220 | 51 => 219 | n => n, fun | 1 => 1 | n => n⟩
theorem Tryz.lays145 : Go.Proofs.Lays.n145 Tryz.prog Tryz.lays145_ren := {
 mixed := by kernel_rfl
 f145 := Tryz.func102.trans (congrArg some (by kernel_rfl))
 f217 := Tryz.func171.trans (congrArg some (by kernel_rfl))
 f219 := Tryz.func152.trans (congrArg some (by kernel_rfl))
 f220 := Tryz.func128.trans (congrArg some (by kernel_rfl))
 f224 := Tryz.func173.trans (congrArg some (by kernel_rfl))
 f225 := Tryz.func172.trans (congrArg some (by kernel_rfl))
 f266 := Tryz.func193.trans (congrArg some (by kernel_rfl))
 f267 := Tryz.func174.trans (congrArg some (by kernel_rfl))
 f314 := Tryz.func194.trans (congrArg some (by kernel_rfl))
 t3 := Tryz.underlying3
 a3 := Tryz.isAgg3
 z3 := Tryz.sizeOf3
 v3 := Tryz.zeroValue3
 t4 := Tryz.underlying4
 a4 := Tryz.isAgg4
 z4 := Tryz.sizeOf4
 v4 := Tryz.zeroValue4
 t5 := Tryz.underlying5
 a5 := Tryz.isAgg5
 z5 := Tryz.sizeOf5
 v5 := Tryz.zeroValue5
 t9 := Tryz.underlying9
 a9 := Tryz.isAgg9
 z9 := Tryz.sizeOf9
 v9 := Tryz.zeroValue9
 t46 := Tryz.underlying42
 a46 := Tryz.isAgg42
 z46 := Tryz.sizeOf42
 v46 := Tryz.zeroValue42
 t51 := Tryz.underlying219
 a51 := Tryz.isAgg219
 z51 := Tryz.sizeOf219
 v51 := Tryz.zeroValue219
 t59 := Tryz.underlying139
 a59 := Tryz.isAgg139
 z59 := Tryz.sizeOf139
 v59 := Tryz.zeroValue139
 t146 := Tryz.underlying220
 a146 := Tryz.isAgg220
 z146 := Tryz.sizeOf220
 v146 := Tryz.zeroValue220
 g1 := by kernel_rfl }
open Go.RowKit Go.Lib in
theorem Tryz.strings_Cut (s sep : ByteArray) (m : Int) (w : World) (hs : s.size < 4294967281) (hm : w.cell? ⟨1, 0, none⟩ = some (.int .i64 m)) :
  Calls Tryz.prog 102 #[.string s, .string sep] w fun e w' => e = .returned (.tuple #[.string ⟨(Lib.cut s.data.toList sep.data.toList).1.toArray⟩, .string ⟨(Lib.cut s.data.toList sep.data.toList).2.1.toArray⟩, .bool (Lib.cut s.data.toList sep.data.toList).2.2]) ∧ ∃ n, w' = w.drewN n := Any.strings_Cut Tryz.lays145 s sep m w hs hm
def Tryz.lays99_ren : Go.Shelf.Ren := ⟨fun | 99 => 101 | 206 => 127 | n => n, fun | 9 => 9 | 4 => 4 | 3 => 3 | n => n, fun | n => n⟩
theorem Tryz.lays99 : Go.Proofs.Lays.n99 Tryz.prog Tryz.lays99_ren := {
 mixed := by kernel_rfl
 f99 := Tryz.func101.trans (congrArg some (by kernel_rfl))
 f206 := Tryz.func127.trans (congrArg some (by kernel_rfl))
 t3 := Tryz.underlying3
 a3 := Tryz.isAgg3
 z3 := Tryz.sizeOf3
 v3 := Tryz.zeroValue3
 t4 := Tryz.underlying4
 a4 := Tryz.isAgg4
 z4 := Tryz.sizeOf4
 v4 := Tryz.zeroValue4
 t9 := Tryz.underlying9
 a9 := Tryz.isAgg9
 z9 := Tryz.sizeOf9
 v9 := Tryz.zeroValue9 }
open Go.RowKit Go.Lib in
theorem Tryz.strings_HasPrefix (s p : ByteArray) (w : World) :
  Calls Tryz.prog 101 #[.string s, .string p] w fun e w' => e = .returned (.bool (Lib.hasPrefix s.data.toList p.data.toList)) ∧ w' = w := Any.strings_HasPrefix Tryz.lays99 s p w
def Tryz.lays101_ren : Go.Shelf.Ren := ⟨fun | 101 => 176 | 208 => 196 | 206 => 127 | n => n, fun | 9 => 9 | 4 => 4 | 3 => 3 | n => n, fun | n => n⟩
theorem Tryz.lays101 : Go.Proofs.Lays.n101 Tryz.prog Tryz.lays101_ren := {
 mixed := by kernel_rfl
 f101 := Tryz.func176.trans (congrArg some (by kernel_rfl))
 f206 := Tryz.func127.trans (congrArg some (by kernel_rfl))
 f208 := Tryz.func196.trans (congrArg some (by kernel_rfl))
 t3 := Tryz.underlying3
 a3 := Tryz.isAgg3
 z3 := Tryz.sizeOf3
 v3 := Tryz.zeroValue3
 t4 := Tryz.underlying4
 a4 := Tryz.isAgg4
 z4 := Tryz.sizeOf4
 v4 := Tryz.zeroValue4
 t9 := Tryz.underlying9
 a9 := Tryz.isAgg9
 z9 := Tryz.sizeOf9
 v9 := Tryz.zeroValue9 }
open Go.RowKit Go.Lib in
theorem Tryz.strings_TrimPrefix (s p : ByteArray) (w : World) :
  Calls Tryz.prog 176 #[.string s, .string p] w fun e w' => e = .returned (.string ⟨(Lib.trimPrefix s.data.toList p.data.toList).toArray⟩) ∧ w' = w := Any.strings_TrimPrefix Tryz.lays101 s p w
def Tryz.lays102_ren : Go.Shelf.Ren := ⟨fun | 102 => 175 | 209 => 195 | 207 => 210 | n => n, fun | 9 => 9 | 4 => 4 | 3 => 3 | n => n, fun | n => n⟩
theorem Tryz.lays102 : Go.Proofs.Lays.n102 Tryz.prog Tryz.lays102_ren := {
 mixed := by kernel_rfl
 f102 := Tryz.func175.trans (congrArg some (by kernel_rfl))
 f207 := Tryz.func210.trans (congrArg some (by kernel_rfl))
 f209 := Tryz.func195.trans (congrArg some (by kernel_rfl))
 t3 := Tryz.underlying3
 a3 := Tryz.isAgg3
 z3 := Tryz.sizeOf3
 v3 := Tryz.zeroValue3
 t4 := Tryz.underlying4
 a4 := Tryz.isAgg4
 z4 := Tryz.sizeOf4
 v4 := Tryz.zeroValue4
 t9 := Tryz.underlying9
 a9 := Tryz.isAgg9
 z9 := Tryz.sizeOf9
 v9 := Tryz.zeroValue9 }
open Go.RowKit Go.Lib in
theorem Tryz.strings_TrimSuffix (s p : ByteArray) (w : World) (hs : s.size ≤ 9223372036854775807) :
  Calls Tryz.prog 175 #[.string s, .string p] w fun e w' => e = .returned (.string ⟨(Lib.trimSuffix s.data.toList p.data.toList).toArray⟩) ∧ w' = w := Any.strings_TrimSuffix Tryz.lays102 s p w hs
def Tryz.lays155_ren : Go.Shelf.Ren := ⟨fun | 155 => 177 | 154 => 197 | 138 => 211 | 165 => 212 | 143 => 213 | 166 => 214 | 197 => 150 | 169 => 215 | 195 => 220 | 218 => 221 | 240 => 222 | 241 => 223 | 219 => 152 | 260 => 169 | 276 => 225 | 277 => 226 | 217 => 171 | 225 => 172 | 224 => 173 | 267 => 174 | 266 => 193 | 314 => 194 | n => n, fun | 9 => 9 | 3 => 3 | 4 => 4 | 72 => 235 | 0 => 0 | 76 => 237 | 105 => 172 | 21 => 21 | 5 => 5 | 70 => 233 | 20 => 20 | 37 => 111 | 75 => 168 | 127 => 241 | 164 => 247 | 46 => 42 | 119 => 214 | 139 => 217 | 138 => 216 | 146 => 220 | 51 => 219 | 80 => 239 | n => n, fun | 1 => 1 | 3 => 2 | 4 => 3 | n => n⟩
theorem Tryz.lays155 : Go.Proofs.Lays.n155 Tryz.prog Tryz.lays155_ren := {
 mixed := by kernel_rfl
 f138 := Tryz.func211.trans (congrArg some (by kernel_rfl))
 f143 := Tryz.func213.trans (congrArg some (by kernel_rfl))
 f154 := Tryz.func197.trans (congrArg some (by kernel_rfl))
 f155 := Tryz.func177.trans (congrArg some (by kernel_rfl))
 f165 := Tryz.func212.trans (congrArg some (by kernel_rfl))
 f166 := Tryz.func214.trans (congrArg some (by kernel_rfl))
 f169 := Tryz.func215.trans (congrArg some (by kernel_rfl))
 f195 := Tryz.func220.trans (congrArg some (by kernel_rfl))
 f197 := Tryz.func150.trans (congrArg some (by kernel_rfl))
 f217 := Tryz.func171.trans (congrArg some (by kernel_rfl))
 f218 := Tryz.func221.trans (congrArg some (by kernel_rfl))
 f219 := Tryz.func152.trans (congrArg some (by kernel_rfl))
 f224 := Tryz.func173.trans (congrArg some (by kernel_rfl))
 f225 := Tryz.func172.trans (congrArg some (by kernel_rfl))
 f240 := Tryz.func222.trans (congrArg some (by kernel_rfl))
 f241 := Tryz.func223.trans (congrArg some (by kernel_rfl))
 f260 := Tryz.func169.trans (congrArg some (by kernel_rfl))
 f266 := Tryz.func193.trans (congrArg some (by kernel_rfl))
 f267 := Tryz.func174.trans (congrArg some (by kernel_rfl))
 f276 := Tryz.func225.trans (congrArg some (by kernel_rfl))
 f277 := Tryz.func226.trans (congrArg some (by kernel_rfl))
 f314 := Tryz.func194.trans (congrArg some (by kernel_rfl))
 t0 := Tryz.underlying0
 a0 := Tryz.isAgg0
 z0 := Tryz.sizeOf0
 v0 := Tryz.zeroValue0
 t3 := Tryz.underlying3
 a3 := Tryz.isAgg3
 z3 := Tryz.sizeOf3
 v3 := Tryz.zeroValue3
 t4 := Tryz.underlying4
 a4 := Tryz.isAgg4
 z4 := Tryz.sizeOf4
 v4 := Tryz.zeroValue4
 t5 := Tryz.underlying5
 a5 := Tryz.isAgg5
 z5 := Tryz.sizeOf5
 v5 := Tryz.zeroValue5
 t9 := Tryz.underlying9
 a9 := Tryz.isAgg9
 z9 := Tryz.sizeOf9
 v9 := Tryz.zeroValue9
 t20 := Tryz.underlying20
 a20 := Tryz.isAgg20
 z20 := Tryz.sizeOf20
 v20 := Tryz.zeroValue20
 t21 := Tryz.underlying21
 a21 := Tryz.isAgg21
 z21 := Tryz.sizeOf21
 v21 := Tryz.zeroValue21
 t37 := Tryz.underlying111
 a37 := Tryz.isAgg111
 z37 := Tryz.sizeOf111
 v37 := Tryz.zeroValue111
 t46 := Tryz.underlying42
 a46 := Tryz.isAgg42
 z46 := Tryz.sizeOf42
 v46 := Tryz.zeroValue42
 t51 := Tryz.underlying219
 a51 := Tryz.isAgg219
 z51 := Tryz.sizeOf219
 v51 := Tryz.zeroValue219
 t70 := Tryz.underlying233
 a70 := Tryz.isAgg233
 z70 := Tryz.sizeOf233
 v70 := Tryz.zeroValue233
 t72 := Tryz.underlying235
 a72 := Tryz.isAgg235
 z72 := Tryz.sizeOf235
 v72 := Tryz.zeroValue235
 t75 := Tryz.underlying168
 a75 := Tryz.isAgg168
 z75 := Tryz.sizeOf168
 v75 := Tryz.zeroValue168
 t76 := Tryz.underlying237
 a76 := Tryz.isAgg237
 z76 := Tryz.sizeOf237
 v76 := Tryz.zeroValue237
 t105 := Tryz.underlying172
 a105 := Tryz.isAgg172
 z105 := Tryz.sizeOf172
 v105 := Tryz.zeroValue172
 t119 := Tryz.underlying214
 a119 := Tryz.isAgg214
 z119 := Tryz.sizeOf214
 t127 := Tryz.underlying241
 a127 := Tryz.isAgg241
 z127 := Tryz.sizeOf241
 v127 := Tryz.zeroValue241
 t138 := Tryz.underlying216
 a138 := Tryz.isAgg216
 z138 := Tryz.sizeOf216
 v138 := Tryz.zeroValue216
 t139 := Tryz.underlying217
 a139 := Tryz.isAgg217
 z139 := Tryz.sizeOf217
 v139 := Tryz.zeroValue217
 t146 := Tryz.underlying220
 a146 := Tryz.isAgg220
 z146 := Tryz.sizeOf220
 v146 := Tryz.zeroValue220
 t164 := Tryz.underlying247
 a164 := Tryz.isAgg247
 z164 := Tryz.sizeOf247
 v164 := Tryz.zeroValue247
 g1 := by kernel_rfl
 g3 := by kernel_rfl
 g4 := by kernel_rfl }
theorem Tryz.Builder_Extra_155 : Builder.Extra Tryz.prog Tryz.lays155_ren := {
 sizeBuilder := by kernel_rfl
 liesBuilder := by kernel_rfl
 t5 := Tryz.underlying5
 a5 := Tryz.isAgg5
 z5 := Tryz.sizeOf5
 v5 := Tryz.zeroValue5
 infoByte := by kernel_rfl
 cellsByte := by kernel_rfl
 sizeByte := by kernel_rfl
 neB5 := by decide }
open Go.RowKit Go.Lib in
theorem Tryz.strings_ReplaceAll (s old new : ByteArray) (m : Int) (w : World) (hs : s.size < 4294967281) (hm : w.cell? ⟨1, 0, none⟩ = some (.int .i64 m)) (h1 : 1 ≤ old.size) (hlen : s.size + Lib.countB s old * new.size ≤ 140737488355328) :
  Calls Tryz.prog 177 #[.string s, .string old, .string new] w fun e w' =>
   e = .returned (.string ⟨(Lib.replaceAll s.data.toList old.data.toList new.data.toList).toArray⟩) ∧ Below w.heap.size w w' := Any.strings_ReplaceAll Tryz.lays155 Tryz.Builder_Extra_155 s old new m w hs hm h1 hlen
open Go.RowKit in
theorem Tryz.strings_TrimLeft_set (s cutset : ByteArray) (w : World) (hcs : cutset.size < 4294967281) (hascii : ∀ (j : Nat) b, cutset.data.toList[j]? = some b → b.toNat < 128) :
  Calls Tryz.prog 100 #[.string s, .string cutset] w fun e w' => e = .returned (.string ⟨(Lib.trimLeftS s.data.toList cutset.data.toList).toArray⟩) ∧ Below w.heap.size w w' := Any.strings_TrimLeft_laid Tryz.lays161 (by kernel_rfl) s cutset w hcs hascii
end Go.Proofs.YteghhmomhlnccaaGreatDoor
namespace Go.Proofs.YteghhmomhlnccaaGreatDoor
open Go.RowKit
attribute [local go_sem ↓] eqVal neqVal
def MaxAt (w : World) (m : Int) : Prop := w.cell? ⟨1, 0, none⟩ = some (.int .i64 m)
theorem MaxAt.lt {w : World} {m : Int} (h : MaxAt w m) : 1 < w.heap.size := World.block_lt_of_cell? w _ h
theorem MaxAt.below {w w' : World} {m : Int} (h : MaxAt w m) (hb : Below w.heap.size w w') : MaxAt w' m := (hb.cell (p := ⟨1, 0, none⟩) h.lt).trans h
theorem bdrew1 {w w' : World} (h : Below w.drew.heap.size w.drew w') : Below w.heap.size w w' := ⟨h.os, h.tape, h.output, h.size, h.block⟩
theorem retS {a b : ByteArray} (h : a = b) : Ending.returned (.string a) = .returned (.string b) := by rw [h]
abbrev str (l : List UInt8) : ByteArray := ⟨l.toArray⟩
theorem esc_any (s : ByteArray) (w : World) (m : Int) (hm : MaxAt w m) (hs : s.size ≤ 1000000) :
  Calls Tryz.prog 177 #[.string s, .string ⟨#[39]⟩, .string ⟨#[39, 39]⟩] w fun e w' => e = .returned (.string (str (esc s.data.toList))) ∧ Below w.heap.size w w' := by
 have hc := Lib.countB_le ⟨#[39]⟩ (by decide) s.size s (Nat.le_refl _)
 have := Tryz.strings_ReplaceAll s ⟨#[39]⟩ ⟨#[39, 39]⟩ m w (by omega) hm (by decide) (by
  have e : (⟨#[39, 39]⟩ : ByteArray).size = 2 := rfl
  rw [e]; omega)
 refine this.mono fun e w' ⟨he, hb⟩ => ⟨?_, hb⟩
 rw [he, show (⟨#[39]⟩ : ByteArray).data.toList = [39] from rfl, show (⟨#[39, 39]⟩ : ByteArray).data.toList = [39, 39] from rfl, ra_esc]
set_option maxRecDepth 100000 in
set_option maxHeartbeats 1000000 in
theorem print_text (s : ByteArray) (w : World) (hs : s.size ≤ 200) (m : Int) (hm : MaxAt w m) :
  Calls Tryz.prog 178 #[val 2 0 s] w fun e w' => e = .returned (.string (str (quo s.data.toList))) ∧ Below w.heap.size w w' := by
 have P := fun w => plain_any 2 0 s w (by omega)
 rw [plainB_iff.2 (.inr (.inr (.inl ⟨rfl, rfl, hs⟩)))] at P
 have PP := Lib.hid P
 clear P
 have e0 : same 2 0 s 0 0 ⟨#[]⟩ = false := by simp [same]
 have e1 : same 2 0 s 3 1 ⟨#[]⟩ = false := by simp [same]
 have e2 : same 2 0 s 3 0 ⟨#[]⟩ = false := by simp [same]
 have HM := Lib.hid hm
 clear hm
 go_enter Tryz.func178, Tryz.ntmps178
 go_wp2_with fail
 refine (PP.out _).mono ?_
 rintro e w1 ⟨rfl, hb1⟩
 have H1 := Lib.hid ((Holds3.new w 2 0 s 23).below hb1 (by simp))
 have B1 := Lib.hid (bstep ((Below.refl _ _).alloc (Nat.le_refl _) _) hb1)
 clear hb1
 obtain ⟨c1, c2, c3⟩ := H1.out
 go_wp2_with fail
 go_region_held3 (fun w' => w'.cell? ⟨w.heap.size, 0, none⟩ = some (.int .i64 2) ∧ w'.cell? ⟨w.heap.size, 1, none⟩ = some (.int .i64 0) ∧ w'.cell? ⟨w.heap.size, 2, none⟩ = some (.string s)) (first | go_keep | (exact Holds3.below (by assumption) hb2 (Holds3.lt (by assumption))))
  (first
   | (go_at_call 26; (with_reducible refine (null_any _).mono ?_); rintro e w2 ⟨rfl, hb2⟩))
 have H2 := Lib.hid (H1.out.below (bdrew1 hb2) H1.out.lt)
 have B2 := Lib.hid (bstep (B1.out) (bdrew1 hb2))
 clear hb2 H1 B1
 obtain ⟨c1, c2, c3⟩ := H2.out
 go_wp2_with fail
 go_region_held3 (fun w' => w'.cell? ⟨w.heap.size, 0, none⟩ = some (.int .i64 2) ∧ w'.cell? ⟨w.heap.size, 1, none⟩ = some (.int .i64 0) ∧ w'.cell? ⟨w.heap.size, 2, none⟩ = some (.string s)) (first | go_keep | (exact Holds3.below (by assumption) hb3 (Holds3.lt (by assumption))))
  (first
   | (go_at_call 29; (with_reducible refine (bool_true _).mono ?_); rintro e w3 ⟨rfl, hb3⟩))
 have H3 := Lib.hid (H2.out.below (bdrew1 hb3) H2.out.lt)
 have B3 := Lib.hid (bstep (B2.out) (bdrew1 hb3))
 clear hb3 H2 B2
 obtain ⟨c1, c2, c3⟩ := H3.out
 go_wp2_with fail
 go_region_held3 (fun w' => w'.cell? ⟨w.heap.size, 0, none⟩ = some (.int .i64 2) ∧ w'.cell? ⟨w.heap.size, 1, none⟩ = some (.int .i64 0) ∧ w'.cell? ⟨w.heap.size, 2, none⟩ = some (.string s)) (first | go_keep | (exact Holds3.below (by assumption) hb4 (Holds3.lt (by assumption))))
  (first
   | (go_at_call 29; (with_reducible refine (bool_false _).mono ?_); rintro e w4 ⟨rfl, hb4⟩))
 have H4 := Lib.hid (H3.out.below (bdrew1 hb4) H3.out.lt)
 have B4 := Lib.hid (bstep (B3.out) (bdrew1 hb4))
 clear hb4 H3 B3
 obtain ⟨c1, c2, c3⟩ := H4.out
 go_wp2_with fail
 refine (esc_any s _ m (HM.out.below B4.out) (by omega)).mono ?_
 rintro e w5 ⟨rfl, hb5⟩
 have B5 := Lib.hid (bstep B4.out hb5)
 clear hb5
 have hsz : (str (esc s.data.toList)).size ≤ 400 := by
  have := esc_length_le s.data.toList
  have e : s.data.toList.length = s.size := by simp
  show (esc s.data.toList).toArray.size ≤ 400
  rw [List.size_toArray]; omega
 generalize hx : str (esc s.data.toList) = x at hsz
 have HX := Lib.hid hx
 clear hx
 go_wp2
 go_ret
 exact ⟨retS (by rw [← HX.out]; apply ByteArray.ext; simp [quo]), B5.out⟩
end Go.Proofs.YteghhmomhlnccaaGreatDoor
namespace Go.Proofs.YteghhmomhlnccaaGreatDoor
open Go.ChangeShapes Go.WideShapes Go.ChangeAt Go.RowKit Go.Joins Go.Deep
open Go.ChangeMaps (open_string shut_string)
set_option maxRecDepth 100000
theorem own : ownKnob Tryz.prog.godebug = none := by kernel_rfl
theorem max_of {W : World} (h : W.ShapedOpen Tryz.prog) : ∃ m, MaxAt W m :=
 cell_of_shapedOpen_int (zero := #[.int .i64 0]) (t := 3) h (of_decide_eq_true (by kernel_rfl)) (by kernel_rfl) rfl (by kernel_rfl) (by kernel_rfl) Tryz.underlying3
theorem wrapped {H : Type} {enc : TypeId × Value → H} {a : Assume} {C : Checked} {os : Os} {f : FuncId} {fn : Func} {s : ChangeSpec} {conds : List PathCond} {apart fresh handsOn again : Bool} {X : World → Array Value → Prop}
  (hX : ∀ (w w' : World) (args : Array Value), w.heap = w'.heap → X w args → X w' args)
  (own : ownKnob C.prog.godebug = none) (started : os.Started) (noInit : C.prog.inits.idxOf? f = none) (hfn : C.prog.funcs[f]? = some fn)
  (witness : ∃ (w : World) (tape : Tape) (i : Input), w.os = os ∧ (w.forCall tape i).Shaped C.prog ∧ i.vars = [] ∧ Input.okWide C.prog (w.forCall tape i) .any w.heap.size f i ∧
   ((s.pre enc C.prog fn conds apart (w.forCall tape i).memory i.args ∧ X (w.forCall tape i).memory i.args) ∧ sizedMet enc C.prog fn (OpenSpec.ofChange s) apart (w.forCall tape i).memory i.args) ∧ a.holds C.prog (lone (Frame.enter C.prog f i.args .normal) [] (w.forCall tape i)))
  (contract : ∀ (W : World) (base : Nat) (args : Array Value) (ds gs : List (DataW H)) (before : List MemPlace),
   (∀ (j : Nat) t v, fn.params[j]? = some t → args[j]? = some v → Value.okWide C.prog W .any base t v) →
   DataW.Whole enc C.prog fn.params.toList s.vars apart W args.toList ds gs before →
   X W args → W.ShapedOpen C.prog →
   Calls C.prog f args W fun e W' => ∃ v, e = .returned v ∧ s.post enc C.prog fn apart fresh handsOn again W args v W') :
  ReturnsInHanded a C os f .any (fun w args => (s.pre enc C.prog fn conds apart w args ∧ X w args) ∧ sizedMet enc C.prog fn (OpenSpec.ofChange s) apart w args) (s.post enc C.prog fn apart fresh handsOn again) := by
 refine returnsInHanded_of_calls own started noInit witness ?_
 intro w tape i h1 hsh h3 hok hpre hholds
 obtain ⟨_, _, _, g, hg, _, _, _, _, hval⟩ := hok
 obtain rfl : g = fn := Option.some.inj (hg.symm.trans hfn)
 obtain ⟨⟨⟨ds, gs, before, hw, hc⟩, hx⟩, hz⟩ := hpre
 refine (contract (w.forCall tape i) w.heap.size i.args ds gs before hval (DataW.Whole.of_heap (by rfl) hw) (hX _ _ _ (by rfl) hx) hsh).mono fun e W' ⟨v, he, hp⟩ => ?_
 subst he
 exact ChangeSpec.post_blind hp
section
variable {H : Type} {enc : TypeId × Value → H} {w : World} {base : Nat} {spare : Nat → Bool} {held : Bool}
end
end Go.Proofs.YteghhmomhlnccaaGreatDoor
namespace Go.Proofs.YteghhmomhlnccaaGreatDoor.Ex
inductive Tree where
 | node (op : Int) (text : List UInt8) (vk vn : Int) (vs : List UInt8) (kids : List Tree)
def Tree.op : Tree → Int | .node o _ _ _ _ _ => o
def Tree.text : Tree → List UInt8 | .node _ t _ _ _ _ => t
def Tree.kids : Tree → List Tree | .node _ _ _ _ _ k => k
mutual
def count : Tree → Nat
 | .node _ _ _ _ _ ks => counts ks + 1
def counts : List Tree → Nat
 | [] => 0
 | x :: l => count x + counts l
end
mutual
def depth : Tree → Nat
 | .node _ _ _ _ _ ks => depths ks + 1
def depths : List Tree → Nat
 | [] => 0
 | x :: l => max (depth x) (depths l)
end
mutual
def flat : Tree → List (List UInt8)
 | .node op t _ _ _ ks => (if op = 2 then [t] else []) ++ flats ks
def flats : List Tree → List (List UInt8)
 | [] => []
 | x :: l => flat x ++ flats l
end
mutual
def put (n : List UInt8) (y : Tree) : Tree → Tree
 | .node op t vk vn vs ks => if op = 2 ∧ t = n then y else .node op t vk vn vs (puts n y ks)
def puts (n : List UInt8) (y : Tree) : List Tree → List Tree
 | [] => []
 | x :: l => put n y x :: puts n y l
end
mutual
def same : Tree → Tree → Bool
 | .node op t vk vn vs ks, .node op' t' vk' vn' vs' ks' => op == op' && t == t' && vk == vk' && vn == vn' && vs == vs' && sames ks ks'
def sames : List Tree → List Tree → Bool
 | [], [] => true
 | x :: l, y :: m => same x y && sames l m
 | _, _ => false
end
mutual
def ones (p : Int → List UInt8 → Int → Int → List UInt8 → Nat → Bool) : Tree → Bool
 | .node op t vk vn vs ks => p op t vk vn vs ks.length && oness p ks
def oness (p : Int → List UInt8 → Int → Int → List UInt8 → Nat → Bool) : List Tree → Bool
 | [] => true
 | x :: l => ones p x && oness p l
end
theorem puts_map (n : List UInt8) (y : Tree) : ∀ l : List Tree, puts n y l = l.map (put n y)
 | [] => by rw [puts]; rfl
 | x :: l => by rw [puts, puts_map n y l]; rfl
theorem counts_append : ∀ l m : List Tree, counts (l ++ m) = counts l + counts m
 | [], m => by rw [List.nil_append, counts]; omega
 | x :: l, m => by rw [List.cons_append, counts, counts, counts_append l m]; omega
theorem depths_append : ∀ l m : List Tree, depths (l ++ m) = max (depths l) (depths m)
 | [], m => by rw [List.nil_append, depths]; omega
 | x :: l, m => by rw [List.cons_append, depths, depths, depths_append l m]; omega
theorem count_pos : ∀ x : Tree, 1 ≤ count x
 | .node _ _ _ _ _ ks => by rw [count]; omega
theorem length_counts : ∀ l : List Tree, l.length ≤ counts l
 | [] => Nat.zero_le _
 | x :: l => by
  have := count_pos x
  have := length_counts l
  rw [counts, List.length_cons]; omega
mutual
theorem same_iff : ∀ x y : Tree, same x y = true ↔ x = y
 | .node op t vk vn vs ks, .node op' t' vk' vn' vs' ks' => by
  rw [same]
  simp only [Bool.and_eq_true, beq_iff_eq, sames_iff ks ks', Tree.node.injEq]
  constructor
  ·rintro ⟨⟨⟨⟨⟨h1, h2⟩, h3⟩, h4⟩, h5⟩, h6⟩; exact ⟨h1, h2, h3, h4, h5, h6⟩
  ·rintro ⟨h1, h2, h3, h4, h5, h6⟩; exact ⟨⟨⟨⟨⟨h1, h2⟩, h3⟩, h4⟩, h5⟩, h6⟩
theorem sames_iff : ∀ l m : List Tree, sames l m = true ↔ l = m
 | [], [] => by simp [sames]
 | x :: l, y :: m => by rw [sames, Bool.and_eq_true, same_iff x y, sames_iff l m, List.cons.injEq]
 | [], y :: m => by simp [sames]
 | x :: l, [] => by simp [sames]
end
def once (l : List (List UInt8)) : List (List UInt8) → List (List UInt8)
 | [] => l
 | t :: r => once (if l.contains t then l else l ++ [t]) r
def names (x : Tree) : List (List UInt8) := once [] (flat x)
def below (l : List Tree) : List Tree := l.flatMap Tree.kids
theorem counts_below : ∀ l : List Tree, counts l = l.length + counts (below l)
 | [] => by simp [below, counts]
 | .node op t vk vn vs ks :: l => by
  have ih := counts_below l
  have e : below (.node op t vk vn vs ks :: l) = ks ++ below l := rfl
  rw [counts, count, ih, e, counts_append, List.length_cons]
  omega
end Go.Proofs.YteghhmomhlnccaaGreatDoor.Ex
namespace Go.Proofs.YteghhmomhlnccaaGreatDoor.Ex
mutual
def seq (d : Nat) : Tree → List (Tree × Nat)
 | .node op t vk vn vs ks => (.node op t vk vn vs ks, d) :: seqs (d + 1) ks
def seqs (d : Nat) : List Tree → List (Tree × Nat)
 | [] => []
 | x :: l => seq d x ++ seqs d l
end
theorem seq_kids (d : Nat) (x : Tree) : seq d x = (x, d) :: seqs (d + 1) x.kids := by cases x; rw [seq]; rfl
def rem : List (List Tree) → List (Tree × Nat)
 | [] => []
 | r :: R => seqs (R.length + 1) r ++ rem R
theorem rem_pop (R : List (List Tree)) : rem ([] :: R) = rem R := by rw [rem, seqs]; rfl
theorem rem_step (x : Tree) (r : List Tree) (R : List (List Tree)) : rem ((x :: r) :: R) = (x, R.length + 1) :: rem (x.kids :: r :: R) := by
 simp only [rem, seqs, seq_kids (R.length + 1) x, List.length_cons, List.cons_append, List.append_assoc]
theorem rem_start (x : Tree) : rem [[x]] = seq 1 x := by simp [rem, seqs]
def work : List (List Tree) → Nat
 | [] => 0
 | r :: R => 2 * counts r + 1 + work R
theorem work_pop (R : List (List Tree)) : work R < work ([] :: R) := by rw [work]; omega
theorem count_kids (x : Tree) : count x = counts x.kids + 1 := by cases x; rw [count]; rfl
theorem work_step (x : Tree) (r : List Tree) (R : List (List Tree)) : work (x.kids :: r :: R) < work ((x :: r) :: R) := by
 simp only [work, counts, count_kids x]; omega
mutual
theorem seq_length (d : Nat) : ∀ x : Tree, (seq d x).length = count x
 | .node op t vk vn vs ks => by rw [seq, count, List.length_cons, seqs_length (d + 1) ks]
theorem seqs_length (d : Nat) : ∀ l : List Tree, (seqs d l).length = counts l
 | [] => by rw [seqs, counts]; rfl
 | x :: l => by rw [seqs, counts, List.length_append, seq_length d x, seqs_length d l]
end
def most (l : List (Tree × Nat)) : Nat := l.foldl (fun m p => max m p.2) 0
theorem foldl_max (l : List (Tree × Nat)) : ∀ m, l.foldl (fun m p => max m p.2) m = max m (most l) := by
 induction l with
 | nil => intro m; simp [most]
 | cons p l ih => intro m; rw [most, List.foldl_cons, List.foldl_cons, ih, ih]; omega
theorem most_append (a b : List (Tree × Nat)) : most (a ++ b) = max (most a) (most b) := by
 rw [most, List.foldl_append, foldl_max b]; rfl
theorem most_cons (p : Tree × Nat) (b : List (Tree × Nat)) : most (p :: b) = max p.2 (most b) := by
 rw [show p :: b = [p] ++ b from rfl, most_append]; simp [most]
mutual
theorem seq_most (d : Nat) : ∀ x : Tree, most (seq (d + 1) x) = depth x + d
 | .node op t vk vn vs ks => by
  rw [seq, most_cons, depth]
  show max (d + 1) (most (seqs (d + 1 + 1) ks)) = _
  cases ks with
  | nil => rw [seqs, depths]; simp [most]; omega
  | cons x l =>
   have := seqs_most (d + 1) (x :: l) (by simp)
   omega
theorem seqs_most (d : Nat) : ∀ l : List Tree, l ≠ [] → most (seqs (d + 1) l) = depths l + d
 | [], h => absurd rfl h
 | [x], _ => by
  have := seq_most d x
  have h0 : most ([] : List (Tree × Nat)) = 0 := rfl
  rw [seqs, seqs, most_append, depths, depths, this, h0]; omega
 | x :: y :: l, _ => by
  have h1 := seq_most d x
  have h2 := seqs_most d (y :: l) (by simp)
  rw [seqs, most_append, depths, h1, h2]; omega
end
theorem most_seq (x : Tree) : most (seq 1 x) = depth x := seq_most 0 x
theorem le_most {l : List (Tree × Nat)} {p : Tree × Nat} (h : p ∈ l) : p.2 ≤ most l := by
 induction l with
 | nil => cases h
 | cons q l ih =>
  rw [most_cons]
  rcases List.mem_cons.1 h with rfl | h
  ·omega
  ·have := ih h; omega
def Tree.is (p : Int → List UInt8 → Int → Int → List UInt8 → Nat → Bool) : Tree → Bool
 | .node op t vk vn vs ks => p op t vk vn vs ks.length
mutual
theorem seq_ones (p : Int → List UInt8 → Int → Int → List UInt8 → Nat → Bool) (d : Nat) : ∀ x : Tree, (seq d x).all (fun q => q.1.is p) = ones p x
 | .node op t vk vn vs ks => by rw [seq, List.all_cons, ones, seqs_ones p (d + 1) ks]; rfl
theorem seqs_ones (p : Int → List UInt8 → Int → Int → List UInt8 → Nat → Bool) (d : Nat) : ∀ l : List Tree, (seqs d l).all (fun q => q.1.is p) = oness p l
 | [] => by rw [seqs, oness]; rfl
 | x :: l => by rw [seqs, List.all_append, oness, seq_ones p d x, seqs_ones p d l]
end
def rightB (p : Int → List UInt8 → Int → Int → List UInt8 → Nat → Bool) (x : Tree) : Bool := decide (depth x ≤ 30) && (decide (count x ≤ 300) && ones p x)
theorem right_all (p : Int → List UInt8 → Int → Int → List UInt8 → Nat → Bool) (x : Tree) (h1 : (seq 1 x).length ≤ 300) (h2 : ∀ q ∈ seq 1 x, q.2 ≤ 30 ∧ q.1.is p = true) : rightB p x = true := by
 rw [rightB, ← most_seq, ← seq_ones p 1 x, ← seq_length 1 x]
 have h3 : most (seq 1 x) ≤ 30 := by
  have : ∀ l : List (Tree × Nat), (∀ q ∈ l, q.2 ≤ 30) → most l ≤ 30 := by
   intro l
   induction l with
   | nil => intro _; simp [most]
   | cons q l ih => intro h; rw [most_cons]; have := ih fun q hq => h q (List.mem_cons_of_mem _ hq); have := h q (by simp); omega
  exact this _ fun q hq => (h2 q hq).1
 have h4 : ((seq 1 x).all fun q => q.1.is p) = true := List.all_eq_true.2 fun q hq => (h2 q hq).2
 simp [h1, h3, h4]
theorem right_not (p : Int → List UInt8 → Int → Int → List UInt8 → Nat → Bool) (x : Tree) {pre : List (Tree × Nat)} (h : pre <+: seq 1 x) (hw : 300 < pre.length ∨ ∃ q ∈ pre, 30 < q.2 ∨ q.1.is p = false) : rightB p x = false := by
 rw [rightB, ← most_seq, ← seq_ones p 1 x, ← seq_length 1 x]
 rcases hw with hw | ⟨q, hq, hw | hw⟩
 ·have := h.length_le
  rw [decide_eq_false (p := (seq 1 x).length ≤ 300) (by omega)]; simp
 ·have := le_most (h.subset hq)
  rw [decide_eq_false (p := most (seq 1 x) ≤ 30) (by omega)]; simp
 ·have : ((seq 1 x).all fun q => q.1.is p) = false := by
   rw [Bool.eq_false_iff]
   intro he
   have := List.all_eq_true.1 he q (h.subset hq)
   rw [hw] at this; cases this
  rw [this]; simp
theorem exists_least {p : Nat → Prop} (h : ∃ m, p m) : ∃ m, p m ∧ ∀ k, p k → m ≤ k := by
 obtain ⟨m, hm⟩ := h
 induction m using Nat.strongRecOn with
 | ind m ih =>
  by_cases hk : ∃ k, k < m ∧ p k
  ·obtain ⟨k, h1, h2⟩ := hk; exact ih k h1 h2
  ·exact ⟨m, hm, fun k hp => Nat.le_of_not_lt fun hlt => hk ⟨k, hlt, hp⟩⟩
open Classical in
noncomputable def least (p : Nat → Prop) : Nat := if h : ∃ m, p m then Classical.choose (exists_least h) else 0
theorem least_spec {p : Nat → Prop} (h : ∃ m, p m) : p (least p) := by rw [least, dif_pos h]; exact (Classical.choose_spec (exists_least h)).1
theorem least_le {p : Nat → Prop} {m : Nat} (h : p m) : least p ≤ m := by rw [least, dif_pos ⟨m, h⟩]; exact (Classical.choose_spec (exists_least ⟨m, h⟩)).2 m h
end Go.Proofs.YteghhmomhlnccaaGreatDoor.Ex
namespace Go.Proofs.YteghhmomhlnccaaGreatDoor
open Go.RowKit
set_option maxRecDepth 100000 in
set_option maxHeartbeats 1000000 in
theorem refplain0  (n : Int) (s : ByteArray) (w : World) :
  Calls Tryz.prog 31 #[val 0 n s] w fun e w' => e = .returned (.bool (plainB 0 n s)) ∧ Below w.heap.size w w' := by
 by_cases hn : n = 0
 ·subst hn
  go_enter Tryz.func31, Tryz.ntmps31
  go_wp2
  go_ret
  exact ⟨retB (by rw [plainB_iff]; rw [emptyB_iff]; omega), (Below.refl _ _).alloc (Nat.le_refl _) _⟩
 ·have hb : (n == 0) = false := by simpa using hn
  go_enter Tryz.func31, Tryz.ntmps31
  go_wp2
  go_ret
  exact ⟨retB (by rw [plainB_iff]; constructor <;> intro h <;> first | exact absurd h Bool.false_ne_true | (exfalso; omega)), (Below.refl _ _).alloc (Nat.le_refl _) _⟩
set_option maxRecDepth 100000 in
set_option maxHeartbeats 1000000 in
theorem refplain1  (n : Int) (s : ByteArray) (w : World) :
  Calls Tryz.prog 31 #[val 1 n s] w fun e w' => e = .returned (.bool (plainB 1 n s)) ∧ Below w.heap.size w w' := by
 go_enter Tryz.func31, Tryz.ntmps31
 go_wp2
 go_ret
 exact ⟨retB (by rw [plainB_iff]; rw [emptyB_iff]; omega), (Below.refl _ _).alloc (Nat.le_refl _) _⟩
set_option maxRecDepth 100000 in
set_option maxHeartbeats 1000000 in
theorem refplain2  (n : Int) (s : ByteArray) (w : World) :
  Calls Tryz.prog 31 #[val 2 n s] w fun e w' => e = .returned (.bool (plainB 2 n s)) ∧ Below w.heap.size w w' := by
 by_cases hn : n = 0
 ·subst hn
  go_enter Tryz.func31, Tryz.ntmps31
  go_wp2
  go_ret
  exact ⟨retB (by rw [plainB_iff]; rw [decide_eq_true_iff]; omega), (Below.refl _ _).alloc (Nat.le_refl _) _⟩
 ·have hb : (n == 0) = false := by simpa using hn
  go_enter Tryz.func31, Tryz.ntmps31
  go_wp2
  go_ret
  exact ⟨retB (by rw [plainB_iff]; constructor <;> intro h <;> first | exact absurd h Bool.false_ne_true | (exfalso; omega)), (Below.refl _ _).alloc (Nat.le_refl _) _⟩
set_option maxRecDepth 100000 in
set_option maxHeartbeats 1000000 in
theorem refplain3  (n : Int) (s : ByteArray) (w : World) :
  Calls Tryz.prog 31 #[val 3 n s] w fun e w' => e = .returned (.bool (plainB 3 n s)) ∧ Below w.heap.size w w' := by
 by_cases hs : s.size = 0
 ·obtain rfl : s = ⟨#[]⟩ := ByteArray.ext (Array.eq_empty_of_size_eq_zero hs)
  by_cases hn : 0 ≤ n
  ·go_enter Tryz.func31, Tryz.ntmps31
   go_wp2
   go_ret
   exact ⟨retB (by rw [plainB_iff]; rw [decide_eq_true_iff]; omega), (Below.refl _ _).alloc (Nat.le_refl _) _⟩
  ·have hd : decide (0 ≤ n) = false := decide_eq_false hn
   go_enter Tryz.func31, Tryz.ntmps31
   go_wp2
   go_ret
   exact ⟨retB (by rw [plainB_iff]; constructor <;> intro h <;> first | exact absurd h Bool.false_ne_true | (exfalso; omega)), (Below.refl _ _).alloc (Nat.le_refl _) _⟩
 ·have he : s.toList.isEmpty = false := by rw [Bool.eq_false_iff]; intro h; exact hs (emptyB_iff.1 h)
  go_enter Tryz.func31, Tryz.ntmps31
  go_wp2
  go_ret
  exact ⟨retB (by rw [plainB_iff]; constructor <;> intro h <;> first | exact absurd h Bool.false_ne_true | (exfalso; omega)), (Below.refl _ _).alloc (Nat.le_refl _) _⟩
set_option maxRecDepth 100000 in
set_option maxHeartbeats 1000000 in
theorem refplain4 (k n : Int) (s : ByteArray) (w : World) (h0 : k ≠ 0) (h1 : k ≠ 1) (h2 : k ≠ 2) (h3 : k ≠ 3) :
  Calls Tryz.prog 31 #[val k n s] w fun e w' => e = .returned (.bool (plainB k n s)) ∧ Below w.heap.size w w' := by
 have hb : (k == 3) = false := by simpa using h3
 go_enter Tryz.func31, Tryz.ntmps31
 go_wp2
 go_ret
 exact ⟨retB (by rw [plainB_iff]; constructor <;> intro h <;> first | exact absurd h Bool.false_ne_true | (exfalso; omega)), (Below.refl _ _).alloc (Nat.le_refl _) _⟩
theorem refplain_any (k n : Int) (s : ByteArray) (w : World) :
  Calls Tryz.prog 31 #[val k n s] w fun e w' => e = .returned (.bool (plainB k n s)) ∧ Below w.heap.size w w' := by
 by_cases h0 : k = 0
 ·subst h0; exact refplain0 n s w
 by_cases h1 : k = 1
 ·subst h1; exact refplain1 n s w
 by_cases h2 : k = 2
 ·subst h2; exact refplain2 n s w
 by_cases h3 : k = 3
 ·subst h3; exact refplain3 n s w
 exact refplain4 k n s w h0 h1 h2 h3
end Go.Proofs.YteghhmomhlnccaaGreatDoor
namespace Go.Proofs.YteghhmomhlnccaaGreatDoor
open Go.Lib
def Fits (n : Int) : Prop := -9223372036854775808 ≤ n ∧ n ≤ 9223372036854775807
instance (n : Int) : Decidable (Fits n) := inferInstanceAs (Decidable (_ ∧ _))
def sv (n : Int) : Int := if Fits n then n else 0
def se (n : Int) : Int := if Fits n then 0 else 4
def signed (s : Bool) (n : Int) : Int := if s then -n else n
def dig (c : UInt8) : Bool := decide (48 ≤ c.toNat ∧ c.toNat ≤ 57)
def dv (acc : Nat) : List UInt8 → Nat
 | [] => acc
 | c :: r => dv (acc * 10 + (c.toNat - 48)) r
theorem dv_ge (l : List UInt8) (acc : Nat) : acc ≤ dv acc l := by
 induction l generalizing acc with
 | nil => exact Nat.le_refl _
 | cons a r ih => exact Nat.le_trans (by omega) (ih (acc * 10 + (a.toNat - 48)))
theorem parse_digits (M : Nat) (hM : M = 18446744073709551615) (l : List UInt8) (h : ∀ c ∈ l, dig c = true) (acc : Nat) (ha : acc ≤ M) :
  parseUintM M acc l = if dv acc l ≤ M then .ok (dv acc l) else .range := by
 induction l generalizing acc with
 | nil =>
  have e : dv acc [] = acc := rfl
  have e2 : parseUintM M acc [] = .ok acc := by rw [parseUintM]
  rw [e, e2, if_pos ha]
 | cons c r ih =>
  have hc : 48 ≤ c.toNat ∧ c.toNat ≤ 57 := by simpa [dig] using h c (by simp)
  have hg := dv_ge r (acc * 10 + (c.toNat - 48))
  have hi := ih (fun c hc => h c (by simp [hc])) (acc * 10 + (c.toNat - 48))
  have e : dv acc (c :: r) = dv (acc * 10 + (c.toNat - 48)) r := rfl
  rw [e, parseUintM, if_pos hc]
  generalize dv (acc * 10 + (c.toNat - 48)) r = z at *
  by_cases h1 : 1844674407370955162 ≤ acc
  ·rw [if_pos h1, if_neg (by omega)]
  ·rw [if_neg h1]
   by_cases h2 : M < acc * 10 + (c.toNat - 48)
   ·rw [if_pos h2, if_neg (by omega)]
   ·rw [if_neg h2]
    exact hi (by omega)
def minus (l : List UInt8) : Bool := l.head?.map (·.toNat) == some 45
def body (l : List UInt8) : List UInt8 := if minus l then l.tail else l
def looks (l : List UInt8) : Bool := body l != [] && (body l).all dig && (((body l).head?.map (·.toNat) != some 48) || ((body l).length == 1 && !minus l))
def rv (l : List UInt8) : Int := if looks l then sv (signed (minus l) (dv 0 (body l))) else 0
def re (l : List UInt8) : Int := if looks l then se (signed (minus l) (dv 0 (body l))) else 6
theorem parse_looks (l : List UInt8) (h : looks l = true) :
  parseIntB 64 l = if Fits (signed (minus l) (dv 0 (body l))) then .ok (signed (minus l) (dv 0 (body l))) else .range := by
 simp only [looks, Bool.and_eq_true, bne_iff_ne, ne_eq, List.all_eq_true] at h
 obtain ⟨⟨h1, h2⟩, -⟩ := h
 have hp := parse_digits 18446744073709551615 rfl (body l) h2 0 (by omega)
 have hu : parseUintB 64 (body l) = parseUintM 18446744073709551615 0 (body l) := by
  simp [parseUintB, h1]
 match l, h1, h2, hp, hu with
 | [], h1, _, _, _ => exact absurd rfl h1
 | c :: r, h1, h2, hp, hu =>
  by_cases hm : c.toNat = 45
  ·have hmin : minus (c :: r) = true := by simp [minus, hm]
   have hb : body (c :: r) = r := by simp [body, hmin]
   rw [hb] at hp hu ⊢
   simp only [parseIntB]
   rw [if_pos (Or.inr hm), hu, hp, hmin]
   simp only [signed, if_true, hm]
   generalize dv 0 r = u
   by_cases hf : Fits (-(u : Int))
   ·rw [if_pos hf]
    unfold Fits at hf
    rw [if_pos (by omega)]
    simp
    omega
   ·rw [if_neg hf]
    unfold Fits at hf
    by_cases h3 : u ≤ 18446744073709551615
    ·rw [if_pos h3]; simp; omega
    ·rw [if_neg h3]
  ·have hmin : minus (c :: r) = false := by simp [minus, hm]
   have hb : body (c :: r) = c :: r := by simp [body, hmin]
   have hc : 48 ≤ c.toNat ∧ c.toNat ≤ 57 := by rw [hb] at h2; simpa [dig] using h2 c (by simp)
   rw [hb] at hp hu ⊢
   simp only [parseIntB]
   rw [if_neg (by omega), hu, hp, hmin]
   simp only [signed, Bool.false_eq_true, if_false, hm]
   generalize dv 0 (c :: r) = u
   by_cases hf : Fits (u : Int)
   ·rw [if_pos hf]
    unfold Fits at hf
    rw [if_pos (by omega)]
    simp
    omega
   ·rw [if_neg hf]
    unfold Fits at hf
    by_cases h3 : u ≤ 18446744073709551615
    ·rw [if_pos h3]; simp; omega
    ·rw [if_neg h3]
end Go.Proofs.YteghhmomhlnccaaGreatDoor
namespace Go.Proofs.YteghhmomhlnccaaGreatDoor.Lx
open Go.Proofs.YteghhmomhlnccaaGreatDoor
def blank (c : UInt8) : Bool := c == 32 || c == 9 || c == 10
def low (c : UInt8) : Bool := decide (97 ≤ c.toNat ∧ c.toNat ≤ 122)
def nm (c : UInt8) : Bool := low c || dig c || c == 95
def line (c : UInt8) : Bool := c != 10
def reserved : List (List UInt8) := ["add", "drop", "rename", "split", "merge", "retype", "into", "to", "back", "and", "or", "not", "true", "false", "null", "int", "text", "bool", "select", "where", "from", "limit"].map fun s => s.toUTF8.data.toList
def res (t : List UInt8) : Bool := reserved.contains t
def single (c : UInt8) : Bool := [40, 41, 44, 59, 61, 60, 62, 43, 45, 42, 47, 37, 38, 58].contains c
def pre2 (c : UInt8) : Bool := c == 60 || c == 62 || c == 33
def numErr (t : List UInt8) : Nat := if re t = 0 then 0 else if re t = 4 then 4 else 7
def qt : List UInt8 → List UInt8 × Nat × Bool
 | [] => ([], 0, false)
 | c :: r => if c = 39 then (match r with
   | [] => ([], 1, true)
   | d :: r' => if d = 39 then (39 :: (qt r').1, (qt r').2.1 + 2, (qt r').2.2) else ([], 1, true))
  else (c :: (qt r).1, (qt r).2.1 + 1, (qt r).2.2)
structure Wd where
 kind : Nat
 n : Nat
 text : List UInt8
 err : Nat
def nameW (t : List UInt8) : Wd := ⟨if res t then 2 else 1, t.length, t, if res t then 0 else if 16 < t.length then 3 else 0⟩
def numW (t : List UInt8) : Wd := ⟨3, t.length, t, numErr t⟩
def textW (q : List UInt8 × Nat × Bool) : Wd := ⟨4, q.2.1 + 1, q.1, if q.2.2 then (if 200 < q.1.length then 3 else 0) else 7⟩
def word : List UInt8 → Wd
 | [] => ⟨0, 0, [], 7⟩
 | c :: r =>
  if low c then nameW (c :: r.takeWhile nm)
  else if dig c then numW (c :: r.takeWhile dig)
  else if c = 39 then textW (qt r)
  else if pre2 c && r.head? == some 61 then ⟨5, 2, [c, 61], 0⟩
  else ⟨5, 1, [c], if single c then 0 else 7⟩
structure Tk where
 kind : Nat
 text : List UInt8
 at_ : Nat
deriving DecidableEq
inductive Out where
 | ok (l : List Tk)
 | bad (code at_ : Nat)
deriving DecidableEq
def Out.put (t : Tk) : Out → Out
 | ok l => ok (t :: l)
 | bad c a => bad c a
def lexF : Nat → Nat → List UInt8 → Out
 | 0, _, _ => .bad 0 0
 | _ + 1, p, [] => .ok [⟨0, [], p⟩]
 | f + 1, p, c :: r =>
  if blank c then lexF f (p + 1) r
  else if c = 35 then lexF f (p + 1 + (r.takeWhile line).length) (r.drop (r.takeWhile line).length)
  else if (word (c :: r)).err = 0 then (lexF f (p + (word (c :: r)).n) ((c :: r).drop (word (c :: r)).n)).put ⟨(word (c :: r)).kind, (word (c :: r)).text, p⟩
  else .bad (word (c :: r)).err p
def lx (l : List UInt8) : Out := if 4000 < l.length then .bad 3 0 else lexF (l.length + 1) 0 l
theorem tw_le (p : UInt8 → Bool) : ∀ l : List UInt8, (l.takeWhile p).length ≤ l.length
 | [] => Nat.le_refl _
 | c :: l => by
  have := tw_le p l
  unfold List.takeWhile
  split <;> simp <;> omega
theorem tw_take (p : UInt8 → Bool) : ∀ l : List UInt8, l.take (l.takeWhile p).length = l.takeWhile p
 | [] => rfl
 | c :: l => by
  have := tw_take p l
  unfold List.takeWhile
  split
  ·simp [this]
  ·rfl
theorem tw_all (p : UInt8 → Bool) : ∀ (l : List UInt8) (x : UInt8), x ∈ l.takeWhile p → p x = true
 | [], x, h => by simp at h
 | c :: l, x, h => by
  unfold List.takeWhile at h
  split at h
  ·rcases List.mem_cons.1 h with rfl | h
   ·assumption
   ·exact tw_all p l x h
  ·simp at h
theorem tw_next (p : UInt8 → Bool) : ∀ (l : List UInt8) (x : UInt8), (l.drop (l.takeWhile p).length).head? = some x → p x = false
 | [], x, h => by simp at h
 | c :: l, x, h => by
  by_cases hc : p c = true
  ·rw [List.takeWhile_cons_of_pos hc] at h
   exact tw_next p l x h
  ·rw [List.takeWhile_cons_of_neg hc] at h
   simp at h
   subst h
   simpa using hc
theorem tw_of (p : UInt8 → Bool) : ∀ (a z : List UInt8), (∀ x ∈ a, p x = true) → (∀ x, z.head? = some x → p x = false) → (a ++ z).takeWhile p = a
 | [], z, _, hz => by
  cases z with
  | nil => rfl
  | cons y z => rw [List.nil_append, List.takeWhile_cons_of_neg (by rw [hz y rfl]; simp)]
 | c :: a, z, ha, hz => by
  rw [List.cons_append, List.takeWhile_cons_of_pos (ha c (by simp)), tw_of p a z (fun x hx => ha x (by simp [hx])) hz]
theorem qt_take : ∀ (l : List UInt8), (qt l).2.2 = true → l.take (qt l).2.1 = esc (qt l).1 ++ [39] ∧ (qt l).2.1 ≤ l.length
 | [], h => by simp [qt] at h
 | [c], h => by
  by_cases hc : c = 39
  ·subst hc; simp [qt, esc]
  ·simp [qt, hc] at h
 | c :: d :: r, h => by
  unfold qt at h ⊢
  by_cases hc : c = 39
  ·subst hc
   by_cases hd : d = 39
   ·subst hd
    simp only [if_true] at h ⊢
    obtain ⟨i1, i2⟩ := qt_take r h
    refine ⟨?_, by simp; omega⟩
    simp [esc, i1]
   ·simp [hd, esc]
  ·simp only [if_neg hc] at h ⊢
   obtain ⟨i1, i2⟩ := qt_take (d :: r) h
   refine ⟨?_, by simp at i2 ⊢; omega⟩
   simp [esc, hc, i1]
theorem word_ok (c : UInt8) (r : List UInt8) (h : (word (c :: r)).err = 0) : 1 ≤ (word (c :: r)).n ∧ (word (c :: r)).n ≤ r.length + 1 := by
 have h1 := tw_le nm r
 have h2 := tw_le dig r
 unfold word at h ⊢
 by_cases n1 : low c = true
 ·simp only [if_pos n1, nameW, List.length_cons]; omega
 ·simp only [if_neg n1] at h ⊢
  by_cases n2 : dig c = true
  ·simp only [if_pos n2, numW, List.length_cons]; omega
  ·simp only [if_neg n2] at h ⊢
   by_cases n3 : c = 39
   ·simp only [if_pos n3] at h ⊢
    have hq : (qt r).2.2 = true := by
     cases e : (qt r).2.2
     ·simp [textW, e] at h
     ·rfl
    have := (qt_take r hq).2
    simp only [textW]; omega
   ·simp only [if_neg n3] at h ⊢
    by_cases n4 : (pre2 c && r.head? == some 61) = true
    ·simp only [if_pos n4]
     have : 1 ≤ r.length := by
      cases r with
      | nil => simp at n4
      | cons => simp
     omega
    ·simp only [if_neg n4]; omega
def spelt (k : Nat) (t : List UInt8) : List UInt8 := if k = 4 then quo t else t
theorem word_spelt (c : UInt8) (r : List UInt8) (h : (word (c :: r)).err = 0) : (c :: r).take (word (c :: r)).n = spelt (word (c :: r)).kind (word (c :: r)).text := by
 unfold word at h ⊢
 by_cases h1 : low c = true
 ·simp only [if_pos h1] at h ⊢
  have : (nameW (c :: r.takeWhile nm)).kind ≠ 4 := by unfold nameW; simp only; split <;> decide
  rw [spelt, if_neg this]
  simp [nameW, tw_take]
 ·simp only [if_neg h1] at h ⊢
  by_cases h2 : dig c = true
  ·simp only [if_pos h2] at h ⊢
   rw [spelt, if_neg (by simp [numW])]
   simp [numW, tw_take]
  ·simp only [if_neg h2] at h ⊢
   by_cases h3 : c = 39
   ·simp only [if_pos h3] at h ⊢
    have hq : (qt r).2.2 = true := by
     cases e : (qt r).2.2
     ·simp [textW, e] at h
     ·rfl
    rw [spelt, if_pos (by simp [textW])]
    simp only [textW, List.take_succ_cons, (qt_take r hq).1]
    rw [h3]; rfl
   ·simp only [if_neg h3] at h ⊢
    by_cases h4 : (pre2 c && r.head? == some 61) = true
    ·simp only [if_pos h4] at h ⊢
     rw [spelt, if_neg (by decide)]
     cases r with
     | nil => simp at h4
     | cons d r => simp at h4; simp [h4.2]
    ·simp only [if_neg h4] at h ⊢
     rw [spelt, if_neg (by decide)]
     simp
end Go.Proofs.YteghhmomhlnccaaGreatDoor.Lx
namespace Go.Proofs.YteghhmomhlnccaaGreatDoor.Lx
open Go.Proofs.YteghhmomhlnccaaGreatDoor
theorem lex_nil (f p : Nat) : lexF (f + 1) p [] = .ok [⟨0, [], p⟩] := rfl
theorem lex_blank (f p : Nat) {c : UInt8} (r : List UInt8) (h : blank c = true) : lexF (f + 1) p (c :: r) = lexF f (p + 1) r := by
 rw [lexF, if_pos h]
theorem lex_note (f p : Nat) (r : List UInt8) : lexF (f + 1) p (35 :: r) = lexF f (p + 1 + (r.takeWhile line).length) (r.drop (r.takeWhile line).length) := by
 rw [lexF, if_neg (by decide), if_pos rfl]
theorem lex_word (f p : Nat) {c : UInt8} (r : List UInt8) (h1 : ¬ blank c = true) (h2 : c ≠ 35) (h : (word (c :: r)).err = 0) :
  lexF (f + 1) p (c :: r) = (lexF f (p + (word (c :: r)).n) ((c :: r).drop (word (c :: r)).n)).put ⟨(word (c :: r)).kind, (word (c :: r)).text, p⟩ := by
 rw [lexF, if_neg h1, if_neg h2, if_pos h]
theorem lex_bad (f p : Nat) {c : UInt8} (r : List UInt8) (h1 : ¬ blank c = true) (h2 : c ≠ 35) (h : (word (c :: r)).err ≠ 0) :
  lexF (f + 1) p (c :: r) = .bad (word (c :: r)).err p := by
 rw [lexF, if_neg h1, if_neg h2, if_neg h]
theorem lex_fuel : ∀ (f g p : Nat) (l : List UInt8), l.length < f → l.length < g → lexF f p l = lexF g p l
 | 0, _, _, l, h, _ => absurd h (Nat.not_lt_zero _)
 | _, 0, _, l, _, h => absurd h (Nat.not_lt_zero _)
 | f + 1, g + 1, p, [], _, _ => rfl
 | f + 1, g + 1, p, c :: r, hf, hg => by
  simp only [List.length_cons] at hf hg
  by_cases h1 : blank c = true
  ·rw [lex_blank _ _ _ h1, lex_blank _ _ _ h1]
   exact lex_fuel f g _ r (by omega) (by omega)
  ·by_cases h2 : c = 35
   ·subst h2
    rw [lex_note, lex_note]
    exact lex_fuel f g _ _ (by rw [List.length_drop]; omega) (by rw [List.length_drop]; omega)
   ·by_cases h3 : (word (c :: r)).err = 0
    ·have := word_ok c r h3
     rw [lex_word _ _ _ h1 h2 h3, lex_word _ _ _ h1 h2 h3, lex_fuel f g _ _ (by rw [List.length_drop, List.length_cons]; omega) (by rw [List.length_drop, List.length_cons]; omega)]
    ·rw [lex_bad _ _ _ h1 h2 h3, lex_bad _ _ _ h1 h2 h3]
def Tk.far (d : Nat) (t : Tk) : Tk := ⟨t.kind, t.text, t.at_ + d⟩
def Out.far (d : Nat) : Out → Out
 | .ok l => .ok (l.map (Tk.far d))
 | .bad c a => .bad c (a + d)
theorem lex_at : ∀ (f p : Nat) (l : List UInt8) (T : List Tk), l.length < f → lexF f p l = .ok T →
  ∃ (A : List Tk), T = A ++ [⟨0, [], p + l.length⟩] ∧ ∀ i (h : i < A.length), ∃ q, A[i].at_ = p + q ∧ q < l.length ∧ i ≤ q ∧ (∃ c r, l.drop q = c :: r ∧ ¬ blank c = true ∧ c ≠ 35 ∧ (word (c :: r)).err = 0 ∧ A[i].kind = (word (c :: r)).kind ∧ A[i].text = (word (c :: r)).text)
 | 0, _, l, _, h, _ => absurd h (Nat.not_lt_zero _)
 | f + 1, p, [], T, _, e => by
  rw [lex_nil] at e
  cases e
  exact ⟨[], rfl, fun i h => absurd h (Nat.not_lt_zero _)⟩
 | f + 1, p, c :: r, T, hf, e => by
  simp only [List.length_cons] at hf
  by_cases h1 : blank c = true
  ·rw [lex_blank _ _ _ h1] at e
   obtain ⟨A, hA, hi⟩ := lex_at f (p + 1) r T (by omega) e
   refine ⟨A, by rw [hA, List.length_cons]; congr 3; omega, fun i h => ?_⟩
   obtain ⟨q, q1, q2, q3, q4⟩ := hi i h
   exact ⟨q + 1, by omega, by simp; omega, by omega, by rw [List.drop_succ_cons]; exact q4⟩
  ·by_cases h2 : c = 35
   ·subst h2
    rw [lex_note] at e
    have hl := tw_le line r
    obtain ⟨A, hA, hi⟩ := lex_at f _ _ T (by rw [List.length_drop]; omega) e
    refine ⟨A, by rw [hA, List.length_cons, List.length_drop]; congr 3; omega, fun i h => ?_⟩
    obtain ⟨q, q1, q2, q3, q4⟩ := hi i h
    rw [List.drop_drop] at q4
    rw [List.length_drop] at q2
    exact ⟨q + (1 + (r.takeWhile line).length), by omega, by simp; omega, by omega, by rw [show q + (1 + (r.takeWhile line).length) = (r.takeWhile line).length + q + 1 by omega, List.drop_succ_cons]; exact q4⟩
   ·by_cases h3 : (word (c :: r)).err = 0
    ·have hw := word_ok c r h3
     rw [lex_word _ _ _ h1 h2 h3] at e
     cases hs : lexF f (p + (word (c :: r)).n) ((c :: r).drop (word (c :: r)).n) with
     | bad a b => rw [hs] at e; cases e
     | ok T' =>
      rw [hs] at e
      cases e
      obtain ⟨A, hA, hi⟩ := lex_at f _ _ T' (by rw [List.length_drop, List.length_cons]; omega) hs
      refine ⟨⟨(word (c :: r)).kind, (word (c :: r)).text, p⟩ :: A, ?_, fun i h => ?_⟩
      ·rw [hA, List.length_drop, List.length_cons, List.cons_append]
       congr 4; omega
      ·cases i with
       | zero => exact ⟨0, rfl, by simp, Nat.le_refl _, c, r, rfl, h1, h2, h3, rfl, rfl⟩
       | succ i =>
        obtain ⟨q, q1, q2, q3, q4⟩ := hi i (by simpa using h)
        rw [List.drop_drop] at q4
        rw [List.length_drop] at q2
        refine ⟨(word (c :: r)).n + q, ?_, by omega, by omega, q4⟩
        simp only [List.getElem_cons_succ]
        omega
    ·rw [lex_bad _ _ _ h1 h2 h3] at e
     cases e
theorem lex_first (f p : Nat) (t z : List UInt8) (c : UInt8) (hc : t.head? = some c) (h1 : ¬ blank c = true) (h2 : c ≠ 35) (h : (word (t ++ z)).err = 0) (hn : (word (t ++ z)).n = t.length) :
  lexF (f + 1) p (t ++ z) = (lexF f (p + t.length) z).put ⟨(word (t ++ z)).kind, (word (t ++ z)).text, p⟩ := by
 cases t with
 | nil => cases hc
 | cons d t =>
  cases hc
  rw [List.cons_append] at h hn ⊢
  rw [lex_word f p _ h1 h2 h, hn]
  congr 2
  rw [← List.cons_append, List.drop_left]
def isName (s : List UInt8) : Bool := match s with
 | [] => false
 | c :: r => decide (s.length ≤ 16) && low c && r.all nm && !res s
theorem low_not {c : UInt8} (h : low c = true) : ¬ blank c = true ∧ c ≠ 35 ∧ nm c = true := by
 refine ⟨fun hb => ?_, fun e => ?_, by simp [nm, h]⟩
 ·simp only [blank, Bool.or_eq_true, beq_iff_eq] at hb
  rcases hb with (rfl | rfl) | rfl <;> exact absurd h (by decide)
 ·subst e; exact absurd h (by decide)
theorem name_lex {s : List UInt8} (h : isName s = true) : lx s = .ok [⟨1, s, 0⟩, ⟨0, [], s.length⟩] := by
 cases s with
 | nil => cases h
 | cons c r =>
  simp only [isName, Bool.and_eq_true, decide_eq_true_eq, Bool.not_eq_true', List.all_eq_true] at h
  obtain ⟨⟨⟨h1, h2⟩, h3⟩, h4⟩ := h
  obtain ⟨g1, g2, -⟩ := low_not h2
  have hw : word (c :: r) = ⟨1, r.length + 1, c :: r, 0⟩ := by
   have ht : r.takeWhile nm = r := by have := tw_of nm r [] h3 (by simp); rwa [List.append_nil] at this
   unfold word
   simp only [if_pos h2, ht, nameW, h4, Bool.false_eq_true, if_false, List.length_cons]
   rw [if_neg (by simp at h1; omega)]
  unfold lx
  rw [if_neg (by omega), List.length_cons, lex_word _ _ _ g1 g2 (by rw [hw]), hw]
  simp only [List.drop_succ_cons, List.drop_length, Nat.zero_add]
  rfl
end Go.Proofs.YteghhmomhlnccaaGreatDoor.Lx
