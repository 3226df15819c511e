import Derived.Shelf.Strings.Builder1
import Derived.Shelf.Strings.Builder2
import Derived.Shelf.Strings.Trim
import Derived.Shelf.Small.Utf8
import Derived.Shelf.Small.Strs
import Derived.Shelf.Small.Wraps
import Derived.Shelf.Strconv.Itoa0
import Derived.Shelf.Strconv.Itoa1
import Derived.Shelf.LaysM
import Derived.Shelf.Strconv.Itoa2
import Derived.Shelf.Strconv.Itoa3
import Derived.Shelf.Strconv.Itoa4
import Derived.Shelf.Strconv.ParseIntEmpty
import Derived.Shelf.Strconv.Clone
import Derived.Shelf.Strconv.SyntaxError
import Derived.Shelf.LaysC
import Derived.Shelf.Strconv.ToError
import Derived.Shelf.Strconv.Lower
import Derived.Shelf.Strconv.ParseUint10
import Derived.Shelf.Strconv.ParseUint10Empty
import Derived.Shelf.Strconv.ParseUint10Any
import Derived.Shelf.Strconv.ParseInt10
import Derived.Shelf.Strconv.RangeError
import Derived.Shelf.Strconv.ToErrorRange
import Derived.Shelf.Strconv.ParseUintEmpty
import Derived.Shelf.Strconv.ParseUint10b64
import Derived.Shelf.Strconv.ParseUint10b32
import Derived.Shelf.Strconv.ParseUint10b16
import Derived.Shelf.Strconv.ParseUint10b8
import Derived.Shelf.Strconv.ParseUint10At
import Derived.Shelf.Strconv.ParseInt10At64
import Derived.Shelf.Strconv.ParseInt10At32
import Derived.Shelf.Strconv.ParseInt10At16
import Derived.Shelf.Strconv.ParseInt10At8
import Derived.Shelf.Strconv.ParseInt10All
import Derived.Shelf.Strconv.ParseIntPublic10
import Derived.Shelf.Strings.Search1
import Derived.Shelf.Strings.Prefix
import Derived.Shelf.Strings.Runes
import Derived.Shelf.Strings.AsciiSet
import Derived.Shelf.Bits.Mul64
import Derived.Shelf.Unicode.DecodeSlow
import Derived.Test.YtbnmmbjajheedaaGreatDoorProg
import Derived.Test.YtbnmmbjajheedaaGreatDoorChecked
import Derived.WalkKit
import Derived.WalkSpells
import Derived.WalkLawsBesides
import Derived.Deep.RegionHeld3
import Derived.Deep.DeepCutAuto
import Derived.KernelRfl
import Derived.Lib.Hide
import Derived.Lib.ItoaWalk
import Derived.Lib.LaidTab
import Derived.Stop.LaidErr
import Derived.Laws.Strings3
import Derived.Maps.OwnSet
import Derived.Maps.OwnOps
import Derived.Maps.Views
import Derived.Deep.AppendLies
import Derived.Laws.EntriesVeiled
import Derived.OpenShut
import Derived.ProofKit
import Derived.RegionTactic
import Derived.BigRegion
import Derived.Lib.ConvBytes
import Derived.Lib.AtoiAllMem
import Derived.Laws.Closers25
import Derived.Laws.Closers25b
import Derived.Shelf.Strings.SlTrimAscii
import Derived.Laws.StructEq
import Derived.Lib.ParseIntBCases
import Derived.Lib.ParseIntBTie
namespace Go.Proofs
open Go.Shelf
def Tryz.lays161_ren : Go.Shelf.Ren := ⟨fun | 161 => 107 | 231 => 133 | 227 => 134 | 233 => 135 | 235 => 136 | 228 => 159 | 197 => 160 | 151 => 161 | 260 => 174 | 152 => 175 | 137 => 30 | 119 => 192 | 224 => 193 | 225 => 194 | 217 => 73 | 266 => 108 | n => n, fun | 9 => 9 | 4 => 4 | 3 => 3 | 5 => 5 | 117 => 162 | 116 => 161 | 0 => 0 | 124 => 165 | 105 => 179 | 21 => 21 | 119 => 206 | 46 => 199 | 139 => 209 | 138 => 208 | n => n, fun | 3 => 21 | 4 => 22 | n => n⟩
theorem Tryz.lays161 : Go.Proofs.Lays.n161 Tryz.prog Tryz.lays161_ren := {
 mixed := by kernel_rfl
 f119 := Tryz.func192.trans (congrArg some (by kernel_rfl))
 f137 := Tryz.func30.trans (congrArg some (by kernel_rfl))
 f151 := Tryz.func161.trans (congrArg some (by kernel_rfl))
 f152 := Tryz.func175.trans (congrArg some (by kernel_rfl))
 f161 := Tryz.func107.trans (congrArg some (by kernel_rfl))
 f197 := Tryz.func160.trans (congrArg some (by kernel_rfl))
 f217 := Tryz.func73.trans (congrArg some (by kernel_rfl))
 f224 := Tryz.func193.trans (congrArg some (by kernel_rfl))
 f225 := Tryz.func194.trans (congrArg some (by kernel_rfl))
 f227 := Tryz.func134.trans (congrArg some (by kernel_rfl))
 f228 := Tryz.func159.trans (congrArg some (by kernel_rfl))
 f231 := Tryz.func133.trans (congrArg some (by kernel_rfl))
 f233 := Tryz.func135.trans (congrArg some (by kernel_rfl))
 f235 := Tryz.func136.trans (congrArg some (by kernel_rfl))
 f260 := Tryz.func174.trans (congrArg some (by kernel_rfl))
 f266 := Tryz.func108.trans (congrArg some (by kernel_rfl))
 t0 := Tryz.underlying0
 a0 := Tryz.isAgg0
 z0 := Tryz.sizeOf0
 v0 := Tryz.zeroValue0
 t3 := Tryz.underlying3
 a3 := Tryz.isAgg3
 z3 := Tryz.sizeOf3
 v3 := Tryz.zeroValue3
 t4 := Tryz.underlying4
 a4 := Tryz.isAgg4
 z4 := Tryz.sizeOf4
 v4 := Tryz.zeroValue4
 t5 := Tryz.underlying5
 a5 := Tryz.isAgg5
 z5 := Tryz.sizeOf5
 v5 := Tryz.zeroValue5
 t9 := Tryz.underlying9
 a9 := Tryz.isAgg9
 z9 := Tryz.sizeOf9
 v9 := Tryz.zeroValue9
 t21 := Tryz.underlying21
 a21 := Tryz.isAgg21
 z21 := Tryz.sizeOf21
 v21 := Tryz.zeroValue21
 t46 := Tryz.underlying199
 a46 := Tryz.isAgg199
 z46 := Tryz.sizeOf199
 v46 := Tryz.zeroValue199
 t105 := Tryz.underlying179
 a105 := Tryz.isAgg179
 z105 := Tryz.sizeOf179
 v105 := Tryz.zeroValue179
 t116 := Tryz.underlying161
 a116 := Tryz.isAgg161
 z116 := Tryz.sizeOf161
 t117 := Tryz.underlying162
 a117 := Tryz.isAgg162
 z117 := Tryz.sizeOf162
 v117 := Tryz.zeroValue162
 t119 := Tryz.underlying206
 a119 := Tryz.isAgg206
 z119 := Tryz.sizeOf206
 t124 := Tryz.underlying165
 a124 := Tryz.isAgg165
 z124 := Tryz.sizeOf165
 v124 := Tryz.zeroValue165
 t138 := Tryz.underlying208
 a138 := Tryz.isAgg208
 z138 := Tryz.sizeOf208
 v138 := Tryz.zeroValue208
 t139 := Tryz.underlying209
 a139 := Tryz.isAgg209
 z139 := Tryz.sizeOf209
 v139 := Tryz.zeroValue209
 g3 := by kernel_rfl
 g4 := by kernel_rfl }
def Tryz.lays137_ren : Go.Shelf.Ren := ⟨fun | 137 => 30 | 217 => 73 | 266 => 108 | n => n, fun | 9 => 9 | 5 => 5 | 3 => 3 | n => n, fun | n => n⟩
theorem Tryz.lays137 : Go.Proofs.Lays.n137 Tryz.prog Tryz.lays137_ren := {
 mixed := by kernel_rfl
 f137 := Tryz.func30.trans (congrArg some (by kernel_rfl))
 f217 := Tryz.func73.trans (congrArg some (by kernel_rfl))
 f266 := Tryz.func108.trans (congrArg some (by kernel_rfl))
 t3 := Tryz.underlying3
 a3 := Tryz.isAgg3
 z3 := Tryz.sizeOf3
 v3 := Tryz.zeroValue3
 t5 := Tryz.underlying5
 a5 := Tryz.isAgg5
 z5 := Tryz.sizeOf5
 v5 := Tryz.zeroValue5
 t9 := Tryz.underlying9
 a9 := Tryz.isAgg9
 z9 := Tryz.sizeOf9
 v9 := Tryz.zeroValue9 }
open Go.RowKit in
theorem Tryz.strings_IndexByte (s : ByteArray) (c : Int) (w : World) :
  Calls Tryz.prog 30 #[.string s, .int .u8 c] w fun e w' => e = .returned (.int .i64 (Lib.indexByte s.data.toList c.toNat.toUInt8)) ∧ w' = w := Any.strings_IndexByte Tryz.lays137 s c w
def Tryz.lays103_ren : Go.Shelf.Ren := ⟨fun | 103 => 129 | 210 => 153 | 206 => 74 | n => n, fun | 9 => 9 | 4 => 4 | 24 => 157 | 3 => 3 | n => n, fun | n => n⟩
theorem Tryz.lays103 : Go.Proofs.Lays.n103 Tryz.prog Tryz.lays103_ren := {
 mixed := by kernel_rfl
 f103 := Tryz.func129.trans (congrArg some (by kernel_rfl))
 f206 := Tryz.func74.trans (congrArg some (by kernel_rfl))
 f210 := Tryz.func153.trans (congrArg some (by kernel_rfl))
 t3 := Tryz.underlying3
 a3 := Tryz.isAgg3
 z3 := Tryz.sizeOf3
 v3 := Tryz.zeroValue3
 t4 := Tryz.underlying4
 a4 := Tryz.isAgg4
 z4 := Tryz.sizeOf4
 v4 := Tryz.zeroValue4
 t9 := Tryz.underlying9
 a9 := Tryz.isAgg9
 z9 := Tryz.sizeOf9
 v9 := Tryz.zeroValue9
 t24 := Tryz.underlying157
 a24 := Tryz.isAgg157
 z24 := Tryz.sizeOf157
 v24 := Tryz.zeroValue157 }
open Go.RowKit in
theorem Tryz.strings_CutPrefix (s p : ByteArray) (w : World) :
  Calls Tryz.prog 129 #[.string s, .string p] w fun e w' => e = .returned (.tuple #[.string ⟨(Lib.trimPrefix s.data.toList p.data.toList).toArray⟩, .bool (Lib.hasPrefix s.data.toList p.data.toList)]) ∧ w' = w := Any.strings_CutPrefix Tryz.lays103 s p w
def Tryz.laysM316_ren : Go.Shelf.Ren := ⟨fun | 316 => 80 | n => n, fun | 9 => 9 | 3 => 3 | 4 => 4 | 37 => 89 | 0 => 0 | 127 => 133 | 5 => 5 | n => n, fun | n => n⟩
theorem Tryz.laysM316 : Go.Proofs.LaysM.n316 Tryz.prog Tryz.laysM316_ren := {
 mixed := by kernel_rfl
 f316 := Tryz.func80.trans (congrArg some (by kernel_rfl))
 t0 := Tryz.underlying0
 a0 := Tryz.isAgg0
 z0 := Tryz.sizeOf0
 v0 := Tryz.zeroValue0
 t3 := Tryz.underlying3
 a3 := Tryz.isAgg3
 z3 := Tryz.sizeOf3
 v3 := Tryz.zeroValue3
 t4 := Tryz.underlying4
 a4 := Tryz.isAgg4
 z4 := Tryz.sizeOf4
 v4 := Tryz.zeroValue4
 t9 := Tryz.underlying9
 a9 := Tryz.isAgg9
 z9 := Tryz.sizeOf9
 v9 := Tryz.zeroValue9
 t37 := Tryz.underlying89
 a37 := Tryz.isAgg89
 z37 := Tryz.sizeOf89
 v37 := Tryz.zeroValue89
 t127 := Tryz.underlying133
 a127 := Tryz.isAgg133
 z127 := Tryz.sizeOf133
 v127 := Tryz.zeroValue133
 t5 := Tryz.underlying5
 a5 := Tryz.isAgg5
 z5 := Tryz.sizeOf5
 v5 := Tryz.zeroValue5
 i0 := by kernel_rfl
 i3 := by kernel_rfl
 i4 := by kernel_rfl
 i5 := by kernel_rfl
 i9 := by kernel_rfl
 i37 := by kernel_rfl
 i127 := by kernel_rfl }
open Go.RowKit in
theorem Tryz.stringslite_Clone (s : ByteArray) (w : World) (hlim : s.size ≤ 281474976710656) :
  Calls Tryz.prog 80 #[.string s] w fun e w' => e = .returned (.string s) ∧ Below w.heap.size w w' := Any.stringslite_Clone Tryz.laysM316 s w hlim
def Tryz.laysC245_ren : Go.Shelf.Ren := ⟨fun | 245 => 172 | 279 => 188 | 280 => 189 | 281 => 190 | 282 => 191 | 316 => 80 | 171 => 84 | 205 => 201 | 243 => 121 | 246 => 150 | 283 => 167 | 284 => 168 | 285 => 169 | 286 => 170 | 129 => 182 | 317 => 181 | 318 => 183 | 319 => 184 | 320 => 185 | 337 => 199 | 338 => 200 | n => n, fun | 9 => 9 | 3 => 3 | 75 => 93 | 167 => 201 | 4 => 4 | 168 => 203 | 210 => 217 | 37 => 89 | 0 => 0 | 127 => 133 | 145 => 227 | 143 => 225 | 2 => 2 | 171 => 183 | 53 => 37 | 5 => 5 | 173 => 186 | 212 => 195 | 51 => 196 | 20 => 20 | 213 => 197 | 46 => 199 | 232 => 223 | 233 => 224 | 80 => 80 | n => n, fun | 15 => 23 | 16 => 24 | 17 => 20 | 18 => 25 | 19 => 26 | n => n⟩
theorem Tryz.laysC245 : Go.Proofs.LaysC.n245 Tryz.prog Tryz.laysC245_ren := {
 mixed := by kernel_rfl
 f129 := Tryz.func182.trans (congrArg some (by kernel_rfl))
 f171 := Tryz.func84.trans (congrArg some (by kernel_rfl))
 f205 := Tryz.func201.trans (congrArg some (by kernel_rfl))
 f243 := Tryz.func121.trans (congrArg some (by kernel_rfl))
 f245 := Tryz.func172.trans (congrArg some (by kernel_rfl))
 f246 := Tryz.func150.trans (congrArg some (by kernel_rfl))
 f279 := Tryz.func188.trans (congrArg some (by kernel_rfl))
 f280 := Tryz.func189.trans (congrArg some (by kernel_rfl))
 f281 := Tryz.func190.trans (congrArg some (by kernel_rfl))
 f282 := Tryz.func191.trans (congrArg some (by kernel_rfl))
 f283 := Tryz.func167.trans (congrArg some (by kernel_rfl))
 f284 := Tryz.func168.trans (congrArg some (by kernel_rfl))
 f285 := Tryz.func169.trans (congrArg some (by kernel_rfl))
 f286 := Tryz.func170.trans (congrArg some (by kernel_rfl))
 f316 := Tryz.func80.trans (congrArg some (by kernel_rfl))
 f317 := Tryz.func181.trans (congrArg some (by kernel_rfl))
 f318 := Tryz.func183.trans (congrArg some (by kernel_rfl))
 f319 := Tryz.func184.trans (congrArg some (by kernel_rfl))
 f320 := Tryz.func185.trans (congrArg some (by kernel_rfl))
 f337 := Tryz.func199.trans (congrArg some (by kernel_rfl))
 f338 := Tryz.func200.trans (congrArg some (by kernel_rfl))
 t0 := Tryz.underlying0
 a0 := Tryz.isAgg0
 z0 := Tryz.sizeOf0
 v0 := Tryz.zeroValue0
 t2 := Tryz.underlying2
 a2 := Tryz.isAgg2
 z2 := Tryz.sizeOf2
 v2 := Tryz.zeroValue2
 t3 := Tryz.underlying3
 a3 := Tryz.isAgg3
 z3 := Tryz.sizeOf3
 v3 := Tryz.zeroValue3
 t4 := Tryz.underlying4
 a4 := Tryz.isAgg4
 z4 := Tryz.sizeOf4
 v4 := Tryz.zeroValue4
 t5 := Tryz.underlying5
 a5 := Tryz.isAgg5
 z5 := Tryz.sizeOf5
 v5 := Tryz.zeroValue5
 t9 := Tryz.underlying9
 a9 := Tryz.isAgg9
 z9 := Tryz.sizeOf9
 v9 := Tryz.zeroValue9
 t20 := Tryz.underlying20
 a20 := Tryz.isAgg20
 z20 := Tryz.sizeOf20
 v20 := Tryz.zeroValue20
 t37 := Tryz.underlying89
 a37 := Tryz.isAgg89
 z37 := Tryz.sizeOf89
 v37 := Tryz.zeroValue89
 t46 := Tryz.underlying199
 a46 := Tryz.isAgg199
 z46 := Tryz.sizeOf199
 v46 := Tryz.zeroValue199
 t51 := Tryz.underlying196
 a51 := Tryz.isAgg196
 z51 := Tryz.sizeOf196
 v51 := Tryz.zeroValue196
 t53 := Tryz.underlying37
 a53 := Tryz.isAgg37
 z53 := Tryz.sizeOf37
 v53 := Tryz.zeroValue37
 t75 := Tryz.underlying93
 a75 := Tryz.isAgg93
 z75 := Tryz.sizeOf93
 v75 := Tryz.zeroValue93
 t127 := Tryz.underlying133
 a127 := Tryz.isAgg133
 z127 := Tryz.sizeOf133
 v127 := Tryz.zeroValue133
 t143 := Tryz.underlying225
 a143 := Tryz.isAgg225
 z143 := Tryz.sizeOf225
 v143 := Tryz.zeroValue225
 t145 := Tryz.underlying227
 a145 := Tryz.isAgg227
 z145 := Tryz.sizeOf227
 v145 := Tryz.zeroValue227
 t167 := Tryz.underlying201
 a167 := Tryz.isAgg201
 z167 := Tryz.sizeOf201
 v167 := Tryz.zeroValue201
 t168 := Tryz.underlying203
 a168 := Tryz.isAgg203
 z168 := Tryz.sizeOf203
 v168 := Tryz.zeroValue203
 t171 := Tryz.underlying183
 a171 := Tryz.isAgg183
 z171 := Tryz.sizeOf183
 v171 := Tryz.zeroValue183
 t173 := Tryz.underlying186
 a173 := Tryz.isAgg186
 z173 := Tryz.sizeOf186
 v173 := Tryz.zeroValue186
 t210 := Tryz.underlying217
 a210 := Tryz.isAgg217
 z210 := Tryz.sizeOf217
 v210 := Tryz.zeroValue217
 t212 := Tryz.underlying195
 a212 := Tryz.isAgg195
 z212 := Tryz.sizeOf195
 v212 := Tryz.zeroValue195
 t213 := Tryz.underlying197
 a213 := Tryz.isAgg197
 z213 := Tryz.sizeOf197
 t232 := Tryz.underlying223
 a232 := Tryz.isAgg223
 z232 := Tryz.sizeOf223
 v232 := Tryz.zeroValue223
 t233 := Tryz.underlying224
 a233 := Tryz.isAgg224
 z233 := Tryz.sizeOf224
 v233 := Tryz.zeroValue224
 g15 := by kernel_rfl
 g16 := by kernel_rfl
 g17 := by kernel_rfl
 g18 := by kernel_rfl
 g19 := by kernel_rfl
 t80 := Tryz.underlying80
 a80 := Tryz.isAgg80
 z80 := Tryz.sizeOf80
 v80 := Tryz.zeroValue80
 i0 := by kernel_rfl
 i2 := by kernel_rfl
 i3 := by kernel_rfl
 i4 := by kernel_rfl
 i5 := by kernel_rfl
 i9 := by kernel_rfl
 i20 := by kernel_rfl
 i37 := by kernel_rfl
 i46 := by kernel_rfl
 i51 := by kernel_rfl
 i53 := by kernel_rfl
 i75 := by kernel_rfl
 i80 := by kernel_rfl
 i127 := by kernel_rfl
 i143 := by kernel_rfl
 i145 := by kernel_rfl
 i167 := by kernel_rfl
 i168 := by kernel_rfl
 i171 := by kernel_rfl
 i173 := by kernel_rfl
 i210 := by kernel_rfl
 i212 := by kernel_rfl
 i232 := by kernel_rfl
 i233 := by kernel_rfl
 m15 := by kernel_rfl
 m16 := by kernel_rfl
 m17 := by kernel_rfl
 m18 := by kernel_rfl
 m19 := by kernel_rfl
 c0 := by kernel_rfl
 c2 := by kernel_rfl
 c3 := by kernel_rfl
 c4 := by kernel_rfl
 c5 := by kernel_rfl
 c9 := by kernel_rfl
 c20 := by kernel_rfl
 c37 := by kernel_rfl
 c46 := by kernel_rfl
 c51 := by kernel_rfl
 c53 := by kernel_rfl
 c75 := by kernel_rfl
 c80 := by kernel_rfl
 c127 := by kernel_rfl
 c143 := by kernel_rfl
 c145 := by kernel_rfl
 c167 := by kernel_rfl
 c168 := by kernel_rfl
 c171 := by kernel_rfl
 c173 := by kernel_rfl
 c210 := by kernel_rfl
 c212 := by kernel_rfl
 c213 := by kernel_rfl
 c232 := by kernel_rfl
 c233 := by kernel_rfl }
open Go.RowKit in
theorem Tryz.strconv_toError_syntax (fn s : ByteArray) (base bits : Int) (ev : Value) (w : World) (hlim : s.size ≤ 281474976710656) (hv : w.cell? ⟨23, 0, none⟩ = some ev) (hev : ev = .nilIface ∨ ∃ te pe, ev = .iface te pe) :
  Calls Tryz.prog 172 #[.string fn, .string s, .int .i64 base, .int .i64 bits, .iface 201 (.int .i64 2)] w fun e w' => ∃ N, e = .returned (.iface 203 (.pointer (some ⟨N, 0, none⟩))) ∧ w.heap.size ≤ N ∧ w'.heap[N]? = some (.cells #[.string fn, .string s, ev] 217 (0, 0)) ∧ Below w.heap.size w w' := Any.strconv_toError_syntax Tryz.laysC245 fn s base bits ev w hlim hv hev
def Tryz.lays321_ren : Go.Shelf.Ren := ⟨fun | 321 => 186 | n => n, fun | 5 => 5 | n => n, fun | n => n⟩
theorem Tryz.lays321 : Go.Proofs.Lays.n321 Tryz.prog Tryz.lays321_ren := {
 mixed := by kernel_rfl
 f321 := Tryz.func186.trans (congrArg some (by kernel_rfl))
 t5 := Tryz.underlying5
 a5 := Tryz.isAgg5
 z5 := Tryz.sizeOf5
 v5 := Tryz.zeroValue5 }
open Go.RowKit in
theorem Tryz.internal_strconv_lower (c : Int) (w : World) :
  Calls Tryz.prog 186 #[.int .u8 c] w fun e w' => e = .returned (.int .u8 (bits .or .u8 c 32)) ∧ w' = w := Any.internal_strconv_lower Tryz.lays321 c w
def Tryz.lays287_ren : Go.Shelf.Ren := ⟨fun | 287 => 171 | 321 => 186 | 322 => 187 | n => n, fun | 9 => 9 | 3 => 3 | 53 => 37 | 75 => 93 | 4 => 4 | 167 => 201 | 5 => 5 | 46 => 199 | 37 => 89 | 0 => 0 | 21 => 21 | 80 => 80 | n => n, fun | n => n⟩
theorem Tryz.lays287 : Go.Proofs.Lays.n287 Tryz.prog Tryz.lays287_ren := {
 mixed := by kernel_rfl
 f287 := Tryz.func171.trans (congrArg some (by kernel_rfl))
 f321 := Tryz.func186.trans (congrArg some (by kernel_rfl))
 f322 := Tryz.func187.trans (congrArg some (by kernel_rfl))
 t0 := Tryz.underlying0
 a0 := Tryz.isAgg0
 z0 := Tryz.sizeOf0
 v0 := Tryz.zeroValue0
 t3 := Tryz.underlying3
 a3 := Tryz.isAgg3
 z3 := Tryz.sizeOf3
 v3 := Tryz.zeroValue3
 t4 := Tryz.underlying4
 a4 := Tryz.isAgg4
 z4 := Tryz.sizeOf4
 v4 := Tryz.zeroValue4
 t5 := Tryz.underlying5
 a5 := Tryz.isAgg5
 z5 := Tryz.sizeOf5
 v5 := Tryz.zeroValue5
 t9 := Tryz.underlying9
 a9 := Tryz.isAgg9
 z9 := Tryz.sizeOf9
 v9 := Tryz.zeroValue9
 t21 := Tryz.underlying21
 a21 := Tryz.isAgg21
 z21 := Tryz.sizeOf21
 v21 := Tryz.zeroValue21
 t37 := Tryz.underlying89
 a37 := Tryz.isAgg89
 z37 := Tryz.sizeOf89
 v37 := Tryz.zeroValue89
 t46 := Tryz.underlying199
 a46 := Tryz.isAgg199
 z46 := Tryz.sizeOf199
 v46 := Tryz.zeroValue199
 t53 := Tryz.underlying37
 a53 := Tryz.isAgg37
 z53 := Tryz.sizeOf37
 v53 := Tryz.zeroValue37
 t75 := Tryz.underlying93
 a75 := Tryz.isAgg93
 z75 := Tryz.sizeOf93
 v75 := Tryz.zeroValue93
 t167 := Tryz.underlying201
 a167 := Tryz.isAgg201
 z167 := Tryz.sizeOf201
 v167 := Tryz.zeroValue201 }
open Go.RowKit in
theorem Tryz.strconv_toError_range (fn s : ByteArray) (base bits : Int) (ev : Value) (w : World) (hlim : s.size ≤ 281474976710656) (hv : w.cell? ⟨24, 0, none⟩ = some ev) (hev : ev = .nilIface ∨ ∃ te pe, ev = .iface te pe) :
  Calls Tryz.prog 172 #[.string fn, .string s, .int .i64 base, .int .i64 bits, .iface 201 (.int .i64 1)] w fun e w' => ∃ N, e = .returned (.iface 203 (.pointer (some ⟨N, 0, none⟩))) ∧ w.heap.size ≤ N ∧ w'.heap[N]? = some (.cells #[.string fn, .string s, ev] 217 (0, 0)) ∧ Below w.heap.size w w' := Any.strconv_toError_range Tryz.laysC245 fn s base bits ev w hlim hv hev
open Go.RowKit in
theorem Tryz.internal_strconv_ParseUint_empty (base bits : Int) (w : World) :
  Calls Tryz.prog 171 #[.string ⟨#[]⟩, .int .i64 base, .int .i64 bits] w fun e w' => e = .returned (.tuple #[.int .u64 0, .iface 201 (.int .i64 2)]) ∧ w' = w := Any.internal_strconv_ParseUint_empty Tryz.lays287 base bits w
def Tryz.laysC174_ren : Go.Shelf.Ren := ⟨fun | 174 => 157 | 247 => 173 | 245 => 172 | 287 => 171 | 279 => 188 | 280 => 189 | 281 => 190 | 282 => 191 | 321 => 186 | 322 => 187 | 316 => 80 | 171 => 84 | 205 => 201 | 243 => 121 | 246 => 150 | 283 => 167 | 284 => 168 | 285 => 169 | 286 => 170 | 129 => 182 | 317 => 181 | 318 => 183 | 319 => 184 | 320 => 185 | 337 => 199 | 338 => 200 | n => n, fun | 9 => 9 | 3 => 3 | 2 => 2 | 75 => 93 | 85 => 176 | 4 => 4 | 167 => 201 | 5 => 5 | 53 => 37 | 175 => 174 | 46 => 199 | 168 => 203 | 37 => 89 | 0 => 0 | 210 => 217 | 21 => 21 | 127 => 133 | 145 => 227 | 143 => 225 | 171 => 183 | 173 => 186 | 212 => 195 | 51 => 196 | 20 => 20 | 213 => 197 | 232 => 223 | 233 => 224 | 80 => 80 | n => n, fun | 15 => 23 | 16 => 24 | 17 => 20 | 18 => 25 | 19 => 26 | n => n⟩
theorem Tryz.laysC174 : Go.Proofs.LaysC.n174 Tryz.prog Tryz.laysC174_ren := {
 mixed := by kernel_rfl
 f129 := Tryz.func182.trans (congrArg some (by kernel_rfl))
 f171 := Tryz.func84.trans (congrArg some (by kernel_rfl))
 f174 := Tryz.func157.trans (congrArg some (by kernel_rfl))
 f205 := Tryz.func201.trans (congrArg some (by kernel_rfl))
 f243 := Tryz.func121.trans (congrArg some (by kernel_rfl))
 f245 := Tryz.func172.trans (congrArg some (by kernel_rfl))
 f246 := Tryz.func150.trans (congrArg some (by kernel_rfl))
 f247 := Tryz.func173.trans (congrArg some (by kernel_rfl))
 f279 := Tryz.func188.trans (congrArg some (by kernel_rfl))
 f280 := Tryz.func189.trans (congrArg some (by kernel_rfl))
 f281 := Tryz.func190.trans (congrArg some (by kernel_rfl))
 f282 := Tryz.func191.trans (congrArg some (by kernel_rfl))
 f283 := Tryz.func167.trans (congrArg some (by kernel_rfl))
 f284 := Tryz.func168.trans (congrArg some (by kernel_rfl))
 f285 := Tryz.func169.trans (congrArg some (by kernel_rfl))
 f286 := Tryz.func170.trans (congrArg some (by kernel_rfl))
 f287 := Tryz.func171.trans (congrArg some (by kernel_rfl))
 f316 := Tryz.func80.trans (congrArg some (by kernel_rfl))
 f317 := Tryz.func181.trans (congrArg some (by kernel_rfl))
 f318 := Tryz.func183.trans (congrArg some (by kernel_rfl))
 f319 := Tryz.func184.trans (congrArg some (by kernel_rfl))
 f320 := Tryz.func185.trans (congrArg some (by kernel_rfl))
 f321 := Tryz.func186.trans (congrArg some (by kernel_rfl))
 f322 := Tryz.func187.trans (congrArg some (by kernel_rfl))
 f337 := Tryz.func199.trans (congrArg some (by kernel_rfl))
 f338 := Tryz.func200.trans (congrArg some (by kernel_rfl))
 t0 := Tryz.underlying0
 a0 := Tryz.isAgg0
 z0 := Tryz.sizeOf0
 v0 := Tryz.zeroValue0
 t2 := Tryz.underlying2
 a2 := Tryz.isAgg2
 z2 := Tryz.sizeOf2
 v2 := Tryz.zeroValue2
 t3 := Tryz.underlying3
 a3 := Tryz.isAgg3
 z3 := Tryz.sizeOf3
 v3 := Tryz.zeroValue3
 t4 := Tryz.underlying4
 a4 := Tryz.isAgg4
 z4 := Tryz.sizeOf4
 v4 := Tryz.zeroValue4
 t5 := Tryz.underlying5
 a5 := Tryz.isAgg5
 z5 := Tryz.sizeOf5
 v5 := Tryz.zeroValue5
 t9 := Tryz.underlying9
 a9 := Tryz.isAgg9
 z9 := Tryz.sizeOf9
 v9 := Tryz.zeroValue9
 t20 := Tryz.underlying20
 a20 := Tryz.isAgg20
 z20 := Tryz.sizeOf20
 v20 := Tryz.zeroValue20
 t21 := Tryz.underlying21
 a21 := Tryz.isAgg21
 z21 := Tryz.sizeOf21
 v21 := Tryz.zeroValue21
 t37 := Tryz.underlying89
 a37 := Tryz.isAgg89
 z37 := Tryz.sizeOf89
 v37 := Tryz.zeroValue89
 t46 := Tryz.underlying199
 a46 := Tryz.isAgg199
 z46 := Tryz.sizeOf199
 v46 := Tryz.zeroValue199
 t51 := Tryz.underlying196
 a51 := Tryz.isAgg196
 z51 := Tryz.sizeOf196
 v51 := Tryz.zeroValue196
 t53 := Tryz.underlying37
 a53 := Tryz.isAgg37
 z53 := Tryz.sizeOf37
 v53 := Tryz.zeroValue37
 t75 := Tryz.underlying93
 a75 := Tryz.isAgg93
 z75 := Tryz.sizeOf93
 v75 := Tryz.zeroValue93
 t85 := Tryz.underlying176
 a85 := Tryz.isAgg176
 z85 := Tryz.sizeOf176
 v85 := Tryz.zeroValue176
 t127 := Tryz.underlying133
 a127 := Tryz.isAgg133
 z127 := Tryz.sizeOf133
 v127 := Tryz.zeroValue133
 t143 := Tryz.underlying225
 a143 := Tryz.isAgg225
 z143 := Tryz.sizeOf225
 v143 := Tryz.zeroValue225
 t145 := Tryz.underlying227
 a145 := Tryz.isAgg227
 z145 := Tryz.sizeOf227
 v145 := Tryz.zeroValue227
 t167 := Tryz.underlying201
 a167 := Tryz.isAgg201
 z167 := Tryz.sizeOf201
 v167 := Tryz.zeroValue201
 t168 := Tryz.underlying203
 a168 := Tryz.isAgg203
 z168 := Tryz.sizeOf203
 v168 := Tryz.zeroValue203
 t171 := Tryz.underlying183
 a171 := Tryz.isAgg183
 z171 := Tryz.sizeOf183
 v171 := Tryz.zeroValue183
 t173 := Tryz.underlying186
 a173 := Tryz.isAgg186
 z173 := Tryz.sizeOf186
 v173 := Tryz.zeroValue186
 t175 := Tryz.underlying174
 a175 := Tryz.isAgg174
 z175 := Tryz.sizeOf174
 v175 := Tryz.zeroValue174
 t210 := Tryz.underlying217
 a210 := Tryz.isAgg217
 z210 := Tryz.sizeOf217
 v210 := Tryz.zeroValue217
 t212 := Tryz.underlying195
 a212 := Tryz.isAgg195
 z212 := Tryz.sizeOf195
 v212 := Tryz.zeroValue195
 t213 := Tryz.underlying197
 a213 := Tryz.isAgg197
 z213 := Tryz.sizeOf197
 t232 := Tryz.underlying223
 a232 := Tryz.isAgg223
 z232 := Tryz.sizeOf223
 v232 := Tryz.zeroValue223
 t233 := Tryz.underlying224
 a233 := Tryz.isAgg224
 z233 := Tryz.sizeOf224
 v233 := Tryz.zeroValue224
 g15 := by kernel_rfl
 g16 := by kernel_rfl
 g17 := by kernel_rfl
 g18 := by kernel_rfl
 g19 := by kernel_rfl
 t80 := Tryz.underlying80
 a80 := Tryz.isAgg80
 z80 := Tryz.sizeOf80
 v80 := Tryz.zeroValue80
 i0 := by kernel_rfl
 i2 := by kernel_rfl
 i3 := by kernel_rfl
 i4 := by kernel_rfl
 i5 := by kernel_rfl
 i9 := by kernel_rfl
 i20 := by kernel_rfl
 i21 := by kernel_rfl
 i37 := by kernel_rfl
 i46 := by kernel_rfl
 i51 := by kernel_rfl
 i53 := by kernel_rfl
 i75 := by kernel_rfl
 i80 := by kernel_rfl
 i85 := by kernel_rfl
 i127 := by kernel_rfl
 i143 := by kernel_rfl
 i145 := by kernel_rfl
 i167 := by kernel_rfl
 i168 := by kernel_rfl
 i171 := by kernel_rfl
 i173 := by kernel_rfl
 i175 := by kernel_rfl
 i210 := by kernel_rfl
 i212 := by kernel_rfl
 i232 := by kernel_rfl
 i233 := by kernel_rfl
 m15 := by kernel_rfl
 m16 := by kernel_rfl
 m17 := by kernel_rfl
 m18 := by kernel_rfl
 m19 := by kernel_rfl
 c0 := by kernel_rfl
 c2 := by kernel_rfl
 c3 := by kernel_rfl
 c4 := by kernel_rfl
 c5 := by kernel_rfl
 c9 := by kernel_rfl
 c20 := by kernel_rfl
 c21 := by kernel_rfl
 c37 := by kernel_rfl
 c46 := by kernel_rfl
 c51 := by kernel_rfl
 c53 := by kernel_rfl
 c75 := by kernel_rfl
 c80 := by kernel_rfl
 c85 := by kernel_rfl
 c127 := by kernel_rfl
 c143 := by kernel_rfl
 c145 := by kernel_rfl
 c167 := by kernel_rfl
 c168 := by kernel_rfl
 c171 := by kernel_rfl
 c173 := by kernel_rfl
 c175 := by kernel_rfl
 c210 := by kernel_rfl
 c212 := by kernel_rfl
 c213 := by kernel_rfl
 c232 := by kernel_rfl
 c233 := by kernel_rfl }
open Go.RowKit in
theorem Tryz.strconv_ParseInt_10_at64_ok (s : ByteArray) (hmax : s.size ≤ 9223372036854775806) (v : Int) (h : Lib.parseIntB 64 s.data.toList = .ok v) (w : World) :
  Calls Tryz.prog 157 #[.string s, .int .i64 10, .int .i64 64] w fun e w' => e = .returned (.tuple #[.int .i64 v, .nilIface]) ∧ (w' = w ∨ ∃ t, w' = Lib.bytesWorld w 5 t) := Any.strconv_ParseInt_10_at64_ok Tryz.laysC174 s hmax v h w
open Go.RowKit in
open Go.RowKit in
theorem Tryz.strconv_ParseInt_10_at64_range (s : ByteArray) (hlim : s.size ≤ 281474976710656) (h : Lib.parseIntB 64 s.data.toList = .range) (ev : Value) (w : World) (hv : w.cell? ⟨24, 0, none⟩ = some ev) (hev : ev = .nilIface ∨ ∃ te pe, ev = .iface te pe) :
  Calls Tryz.prog 157 #[.string s, .int .i64 10, .int .i64 64] w fun e w' => ∃ N, e = .returned (.tuple #[.int .i64 (Lib.intSat 64 s.data.toList), .iface 203 (.pointer (some ⟨N, 0, none⟩))]) ∧ w.heap.size ≤ N ∧ w'.heap[N]? = some (.cells #[.string ⟨#[80, 97, 114, 115, 101, 73, 110, 116]⟩, .string s, ev] 217 (0, 0)) ∧ Below w.heap.size w w' := Any.strconv_ParseInt_10_at64_range Tryz.laysC174 s hlim h ev w hv hev
def Tryz.lays99_ren : Go.Shelf.Ren := ⟨fun | 99 => 31 | 206 => 74 | n => n, fun | 9 => 9 | 4 => 4 | 3 => 3 | n => n, fun | n => n⟩
theorem Tryz.lays99 : Go.Proofs.Lays.n99 Tryz.prog Tryz.lays99_ren := {
 mixed := by kernel_rfl
 f99 := Tryz.func31.trans (congrArg some (by kernel_rfl))
 f206 := Tryz.func74.trans (congrArg some (by kernel_rfl))
 t3 := Tryz.underlying3
 a3 := Tryz.isAgg3
 z3 := Tryz.sizeOf3
 v3 := Tryz.zeroValue3
 t4 := Tryz.underlying4
 a4 := Tryz.isAgg4
 z4 := Tryz.sizeOf4
 v4 := Tryz.zeroValue4
 t9 := Tryz.underlying9
 a9 := Tryz.isAgg9
 z9 := Tryz.sizeOf9
 v9 := Tryz.zeroValue9 }
open Go.RowKit Go.Lib in
theorem Tryz.strings_HasPrefix (s p : ByteArray) (w : World) :
  Calls Tryz.prog 31 #[.string s, .string p] w fun e w' => e = .returned (.bool (Lib.hasPrefix s.data.toList p.data.toList)) ∧ w' = w := Any.strings_HasPrefix Tryz.lays99 s p w
def Tryz.lays101_ren : Go.Shelf.Ren := ⟨fun | 101 => 106 | 208 => 132 | 206 => 74 | n => n, fun | 9 => 9 | 4 => 4 | 3 => 3 | n => n, fun | n => n⟩
theorem Tryz.lays101 : Go.Proofs.Lays.n101 Tryz.prog Tryz.lays101_ren := {
 mixed := by kernel_rfl
 f101 := Tryz.func106.trans (congrArg some (by kernel_rfl))
 f206 := Tryz.func74.trans (congrArg some (by kernel_rfl))
 f208 := Tryz.func132.trans (congrArg some (by kernel_rfl))
 t3 := Tryz.underlying3
 a3 := Tryz.isAgg3
 z3 := Tryz.sizeOf3
 v3 := Tryz.zeroValue3
 t4 := Tryz.underlying4
 a4 := Tryz.isAgg4
 z4 := Tryz.sizeOf4
 v4 := Tryz.zeroValue4
 t9 := Tryz.underlying9
 a9 := Tryz.isAgg9
 z9 := Tryz.sizeOf9
 v9 := Tryz.zeroValue9 }
open Go.RowKit Go.Lib in
theorem Tryz.strings_TrimPrefix (s p : ByteArray) (w : World) :
  Calls Tryz.prog 106 #[.string s, .string p] w fun e w' => e = .returned (.string ⟨(Lib.trimPrefix s.data.toList p.data.toList).toArray⟩) ∧ w' = w := Any.strings_TrimPrefix Tryz.lays101 s p w
end Go.Proofs
namespace Go.Proofs.YtbnmmbjajheedaaGreatDoor
set_option maxHeartbeats 64000000
set_option maxRecDepth 100000
open Go.RowKit
theorem Hd {p : Prop} (h : p) : Hid p := Lib.hid h
theorem Ai {a b : Prop} (h : a) (k : b) : a ∧ b := ⟨h, k⟩
theorem Nr {n : Nat} : n ≤ n := Nat.le_refl n
theorem Br {n : Nat} {w : World} : Below n w w := Below.refl n w
theorem Oi {α : Type _} {a b : α} (h : some a = some b) : a = b := Option.some.inj h
theorem Bl {w : World} {a : Addr} {v : Value} (h : w.cell? a = some v) : a.block < w.heap.size := World.block_lt_of_cell? _ _ h
theorem Nt {a b c : Nat} (h : a ≤ b) (k : b ≤ c) : a ≤ c := Nat.le_trans h k
theorem int_any (n : Int) (w : World) :
  Calls Tryz.prog 158 #[.int .i64 n] w fun e w' => e = .returned (.agg #[.bool false, .int .u64 (IntKind.u64.wrap n)]) ∧ Below w.heap.size w w' := by
 go_enter Tryz.func158, Tryz.ntmps158
 go_wp2
 exact bodyPost_ret (v := .agg #[.bool false, .int .u64 (IntKind.u64.wrap n)]) (by simp [results, Tryz.results158, go_sem]) rfl ⟨rfl, Br.alloc Nr _⟩
def cellv (w : World) (a : Addr) : Value := (w.cell? a).getD undef
def hd (d : Nat) : Int := if d < 10 then 48 + d else 87 + d
def hdB (d : Nat) : UInt8 := if d < 10 then UInt8.ofNat (48 + d) else UInt8.ofNat (87 + d)
def hexK (u k : Nat) : List UInt8 := (List.range (k + 1)).map fun j => hdB (u / 16 ^ (k - j) % 16)
def hexL (u : Nat) : List UInt8 := hexK u (u.log2 / 4)
theorem hexK_length (u k : Nat) : (hexK u k).length = k + 1 := by simp [hexK]
def fltL (b : Nat) : List UInt8 := 48 :: 102 :: (List.replicate (16 - (hexL b).length) 48 ++ hexL b)
theorem hexL_length (u : Nat) (hu : u < 18446744073709551616) : (hexL u).length ≤ 16 ∧ 1 ≤ (hexL u).length := by
 unfold hexL; rw [hexK_length]
 by_cases h : u = 0
 ·subst h; decide
 ·have : u.log2 < 64 := (Nat.log2_lt h).2 hu
  omega
theorem stepB {w W W' : World} (h : Below w.heap.size w W) (hb : Below W.heap.size W W') : Below w.heap.size w W' := h.trans (hb.mono h.size)
def U (a : Int) : Int := IntKind.u64.wrap a
def InR (a : Int) : Prop := -9223372036854775808 ≤ a ∧ a ≤ 9223372036854775807
theorem U_eq (a : Int) : U a = a % 18446744073709551616 := by unfold U; exact IntKind.wrap_u64 a
theorem wrap64_U (a : Int) (h : InR a) : wrap64 (U a) = a := by obtain ⟨h1, h2⟩ := h; rw [U_eq]; unfold wrap64; omega
theorem int_U (a : Int) (w : World) : Calls Tryz.prog 158 #[.int .i64 a] w fun e w' => e = .returned (.agg #[.bool false, .int .u64 (U a)]) ∧ Below w.heap.size w w' := int_any a w
theorem later' {w w' : World} (hb : Below w.heap.size w w') {a : Addr} {v : Value} (h : w.cell? a = some v) : w'.cell? a = some v := (hb.cell (Bl h)).trans h
theorem onB' {a b c : World} (h : Below a.heap.size a b) (k : Below b.heap.size b c) : Below a.heap.size a c := h.trans (k.mono h.size)
def KMap (w : World) (b n : Nat) (f : List UInt8 → Option Int) : Prop :=
 ∃ D : DataW Unit, w.ownsMap Tryz.prog 9 (plainElem Tryz.prog 3) b n D ∧ (∀ l, D.atKey (.string l) (.lit (.int .i64 0)) = .lit (.int .i64 ((f l).getD 0))) ∧ ∀ l, Maps.has D (.string l) = (f l).isSome
theorem kmap_made (w : World) : KMap (w.alloc (.map #[] 0)) w.heap.size 0 (fun _ => none) := by
 refine ⟨_, World.ownsMap_made w _ _ _, fun l => rfl, fun l => ?_⟩
 simp [Maps.has]
theorem KMap.same {w w' : World} {b n : Nat} {f : List UInt8 → Option Int} (h : KMap w b n f) (hk : w'.heap[b]? = w.heap[b]?) : KMap w' b n f := by
 obtain ⟨D, ⟨es, c, hb, r⟩, h2⟩ := h
 exact ⟨D, ⟨es, c, hk.trans hb, r⟩, h2⟩
theorem KMap.lt {w : World} {b n : Nat} {f : List UInt8 → Option Int} (h : KMap w b n f) : b < w.heap.size := by
 obtain ⟨D, h1, h2⟩ := h
 exact h1.lt
theorem KMap.later {w w' : World} {b n : Nat} {f : List UInt8 → Option Int} (h : KMap w b n f) (hb : Below w.heap.size w w') : KMap w' b n f := h.same (hb.block b h.lt)
theorem zero_int (w : World) : (zeroValue 3).run Tryz.prog w = .ok (.int .i64 0) w := rfl
theorem key_of (s : ByteArray) (hs : s.size ≤ maxLen) : keyOf Tryz.prog 9 (.string s) = some (.string s.data.toList) := WideMaps.keyOf_string_mk Tryz.underlying9 hs
theorem KMap.look {w : World} {b n : Nat} {f : List UInt8 → Option Int} (h : KMap w b n f) (s : ByteArray) (hs : s.size ≤ maxLen) :
  (Instr.lookup 117 (.map (some b)) (.string s) false).run Tryz.prog w = .ok (.int .i64 ((f s.data.toList).getD 0)) w := by
 obtain ⟨D, h1, h2, -⟩ := h
 obtain ⟨c, hr, hat, _⟩ := h1.lookup_int (Maps.string_keyed Tryz.underlying9) Tryz.underlying117 Tryz.underlying3 (zero_int _) (key_of s hs)
 rw [h2] at hat
 injection hat with hat
 injection hat with _ hat
 rw [hat]
 exact hr
theorem KMap.look_ok {w : World} {b n : Nat} {f : List UInt8 → Option Int} (h : KMap w b n f) (s : ByteArray) (hs : s.size ≤ maxLen) :
  (Instr.lookup 117 (.map (some b)) (.string s) true).run Tryz.prog w = .ok (.tuple #[.int .i64 ((f s.data.toList).getD 0), .bool (f s.data.toList).isSome]) w := by
 obtain ⟨D, h1, h2, h3⟩ := h
 obtain ⟨v, ps, hr, hv⟩ := h1.look_ok (Maps.string_keyed Tryz.underlying9) Tryz.underlying117 (zero_int _) (plainElem_int Tryz.underlying3 (by decide)) (key_of s hs)
 rw [h2] at hv
 obtain ⟨c, rfl, hc, hwc⟩ := plainElem_int_inv Tryz.underlying3 hv
 simp only [Prod.mk.injEq, DataW.lit.injEq, Lit.int.injEq, true_and] at hc
 rw [h3] at hr
 rw [hc.1]
 exact hr
def kput (f : List UInt8 → Option Int) (k : List UInt8) (u : Int) : List UInt8 → Option Int := fun l => if l = k then some u else f l
theorem KMap.put {w : World} {b n : Nat} {f : List UInt8 → Option Int} {D : DataW Unit} {k : List UInt8} {u : Int} (hT : Maps.Tidy D)
  (h1 : w.ownsMap Tryz.prog 9 (plainElem Tryz.prog 3) b n (D.put (.string k) (.lit (.int .i64 u)))) (h2 : ∀ l, D.atKey (.string l) (.lit (.int .i64 0)) = .lit (.int .i64 ((f l).getD 0))) (h3 : ∀ l, Maps.has D (.string l) = (f l).isSome) : KMap w b n (kput f k u) := by
 refine ⟨_, h1, fun l => ?_, fun l => ?_⟩
 ·unfold kput
  by_cases e : l = k
  ·subst e
   rw [if_pos rfl, Maps.atKey_put_same hT.isMap (by trivial)]
   rfl
  ·rw [if_neg e, Maps.atKey_put_other (by simpa using e)]
   exact h2 l
 ·unfold kput
  by_cases e : l = k
  ·subst e
   rw [Maps.has_put_same hT.isMap (by trivial), if_pos rfl]
   rfl
  ·rw [Maps.has_put_other (by simpa using e), h3, if_neg e]
theorem KMap.store {w : World} {b n : Nat} {f : List UInt8 → Option Int} (h : KMap w b n f) (hn : n < 100000) (s : ByteArray) (hs : s.size ≤ maxLen) (u : Int) (hu : (Lit.int .i64 u).wf = true) :
  ∃ w', (Instr.mapUpdate 117 (.map (some b)) (.string s) (.int .i64 u)).run Tryz.prog w = .ok () w' ∧ KMap w' b (n + 1) (kput f s.data.toList u) ∧ w.grownBy w' (some b) := by
 obtain ⟨D, h1, h2, h3⟩ := h
 obtain ⟨w', hrun, r1, r2⟩ := h1.update (Maps.string_keyed Tryz.underlying9) Tryz.underlying117 (by unfold maxLen; omega) (key_of s hs) (plainElem_int Tryz.underlying3 hu)
 exact ⟨w', hrun, KMap.put (h1.tidy (Maps.string_keyed Tryz.underlying9)) r1 h2 h3, r2⟩
def kputs (f : List UInt8 → Option Int) (l : List UInt8) (u : Int) : List UInt8 → Option Int := fun r => if ∃ c, c ∈ l ∧ r = [c] then some u else f r
theorem kputs_nil (f : List UInt8 → Option Int) (u : Int) : kputs f [] u = f := by
 funext r
 unfold kputs
 rw [if_neg (by rintro ⟨c, hc, _⟩; cases hc)]
theorem kputs_snoc (f : List UInt8 → Option Int) (l : List UInt8) (c : UInt8) (u : Int) : kputs f (l ++ [c]) u = kput (kputs f l u) [c] u := by
 funext r
 unfold kputs kput
 by_cases e : r = [c]
 ·rw [if_pos e, if_pos ⟨c, by simp, e⟩]
 ·rw [if_neg e]
  show _ = (if ∃ c, c ∈ l ∧ r = [c] then some u else f r)
  by_cases g : ∃ x, x ∈ l ∧ r = [x]
  ·rw [if_pos g, if_pos (by obtain ⟨x, h1, h2⟩ := g; exact ⟨x, by simp [h1], h2⟩)]
  ·rw [if_neg g, if_neg]
   rintro ⟨x, h1, h2⟩
   rcases List.mem_append.1 h1 with h1 | h1
   ·exact g ⟨x, h1, h2⟩
   ·rw [List.mem_singleton] at h1
    subst h1
    exact e h2
theorem byte_of (s : ByteArray) (j : Nat) (h : j < s.size) : (s.extract j (j + 1)).data.toList = [s[j]] ∧ s.data.toList.take (j + 1) = s.data.toList.take j ++ [s[j]] := by
 have hl : j < s.data.toList.length := by simpa using h
 constructor
 ·have : (s.extract j (j + 1)).data.toList = (s.data.toList.drop j).take (j + 1 - j) := by simp [ByteArray.data_extract]
  rw [this, List.drop_eq_getElem_cons hl, show j + 1 - j = 1 by omega]
  rfl
 ·rw [List.take_succ_eq_append_getElem hl]
  rfl
theorem begins_any (s : ByteArray) (hs : s.size ≤ 1000) (kind : Int) (hk : (Lit.int .i64 kind).wf = true) (b kb n : Nat) (hn : n ≤ 1000) (f : List UInt8 → Option Int) (w : World) (hc : w.cell? ⟨b, 0, none⟩ = some (.map (some kb))) (hb : b ≠ kb) (hM : KMap w kb n f) :
  Calls Tryz.prog 104 #[.string s, .int .i64 kind, .pointer (some ⟨b, 0, none⟩)] w fun e w' => (∃ v, e = .returned v) ∧ KMap w' kb (n + s.size) (kputs f s.data.toList kind) ∧ w.grownBy w' (some kb) := by
 have HM := Hd hM
 have HK := Hd hk
 clear hM hk
 go_enter Tryz.func104, Tryz.ntmps104
 go_wp2_with fail
 go_loopw [8] (fun s8 wr => ∃ j : Nat, j ≤ s.size ∧ s8 = .int .i64 j ∧ KMap wr kb (n + j) (kputs f (s.data.toList.take j) kind) ∧ w.grownBy wr (some kb)) (fun s8 _ => s.size - (intOf s8).toNat)
 case atStart => exact ⟨0, Nat.zero_le _, rfl, by rw [List.take_zero, kputs_nil]; exact HM.out, ⟨rfl, rfl, rfl, Nat.le_refl _, fun _ _ _ => rfl⟩⟩
 case round =>
  obtain ⟨j, hj, rfl, hm, hg⟩ := hrel
  have HJ := Hd (Ai hm hg)
  have hc1 := hg.cell hc (by simpa using hb)
  clear hm hg
  by_cases hlt : j < s.size
  ·have hlt' : (j : Int) < (s.size : Int) := by omega
   have e1 : IntKind.i64.wrap ((j : Int) + 1) = (j : Int) + 1 := by rw [IntKind.wrap_i64]; omega
   have e2 : ((j : Int) + 1).toNat = j + 1 := by omega
   obtain ⟨q1, q2⟩ := byte_of s j hlt
   have hcd : wr.drew.cell? ⟨b, 0, none⟩ = some (.map (some kb)) := hc1
   have HD := Hd (show KMap wr.drew kb (n + j) (kputs f (s.data.toList.take j) kind) from HJ.out.1.same rfl)
   have HQ := Hd (Ai q1 q2)
   have hsz : (s.extract j (j + 1)).size ≤ maxLen := by
    rw [Lib.size_eq, q1]
    exact Nt (Nat.le_refl 1) (by unfold maxLen; omega)
   clear q1 q2
   have b1 : (0 : Int) ≤ (j : Int) + 1 := by omega
   have b2 : (j : Int) + 1 ≤ (s.size : Int) := by omega
   have b3 : (j : Int) ≤ (j : Int) + 1 := by omega
   go_wp2_with fail
   obtain ⟨w7, hrun, m7, g7⟩ := HD.out.store (by omega) (s.extract j (j + 1)) hsz kind HK.out
   rw [HQ.out.1, ← kputs_snoc, ← HQ.out.2] at m7
   have H7 := Hd (Ai m7 g7)
   clear m7 g7
   go_region
   all_goals go_wp2_with fail
   all_goals exact ⟨⟨j + 1, by omega, by go_num, H7.out.1, ⟨H7.out.2.os.trans HJ.out.2.os, H7.out.2.tape.trans HJ.out.2.tape, H7.out.2.output.trans HJ.out.2.output, Nt HJ.out.2.size H7.out.2.size, fun k hk hne => (H7.out.2.block k (Nat.lt_of_lt_of_le hk HJ.out.2.size) hne).trans (HJ.out.2.block k hk hne)⟩⟩, by simp [intOf]; omega⟩
  ·obtain rfl : j = s.size := by omega
   go_wp2_with fail
   go_end0
   exact ⟨⟨_, rfl⟩, by have := HJ.out.1; rwa [List.take_of_length_le (by simp)] at this, HJ.out.2⟩
def smallsB : ByteArray := ⟨#[97, 98, 99, 100, 101, 102, 103, 104, 105, 106, 107, 108, 109, 110, 111, 112, 113, 114, 115, 116, 117, 118, 119, 120, 121, 122]⟩
def capsB : ByteArray := ⟨#[65, 66, 67, 68, 69, 70, 71, 72, 73, 74, 75, 76, 77, 78, 79, 80, 81, 82, 83, 84, 85, 86, 87, 88, 89, 90]⟩
def digsB : ByteArray := ⟨#[48, 49, 50, 51, 52, 53, 54, 55, 56, 57]⟩
def wordF : List UInt8 → Option Int := (kput (kput (kput (kput (kput (kput (kput (kput (kput (kput (fun _ => none) [108, 101, 116] 5) [105, 110] 5) [99, 97, 115, 101] 5) [111, 102] 5) [100, 97, 116, 97] 5) [119, 101, 97, 107] 7) [100, 101, 114, 101, 102] 7) [115, 101, 113] 7) [102, 108, 111, 97, 116] 7) [116, 114, 117, 110, 99] 7)
def kindF : List UInt8 → Option Int := kputs (kputs (kputs wordF smallsB.data.toList 1) capsB.data.toList 2) digsB.data.toList 3
theorem below_grown {n kb : Nat} {w a b : World} (h : Below n w a) (hg : a.grownBy b (some kb)) (hn : n ≤ kb) (hs : n ≤ a.heap.size) : Below n w b :=
 ⟨hg.os.trans h.os, hg.tape.trans h.tape, hg.output.trans h.output, Nt h.size hg.size, fun k hk => (hg.block k (by omega) (fun e => by have := Oi e; omega)).trans (h.block k hk)⟩
def KindsSaid (w : World) (e : Ending) (w' : World) : Prop := ∃ kb, e = .returned (.map (some kb)) ∧ w.heap.size ≤ kb ∧ KMap w' kb 72 kindF ∧ Below w.heap.size w w'
theorem kinds_any (w : World) : Calls Tryz.prog 67 #[] w (KindsSaid w) := by
 have hmk : ∀ W, (Instr.makeMap 117 none).run Tryz.prog W = .ok (.map (some W.heap.size)) (W.alloc (.map #[] 0)) := fun W => rfl
 have m0 := kmap_made w
 have b0 : Below w.heap.size w (w.alloc (.map #[] 0)) := Br.alloc Nr _
 have z0 : w.heap.size + 1 = (w.alloc (.map #[] 0)).heap.size := by simp
 obtain ⟨w1, r1, m1, g1⟩ := m0.store (by omega) ⟨#[108, 101, 116]⟩ (by decide) 5 (by decide)
 have b1 := below_grown b0 g1 Nr b0.size
 obtain ⟨w2, r2, m2, g2⟩ := m1.store (by omega) ⟨#[105, 110]⟩ (by decide) 5 (by decide)
 have b2 := below_grown b1 g2 Nr b1.size
 obtain ⟨w3, r3, m3, g3⟩ := m2.store (by omega) ⟨#[99, 97, 115, 101]⟩ (by decide) 5 (by decide)
 have b3 := below_grown b2 g3 Nr b2.size
 obtain ⟨w4, r4, m4, g4⟩ := m3.store (by omega) ⟨#[111, 102]⟩ (by decide) 5 (by decide)
 have b4 := below_grown b3 g4 Nr b3.size
 obtain ⟨w5, r5, m5, g5⟩ := m4.store (by omega) ⟨#[100, 97, 116, 97]⟩ (by decide) 5 (by decide)
 have b5 := below_grown b4 g5 Nr b4.size
 obtain ⟨w6, r6, m6, g6⟩ := m5.store (by omega) ⟨#[119, 101, 97, 107]⟩ (by decide) 7 (by decide)
 have b6 := below_grown b5 g6 Nr b5.size
 obtain ⟨w7, r7, m7, g7⟩ := m6.store (by omega) ⟨#[100, 101, 114, 101, 102]⟩ (by decide) 7 (by decide)
 have b7 := below_grown b6 g7 Nr b6.size
 obtain ⟨w8, r8, m8, g8⟩ := m7.store (by omega) ⟨#[115, 101, 113]⟩ (by decide) 7 (by decide)
 have b8 := below_grown b7 g8 Nr b7.size
 obtain ⟨w9, r9, m9, g9⟩ := m8.store (by omega) ⟨#[102, 108, 111, 97, 116]⟩ (by decide) 7 (by decide)
 have b9 := below_grown b8 g9 Nr b8.size
 obtain ⟨w10, r10, m10, g10⟩ := m9.store (by omega) ⟨#[116, 114, 117, 110, 99]⟩ (by decide) 7 (by decide)
 have b10 := below_grown b9 g10 Nr b9.size
 have hm : KMap w10 w.heap.size 10 wordF := m10
 have hs10 : w.heap.size + 1 ≤ w10.heap.size := by have := hm.lt; omega
 have hb := Hd b10
 have HM := Hd hm
 clear m0 b0 m1 b1 m2 b2 m3 b3 m4 b4 m5 b5 m6 b6 m7 b7 m8 b8 m9 b9 m10 b10 hm g1 g2 g3 g4 g5 g6 g7 g8 g9 g10
 go_enter Tryz.func67, Tryz.ntmps67
 go_upto_region 2 with fail
 have hx := (Below.refl w10.heap.size w10).alloc Nr (.cells #[.map (some w.heap.size)] 117)
 have hc := (show (w10.alloc (.cells #[.map (some w.heap.size)] 117)).cell? ⟨w10.heap.size, 0, none⟩ = some (.map (some w.heap.size)) by simp [go_sem])
 have HX := Hd (Ai (HM.out.later hx) (onB' hb.out hx))
 clear hx
 generalize (w10.alloc (.cells #[.map (some w.heap.size)] 117)) = W at *
 have hsz := HX.out.2.size
 go_wp2_with fail
 refine (begins_any smallsB (by decide) 1 (by decide) w10.heap.size w.heap.size 10 (by decide) wordF W hc (by omega) HX.out.1).mono ?_
 rintro e w11 ⟨⟨v, rfl⟩, q1, g1⟩
 replace hc := g1.cell hc (by simp; omega)
 have H11 := Hd (Ai q1 (below_grown HX.out.2 g1 Nr hsz))
 have hs11 := H11.out.2.size
 clear q1 g1
 go_wp2_with fail
 refine (begins_any capsB (by decide) 2 (by decide) w10.heap.size w.heap.size _ (by decide) _ w11 hc (by omega) H11.out.1).mono ?_
 rintro e w12 ⟨⟨v2, rfl⟩, q1, g1⟩
 replace hc := g1.cell hc (by simp; omega)
 have H12 := Hd (Ai q1 (below_grown H11.out.2 g1 Nr hs11))
 have hs12 := H12.out.2.size
 clear q1 g1
 go_wp2_with fail
 refine (begins_any digsB (by decide) 3 (by decide) w10.heap.size w.heap.size _ (by decide) _ w12 hc (by omega) H12.out.1).mono ?_
 rintro e w13 ⟨⟨v3, rfl⟩, q1, g1⟩
 replace hc := g1.cell hc (by simp; omega)
 have H13 := Hd (Ai q1 (below_grown H12.out.2 g1 Nr hs12))
 clear q1 g1
 go_wp2_with fail
 go_ret
 exact ⟨_, rfl, Nat.le_refl _, H13.out.1, H13.out.2⟩
def isHex (c : UInt8) : Bool := decide (48 ≤ c.toNat ∧ c.toNat ≤ 57) || decide (97 ≤ c.toNat ∧ c.toNat ≤ 102)
def hexV (c : UInt8) : Nat := if c.toNat ≤ 57 then c.toNat - 48 else c.toNat - 87
def hexN (acc : Nat) : List UInt8 → Nat
 | [] => acc
 | c :: r => hexN (acc * 16 + hexV c) r
theorem bytes_below (w : World) (t : ByteArray) : Below w.heap.size w (Lib.bytesWorld w 5 t) := by
 exact Lib.bytesWorld_below _ _ _
theorem lower_small (c : UInt8) (h0 : 97 ≤ c.toNat) (h1 : c.toNat ≤ 102) : bits .or .u8 (c.toNat : Int) 32 = (c.toNat : Int) := by
 have : c.toNat = 97 ∨ c.toNat = 98 ∨ c.toNat = 99 ∨ c.toNat = 100 ∨ c.toNat = 101 ∨ c.toNat = 102 := by omega
 rcases this with h | h | h | h | h | h <;> rw [h] <;> decide
theorem pow16 {k : Nat} (h : k ≤ 15) : 16 ^ k ≤ 1152921504606846976 := Nt (Nat.pow_le_pow_right (by decide) h) (by decide)
theorem uint16_good (t : ByteArray) (hne : t.size ≠ 0) (hmax : t.size ≤ 16) (hall : ∀ c ∈ t.data.toList, isHex c = true) (w : World) :
  Calls Tryz.prog 171 #[.string t, .int .i64 16, .int .i64 64] w fun e w' => e = .returned (.tuple #[.int .u64 (hexN 0 t.data.toList : Nat), .nilIface]) ∧ w' = Lib.bytesWorld w 5 t := by
 have hemp : t.toList.isEmpty = false := by
  rw [← decide_eq_emptyBytes]
  exact decide_eq_false (fun h => hne (by rw [h]; rfl))
 have hcv := Lib.run_convert_string_bytes (P := Tryz.prog) w 9 89 5 t (u := .string) Tryz.underlying9 Tryz.underlying89 Tryz.underlying5
 have hB : ∀ j, j < t.size → (Lib.bytesWorld w 5 t).cell? ⟨w.heap.size, j, none⟩ = some (.int .u8 (t.data.toList.getD j 0).toNat) := fun j hj => Lib.bytesWorld_cell w 5 t j hj
 obtain ⟨W1, hW1⟩ : ∃ W1, W1 = Lib.bytesWorld w 5 t := ⟨_, rfl⟩
 rw [← hW1] at hcv hB ⊢
 clear hW1
 obtain ⟨bs, hL⟩ : ∃ bs, bs = t.data.toList := ⟨_, rfl⟩
 have hLn : bs.length = t.size := by rw [hL, Lib.size_eq]
 rw [← hL] at hB hall ⊢
 clear hL
 have hmv : IntKind.u64.wrap (IntKind.u64.wrap 18446744073709551616 - 1) = 18446744073709551615 := by
  rw [IntKind.wrap_u64, IntKind.wrap_u64]
  decide
 go_enter Tryz.func171, Tryz.ntmps171
 go_wp2
 go_loop [12, 13, 101] (fun vu vn vi => ∃ (k acc : Nat) (a : Int), vu = .bool false ∧ vn = .int .u64 a ∧ vi = .int .i64 k ∧ k ≤ t.size ∧ Hid (a = (acc : Int) ∧ acc < 16 ^ k ∧ hexN 0 bs = hexN acc (bs.drop k)))
  (fun _ _ vi => t.size - (intOf vi).toNat)
 case atStart => exact ⟨0, 0, 0, rfl, rfl, rfl, by omega, rfl, by decide, rfl⟩
 case round =>
  obtain ⟨k, acc, a, rfl, rfl, rfl, hk, hh⟩ := hrel
  obtain ⟨ha, hacc, hdec⟩ := hh.out
  clear hh
  by_cases hkn : k < t.size
  ·have hp := pow16 (show k ≤ 15 by omega)
   have hps : 16 ^ (k + 1) = 16 ^ k * 16 := Nat.pow_succ 16 k
   have a0 : 0 ≤ a := by omega
   have a1 : a < 1152921504606846976 := by omega
   have hc := hB k hkn
   have hdrop : bs.drop k = bs[k]'(by omega) :: bs.drop (k + 1) := List.drop_eq_getElem_cons (by omega)
   have hget : bs.getD k 0 = bs[k]'(by omega) := by simp [List.getD, List.getElem?_eq_getElem (show k < bs.length by omega)]
   have hx : isHex (bs[k]'(by omega)) = true := hall _ (List.getElem_mem _)
   rw [hdrop] at hdec
   rw [hget] at hc
   generalize bs[k]'(by omega) = c at hc hdec hx
   have hc256 : c.toNat < 256 := c.toNat_lt
   simp only [isHex, Bool.or_eq_true, decide_eq_true_eq] at hx
   clear hB hdrop hget hall
   rcases hx with ⟨hd0, hd1⟩ | ⟨hd0, hd1⟩
   ·have hv : hexV c = c.toNat - 48 := by unfold hexV; rw [if_pos hd1]
    have HN : Hid (a * 16 + ((c.toNat : Int) - 48) = ((acc * 16 + hexV c : Nat) : Int) ∧ acc * 16 + hexV c < 16 ^ (k + 1) ∧ hexN 0 bs = hexN (acc * 16 + hexV c) (bs.drop (k + 1))) :=
     Hd ⟨by rw [hv]; omega, by rw [hv]; omega, hdec⟩
    clear hacc hdec ha hp hps hv
    go_wp2
    refine ⟨⟨k + 1, acc * 16 + hexV c, a * 16 + ((c.toNat : Int) - 48), rfl, (by first | rfl | (congr 1; omega)), (by first | rfl | (congr 1; omega)), by omega, HN⟩, by simp [intOf]; omega⟩
   ·have hv : hexV c = c.toNat - 87 := by unfold hexV; rw [if_neg (by omega)]
    have HN : Hid (a * 16 + ((c.toNat : Int) - 97 + 10) = ((acc * 16 + hexV c : Nat) : Int) ∧ acc * 16 + hexV c < 16 ^ (k + 1) ∧ hexN 0 bs = hexN (acc * 16 + hexV c) (bs.drop (k + 1))) :=
     Hd ⟨by rw [hv]; omega, by rw [hv]; omega, hdec⟩
    have hlow := lower_small c hd0 hd1
    clear hacc hdec ha hp hps hv
    go_wp2_with (go_at_call 186; refine (Tryz.internal_strconv_lower _ _).mono ?_; rintro e w' ⟨rfl, rfl⟩; rw [hlow])
    refine ⟨⟨k + 1, acc * 16 + hexV c, a * 16 + ((c.toNat : Int) - 97 + 10), rfl, (by first | rfl | (congr 1; omega)), (by first | rfl | (congr 1; omega)), by omega, HN⟩, by simp [intOf]; omega⟩
  ·have hkk : k = t.size := by omega
   subst hkk
   have hF : hexN acc (bs.drop t.size) = acc := by rw [List.drop_eq_nil_of_le (by omega)]; rfl
   rw [hF] at hdec
   subst ha
   clear hacc hF hB hall
   go_wp2
   go_ret2
   exact ⟨rfl, rfl⟩
theorem uint16_some (t : ByteArray) (hne : t.size ≠ 0) (hmax : t.size ≤ 140737488355328) (w : World) :
  Calls Tryz.prog 171 #[.string t, .int .i64 16, .int .i64 64] w fun e w' => (∃ x v, e = .returned (.tuple #[.int .u64 x, v]) ∧ (v = .nilIface ∨ v = .iface 201 (.int .i64 1) ∨ v = .iface 201 (.int .i64 2))) ∧ Below w.heap.size w w' := by
 have hemp : t.toList.isEmpty = false := by
  rw [← decide_eq_emptyBytes]
  exact decide_eq_false (fun h => hne (by rw [h]; rfl))
 have hcv := Lib.run_convert_string_bytes (P := Tryz.prog) w 9 89 5 t (u := .string) Tryz.underlying9 Tryz.underlying89 Tryz.underlying5
 have hB : ∀ j, j < t.size → (Lib.bytesWorld w 5 t).cell? ⟨w.heap.size, j, none⟩ = some (.int .u8 (t.data.toList.getD j 0).toNat) := fun j hj => Lib.bytesWorld_cell w 5 t j hj
 have hW : Below w.heap.size w (Lib.bytesWorld w 5 t) := bytes_below w t
 obtain ⟨W1, hW1⟩ : ∃ W1, W1 = Lib.bytesWorld w 5 t := ⟨_, rfl⟩
 rw [← hW1] at hcv hB hW
 clear hW1
 generalize t.data.toList = bs at hB
 have hmv : IntKind.u64.wrap (IntKind.u64.wrap 18446744073709551616 - 1) = 18446744073709551615 := by
  rw [IntKind.wrap_u64, IntKind.wrap_u64]
  decide
 go_enter Tryz.func171, Tryz.ntmps171
 go_wp2
 go_loop [12, 13, 101] (fun vu vn vi => ∃ (k : Nat) (a : Int), vu = .bool false ∧ vn = .int .u64 a ∧ vi = .int .i64 k ∧ k ≤ t.size ∧ 0 ≤ a ∧ a < 18446744073709551616)
  (fun _ _ vi => t.size - (intOf vi).toNat)
 case atStart => exact ⟨0, 0, rfl, rfl, rfl, by omega, by omega, by omega⟩
 case round =>
  obtain ⟨k, a, rfl, rfl, rfl, hk, a0, a1⟩ := hrel
  by_cases hkn : k < t.size
  ·have hc := hB k hkn
   generalize bs.getD k 0 = c at hc
   have hc256 : c.toNat < 256 := c.toNat_lt
   clear hB
   have hv0 := bits_lo_u8 .or (c.toNat : Int) 32
   have hv1 := bits_hi_u8 .or (c.toNat : Int) 32
   have hu0 := bits_lo_u8 .or 95 32
   have hu1 := bits_hi_u8 .or 95 32
   go_wp2_with (go_at_call 186; refine (Tryz.internal_strconv_lower _ _).mono ?_; rintro e w' ⟨rfl, rfl⟩)
   all_goals first
    | (go_ret2; exact ⟨⟨_, _, rfl, by simp⟩, hW⟩)
    | skip
   all_goals exact ⟨⟨k + 1, _, rfl, rfl, by go_num, by omega, by omega, by omega⟩, by simp [intOf]; omega⟩
  ·have hkk : k = t.size := by omega
   subst hkk
   clear hB
   go_wp2
   go_ret2
   exact ⟨⟨_, _, rfl, by simp⟩, hW⟩
def decB : ByteArray := ⟨#[48, 49, 50, 51, 52, 53, 54, 55, 56, 57]⟩
def hexB : ByteArray := ⟨#[48, 49, 50, 51, 52, 53, 54, 55, 56, 57, 97, 98, 99, 100, 101, 102]⟩
def madeOf (s l : List UInt8) : Bool := s.all fun c => l.contains c
theorem trim_nil (l s : List UInt8) : (Lib.trimLeftS s l = []) ↔ madeOf s l = true := by
 unfold Lib.trimLeftS madeOf
 induction s with
 | nil => simp
 | cons c r ih =>
  by_cases h : l.contains c = true
  ·rw [List.dropWhile_cons, if_pos h, ih, List.all_cons, h, Bool.true_and]
  ·rw [List.dropWhile_cons, if_neg h, List.all_cons, Bool.eq_false_iff.2 h, Bool.false_and]
   simp
theorem trimLeft_laid (s cutset : ByteArray) (w : World) (hcs : cutset.size < 4294967281) (hascii : ∀ (j : Nat) b, cutset.data.toList[j]? = some b → b.toNat < 128) :
  Calls Tryz.prog 107 #[.string s, .string cutset] w fun e w' => e = .returned (.string ⟨(Lib.trimLeftS s.data.toList cutset.data.toList).toArray⟩) ∧ Below w.heap.size w w' :=
 Any.strings_TrimLeft_laid Tryz.lays161 (by kernel_rfl) s cutset w hcs hascii
theorem madeOf_any (s l : ByteArray) (w : World) (hcs : l.size < 4294967281) (hascii : ∀ (j : Nat) b, l.data.toList[j]? = some b → b.toNat < 128) :
  Calls Tryz.prog 155 #[.string s, .string l] w fun e w' => e = .returned (.bool (madeOf s.data.toList l.data.toList)) ∧ Below w.heap.size w w' := by
 have h := trim_nil l.data.toList s.data.toList
 by_cases hm : madeOf s.data.toList l.data.toList = true
 ·have ht := h.2 hm
  have hc := trimLeft_laid s l w hcs hascii
  rw [ht] at hc
  rw [hm]
  clear h hm ht hcs hascii
  go_enter Tryz.func155, Tryz.ntmps155
  go_wp2_with fail
  refine hc.mono ?_
  rintro e w' ⟨rfl, hb⟩
  go_wp2_with fail
  go_ret
  exact ⟨by first | rfl | simp, hb⟩
 ·have ht : ¬ Lib.trimLeftS s.data.toList l.data.toList = [] := fun e => hm (h.1 e)
  have hm' : madeOf s.data.toList l.data.toList = false := by simpa using hm
  have hc := trimLeft_laid s l w hcs hascii
  obtain ⟨t, hx⟩ : ∃ t, t = (⟨(Lib.trimLeftS s.data.toList l.data.toList).toArray⟩ : ByteArray) := ⟨_, rfl⟩
  have hne : t.toList.isEmpty = false := by
   rw [← decide_eq_emptyBytes]
   exact decide_eq_false (fun e => ht (by simpa using congrArg (fun b : ByteArray => b.data.toList) (hx.symm.trans e)))
  rw [← hx] at hc
  rw [hm']
  clear h hm ht hcs hascii hx hm'
  go_enter Tryz.func155, Tryz.ntmps155
  go_wp2_with fail
  refine hc.mono ?_
  rintro e w' ⟨rfl, hb⟩
  go_wp2_with fail
  go_ret
  exact ⟨by simp, hb⟩
def intF (l : List UInt8) : Bool := l == [48] || (!(Lib.trimPrefix l [45]).isEmpty && !((Lib.trimPrefix l [45]).head? == some 48) && madeOf (Lib.trimPrefix l [45]) decB.data.toList)
theorem dec_small : ∀ (j : Nat) b, decB.data.toList[j]? = some b → b.toNat < 128 := ascii_of_all (by decide)
theorem hex_small : ∀ (j : Nat) b, hexB.data.toList[j]? = some b → b.toNat < 128 := ascii_of_all (by decide)
theorem intForm_zero (w : World) : Calls Tryz.prog 156 #[.string ⟨#[48]⟩] w fun e w' => e = .returned (.bool true) ∧ w' = w := by
 go_enter Tryz.func156, Tryz.ntmps156
 go_wp2_with fail
 go_ret
 exact ⟨rfl, rfl⟩
theorem intForm_other (s d : ByteArray) (hs : ¬ s = ⟨#[48]⟩) (hd : d = ⟨(Lib.trimPrefix s.data.toList [45]).toArray⟩) (w : World) :
  Calls Tryz.prog 156 #[.string s] w fun e w' => e = .returned (.bool (!d.data.toList.isEmpty && !(d.data.toList.head? == some 48) && madeOf d.data.toList decB.data.toList)) ∧ Below w.heap.size w w' := by
 have ht := Tryz.strings_TrimPrefix s ⟨#[45]⟩ w
 rw [show (⟨#[45]⟩ : ByteArray).data.toList = [45] from rfl, ← hd] at ht
 clear hd
 have hs' : (s.toList == [48]) = false := by
  rw [ByteArray.toList_eq]
  refine beq_eq_false_iff_ne.2 fun e => hs ?_
  rcases s with ⟨⟨l⟩⟩
  have e' : l = [48] := e
  rw [e']
 have hm := fun W => madeOf_any d decB W (by decide) dec_small
 rcases d with ⟨⟨l⟩⟩
 cases l with
 | nil =>
  go_enter Tryz.func156, Tryz.ntmps156
  go_wp2_with fail
  refine ht.mono ?_
  rintro e w' ⟨rfl, rfl⟩
  go_wp2_with fail
  go_ret
  exact ⟨by first | rfl | simp, Below.refl _ _⟩
 | cons c r =>
  by_cases hc : c = 48
  ·subst hc
   go_enter Tryz.func156, Tryz.ntmps156
   go_wp2_with fail
   refine ht.mono ?_
   rintro e w' ⟨rfl, rfl⟩
   go_wp2_with fail
   go_ret
   exact ⟨by first | rfl | simp, Below.refl _ _⟩
  ·have hcn : ¬ ((c.toNat : Int) = 48) := by
    intro e
    have h48 : (48 : UInt8).toNat = 48 := rfl
    exact hc (UInt8.toNat_inj.1 (by rw [h48]; omega))
   have hq : ((⟨⟨c :: r⟩⟩ : ByteArray)[0]'(by simp [ByteArray.size])).toNat = c.toNat := rfl
   go_enter Tryz.func156, Tryz.ntmps156
   go_wp2_with fail
   refine ht.mono ?_
   rintro e w' ⟨rfl, rfl⟩
   go_wp2_with fail
   refine (hm _).mono ?_
   rintro e w' ⟨rfl, hb⟩
   go_wp2_with fail
   go_ret
   have hn1 : ((c.toNat : Int) != 48) = true := bne_iff_ne.2 hcn
   have hn2 : (c == 48) = false := by simpa using hc
   exact ⟨by simp [hn1, hn2], hb⟩
end Go.Proofs.YtbnmmbjajheedaaGreatDoor
namespace Go.Proofs.YtbnmmbjajheedaaGreatDoor
theorem digit_hex : ∀ c : UInt8, isHex c = true → hexV c < 16 ∧ hdB (hexV c) = c := by
 have h : ∀ n : Fin 256, isHex (UInt8.ofNat n.val) = true → hexV (UInt8.ofNat n.val) < 16 ∧ hdB (hexV (UInt8.ofNat n.val)) = UInt8.ofNat n.val := by decide +kernel
 intro c hc
 have e : UInt8.ofNat c.toNat = c := by simp
 have := h ⟨c.toNat, c.toNat_lt⟩
 simp only [e] at this
 exact this hc
theorem hexK_succ (u k : Nat) : hexK u (k + 1) = hdB (u / 16 ^ (k + 1) % 16) :: hexK u k := by
 unfold hexK
 rw [List.range_succ_eq_map, List.map_cons, List.map_map]
 simp only [Nat.sub_zero]
 congr 1
 apply List.map_congr_left
 intro j _
 simp only [Function.comp]
 rw [show k + 1 - (j + 1) = k - j by omega]
theorem hexN_split : ∀ (l : List UInt8) (acc : Nat), (∀ c ∈ l, isHex c = true) → ∃ v, hexN acc l = acc * 16 ^ l.length + v ∧ v < 16 ^ l.length
 | [], acc, _ => ⟨0, by simp [hexN], by simp⟩
 | c :: r, acc, h => by
  obtain ⟨v, h1, h2⟩ := hexN_split r (acc * 16 + hexV c) (fun x hx => h x (List.mem_cons_of_mem _ hx))
  have hc := (digit_hex c (h c (List.mem_cons_self ..))).1
  refine ⟨hexV c * 16 ^ r.length + v, ?_, ?_⟩
  ·rw [hexN, h1, List.length_cons, Nat.pow_succ, Nat.add_mul, Nat.mul_assoc, Nat.mul_comm 16 (16 ^ r.length), Nat.add_assoc]
  ·rw [List.length_cons, Nat.pow_succ]
   have : hexV c * 16 ^ r.length ≤ 15 * 16 ^ r.length := Nat.mul_le_mul_right _ (by omega)
   omega
theorem hexK_hexN : ∀ (l : List UInt8) (k acc : Nat), l.length = k + 1 → (∀ c ∈ l, isHex c = true) → hexK (hexN acc l) k = l
 | [], k, acc, h, _ => by simp at h
 | c :: r, 0, acc, h, hall => by
  have hr : r = [] := by simpa using h
  subst hr
  obtain ⟨h1, h2⟩ := digit_hex c (hall c (List.mem_cons_self ..))
  simp only [hexK, hexN, List.range_succ, List.range_zero, List.nil_append, List.map_cons, List.map_nil]
  simp only [Nat.sub_zero, Nat.pow_zero, Nat.div_one]
  rw [show (acc * 16 + hexV c) % 16 = hexV c by omega, h2]
 | c :: r, k + 1, acc, h, hall => by
  have hr : r.length = k + 1 := by simpa using h
  obtain ⟨h1, h2⟩ := digit_hex c (hall c (List.mem_cons_self ..))
  have ih := hexK_hexN r k (acc * 16 + hexV c) hr (fun x hx => hall x (List.mem_cons_of_mem _ hx))
  obtain ⟨v, e1, e2⟩ := hexN_split r (acc * 16 + hexV c) (fun x hx => hall x (List.mem_cons_of_mem _ hx))
  rw [hexK_succ]
  show hdB (hexN (acc * 16 + hexV c) r / 16 ^ (k + 1) % 16) :: hexK (hexN (acc * 16 + hexV c) r) k = c :: r
  rw [ih, e1, hr]
  rw [hr] at e2
  congr 1
  rw [Nat.mul_comm, Nat.mul_add_div (Nat.pow_pos (by decide)), Nat.div_eq_of_lt e2, Nat.add_zero, show (acc * 16 + hexV c) % 16 = hexV c by omega, h2]
theorem hexK_pad (u k : Nat) (h : u < 16 ^ (k + 1)) : ∀ n, hexK u (k + n) = List.replicate n 48 ++ hexK u k := by
 intro n
 induction n with
 | zero => simp
 | succ n ih =>
  rw [show k + (n + 1) = k + n + 1 by omega, hexK_succ, ih, List.replicate_succ, List.cons_append]
  congr 1
  have : u / 16 ^ (k + n + 1) = 0 := Nat.div_eq_of_lt (Nat.lt_of_lt_of_le h (Nat.pow_le_pow_right (by decide) (by omega)))
  rw [this]; rfl
theorem hexL_bound (u : Nat) : u < 16 ^ (u.log2 / 4 + 1) := by
 have h := Nat.lt_log2_self (n := u)
 refine Nat.lt_of_lt_of_le h ?_
 rw [show (16 : Nat) = 2 ^ 4 from rfl, ← Nat.pow_mul]
 exact Nat.pow_le_pow_right (by decide) (by omega)
theorem fltL_eq (b : Nat) (hb : b < 18446744073709551616) : fltL b = 48 :: 102 :: hexK b 15 := by
 unfold fltL
 have hl := (hexL_length b hb).1
 have e : (hexL b).length = b.log2 / 4 + 1 := hexK_length _ _
 have hp := hexK_pad b (b.log2 / 4) (hexL_bound b) (15 - b.log2 / 4)
 rw [show b.log2 / 4 + (15 - b.log2 / 4) = 15 by omega] at hp
 rw [hp, e, show 16 - (b.log2 / 4 + 1) = 15 - b.log2 / 4 by omega]
 rfl
theorem hex_back (l : List UInt8) (hl : l.length = 16) (hall : ∀ c ∈ l, isHex c = true) : hexN 0 l < 18446744073709551616 ∧ fltL (hexN 0 l) = 48 :: 102 :: l := by
 obtain ⟨v, e1, e2⟩ := hexN_split l 0 hall
 rw [hl] at e1 e2
 have hlt : hexN 0 l < 18446744073709551616 := by rw [e1, Nat.zero_mul, Nat.zero_add]; exact e2
 exact ⟨hlt, by rw [fltL_eq _ hlt, hexK_hexN l 15 0 hl hall]⟩
end Go.Proofs.YtbnmmbjajheedaaGreatDoor
namespace Go.Proofs.YtbnmmbjajheedaaGreatDoor
open Go.Lib (NumEnd parseUintM parseUintB parseIntB decDigits itoa)
def isDig (c : UInt8) : Bool := decide (48 ≤ c.toNat ∧ c.toNat ≤ 57)
def decN (acc : Nat) : List UInt8 → Nat
 | [] => acc
 | c :: r => decN (acc * 10 + (c.toNat - 48)) r
theorem dec_contains (c : UInt8) : decB.data.toList.contains c = isDig c := by
 have h : ∀ n : Fin 256, decB.data.toList.contains (UInt8.ofNat n.val) = isDig (UInt8.ofNat n.val) := by decide +kernel
 have e : UInt8.ofNat c.toNat = c := by simp
 have := h ⟨c.toNat, c.toNat_lt⟩
 simpa only [e] using this
theorem hex_contains (c : UInt8) : hexB.data.toList.contains c = isHex c := by
 have h : ∀ n : Fin 256, hexB.data.toList.contains (UInt8.ofNat n.val) = isHex (UInt8.ofNat n.val) := by decide +kernel
 have e : UInt8.ofNat c.toNat = c := by simp
 have := h ⟨c.toNat, c.toNat_lt⟩
 simpa only [e] using this
theorem madeOf_dec (l : List UInt8) : madeOf l decB.data.toList = true ↔ ∀ c ∈ l, isDig c = true := by
 unfold madeOf; simp only [List.all_eq_true, dec_contains]
theorem madeOf_hex (l : List UInt8) : madeOf l hexB.data.toList = true ↔ ∀ c ∈ l, isHex c = true := by
 unfold madeOf; simp only [List.all_eq_true, hex_contains]
theorem dig_iff (c : UInt8) : isDig c = true ↔ 48 ≤ c.toNat ∧ c.toNat ≤ 57 := by unfold isDig; exact decide_eq_true_iff
theorem dig_back (c : UInt8) (h : isDig c = true) : UInt8.ofNat (48 + (c.toNat - 48)) = c := by
 obtain ⟨h1, h2⟩ := (dig_iff c).1 h
 rw [show 48 + (c.toNat - 48) = c.toNat by omega]; simp
theorem decN_append : ∀ (l : List UInt8) (acc : Nat) (c : UInt8), decN acc (l ++ [c]) = decN acc l * 10 + (c.toNat - 48)
 | [], _, _ => rfl
 | _ :: r, _, c => decN_append r _ c
theorem decN_ge : ∀ (l : List UInt8) (acc : Nat), acc ≤ decN acc l
 | [], _ => Nat.le_refl _
 | x :: r, acc => by
  have := decN_ge r (acc * 10 + (x.toNat - 48))
  show acc ≤ decN (acc * 10 + (x.toNat - 48)) r
  omega
theorem parse_digits (M : Nat) (hM : M ≤ 18446744073709551615) : ∀ (l : List UInt8) (acc : Nat), (∀ c ∈ l, isDig c = true) → decN acc l ≤ M → parseUintM M acc l = .ok (decN acc l)
 | [], acc, _, _ => rfl
 | c :: r, acc, h, hle => by
  have hc := (dig_iff c).1 (h c (List.mem_cons_self ..))
  have hge := decN_ge r (acc * 10 + (c.toNat - 48))
  have hle' : decN (acc * 10 + (c.toNat - 48)) r ≤ M := hle
  have ih := parse_digits M hM r (acc * 10 + (c.toNat - 48)) (fun x hx => h x (List.mem_cons_of_mem _ hx)) hle'
  rw [parseUintM, if_pos hc, if_neg (by omega), if_neg (by omega), ih]
  rfl
theorem parse_ok (M : Nat) : ∀ (l : List UInt8) (acc u : Nat), parseUintM M acc l = .ok u → (∀ c ∈ l, isDig c = true) ∧ u = decN acc l
 | [], acc, u, h => by
  simp only [parseUintM, NumEnd.ok.injEq] at h
  exact ⟨by simp, h.symm⟩
 | c :: r, acc, u, h => by
  rw [parseUintM] at h
  split at h
  ·rename_i hc
   split at h
   ·cases h
   ·split at h
    ·cases h
    ·obtain ⟨h1, h2⟩ := parse_ok M r _ u h
     refine ⟨fun x hx => ?_, h2⟩
     rcases List.mem_cons.1 hx with rfl | hx
     ·exact (dig_iff _).2 hc
     ·exact h1 x hx
  ·cases h
def Plain {α : Type} (e : NumEnd α) : Prop :=
 match e with
 | .ok _ => True
 | .range => True
 | _ => False
theorem parse_plain (M : Nat) : ∀ (l : List UInt8) (acc : Nat), (∀ c ∈ l, isDig c = true) → Plain (parseUintM M acc l)
 | [], acc, _ => by simp [parseUintM, Plain]
 | c :: r, acc, h => by
  have hc := (dig_iff c).1 (h c (List.mem_cons_self ..))
  have ih := parse_plain M r (acc * 10 + (c.toNat - 48)) (fun x hx => h x (List.mem_cons_of_mem _ hx))
  rw [parseUintM, if_pos hc]
  split
  ·simp [Plain]
  ·split
   ·simp [Plain]
   ·exact ih
theorem digits_back : ∀ (n : Nat) (l : List UInt8), l.length = n → l ≠ [] → (∀ c ∈ l, isDig c = true) → l.head? ≠ some 48 → decDigits (decN 0 l) = l ∧ 1 ≤ decN 0 l := by
 intro n
 induction n using Nat.strongRecOn with
 | _ n ih =>
  intro l hl hne hall hh
  rcases List.eq_nil_or_concat l with h0 | ⟨i, c, h0⟩
  ·exact absurd h0 hne
  ·rw [List.concat_eq_append] at h0
   subst h0
   have hc := hall c (by simp)
   have hc' := (dig_iff c).1 hc
   by_cases hi : i = []
   ·subst hi
    have hn : c.toNat ≠ 48 := by
     intro e
     apply hh
     simp only [List.nil_append, List.head?_cons, Option.some.injEq]
     exact UInt8.toNat_inj.1 e
    have e1 : decN 0 ([] ++ [c]) = c.toNat - 48 := by show 0 * 10 + (c.toNat - 48) = c.toNat - 48; omega
    rw [e1]
    refine ⟨?_, by omega⟩
    rw [decDigits, dif_pos (by omega), dig_back c hc]
    rfl
   ·have hlen : i.length < n := by rw [← hl]; simp
    have hh' : i.head? ≠ some 48 := by
     intro e
     apply hh
     rw [List.head?_append, e]; rfl
    obtain ⟨h1, h2⟩ := ih i.length hlen i rfl hi (fun x hx => hall x (by simp [hx])) hh'
    rw [decN_append]
    refine ⟨?_, by omega⟩
    rw [decDigits, dif_neg (by omega), show (decN 0 i * 10 + (c.toNat - 48)) / 10 = decN 0 i by omega, show (decN 0 i * 10 + (c.toNat - 48)) % 10 = c.toNat - 48 by omega, h1, dig_back c hc]
end Go.Proofs.YtbnmmbjajheedaaGreatDoor
