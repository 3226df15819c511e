import Derived.Lib.ParseIntB
import Derived.Lib.AtoiAll
import Derived.Lib.ItoaNum
import Derived.Lib.ParseIntBTie
import Derived.Lib.ParseIntBCases
import Derived.Shelf.Strings.Builder1
import Derived.Shelf.Strings.Builder2
import Derived.Shelf.Strings.OnBuilder
import Derived.Shelf.Strings.Trim
import Derived.Shelf.Small.Utf8
import Derived.Shelf.Small.Strs
import Derived.Shelf.Small.Wraps
import Derived.Shelf.Strings.BuilderF
import Derived.Shelf.Strconv.Itoa0
import Derived.Shelf.Strconv.Itoa1
import Derived.Shelf.LaysM
import Derived.Shelf.Strconv.Itoa2
import Derived.Shelf.Strconv.Itoa3
import Derived.Shelf.Strconv.Itoa4
import Derived.Shelf.Strconv.ParseIntEmpty
import Derived.Shelf.Strconv.Clone
import Derived.Shelf.Strconv.SyntaxError
import Derived.Shelf.LaysC
import Derived.Shelf.Strconv.ToError
import Derived.Shelf.Strconv.Lower
import Derived.Shelf.Strconv.ParseUint10
import Derived.Shelf.Strconv.ParseUint10Empty
import Derived.Shelf.Strconv.ParseUint10Any
import Derived.Shelf.Strconv.ParseInt10
import Derived.Shelf.Strconv.RangeError
import Derived.Shelf.Strconv.ToErrorRange
import Derived.Shelf.Strconv.ParseUintEmpty
import Derived.Shelf.Strconv.ParseUint10b64
import Derived.Shelf.Strconv.ParseUint10b32
import Derived.Shelf.Strconv.ParseUint10b16
import Derived.Shelf.Strconv.ParseUint10b8
import Derived.Shelf.Strconv.ParseUint10At
import Derived.Shelf.Strconv.ParseInt10At64
import Derived.Shelf.Strconv.ParseInt10At32
import Derived.Shelf.Strconv.ParseInt10At16
import Derived.Shelf.Strconv.ParseInt10At8
import Derived.Shelf.Strconv.ParseInt10All
import Derived.Shelf.Strconv.ParseIntPublic10
import Derived.Shelf.Strings.Search1
import Derived.Shelf.Strings.Prefix
import Derived.Shelf.Strings.Runes
import Derived.Shelf.Strings.AsciiSet
import Derived.Shelf.Bits.Mul64
import Derived.Shelf.Strings.Repeat
import Derived.Shelf.Unicode.DecodeSlow
import Derived.Test.YthehgcmhcioffaaGreatDoorProg
import Derived.Test.YthehgcmhcioffaaGreatDoorChecked
import Derived.WalkKit
import Derived.WalkSpells
import Derived.WalkLawsBesides
import Derived.Deep.RegionHeld3
import Derived.Deep.DeepCutAuto
import Derived.KernelRfl
import Derived.Lib.Hide
import Derived.Lib.ItoaWalk
import Derived.Lib.LaidTab
import Derived.Stop.LaidErr
import Derived.Laws.Strings3
import Derived.Maps.OwnSet
import Derived.Maps.OwnOps
import Derived.Maps.Views
import Derived.Deep.AppendLies
import Derived.Laws.EntriesVeiled
import Derived.OpenShut
import Derived.ProofKit
import Derived.RegionTactic
import Derived.BigRegion
import Derived.Lib.ConvBytes
import Derived.Lib.AtoiAllMem
import Derived.Laws.Closers25
import Derived.Laws.Closers25b
import Derived.Shelf.Strings.SlTrimAscii
import Derived.Laws.StructEq
import Derived.Deep.MidRow
import Derived.WalkMore
import Derived.Deep.QuietTactic
import Derived.BigQuiet
namespace Go.Proofs
open Go.Shelf
def Tryz.lays169_ren : Go.Shelf.Ren := ⟨fun | 169 => 28 | n => n, fun | 70 => 57 | 9 => 9 | 0 => 0 | 72 => 60 | 37 => 58 | 127 => 87 | 3 => 3 | 5 => 5 | n => n, fun | n => n⟩
theorem Tryz.lays169 : Go.Proofs.Lays.n169 Tryz.prog Tryz.lays169_ren := {
  mixed := by kernel_rfl
  f169 := Tryz.func28.trans (congrArg some (by kernel_rfl))
  t0 := Tryz.underlying0
  a0 := Tryz.isAgg0
  z0 := Tryz.sizeOf0
  v0 := Tryz.zeroValue0
  t3 := Tryz.underlying3
  a3 := Tryz.isAgg3
  z3 := Tryz.sizeOf3
  v3 := Tryz.zeroValue3
  t9 := Tryz.underlying9
  a9 := Tryz.isAgg9
  z9 := Tryz.sizeOf9
  v9 := Tryz.zeroValue9
  t37 := Tryz.underlying58
  a37 := Tryz.isAgg58
  z37 := Tryz.sizeOf58
  v37 := Tryz.zeroValue58
  t70 := Tryz.underlying57
  a70 := Tryz.isAgg57
  z70 := Tryz.sizeOf57
  v70 := Tryz.zeroValue57
  t72 := Tryz.underlying60
  a72 := Tryz.isAgg60
  z72 := Tryz.sizeOf60
  v72 := Tryz.zeroValue60
  t127 := Tryz.underlying87
  a127 := Tryz.isAgg87
  z127 := Tryz.sizeOf87
  v127 := Tryz.zeroValue87 }
theorem Tryz.Builder_Extra_169 : Builder.Extra Tryz.prog Tryz.lays169_ren := {
  sizeBuilder := by kernel_rfl
  liesBuilder := by kernel_rfl
  t5 := Tryz.underlying5
  a5 := Tryz.isAgg5
  z5 := Tryz.sizeOf5
  v5 := Tryz.zeroValue5
  infoByte := by kernel_rfl
  cellsByte := by kernel_rfl
  sizeByte := by kernel_rfl
  neB5 := by decide }
open Go.RowKit in
theorem Tryz.Builder_String_any (B b : Nat) (l : List UInt8) (w : World) (h : Lib.IsBuilder 60 5 B b (Lib.byteCells l) w) (hBw : B ≤ w.heap.size) :
    Calls Tryz.prog 28 #[.pointer (some ⟨b, 0, none⟩)] w fun e w' => e = .returned (.string ⟨l.toArray⟩) ∧ Below B w w' := Any.Builder_String_any Tryz.lays169 Tryz.Builder_Extra_169 B b l w h hBw
def Tryz.lays156_ren : Go.Shelf.Ren := ⟨fun | 156 => 107 | 165 => 134 | 166 => 23 | 169 => 28 | 240 => 39 | 241 => 155 | 276 => 69 | 277 => 173 | n => n, fun | 31 => 30 | 9 => 9 | 3 => 3 | 4 => 4 | 0 => 0 | 20 => 20 | 72 => 60 | 76 => 63 | 70 => 57 | 37 => 58 | 75 => 62 | 127 => 87 | 164 => 115 | 5 => 5 | 80 => 49 | n => n, fun | n => n⟩
theorem Tryz.lays156 : Go.Proofs.Lays.n156 Tryz.prog Tryz.lays156_ren := {
  mixed := by kernel_rfl
  f156 := Tryz.func107.trans (congrArg some (by kernel_rfl))
  f165 := Tryz.func134.trans (congrArg some (by kernel_rfl))
  f166 := Tryz.func23.trans (congrArg some (by kernel_rfl))
  f169 := Tryz.func28.trans (congrArg some (by kernel_rfl))
  f240 := Tryz.func39.trans (congrArg some (by kernel_rfl))
  f241 := Tryz.func155.trans (congrArg some (by kernel_rfl))
  f276 := Tryz.func69.trans (congrArg some (by kernel_rfl))
  f277 := Tryz.func173.trans (congrArg some (by kernel_rfl))
  t0 := Tryz.underlying0
  a0 := Tryz.isAgg0
  z0 := Tryz.sizeOf0
  v0 := Tryz.zeroValue0
  t3 := Tryz.underlying3
  a3 := Tryz.isAgg3
  z3 := Tryz.sizeOf3
  v3 := Tryz.zeroValue3
  t4 := Tryz.underlying4
  a4 := Tryz.isAgg4
  z4 := Tryz.sizeOf4
  v4 := Tryz.zeroValue4
  t9 := Tryz.underlying9
  a9 := Tryz.isAgg9
  z9 := Tryz.sizeOf9
  v9 := Tryz.zeroValue9
  t20 := Tryz.underlying20
  a20 := Tryz.isAgg20
  z20 := Tryz.sizeOf20
  v20 := Tryz.zeroValue20
  t31 := Tryz.underlying30
  a31 := Tryz.isAgg30
  z31 := Tryz.sizeOf30
  v31 := Tryz.zeroValue30
  t37 := Tryz.underlying58
  a37 := Tryz.isAgg58
  z37 := Tryz.sizeOf58
  v37 := Tryz.zeroValue58
  t70 := Tryz.underlying57
  a70 := Tryz.isAgg57
  z70 := Tryz.sizeOf57
  v70 := Tryz.zeroValue57
  t72 := Tryz.underlying60
  a72 := Tryz.isAgg60
  z72 := Tryz.sizeOf60
  v72 := Tryz.zeroValue60
  t75 := Tryz.underlying62
  a75 := Tryz.isAgg62
  z75 := Tryz.sizeOf62
  v75 := Tryz.zeroValue62
  t76 := Tryz.underlying63
  a76 := Tryz.isAgg63
  z76 := Tryz.sizeOf63
  v76 := Tryz.zeroValue63
  t127 := Tryz.underlying87
  a127 := Tryz.isAgg87
  z127 := Tryz.sizeOf87
  v127 := Tryz.zeroValue87
  t164 := Tryz.underlying115
  a164 := Tryz.isAgg115
  z164 := Tryz.sizeOf115
  v164 := Tryz.zeroValue115 }
theorem Tryz.Builder_Extra_156 : Builder.Extra Tryz.prog Tryz.lays156_ren := {
  sizeBuilder := by kernel_rfl
  liesBuilder := by kernel_rfl
  t5 := Tryz.underlying5
  a5 := Tryz.isAgg5
  z5 := Tryz.sizeOf5
  v5 := Tryz.zeroValue5
  infoByte := by kernel_rfl
  cellsByte := by kernel_rfl
  sizeByte := by kernel_rfl
  neB5 := by decide }
open Go.RowKit in
theorem Tryz.strings_Join_none (a : Option Addr) (c : Nat) (sep : ByteArray) (w : World) :
    Calls Tryz.prog 107 #[.slice a 0 c, .string sep] w fun e w' => e = .returned (.string ⟨#[]⟩) ∧ w' = w := Any.strings_Join_none Tryz.lays156 Tryz.Builder_Extra_156 a c sep w
open Go.RowKit in
theorem Tryz.strings_Join (bk o c : Nat) (xs : List ByteArray) (sep : ByteArray) (w : World) (hcells : ∀ (j : Nat) x, xs[j]? = some x → w.cell? ⟨bk, o + j, none⟩ = some (.string x)) (hbk : bk < w.heap.size) (hN : xs.length ≤ 140737488355328) (hcap : xs.length ≤ c) (hlen : (Lib.join (xs.map (·.data.toList)) sep.data.toList).length ≤ 140737488355328) :
    Calls Tryz.prog 107 #[.slice (some ⟨bk, o, none⟩) xs.length c, .string sep] w fun e w' => e = .returned (.string ⟨(Lib.join (xs.map (·.data.toList)) sep.data.toList).toArray⟩) ∧ Below w.heap.size w w' := Any.strings_Join Tryz.lays156 Tryz.Builder_Extra_156 bk o c xs sep w hcells hbk hN hcap hlen
def Tryz.lays161_ren : Go.Shelf.Ren := ⟨fun | 161 => 118 | 231 => 143 | 227 => 144 | 233 => 145 | 235 => 146 | 228 => 167 | 197 => 168 | 151 => 169 | 260 => 179 | 152 => 180 | 137 => 42 | 119 => 189 | 224 => 190 | 225 => 191 | 217 => 77 | 266 => 119 | n => n, fun | 9 => 9 | 4 => 4 | 3 => 3 | 5 => 5 | 117 => 165 | 116 => 164 | 0 => 0 | 124 => 168 | 105 => 189 | 21 => 21 | 119 => 209 | 46 => 182 | 139 => 212 | 138 => 211 | n => n, fun | 3 => 23 | 4 => 24 | n => n⟩
theorem Tryz.lays161 : Go.Proofs.Lays.n161 Tryz.prog Tryz.lays161_ren := {
  mixed := by kernel_rfl
  f119 := Tryz.func189.trans (congrArg some (by kernel_rfl))
  f137 := Tryz.func42.trans (congrArg some (by kernel_rfl))
  f151 := Tryz.func169.trans (congrArg some (by kernel_rfl))
  f152 := Tryz.func180.trans (congrArg some (by kernel_rfl))
  f161 := Tryz.func118.trans (congrArg some (by kernel_rfl))
  f197 := Tryz.func168.trans (congrArg some (by kernel_rfl))
  f217 := Tryz.func77.trans (congrArg some (by kernel_rfl))
  f224 := Tryz.func190.trans (congrArg some (by kernel_rfl))
  f225 := Tryz.func191.trans (congrArg some (by kernel_rfl))
  f227 := Tryz.func144.trans (congrArg some (by kernel_rfl))
  f228 := Tryz.func167.trans (congrArg some (by kernel_rfl))
  f231 := Tryz.func143.trans (congrArg some (by kernel_rfl))
  f233 := Tryz.func145.trans (congrArg some (by kernel_rfl))
  f235 := Tryz.func146.trans (congrArg some (by kernel_rfl))
  f260 := Tryz.func179.trans (congrArg some (by kernel_rfl))
  f266 := Tryz.func119.trans (congrArg some (by kernel_rfl))
  t0 := Tryz.underlying0
  a0 := Tryz.isAgg0
  z0 := Tryz.sizeOf0
  v0 := Tryz.zeroValue0
  t3 := Tryz.underlying3
  a3 := Tryz.isAgg3
  z3 := Tryz.sizeOf3
  v3 := Tryz.zeroValue3
  t4 := Tryz.underlying4
  a4 := Tryz.isAgg4
  z4 := Tryz.sizeOf4
  v4 := Tryz.zeroValue4
  t5 := Tryz.underlying5
  a5 := Tryz.isAgg5
  z5 := Tryz.sizeOf5
  v5 := Tryz.zeroValue5
  t9 := Tryz.underlying9
  a9 := Tryz.isAgg9
  z9 := Tryz.sizeOf9
  v9 := Tryz.zeroValue9
  t21 := Tryz.underlying21
  a21 := Tryz.isAgg21
  z21 := Tryz.sizeOf21
  v21 := Tryz.zeroValue21
  t46 := Tryz.underlying182
  a46 := Tryz.isAgg182
  z46 := Tryz.sizeOf182
  v46 := Tryz.zeroValue182
  t105 := Tryz.underlying189
  a105 := Tryz.isAgg189
  z105 := Tryz.sizeOf189
  v105 := Tryz.zeroValue189
  t116 := Tryz.underlying164
  a116 := Tryz.isAgg164
  z116 := Tryz.sizeOf164
  t117 := Tryz.underlying165
  a117 := Tryz.isAgg165
  z117 := Tryz.sizeOf165
  v117 := Tryz.zeroValue165
  t119 := Tryz.underlying209
  a119 := Tryz.isAgg209
  z119 := Tryz.sizeOf209
  t124 := Tryz.underlying168
  a124 := Tryz.isAgg168
  z124 := Tryz.sizeOf168
  v124 := Tryz.zeroValue168
  t138 := Tryz.underlying211
  a138 := Tryz.isAgg211
  z138 := Tryz.sizeOf211
  v138 := Tryz.zeroValue211
  t139 := Tryz.underlying212
  a139 := Tryz.isAgg212
  z139 := Tryz.sizeOf212
  v139 := Tryz.zeroValue212
  g3 := by kernel_rfl
  g4 := by kernel_rfl }
def Tryz.laysM171_ren : Go.Shelf.Ren := ⟨fun | 171 => 40 | 243 => 70 | 246 => 114 | 283 => 135 | 284 => 136 | 285 => 137 | 286 => 138 | 129 => 157 | 317 => 156 | 318 => 158 | 319 => 159 | 320 => 160 | 337 => 174 | 338 => 175 | n => n, fun | 3 => 3 | 9 => 9 | 2 => 2 | 4 => 4 | 171 => 155 | 0 => 0 | 53 => 31 | 37 => 58 | 5 => 5 | 173 => 158 | 212 => 178 | 51 => 179 | 20 => 20 | 213 => 180 | 46 => 182 | 232 => 202 | 233 => 203 | n => n, fun | 17 => 20 | 18 => 21 | 19 => 22 | n => n⟩
theorem Tryz.laysM171 : Go.Proofs.LaysM.n171 Tryz.prog Tryz.laysM171_ren := {
  mixed := by kernel_rfl
  f129 := Tryz.func157.trans (congrArg some (by kernel_rfl))
  f171 := Tryz.func40.trans (congrArg some (by kernel_rfl))
  f243 := Tryz.func70.trans (congrArg some (by kernel_rfl))
  f246 := Tryz.func114.trans (congrArg some (by kernel_rfl))
  f283 := Tryz.func135.trans (congrArg some (by kernel_rfl))
  f284 := Tryz.func136.trans (congrArg some (by kernel_rfl))
  f285 := Tryz.func137.trans (congrArg some (by kernel_rfl))
  f286 := Tryz.func138.trans (congrArg some (by kernel_rfl))
  f317 := Tryz.func156.trans (congrArg some (by kernel_rfl))
  f318 := Tryz.func158.trans (congrArg some (by kernel_rfl))
  f319 := Tryz.func159.trans (congrArg some (by kernel_rfl))
  f320 := Tryz.func160.trans (congrArg some (by kernel_rfl))
  f337 := Tryz.func174.trans (congrArg some (by kernel_rfl))
  f338 := Tryz.func175.trans (congrArg some (by kernel_rfl))
  t0 := Tryz.underlying0
  a0 := Tryz.isAgg0
  z0 := Tryz.sizeOf0
  v0 := Tryz.zeroValue0
  t2 := Tryz.underlying2
  a2 := Tryz.isAgg2
  z2 := Tryz.sizeOf2
  v2 := Tryz.zeroValue2
  t3 := Tryz.underlying3
  a3 := Tryz.isAgg3
  z3 := Tryz.sizeOf3
  v3 := Tryz.zeroValue3
  t4 := Tryz.underlying4
  a4 := Tryz.isAgg4
  z4 := Tryz.sizeOf4
  v4 := Tryz.zeroValue4
  t5 := Tryz.underlying5
  a5 := Tryz.isAgg5
  z5 := Tryz.sizeOf5
  v5 := Tryz.zeroValue5
  t9 := Tryz.underlying9
  a9 := Tryz.isAgg9
  z9 := Tryz.sizeOf9
  v9 := Tryz.zeroValue9
  t20 := Tryz.underlying20
  a20 := Tryz.isAgg20
  z20 := Tryz.sizeOf20
  v20 := Tryz.zeroValue20
  t37 := Tryz.underlying58
  a37 := Tryz.isAgg58
  z37 := Tryz.sizeOf58
  v37 := Tryz.zeroValue58
  t46 := Tryz.underlying182
  a46 := Tryz.isAgg182
  z46 := Tryz.sizeOf182
  v46 := Tryz.zeroValue182
  t51 := Tryz.underlying179
  a51 := Tryz.isAgg179
  z51 := Tryz.sizeOf179
  v51 := Tryz.zeroValue179
  t53 := Tryz.underlying31
  a53 := Tryz.isAgg31
  z53 := Tryz.sizeOf31
  v53 := Tryz.zeroValue31
  t171 := Tryz.underlying155
  a171 := Tryz.isAgg155
  z171 := Tryz.sizeOf155
  v171 := Tryz.zeroValue155
  t173 := Tryz.underlying158
  a173 := Tryz.isAgg158
  z173 := Tryz.sizeOf158
  v173 := Tryz.zeroValue158
  t212 := Tryz.underlying178
  a212 := Tryz.isAgg178
  z212 := Tryz.sizeOf178
  v212 := Tryz.zeroValue178
  t213 := Tryz.underlying180
  a213 := Tryz.isAgg180
  z213 := Tryz.sizeOf180
  t232 := Tryz.underlying202
  a232 := Tryz.isAgg202
  z232 := Tryz.sizeOf202
  v232 := Tryz.zeroValue202
  t233 := Tryz.underlying203
  a233 := Tryz.isAgg203
  z233 := Tryz.sizeOf203
  v233 := Tryz.zeroValue203
  g17 := by kernel_rfl
  g18 := by kernel_rfl
  g19 := by kernel_rfl
  i0 := by kernel_rfl
  i2 := by kernel_rfl
  i3 := by kernel_rfl
  i4 := by kernel_rfl
  i5 := by kernel_rfl
  i9 := by kernel_rfl
  i20 := by kernel_rfl
  i37 := by kernel_rfl
  i46 := by kernel_rfl
  i51 := by kernel_rfl
  i53 := by kernel_rfl
  i171 := by kernel_rfl
  i173 := by kernel_rfl
  i212 := by kernel_rfl
  i232 := by kernel_rfl
  i233 := by kernel_rfl
  m17 := by kernel_rfl
  m18 := by kernel_rfl
  m19 := by kernel_rfl }
open Go.RowKit Go.Sort Go.Lib in
theorem Tryz.strconv_Itoa (n : Int) (h0 : -9223372036854775808 ≤ n) (h1 : n ≤ 9223372036854775807) (w : World) (htab : Lib.TabIs Tryz.prog w "internal/strconv.uint64pow10" .u64 Lib.pow10Tab) :
    Calls Tryz.prog 40 #[.int .i64 n] w fun e w' => e = .returned (.string ⟨(Lib.itoa n).toArray⟩) ∧ ∃ k os, w' = grow (w.drewN k) os := Any.strconv_Itoa Tryz.laysM171 n h0 h1 w htab
def Tryz.laysM173_ren : Go.Shelf.Ren := ⟨fun | 173 => 151 | 246 => 114 | 283 => 135 | 284 => 136 | 285 => 137 | 286 => 138 | 129 => 157 | 317 => 156 | 318 => 158 | 319 => 159 | 320 => 160 | 337 => 174 | 338 => 175 | n => n, fun | 2 => 2 | 3 => 3 | 9 => 9 | 4 => 4 | 171 => 155 | 0 => 0 | 53 => 31 | 37 => 58 | 5 => 5 | 173 => 158 | 212 => 178 | 51 => 179 | 20 => 20 | 213 => 180 | 46 => 182 | 232 => 202 | 233 => 203 | n => n, fun | 17 => 20 | 18 => 21 | 19 => 22 | n => n⟩
theorem Tryz.laysM173 : Go.Proofs.LaysM.n173 Tryz.prog Tryz.laysM173_ren := {
  mixed := by kernel_rfl
  f129 := Tryz.func157.trans (congrArg some (by kernel_rfl))
  f173 := Tryz.func151.trans (congrArg some (by kernel_rfl))
  f246 := Tryz.func114.trans (congrArg some (by kernel_rfl))
  f283 := Tryz.func135.trans (congrArg some (by kernel_rfl))
  f284 := Tryz.func136.trans (congrArg some (by kernel_rfl))
  f285 := Tryz.func137.trans (congrArg some (by kernel_rfl))
  f286 := Tryz.func138.trans (congrArg some (by kernel_rfl))
  f317 := Tryz.func156.trans (congrArg some (by kernel_rfl))
  f318 := Tryz.func158.trans (congrArg some (by kernel_rfl))
  f319 := Tryz.func159.trans (congrArg some (by kernel_rfl))
  f320 := Tryz.func160.trans (congrArg some (by kernel_rfl))
  f337 := Tryz.func174.trans (congrArg some (by kernel_rfl))
  f338 := Tryz.func175.trans (congrArg some (by kernel_rfl))
  t0 := Tryz.underlying0
  a0 := Tryz.isAgg0
  z0 := Tryz.sizeOf0
  v0 := Tryz.zeroValue0
  t2 := Tryz.underlying2
  a2 := Tryz.isAgg2
  z2 := Tryz.sizeOf2
  v2 := Tryz.zeroValue2
  t3 := Tryz.underlying3
  a3 := Tryz.isAgg3
  z3 := Tryz.sizeOf3
  v3 := Tryz.zeroValue3
  t4 := Tryz.underlying4
  a4 := Tryz.isAgg4
  z4 := Tryz.sizeOf4
  v4 := Tryz.zeroValue4
  t5 := Tryz.underlying5
  a5 := Tryz.isAgg5
  z5 := Tryz.sizeOf5
  v5 := Tryz.zeroValue5
  t9 := Tryz.underlying9
  a9 := Tryz.isAgg9
  z9 := Tryz.sizeOf9
  v9 := Tryz.zeroValue9
  t20 := Tryz.underlying20
  a20 := Tryz.isAgg20
  z20 := Tryz.sizeOf20
  v20 := Tryz.zeroValue20
  t37 := Tryz.underlying58
  a37 := Tryz.isAgg58
  z37 := Tryz.sizeOf58
  v37 := Tryz.zeroValue58
  t46 := Tryz.underlying182
  a46 := Tryz.isAgg182
  z46 := Tryz.sizeOf182
  v46 := Tryz.zeroValue182
  t51 := Tryz.underlying179
  a51 := Tryz.isAgg179
  z51 := Tryz.sizeOf179
  v51 := Tryz.zeroValue179
  t53 := Tryz.underlying31
  a53 := Tryz.isAgg31
  z53 := Tryz.sizeOf31
  v53 := Tryz.zeroValue31
  t171 := Tryz.underlying155
  a171 := Tryz.isAgg155
  z171 := Tryz.sizeOf155
  v171 := Tryz.zeroValue155
  t173 := Tryz.underlying158
  a173 := Tryz.isAgg158
  z173 := Tryz.sizeOf158
  v173 := Tryz.zeroValue158
  t212 := Tryz.underlying178
  a212 := Tryz.isAgg178
  z212 := Tryz.sizeOf178
  v212 := Tryz.zeroValue178
  t213 := Tryz.underlying180
  a213 := Tryz.isAgg180
  z213 := Tryz.sizeOf180
  t232 := Tryz.underlying202
  a232 := Tryz.isAgg202
  z232 := Tryz.sizeOf202
  v232 := Tryz.zeroValue202
  t233 := Tryz.underlying203
  a233 := Tryz.isAgg203
  z233 := Tryz.sizeOf203
  v233 := Tryz.zeroValue203
  g17 := by kernel_rfl
  g18 := by kernel_rfl
  g19 := by kernel_rfl
  i0 := by kernel_rfl
  i2 := by kernel_rfl
  i3 := by kernel_rfl
  i4 := by kernel_rfl
  i5 := by kernel_rfl
  i9 := by kernel_rfl
  i20 := by kernel_rfl
  i37 := by kernel_rfl
  i46 := by kernel_rfl
  i51 := by kernel_rfl
  i53 := by kernel_rfl
  i171 := by kernel_rfl
  i173 := by kernel_rfl
  i212 := by kernel_rfl
  i232 := by kernel_rfl
  i233 := by kernel_rfl
  m17 := by kernel_rfl
  m18 := by kernel_rfl
  m19 := by kernel_rfl }
open Go.RowKit Go.Sort Go.Lib in
theorem Tryz.strconv_FormatInt_10 (n : Int) (h0 : -9223372036854775808 ≤ n) (h1 : n ≤ 9223372036854775807) (w : World) (htab : Lib.TabIs Tryz.prog w "internal/strconv.uint64pow10" .u64 Lib.pow10Tab) :
    Calls Tryz.prog 151 #[.int .i64 n, .int .i64 10] w fun e w' => e = .returned (.string ⟨(Lib.itoa n).toArray⟩) ∧ ∃ k os, w' = grow (w.drewN k) os := Any.strconv_FormatInt_10 Tryz.laysM173 n h0 h1 w htab
def Tryz.laysM316_ren : Go.Shelf.Ren := ⟨fun | 316 => 36 | n => n, fun | 9 => 9 | 3 => 3 | 4 => 4 | 37 => 58 | 0 => 0 | 127 => 87 | 5 => 5 | n => n, fun | n => n⟩
theorem Tryz.laysM316 : Go.Proofs.LaysM.n316 Tryz.prog Tryz.laysM316_ren := {
  mixed := by kernel_rfl
  f316 := Tryz.func36.trans (congrArg some (by kernel_rfl))
  t0 := Tryz.underlying0
  a0 := Tryz.isAgg0
  z0 := Tryz.sizeOf0
  v0 := Tryz.zeroValue0
  t3 := Tryz.underlying3
  a3 := Tryz.isAgg3
  z3 := Tryz.sizeOf3
  v3 := Tryz.zeroValue3
  t4 := Tryz.underlying4
  a4 := Tryz.isAgg4
  z4 := Tryz.sizeOf4
  v4 := Tryz.zeroValue4
  t9 := Tryz.underlying9
  a9 := Tryz.isAgg9
  z9 := Tryz.sizeOf9
  v9 := Tryz.zeroValue9
  t37 := Tryz.underlying58
  a37 := Tryz.isAgg58
  z37 := Tryz.sizeOf58
  v37 := Tryz.zeroValue58
  t127 := Tryz.underlying87
  a127 := Tryz.isAgg87
  z127 := Tryz.sizeOf87
  v127 := Tryz.zeroValue87
  t5 := Tryz.underlying5
  a5 := Tryz.isAgg5
  z5 := Tryz.sizeOf5
  v5 := Tryz.zeroValue5
  i0 := by kernel_rfl
  i3 := by kernel_rfl
  i4 := by kernel_rfl
  i5 := by kernel_rfl
  i9 := by kernel_rfl
  i37 := by kernel_rfl
  i127 := by kernel_rfl }
open Go.RowKit in
theorem Tryz.stringslite_Clone (s : ByteArray) (w : World) (hlim : s.size ≤ 281474976710656) :
    Calls Tryz.prog 36 #[.string s] w fun e w' => e = .returned (.string s) ∧ Below w.heap.size w w' := Any.stringslite_Clone Tryz.laysM316 s w hlim
def Tryz.lays105_ren : Go.Shelf.Ren := ⟨fun | 105 => 154 | 212 => 171 | 99 => 43 | 165 => 134 | 166 => 23 | 170 => 172 | 169 => 28 | 263 => 181 | 264 => 182 | 206 => 78 | 240 => 39 | 241 => 155 | 276 => 69 | 277 => 173 | n => n, fun | 9 => 9 | 3 => 3 | 4 => 4 | 20 => 20 | 0 => 0 | 46 => 182 | 109 => 192 | 5 => 5 | 72 => 60 | 76 => 63 | 51 => 179 | 146 => 198 | 53 => 31 | 148 => 200 | 70 => 57 | 37 => 58 | 75 => 62 | 127 => 87 | 164 => 115 | 80 => 49 | n => n, fun | n => n⟩
theorem Tryz.lays105 : Go.Proofs.Lays.n105 Tryz.prog Tryz.lays105_ren := {
  mixed := by kernel_rfl
  f99 := Tryz.func43.trans (congrArg some (by kernel_rfl))
  f105 := Tryz.func154.trans (congrArg some (by kernel_rfl))
  f165 := Tryz.func134.trans (congrArg some (by kernel_rfl))
  f166 := Tryz.func23.trans (congrArg some (by kernel_rfl))
  f169 := Tryz.func28.trans (congrArg some (by kernel_rfl))
  f170 := Tryz.func172.trans (congrArg some (by kernel_rfl))
  f206 := Tryz.func78.trans (congrArg some (by kernel_rfl))
  f212 := Tryz.func171.trans (congrArg some (by kernel_rfl))
  f240 := Tryz.func39.trans (congrArg some (by kernel_rfl))
  f241 := Tryz.func155.trans (congrArg some (by kernel_rfl))
  f263 := Tryz.func181.trans (congrArg some (by kernel_rfl))
  f264 := Tryz.func182.trans (congrArg some (by kernel_rfl))
  f276 := Tryz.func69.trans (congrArg some (by kernel_rfl))
  f277 := Tryz.func173.trans (congrArg some (by kernel_rfl))
  t0 := Tryz.underlying0
  a0 := Tryz.isAgg0
  z0 := Tryz.sizeOf0
  v0 := Tryz.zeroValue0
  t3 := Tryz.underlying3
  a3 := Tryz.isAgg3
  z3 := Tryz.sizeOf3
  v3 := Tryz.zeroValue3
  t4 := Tryz.underlying4
  a4 := Tryz.isAgg4
  z4 := Tryz.sizeOf4
  v4 := Tryz.zeroValue4
  t5 := Tryz.underlying5
  a5 := Tryz.isAgg5
  z5 := Tryz.sizeOf5
  v5 := Tryz.zeroValue5
  t9 := Tryz.underlying9
  a9 := Tryz.isAgg9
  z9 := Tryz.sizeOf9
  v9 := Tryz.zeroValue9
  t20 := Tryz.underlying20
  a20 := Tryz.isAgg20
  z20 := Tryz.sizeOf20
  v20 := Tryz.zeroValue20
  t37 := Tryz.underlying58
  a37 := Tryz.isAgg58
  z37 := Tryz.sizeOf58
  v37 := Tryz.zeroValue58
  t46 := Tryz.underlying182
  a46 := Tryz.isAgg182
  z46 := Tryz.sizeOf182
  v46 := Tryz.zeroValue182
  t51 := Tryz.underlying179
  a51 := Tryz.isAgg179
  z51 := Tryz.sizeOf179
  v51 := Tryz.zeroValue179
  t53 := Tryz.underlying31
  a53 := Tryz.isAgg31
  z53 := Tryz.sizeOf31
  v53 := Tryz.zeroValue31
  t70 := Tryz.underlying57
  a70 := Tryz.isAgg57
  z70 := Tryz.sizeOf57
  v70 := Tryz.zeroValue57
  t72 := Tryz.underlying60
  a72 := Tryz.isAgg60
  z72 := Tryz.sizeOf60
  v72 := Tryz.zeroValue60
  t75 := Tryz.underlying62
  a75 := Tryz.isAgg62
  z75 := Tryz.sizeOf62
  v75 := Tryz.zeroValue62
  t76 := Tryz.underlying63
  a76 := Tryz.isAgg63
  z76 := Tryz.sizeOf63
  v76 := Tryz.zeroValue63
  t109 := Tryz.underlying192
  a109 := Tryz.isAgg192
  z109 := Tryz.sizeOf192
  v109 := Tryz.zeroValue192
  t127 := Tryz.underlying87
  a127 := Tryz.isAgg87
  z127 := Tryz.sizeOf87
  v127 := Tryz.zeroValue87
  t146 := Tryz.underlying198
  a146 := Tryz.isAgg198
  z146 := Tryz.sizeOf198
  v146 := Tryz.zeroValue198
  t148 := Tryz.underlying200
  a148 := Tryz.isAgg200
  z148 := Tryz.sizeOf200
  v148 := Tryz.zeroValue200
  t164 := Tryz.underlying115
  a164 := Tryz.isAgg115
  z164 := Tryz.sizeOf115
  v164 := Tryz.zeroValue115 }
theorem Tryz.Builder_Extra_105 : Builder.Extra Tryz.prog Tryz.lays105_ren := {
  sizeBuilder := by kernel_rfl
  liesBuilder := by kernel_rfl
  t5 := Tryz.underlying5
  a5 := Tryz.isAgg5
  z5 := Tryz.sizeOf5
  v5 := Tryz.zeroValue5
  infoByte := by kernel_rfl
  cellsByte := by kernel_rfl
  sizeByte := by kernel_rfl
  neB5 := by decide }
open Go.RowKit Go.Lib in
theorem Tryz.strings_Repeat (s : ByteArray) (c : Nat) (w : World) (hc : c ≤ 9223372036854775807) (hlen : s.size * c ≤ 140737488355328) :
    Calls Tryz.prog 154 #[.string s, .int .i64 c] w fun e w' => e = .returned (.string ⟨(Lib.repeatL s.data.toList c).toArray⟩) ∧ Below w.heap.size w w' := Any.strings_Repeat Tryz.lays105 Tryz.Builder_Extra_105 s c w hc hlen
end Go.Proofs
namespace Go.Proofs.YthehgcmhcioffaaGreatDoor
set_option maxHeartbeats 64000000
set_option maxRecDepth 100000
open Go.RowKit
theorem Hd {p : Prop} (h : p) : Hid p := Lib.hid h
theorem Ai {a b : Prop} (h : a) (k : b) : a ∧ b := ⟨h, k⟩
theorem Nr {n : Nat} : n ≤ n := Nat.le_refl n
theorem Br {n : Nat} {w : World} : Below n w w := Below.refl n w
theorem Oi {α : Type _} {a b : α} (h : some a = some b) : a = b := Option.some.inj h
theorem Bl {w : World} {a : Addr} {v : Value} (h : w.cell? a = some v) : a.block < w.heap.size := World.block_lt_of_cell? _ _ h
theorem Nt {a b c : Nat} (h : a ≤ b) (k : b ≤ c) : a ≤ c := Nat.le_trans h k
def hd (d : Nat) : Int := if d < 10 then 48 + d else 87 + d
def hdB (d : Nat) : UInt8 := if d < 10 then UInt8.ofNat (48 + d) else UInt8.ofNat (87 + d)
def hexK (u k : Nat) : List UInt8 := (List.range (k + 1)).map fun j => hdB (u / 16 ^ (k - j) % 16)
def hexL (u : Nat) : List UInt8 := hexK u (u.log2 / 4)
theorem hexK_length (u k : Nat) : (hexK u k).length = k + 1 := by simp [hexK]
theorem wrap64_range (x : Int) : -9223372036854775808 ≤ wrap64 x ∧ wrap64 x ≤ 9223372036854775807 := by unfold wrap64; omega
def fltL (b : Nat) : List UInt8 := 48 :: 102 :: (List.replicate (16 - (hexL b).length) 48 ++ hexL b)
theorem hexL_length (u : Nat) (hu : u < 18446744073709551616) : (hexL u).length ≤ 16 ∧ 1 ≤ (hexL u).length := by
  unfold hexL; rw [hexK_length]
  by_cases h : u = 0
  · subst h; decide
  · have : u.log2 < 64 := (Nat.log2_lt h).2 hu
    omega
theorem stepB {w W W' : World} (h : Below w.heap.size w W) (hb : Below W.heap.size W W') : Below w.heap.size w W' := h.trans (hb.mono h.size)
def U (a : Int) : Int := IntKind.u64.wrap a
def InR (a : Int) : Prop := -9223372036854775808 ≤ a ∧ a ≤ 9223372036854775807
theorem U_eq (a : Int) : U a = a % 18446744073709551616 := by unfold U; exact IntKind.wrap_u64 a
theorem wrap64_U (a : Int) (h : InR a) : wrap64 (U a) = a := by obtain ⟨h1, h2⟩ := h; rw [U_eq]; unfold wrap64; omega
theorem later' {w w' : World} (hb : Below w.heap.size w w') {a : Addr} {v : Value} (h : w.cell? a = some v) : w'.cell? a = some v := (hb.cell (Bl h)).trans h
theorem onB' {a b c : World} (h : Below a.heap.size a b) (k : Below b.heap.size b c) : Below a.heap.size a c := h.trans (k.mono h.size)
def KMap (w : World) (b n : Nat) (f : List UInt8 → Option Int) : Prop :=
  ∃ D : DataW Unit, w.ownsMap Tryz.prog 9 (plainElem Tryz.prog 3) b n D ∧ (∀ l, D.atKey (.string l) (.lit (.int .i64 0)) = .lit (.int .i64 ((f l).getD 0))) ∧ ∀ l, Maps.has D (.string l) = (f l).isSome
theorem KMap.same {w w' : World} {b n : Nat} {f : List UInt8 → Option Int} (h : KMap w b n f) (hk : w'.heap[b]? = w.heap[b]?) : KMap w' b n f := by
  obtain ⟨D, ⟨es, c, hb, r⟩, h2⟩ := h
  exact ⟨D, ⟨es, c, hk.trans hb, r⟩, h2⟩
theorem KMap.lt {w : World} {b n : Nat} {f : List UInt8 → Option Int} (h : KMap w b n f) : b < w.heap.size := by
  obtain ⟨D, h1, h2⟩ := h
  exact h1.lt
theorem KMap.later {w w' : World} {b n : Nat} {f : List UInt8 → Option Int} (h : KMap w b n f) (hb : Below w.heap.size w w') : KMap w' b n f := h.same (hb.block b h.lt)
def kput (f : List UInt8 → Option Int) (k : List UInt8) (u : Int) : List UInt8 → Option Int := fun l => if l = k then some u else f l
theorem KMap.put {w : World} {b n : Nat} {f : List UInt8 → Option Int} {D : DataW Unit} {k : List UInt8} {u : Int} (hT : Maps.Tidy D)
    (h1 : w.ownsMap Tryz.prog 9 (plainElem Tryz.prog 3) b n (D.put (.string k) (.lit (.int .i64 u)))) (h2 : ∀ l, D.atKey (.string l) (.lit (.int .i64 0)) = .lit (.int .i64 ((f l).getD 0))) (h3 : ∀ l, Maps.has D (.string l) = (f l).isSome) : KMap w b n (kput f k u) := by
  refine ⟨_, h1, fun l => ?_, fun l => ?_⟩
  · unfold kput
    by_cases e : l = k
    · subst e
      rw [if_pos rfl, Maps.atKey_put_same hT.isMap (by trivial)]
      rfl
    · rw [if_neg e, Maps.atKey_put_other (by simpa using e)]
      exact h2 l
  · unfold kput
    by_cases e : l = k
    · subst e
      rw [Maps.has_put_same hT.isMap (by trivial), if_pos rfl]
      rfl
    · rw [Maps.has_put_other (by simpa using e), h3, if_neg e]
def kputs (f : List UInt8 → Option Int) (l : List UInt8) (u : Int) : List UInt8 → Option Int := fun r => if ∃ c, c ∈ l ∧ r = [c] then some u else f r
def smallsB : ByteArray := ⟨#[97, 98, 99, 100, 101, 102, 103, 104, 105, 106, 107, 108, 109, 110, 111, 112, 113, 114, 115, 116, 117, 118, 119, 120, 121, 122]⟩
def capsB : ByteArray := ⟨#[65, 66, 67, 68, 69, 70, 71, 72, 73, 74, 75, 76, 77, 78, 79, 80, 81, 82, 83, 84, 85, 86, 87, 88, 89, 90]⟩
def digsB : ByteArray := ⟨#[48, 49, 50, 51, 52, 53, 54, 55, 56, 57]⟩
def wordF : List UInt8 → Option Int := (kput (kput (kput (kput (kput (kput (kput (kput (kput (kput (fun _ => none) [108, 101, 116] 5) [105, 110] 5) [99, 97, 115, 101] 5) [111, 102] 5) [100, 97, 116, 97] 5) [119, 101, 97, 107] 7) [100, 101, 114, 101, 102] 7) [115, 101, 113] 7) [102, 108, 111, 97, 116] 7) [116, 114, 117, 110, 99] 7)
def kindF : List UInt8 → Option Int := kputs (kputs (kputs wordF smallsB.data.toList 1) capsB.data.toList 2) digsB.data.toList 3
def KindsSaid (w : World) (e : Ending) (w' : World) : Prop := ∃ kb, e = .returned (.map (some kb)) ∧ w.heap.size ≤ kb ∧ KMap w' kb 72 kindF ∧ Below w.heap.size w w'
def isHex (c : UInt8) : Bool := decide (48 ≤ c.toNat ∧ c.toNat ≤ 57) || decide (97 ≤ c.toNat ∧ c.toNat ≤ 102)
def hexV (c : UInt8) : Nat := if c.toNat ≤ 57 then c.toNat - 48 else c.toNat - 87
def hexN (acc : Nat) : List UInt8 → Nat
  | [] => acc
  | c :: r => hexN (acc * 16 + hexV c) r
theorem pow16 {k : Nat} (h : k ≤ 15) : 16 ^ k ≤ 1152921504606846976 := Nt (Nat.pow_le_pow_right (by decide) h) (by decide)
def decB : ByteArray := ⟨#[48, 49, 50, 51, 52, 53, 54, 55, 56, 57]⟩
def hexB : ByteArray := ⟨#[48, 49, 50, 51, 52, 53, 54, 55, 56, 57, 97, 98, 99, 100, 101, 102]⟩
def madeOf (s l : List UInt8) : Bool := s.all fun c => l.contains c
theorem trim_nil (l s : List UInt8) : (Lib.trimLeftS s l = []) ↔ madeOf s l = true := by
  unfold Lib.trimLeftS madeOf
  induction s with
  | nil => simp
  | cons c r ih =>
    by_cases h : l.contains c = true
    · rw [List.dropWhile_cons, if_pos h, ih, List.all_cons, h, Bool.true_and]
    · rw [List.dropWhile_cons, if_neg h, List.all_cons, Bool.eq_false_iff.2 h, Bool.false_and]
      simp
theorem trimLeft_laid (s cutset : ByteArray) (w : World) (hcs : cutset.size < 4294967281) (hascii : ∀ (j : Nat) b, cutset.data.toList[j]? = some b → b.toNat < 128) :
    Calls Tryz.prog 118 #[.string s, .string cutset] w fun e w' => e = .returned (.string ⟨(Lib.trimLeftS s.data.toList cutset.data.toList).toArray⟩) ∧ Below w.heap.size w w' :=
  Any.strings_TrimLeft_laid Tryz.lays161 (by kernel_rfl) s cutset w hcs hascii
def intF (l : List UInt8) : Bool := l == [48] || (!(Lib.trimPrefix l [45]).isEmpty && !((Lib.trimPrefix l [45]).head? == some 48) && madeOf (Lib.trimPrefix l [45]) decB.data.toList)
end Go.Proofs.YthehgcmhcioffaaGreatDoor
namespace Go.Proofs.YthehgcmhcioffaaGreatDoor
theorem digit_hex : ∀ c : UInt8, isHex c = true → hexV c < 16 ∧ hdB (hexV c) = c := by
  have h : ∀ n : Fin 256, isHex (UInt8.ofNat n.val) = true → hexV (UInt8.ofNat n.val) < 16 ∧ hdB (hexV (UInt8.ofNat n.val)) = UInt8.ofNat n.val := by decide +kernel
  intro c hc
  have e : UInt8.ofNat c.toNat = c := by simp
  have := h ⟨c.toNat, c.toNat_lt⟩
  simp only [e] at this
  exact this hc
theorem hexK_succ (u k : Nat) : hexK u (k + 1) = hdB (u / 16 ^ (k + 1) % 16) :: hexK u k := by
  unfold hexK
  rw [List.range_succ_eq_map, List.map_cons, List.map_map]
  simp only [Nat.sub_zero]
  congr 1
  apply List.map_congr_left
  intro j _
  simp only [Function.comp]
  rw [show k + 1 - (j + 1) = k - j by omega]
theorem hexN_split : ∀ (l : List UInt8) (acc : Nat), (∀ c ∈ l, isHex c = true) → ∃ v, hexN acc l = acc * 16 ^ l.length + v ∧ v < 16 ^ l.length
  | [], acc, _ => ⟨0, by simp [hexN], by simp⟩
  | c :: r, acc, h => by
    obtain ⟨v, h1, h2⟩ := hexN_split r (acc * 16 + hexV c) (fun x hx => h x (List.mem_cons_of_mem _ hx))
    have hc := (digit_hex c (h c (List.mem_cons_self ..))).1
    refine ⟨hexV c * 16 ^ r.length + v, ?_, ?_⟩
    · rw [hexN, h1, List.length_cons, Nat.pow_succ, Nat.add_mul, Nat.mul_assoc, Nat.mul_comm 16 (16 ^ r.length), Nat.add_assoc]
    · rw [List.length_cons, Nat.pow_succ]
      have : hexV c * 16 ^ r.length ≤ 15 * 16 ^ r.length := Nat.mul_le_mul_right _ (by omega)
      omega
theorem hexK_hexN : ∀ (l : List UInt8) (k acc : Nat), l.length = k + 1 → (∀ c ∈ l, isHex c = true) → hexK (hexN acc l) k = l
  | [], k, acc, h, _ => by simp at h
  | c :: r, 0, acc, h, hall => by
    have hr : r = [] := by simpa using h
    subst hr
    obtain ⟨h1, h2⟩ := digit_hex c (hall c (List.mem_cons_self ..))
    simp only [hexK, hexN, List.range_succ, List.range_zero, List.nil_append, List.map_cons, List.map_nil]
    simp only [Nat.sub_zero, Nat.pow_zero, Nat.div_one]
    rw [show (acc * 16 + hexV c) % 16 = hexV c by omega, h2]
  | c :: r, k + 1, acc, h, hall => by
    have hr : r.length = k + 1 := by simpa using h
    obtain ⟨h1, h2⟩ := digit_hex c (hall c (List.mem_cons_self ..))
    have ih := hexK_hexN r k (acc * 16 + hexV c) hr (fun x hx => hall x (List.mem_cons_of_mem _ hx))
    obtain ⟨v, e1, e2⟩ := hexN_split r (acc * 16 + hexV c) (fun x hx => hall x (List.mem_cons_of_mem _ hx))
    rw [hexK_succ]
    show hdB (hexN (acc * 16 + hexV c) r / 16 ^ (k + 1) % 16) :: hexK (hexN (acc * 16 + hexV c) r) k = c :: r
    rw [ih, e1, hr]
    rw [hr] at e2
    congr 1
    rw [Nat.mul_comm, Nat.mul_add_div (Nat.pow_pos (by decide)), Nat.div_eq_of_lt e2, Nat.add_zero, show (acc * 16 + hexV c) % 16 = hexV c by omega, h2]
theorem hexK_pad (u k : Nat) (h : u < 16 ^ (k + 1)) : ∀ n, hexK u (k + n) = List.replicate n 48 ++ hexK u k := by
  intro n
  induction n with
  | zero => simp
  | succ n ih =>
    rw [show k + (n + 1) = k + n + 1 by omega, hexK_succ, ih, List.replicate_succ, List.cons_append]
    congr 1
    have : u / 16 ^ (k + n + 1) = 0 := Nat.div_eq_of_lt (Nat.lt_of_lt_of_le h (Nat.pow_le_pow_right (by decide) (by omega)))
    rw [this]; rfl
theorem hexL_bound (u : Nat) : u < 16 ^ (u.log2 / 4 + 1) := by
  have h := Nat.lt_log2_self (n := u)
  refine Nat.lt_of_lt_of_le h ?_
  rw [show (16 : Nat) = 2 ^ 4 from rfl, ← Nat.pow_mul]
  exact Nat.pow_le_pow_right (by decide) (by omega)
theorem fltL_eq (b : Nat) (hb : b < 18446744073709551616) : fltL b = 48 :: 102 :: hexK b 15 := by
  unfold fltL
  have hl := (hexL_length b hb).1
  have e : (hexL b).length = b.log2 / 4 + 1 := hexK_length _ _
  have hp := hexK_pad b (b.log2 / 4) (hexL_bound b) (15 - b.log2 / 4)
  rw [show b.log2 / 4 + (15 - b.log2 / 4) = 15 by omega] at hp
  rw [hp, e, show 16 - (b.log2 / 4 + 1) = 15 - b.log2 / 4 by omega]
  rfl
theorem hex_back (l : List UInt8) (hl : l.length = 16) (hall : ∀ c ∈ l, isHex c = true) : hexN 0 l < 18446744073709551616 ∧ fltL (hexN 0 l) = 48 :: 102 :: l := by
  obtain ⟨v, e1, e2⟩ := hexN_split l 0 hall
  rw [hl] at e1 e2
  have hlt : hexN 0 l < 18446744073709551616 := by rw [e1, Nat.zero_mul, Nat.zero_add]; exact e2
  exact ⟨hlt, by rw [fltL_eq _ hlt, hexK_hexN l 15 0 hl hall]⟩
end Go.Proofs.YthehgcmhcioffaaGreatDoor
namespace Go.Proofs.YthehgcmhcioffaaGreatDoor
open Go.Lib (NumEnd parseUintM parseUintB parseIntB decDigits itoa)
def isDig (c : UInt8) : Bool := decide (48 ≤ c.toNat ∧ c.toNat ≤ 57)
def decN (acc : Nat) : List UInt8 → Nat
  | [] => acc
  | c :: r => decN (acc * 10 + (c.toNat - 48)) r
theorem dec_contains (c : UInt8) : decB.data.toList.contains c = isDig c := by
  have h : ∀ n : Fin 256, decB.data.toList.contains (UInt8.ofNat n.val) = isDig (UInt8.ofNat n.val) := by decide +kernel
  have e : UInt8.ofNat c.toNat = c := by simp
  have := h ⟨c.toNat, c.toNat_lt⟩
  simpa only [e] using this
theorem madeOf_dec (l : List UInt8) : madeOf l decB.data.toList = true ↔ ∀ c ∈ l, isDig c = true := by
  unfold madeOf; simp only [List.all_eq_true, dec_contains]
theorem dig_iff (c : UInt8) : isDig c = true ↔ 48 ≤ c.toNat ∧ c.toNat ≤ 57 := by unfold isDig; exact decide_eq_true_iff
theorem dig_back (c : UInt8) (h : isDig c = true) : UInt8.ofNat (48 + (c.toNat - 48)) = c := by
  obtain ⟨h1, h2⟩ := (dig_iff c).1 h
  rw [show 48 + (c.toNat - 48) = c.toNat by omega]; simp
theorem decN_append : ∀ (l : List UInt8) (acc : Nat) (c : UInt8), decN acc (l ++ [c]) = decN acc l * 10 + (c.toNat - 48)
  | [], _, _ => rfl
  | _ :: r, _, c => decN_append r _ c
theorem decN_ge : ∀ (l : List UInt8) (acc : Nat), acc ≤ decN acc l
  | [], _ => Nat.le_refl _
  | x :: r, acc => by
    have := decN_ge r (acc * 10 + (x.toNat - 48))
    show acc ≤ decN (acc * 10 + (x.toNat - 48)) r
    omega
theorem parse_digits (M : Nat) (hM : M ≤ 18446744073709551615) : ∀ (l : List UInt8) (acc : Nat), (∀ c ∈ l, isDig c = true) → decN acc l ≤ M → parseUintM M acc l = .ok (decN acc l)
  | [], acc, _, _ => rfl
  | c :: r, acc, h, hle => by
    have hc := (dig_iff c).1 (h c (List.mem_cons_self ..))
    have hge := decN_ge r (acc * 10 + (c.toNat - 48))
    have hle' : decN (acc * 10 + (c.toNat - 48)) r ≤ M := hle
    have ih := parse_digits M hM r (acc * 10 + (c.toNat - 48)) (fun x hx => h x (List.mem_cons_of_mem _ hx)) hle'
    rw [parseUintM, if_pos hc, if_neg (by omega), if_neg (by omega), ih]
    rfl
theorem parse_ok (M : Nat) : ∀ (l : List UInt8) (acc u : Nat), parseUintM M acc l = .ok u → (∀ c ∈ l, isDig c = true) ∧ u = decN acc l
  | [], acc, u, h => by
    simp only [parseUintM, NumEnd.ok.injEq] at h
    exact ⟨by simp, h.symm⟩
  | c :: r, acc, u, h => by
    rw [parseUintM] at h
    split at h
    · rename_i hc
      split at h
      · cases h
      · split at h
        · cases h
        · obtain ⟨h1, h2⟩ := parse_ok M r _ u h
          refine ⟨fun x hx => ?_, h2⟩
          rcases List.mem_cons.1 hx with rfl | hx
          · exact (dig_iff _).2 hc
          · exact h1 x hx
    · cases h
def Plain {α : Type} (e : NumEnd α) : Prop :=
  match e with
  | .ok _ => True
  | .range => True
  | _ => False
theorem parse_plain (M : Nat) : ∀ (l : List UInt8) (acc : Nat), (∀ c ∈ l, isDig c = true) → Plain (parseUintM M acc l)
  | [], acc, _ => by simp [parseUintM, Plain]
  | c :: r, acc, h => by
    have hc := (dig_iff c).1 (h c (List.mem_cons_self ..))
    have ih := parse_plain M r (acc * 10 + (c.toNat - 48)) (fun x hx => h x (List.mem_cons_of_mem _ hx))
    rw [parseUintM, if_pos hc]
    split
    · simp [Plain]
    · split
      · simp [Plain]
      · exact ih
theorem digits_back : ∀ (n : Nat) (l : List UInt8), l.length = n → l ≠ [] → (∀ c ∈ l, isDig c = true) → l.head? ≠ some 48 → decDigits (decN 0 l) = l ∧ 1 ≤ decN 0 l := by
  intro n
  induction n using Nat.strongRecOn with
  | _ n ih =>
    intro l hl hne hall hh
    rcases List.eq_nil_or_concat l with h0 | ⟨i, c, h0⟩
    · exact absurd h0 hne
    · rw [List.concat_eq_append] at h0
      subst h0
      have hc := hall c (by simp)
      have hc' := (dig_iff c).1 hc
      by_cases hi : i = []
      · subst hi
        have hn : c.toNat ≠ 48 := by
          intro e
          apply hh
          simp only [List.nil_append, List.head?_cons, Option.some.injEq]
          exact UInt8.toNat_inj.1 e
        have e1 : decN 0 ([] ++ [c]) = c.toNat - 48 := by show 0 * 10 + (c.toNat - 48) = c.toNat - 48; omega
        rw [e1]
        refine ⟨?_, by omega⟩
        rw [decDigits, dif_pos (by omega), dig_back c hc]
        rfl
      · have hlen : i.length < n := by rw [← hl]; simp
        have hh' : i.head? ≠ some 48 := by
          intro e
          apply hh
          rw [List.head?_append, e]; rfl
        obtain ⟨h1, h2⟩ := ih i.length hlen i rfl hi (fun x hx => hall x (by simp [hx])) hh'
        rw [decN_append]
        refine ⟨?_, by omega⟩
        rw [decDigits, dif_neg (by omega), show (decN 0 i * 10 + (c.toNat - 48)) / 10 = decN 0 i by omega, show (decN 0 i * 10 + (c.toNat - 48)) % 10 = c.toNat - 48 by omega, h1, dig_back c hc]
end Go.Proofs.YthehgcmhcioffaaGreatDoor
namespace Go.Proofs.YthehgcmhcioffaaGreatDoor
set_option maxHeartbeats 64000000
set_option maxRecDepth 100000
open Go.RowKit
open Go.Lib (NumEnd parseUintM parseUintB parseIntB decDigits itoa)
theorem trim_minus (r : List UInt8) : Lib.trimPrefix (45 :: r) [45] = r := by simp [Lib.trimPrefix, Lib.hasPrefix]
theorem trim_plain (c : UInt8) (r : List UInt8) (h : c ≠ 45) : Lib.trimPrefix (c :: r) [45] = c :: r := by
  simp [Lib.trimPrefix, Lib.hasPrefix, Ne.symm h]
theorem digits_zero : decDigits 0 = [48] := by rw [decDigits, dif_pos (by decide)]; rfl
theorem itoa_zero : itoa 0 = [48] := by unfold itoa; rw [if_neg (by decide)]; exact digits_zero
theorem dig_not (c : UInt8) (h : isDig c = true) : c.toNat ≠ 43 ∧ c.toNat ≠ 45 ∧ c ≠ 45 := by
  have := (dig_iff c).1 h
  refine ⟨by omega, by omega, fun e => ?_⟩
  have e1 : (45 : UInt8).toNat = 45 := rfl
  rw [e, e1] at this
  omega
def Mag (d : List UInt8) : Prop := d ≠ [] ∧ d.head? ≠ some 48 ∧ ∀ c ∈ d, isDig c = true
theorem intF_mag (d : List UInt8) : (!d.isEmpty && !(d.head? == some 48) && madeOf d decB.data.toList) = true ↔ Mag d := by
  unfold Mag
  rw [Bool.and_eq_true, Bool.and_eq_true, madeOf_dec]
  simp [and_assoc]
theorem intF_cases (l : List UInt8) : intF l = true ↔ l = [48] ∨ (∃ d, l = 45 :: d ∧ Mag d) ∨ Mag l := by
  unfold intF
  rw [Bool.or_eq_true, intF_mag, beq_iff_eq]
  constructor
  · rintro (h | h)
    · exact Or.inl h
    · cases l with
      | nil => exact absurd rfl h.1
      | cons c r =>
        by_cases e : c = 45
        · subst e
          rw [trim_minus] at h
          exact Or.inr (Or.inl ⟨r, rfl, h⟩)
        · rw [trim_plain c r e] at h
          exact Or.inr (Or.inr h)
  · rintro (h | ⟨d, rfl, h⟩ | h)
    · exact Or.inl h
    · rw [trim_minus]; exact Or.inr h
    · cases l with
      | nil => exact absurd rfl h.1
      | cons c r => rw [trim_plain c r (dig_not c (h.2.2 c (List.mem_cons_self ..))).2.2]; exact Or.inr h
theorem pu_mag (d : List UInt8) (h : Mag d) : parseUintB 64 d = parseUintM 18446744073709551615 0 d := by
  unfold parseUintB
  rw [if_neg h.1]
theorem pi_minus (d : List UInt8) (h : Mag d) : parseIntB 64 (45 :: d) = Lib.signedC 9223372036854775808 (parseUintM 18446744073709551615 0 d) := by
  rw [Lib.parseIntB_minus, pu_mag d h]
theorem pi_plain (d : List UInt8) (h : Mag d) : parseIntB 64 d = Lib.signlessC 9223372036854775808 (parseUintM 18446744073709551615 0 d) := by
  have hp := pu_mag d h
  obtain ⟨h1, _, h3⟩ := h
  cases d with
  | nil => exact absurd rfl h1
  | cons c r =>
    obtain ⟨n1, n2, _⟩ := dig_not c (h3 c (List.mem_cons_self ..))
    rw [Lib.parseIntB_plain 64 c r n1 n2, hp]
theorem pi_zero : parseIntB 64 [48] = .ok 0 := by decide
theorem int_back (l : List UInt8) (v : Int) (hf : intF l = true) (hv : parseIntB 64 l = .ok v) : itoa v = l := by
  rcases (intF_cases l).1 hf with rfl | ⟨d, rfl, hd⟩ | hd
  · rw [pi_zero] at hv
    obtain rfl : v = 0 := by simpa using hv.symm
    exact itoa_zero
  · rw [pi_minus d hd] at hv
    cases hp : parseUintM 18446744073709551615 0 d with
    | range => rw [hp] at hv; cases hv
    | ok u =>
      rw [hp] at hv
      simp only [Lib.signedC] at hv
      split at hv
      · cases hv
      · obtain ⟨_, hu⟩ := parse_ok _ d 0 u hp
        obtain ⟨b1, b2⟩ := digits_back d.length d rfl hd.1 hd.2.2 hd.2.1
        rw [← hu] at b1 b2
        obtain rfl : v = -(u : Int) := by simpa using hv.symm
        unfold itoa
        rw [if_pos (by omega), show (-(u : Int)).natAbs = u by omega, b1]
    | _ => rw [hp] at hv; cases hv
  · rw [pi_plain l hd] at hv
    cases hp : parseUintM 18446744073709551615 0 l with
    | range => rw [hp] at hv; cases hv
    | ok u =>
      rw [hp] at hv
      simp only [Lib.signlessC] at hv
      split at hv
      · cases hv
      · obtain ⟨_, hu⟩ := parse_ok _ l 0 u hp
        obtain ⟨b1, b2⟩ := digits_back l.length l rfl hd.1 hd.2.2 hd.2.1
        rw [← hu] at b1 b2
        obtain rfl : v = (u : Int) := by simpa using hv.symm
        unfold itoa
        rw [if_neg (by omega), show (u : Int).toNat = u by omega, b1]
    | _ => rw [hp] at hv; cases hv
end Go.Proofs.YthehgcmhcioffaaGreatDoor
namespace Go.Proofs.YthehgcmhcioffaaGreatDoor
set_option maxHeartbeats 64000000
set_option maxRecDepth 100000
open Go.RowKit
open Go.Lib (NumEnd parseIntB itoa)
def EE (w : World) : Prop := (∃ ev, w.cell? ⟨25, 0, none⟩ = some ev ∧ (ev = .nilIface ∨ ∃ te pe, ev = .iface te pe)) ∧ ∃ ev, w.cell? ⟨26, 0, none⟩ = some ev ∧ (ev = .nilIface ∨ ∃ te pe, ev = .iface te pe)
theorem EE.below {w w' : World} (h : EE w) (hb : Below w.heap.size w w') : EE w' := by
  obtain ⟨⟨e1, h1, h2⟩, e3, h3, h4⟩ := h
  exact ⟨⟨e1, cell_later hb h1, h2⟩, e3, cell_later hb h3, h4⟩
def parseL (l : List UInt8) : Bool × Int × Int :=
  if Lib.hasPrefix l [48, 102] = true then
    (if (l.drop 2).length = 16 ∧ ∀ c ∈ l.drop 2, isHex c = true then (true, ((hexN 0 (l.drop 2) : Nat) : Int), 0) else (false, 0, 3))
  else if intF l = true then (match parseIntB 64 l with | .ok v => (false, U v, 0) | _ => (false, 0, 1)) else (false, 0, 3)
end Go.Proofs.YthehgcmhcioffaaGreatDoor
namespace Go.Proofs.YthehgcmhcioffaaGreatDoor
set_option maxHeartbeats 64000000
set_option maxRecDepth 100000
open Go.RowKit Go.Lib
structure Tk where
  k : Int
  t : List UInt8
  f : Bool
  x : Int
def Tk.zero : Tk := ⟨0, [], false, 0⟩
def runsB : ByteArray := ⟨#[97, 98, 99, 100, 101, 102, 103, 104, 105, 106, 107, 108, 109, 110, 111, 112, 113, 114, 115, 116, 117, 118, 119, 120, 121, 122, 65, 66, 67, 68, 69, 70, 71, 72, 73, 74, 75, 76, 77, 78, 79, 80, 81, 82, 83, 84, 85, 86, 87, 88, 89, 90, 48, 49, 50, 51, 52, 53, 54, 55, 56, 57, 95]⟩
def inRun (c : UInt8) : Bool := runsB.data.toList.contains c
def runL (l : List UInt8) : List UInt8 := l.takeWhile inRun
def markedL (l : List UInt8) : List UInt8 := l.take (l.length - (trimPrefix (l.drop 1) [45]).length + (runL (trimPrefix (l.drop 1) [45])).length)
def numT (t : List UInt8) : Tk × Int := if (parseL (trimPrefix t [35])).2.2 = 0 then (⟨3, t, (parseL (trimPrefix t [35])).1, (parseL (trimPrefix t [35])).2.1⟩, 0) else (.zero, (parseL (trimPrefix t [35])).2.2)
theorem trimP_le (l p : List UInt8) : (trimPrefix l p).length ≤ l.length := by
  unfold trimPrefix
  split
  · simp
  · exact Nat.le_refl _
theorem run_le (l : List UInt8) : (runL l).length ≤ l.length := (List.takeWhile_sublist _).length_le
theorem tail_list (s : ByteArray) (k : Nat) : (s.extract k s.size).data.toList = s.data.toList.drop k := by
  have e : (s.extract k s.size).data.toList = (s.data.toList.drop k).take (s.size - k) := by simp [ByteArray.data_extract]
  rw [e, List.take_of_length_le]
  rw [List.length_drop, size_eq s]
  omega
theorem back_list (l : List UInt8) : (⟨l.toArray⟩ : ByteArray).data.toList = l := by simp
def TextSaid (l : List UInt8) (w : World) (e : Ending) (w' : World) : Prop := ∃ r : ByteArray, e = .returned (.string r) ∧ r.data.toList = l ∧ Below w.heap.size w w'
theorem clone_any (s : ByteArray) (hs : s.size ≤ 140737488355328) (w : World) : Calls Tryz.prog 14 #[.string s] w fun e w' => e = .returned (.string s) ∧ Below w.heap.size w w' := by
  have h1 := Hd (fun W => Tryz.stringslite_Clone s W (by omega))
  go_enter Tryz.func14, Tryz.ntmps14
  go_wp2_with fail
  refine (h1.out w).mono ?_
  rintro e w2 ⟨rfl, hb⟩
  have HB := Hd hb
  clear hb
  go_wp2_with fail
  go_ret
  exact ⟨rfl, HB.out⟩
def vTk (t : Tk) (line : Int) (b : ByteArray) : Value := .agg #[.int .i64 t.k, .string b, .bool t.f, .int .u64 t.x, .int .i64 line]
def TkSaid (r : Tk × Int) (w : World) (e : Ending) (w' : World) : Prop := ∃ b : ByteArray, e = .returned (.tuple #[vTk r.1 0 b, .int .i64 r.2]) ∧ b.data.toList = r.1.t ∧ Below w.heap.size w w'
theorem set5 {W : World} {b : Nat} {u0 u1 u2 u3 u4 : Value} (h0 : W.cell? ⟨b, 0, none⟩ = some u0) (h1 : W.cell? ⟨b, 1, none⟩ = some u1) (h2 : W.cell? ⟨b, 2, none⟩ = some u2) (h3 : W.cell? ⟨b, 3, none⟩ = some u3) (h4 : W.cell? ⟨b, 4, none⟩ = some u4) (v0 v1 v2 v3 v4 : Value) :
    (((((W.setCell ⟨b, 0, none⟩ v0).setCell ⟨b, 1, none⟩ v1).setCell ⟨b, 2, none⟩ v2).setCell ⟨b, 3, none⟩ v3).setCell ⟨b, 4, none⟩ v4).cell? ⟨b, 0, none⟩ = some v0 ∧
    (((((W.setCell ⟨b, 0, none⟩ v0).setCell ⟨b, 1, none⟩ v1).setCell ⟨b, 2, none⟩ v2).setCell ⟨b, 3, none⟩ v3).setCell ⟨b, 4, none⟩ v4).cell? ⟨b, 1, none⟩ = some v1 ∧
    (((((W.setCell ⟨b, 0, none⟩ v0).setCell ⟨b, 1, none⟩ v1).setCell ⟨b, 2, none⟩ v2).setCell ⟨b, 3, none⟩ v3).setCell ⟨b, 4, none⟩ v4).cell? ⟨b, 2, none⟩ = some v2 ∧
    (((((W.setCell ⟨b, 0, none⟩ v0).setCell ⟨b, 1, none⟩ v1).setCell ⟨b, 2, none⟩ v2).setCell ⟨b, 3, none⟩ v3).setCell ⟨b, 4, none⟩ v4).cell? ⟨b, 3, none⟩ = some v3 ∧
    (((((W.setCell ⟨b, 0, none⟩ v0).setCell ⟨b, 1, none⟩ v1).setCell ⟨b, 2, none⟩ v2).setCell ⟨b, 3, none⟩ v3).setCell ⟨b, 4, none⟩ v4).cell? ⟨b, 4, none⟩ = some v4 := by
  have o : ∀ (W : World) (i j : Nat) (v : Value), i ≠ j → (W.setCell ⟨b, i, none⟩ v).cell? ⟨b, j, none⟩ = W.cell? ⟨b, j, none⟩ := fun W i j v h => World.cell?_setCell_other _ _ _ _ (by first | (intro e; cases e; exact h rfl) | simp [h])
  refine ⟨?_, ?_, ?_, ?_, ?_⟩
  · rw [o _ _ _ _ (by decide), o _ _ _ _ (by decide), o _ _ _ _ (by decide), o _ _ _ _ (by decide)]
    exact World.cell?_setCell_same _ _ _ h0
  · rw [o _ _ _ _ (by decide), o _ _ _ _ (by decide), o _ _ _ _ (by decide)]
    exact World.cell?_setCell_same _ _ _ (u := u1) (by rw [o _ _ _ _ (by decide)]; exact h1)
  · rw [o _ _ _ _ (by decide), o _ _ _ _ (by decide)]
    exact World.cell?_setCell_same _ _ _ (u := u2) (by rw [o _ _ _ _ (by decide), o _ _ _ _ (by decide)]; exact h2)
  · rw [o _ _ _ _ (by decide)]
    exact World.cell?_setCell_same _ _ _ (u := u3) (by rw [o _ _ _ _ (by decide), o _ _ _ _ (by decide), o _ _ _ _ (by decide)]; exact h3)
  · exact World.cell?_setCell_same _ _ _ (u := u4) (by rw [o _ _ _ _ (by decide), o _ _ _ _ (by decide), o _ _ _ _ (by decide), o _ _ _ _ (by decide)]; exact h4)
theorem below_set5 {n : Nat} {w W : World} (h : Below n w W) {b : Nat} (hb : n ≤ b) (v0 v1 v2 v3 v4 : Value) : Below n w (((((W.setCell ⟨b, 0, none⟩ v0).setCell ⟨b, 1, none⟩ v1).setCell ⟨b, 2, none⟩ v2).setCell ⟨b, 3, none⟩ v3).setCell ⟨b, 4, none⟩ v4) :=
  ((((h.setCell hb _).setCell hb _).setCell hb _).setCell hb _).setCell hb _
def signsB : List (ByteArray × Int) := [(⟨#[61, 61, 46]⟩, 4), (⟨#[61, 61]⟩, 4), (⟨#[61]⟩, 6), (⟨#[45, 62]⟩, 6), (⟨#[45, 46]⟩, 4), (⟨#[45]⟩, 4), (⟨#[43, 46]⟩, 4), (⟨#[43]⟩, 4), (⟨#[42, 46]⟩, 4), (⟨#[42]⟩, 4), (⟨#[47, 46]⟩, 4), (⟨#[47]⟩, 4), (⟨#[60, 46]⟩, 4), (⟨#[60]⟩, 4), (⟨#[37]⟩, 4), (⟨#[40]⟩, 6), (⟨#[41]⟩, 6), (⟨#[123]⟩, 6), (⟨#[125]⟩, 6), (⟨#[59]⟩, 6), (⟨#[92]⟩, 6)]
def signL (l : List UInt8) : Option (ByteArray × Int) := signsB.find? fun x => hasPrefix l x.1.data.toList
def sgL : List Value := [.string ⟨#[61, 61, 46]⟩, .int .i64 4, .string ⟨#[61, 61]⟩, .int .i64 4, .string ⟨#[61]⟩, .int .i64 6, .string ⟨#[45, 62]⟩, .int .i64 6, .string ⟨#[45, 46]⟩, .int .i64 4, .string ⟨#[45]⟩, .int .i64 4, .string ⟨#[43, 46]⟩, .int .i64 4, .string ⟨#[43]⟩, .int .i64 4, .string ⟨#[42, 46]⟩, .int .i64 4, .string ⟨#[42]⟩, .int .i64 4, .string ⟨#[47, 46]⟩, .int .i64 4, .string ⟨#[47]⟩, .int .i64 4, .string ⟨#[60, 46]⟩, .int .i64 4, .string ⟨#[60]⟩, .int .i64 4, .string ⟨#[37]⟩, .int .i64 4, .string ⟨#[40]⟩, .int .i64 6, .string ⟨#[41]⟩, .int .i64 6, .string ⟨#[123]⟩, .int .i64 6, .string ⟨#[125]⟩, .int .i64 6, .string ⟨#[59]⟩, .int .i64 6, .string ⟨#[92]⟩, .int .i64 6]
def SG (w : World) : Prop := w.rangeAt 18 0 sgL
theorem SG.below {w w' : World} (h : SG w) (hb : Below w.heap.size w w') : SG w' := fun j v hv => later' hb (h j v hv)
def SignSaid (l : List UInt8) (w : World) (e : Ending) (w' : World) : Prop :=
  (∃ x, signL l = some x ∧ e = .returned (.tuple #[.agg #[.string x.1, .int .i64 x.2], .bool true]) ∧ Below w.heap.size w w') ∨ (signL l = none ∧ e = .returned (.tuple #[.agg #[.string ⟨#[]⟩, .int .i64 0], .bool false]) ∧ Below w.heap.size w w')
theorem set2 {W : World} {b : Nat} {u0 u1 : Value} (h0 : W.cell? ⟨b, 0, none⟩ = some u0) (h1 : W.cell? ⟨b, 1, none⟩ = some u1) (v0 v1 : Value) :
    ((W.setCell ⟨b, 0, none⟩ v0).setCell ⟨b, 1, none⟩ v1).cell? ⟨b, 0, none⟩ = some v0 ∧ ((W.setCell ⟨b, 0, none⟩ v0).setCell ⟨b, 1, none⟩ v1).cell? ⟨b, 1, none⟩ = some v1 := by
  have o : ∀ (W : World) (i j : Nat) (v : Value), i ≠ j → (W.setCell ⟨b, i, none⟩ v).cell? ⟨b, j, none⟩ = W.cell? ⟨b, j, none⟩ := fun W i j v h => World.cell?_setCell_other _ _ _ _ (by first | (intro e; cases e; exact h rfl) | simp [h])
  refine ⟨?_, ?_⟩
  · rw [o _ _ _ _ (by decide)]
    exact World.cell?_setCell_same _ _ _ h0
  · exact World.cell?_setCell_same _ _ _ (u := u1) (by rw [o _ _ _ _ (by decide)]; exact h1)
def kindOf (l : List UInt8) : Int := if (kindF (runL l)).isSome = true then (kindF (runL l)).getD 0 else (kindF (l.take 1)).getD 0
def readR (l : List UInt8) : Tk × Int := if kindOf l = 0 then (.zero, 3) else if kindOf l = 3 then numT (runL l) else if 16 < (runL l).length then (.zero, 9) else (⟨kindOf l, runL l, false, 0⟩, 0)
def readL (l : List UInt8) : Tk × Int :=
  match signL l with
  | some x => (⟨x.2, x.1.data.toList, false, 0⟩, 0)
  | none => if hasPrefix l [35] = true then numT (markedL l) else readR l
structure Tok0 (W : World) (b : Nat) : Prop where
  d0 : W.cell? ⟨b, 0, none⟩ = some (.int .i64 0)
  d1 : W.cell? ⟨b, 1, none⟩ = some (.string ⟨#[]⟩)
  d2 : W.cell? ⟨b, 2, none⟩ = some (.bool false)
  d3 : W.cell? ⟨b, 3, none⟩ = some (.int .u64 0)
  d4 : W.cell? ⟨b, 4, none⟩ = some (.int .i64 0)
  z : ∀ j, W.frozen? ⟨b, j, none⟩ = false
theorem Tok0.later {W W' : World} {b : Nat} (h : Tok0 W b) (hb : Below W.heap.size W W') : Tok0 W' b := by
  have lt := Bl h.d0
  exact ⟨later' hb h.d0, later' hb h.d1, later' hb h.d2, later' hb h.d3, later' hb h.d4, fun j => (World.frozen?_of_block (w := W) (hb.block _ (by simpa using lt))).trans (h.z j)⟩
structure Rd (b kb : Nat) (w : World) : Prop where
  m : w.cell? ⟨b, 0, none⟩ = some (.map (some kb))
  k : KMap w kb 72 kindF
  s : SG w
  e : EE w
theorem Rd.later {b kb : Nat} {w w' : World} (h : Rd b kb w) (hb : Below w.heap.size w w') : Rd b kb w' := ⟨later' hb h.m, h.k.later hb, h.s.below hb, h.e.below hb⟩
inductive Res where
  | good (l : List (Tk × Int))
  | bad (e line : Int)
def lexA : Nat → List UInt8 → Int → List (Tk × Int) → Res
  | 0, _, _, acc => .good acc
  | _ + 1, [], _, acc => .good acc
  | n + 1, c :: r, line, acc =>
    if c = 10 then lexA n r (line + 1) acc
    else if c = 9 ∨ c = 13 ∨ c = 32 then lexA n r line acc
    else if hasPrefix (c :: r) [45, 45] = true then
      (if indexByte (c :: r) 10 < 0 then .good acc else lexA n ((c :: r).drop (indexByte (c :: r) 10).toNat) line acc)
    else if (readL (c :: r)).2 = 0 then
      (if acc.length = 4096 then .bad 2 line else lexA n ((c :: r).drop (readL (c :: r)).1.t.length) line (acc ++ [((readL (c :: r)).1, line)]))
    else .bad (readL (c :: r)).2 line
def lexL (l : List UInt8) : Res := lexA (l.length + 1) l 1 []
theorem word_one (c : UInt8) : wordF [c] = none := by simp [wordF, kput]
theorem word_nil : kindF [] = none := by
  simp [kindF, kputs, wordF, kput]
theorem kind_run (c : UInt8) (h : inRun c = false) : kindF [c] = none := by
  have nm : ∀ (l : List UInt8), (∀ x, x ∈ l → inRun x = true) → ∀ (f : List UInt8 → Option Int) u, kputs f l u [c] = f [c] := fun l hl f u => by
    unfold kputs
    rw [if_neg]
    rintro ⟨x, hx, e⟩
    simp only [List.cons.injEq, and_true] at e
    subst e
    rw [hl _ hx] at h
    cases h
  unfold kindF
  rw [nm _ (by decide), nm _ (by decide), nm _ (by decide), word_one]
theorem run_nil {c : UInt8} {r : List UInt8} (h : runL (c :: r) = []) : inRun c = false := by
  unfold runL at h
  rw [List.takeWhile_cons] at h
  cases g : inRun c with
  | false => rfl
  | true => rw [g] at h; simp at h
theorem kindOf_nil {c : UInt8} {r : List UInt8} (h : runL (c :: r) = []) : kindOf (c :: r) = 0 := by
  unfold kindOf
  rw [h, word_nil]
  simp [kind_run c (run_nil h)]
theorem numT_ok {t : List UInt8} (h : (numT t).2 = 0) : (numT t).1.t = t := by
  unfold numT at *
  split
  · rfl
  · rename_i g
    rw [if_neg g] at h
    exact absurd h g
theorem sign_pos : ∀ x, x ∈ signsB → 1 ≤ x.1.data.toList.length := by decide
theorem sign_some {l : List UInt8} {x : ByteArray × Int} (h : signL l = some x) : 1 ≤ x.1.data.toList.length ∧ x.1.data.toList.length ≤ l.length := by
  unfold signL at h
  have h1 := List.mem_of_find?_eq_some h
  have h2 := List.find?_some h
  refine ⟨sign_pos x h1, ?_⟩
  unfold hasPrefix at h2
  exact (List.isPrefixOf_iff_prefix.1 h2).length_le
theorem read_len {c : UInt8} {r : List UInt8} (h : (readL (c :: r)).2 = 0) : 1 ≤ (readL (c :: r)).1.t.length ∧ (readL (c :: r)).1.t.length ≤ (c :: r).length := by
  have hm : 1 ≤ (markedL (c :: r)).length ∧ (markedL (c :: r)).length ≤ (c :: r).length := by
    unfold markedL
    have h1 := trimP_le ((c :: r).drop 1) [45]
    simp only [List.drop_succ_cons, List.drop_zero] at h1
    rw [List.length_take]
    simp only [List.length_cons, List.drop_succ_cons, List.drop_zero]
    omega
  have hr := run_le (c :: r)
  unfold readL at *
  cases hs : signL (c :: r) with
  | some x => exact sign_some hs
  | none =>
    rw [hs] at h
    simp only at h ⊢
    split at h
    · rename_i g
      rw [if_pos g, numT_ok h]
      exact hm
    · rename_i g
      rw [if_neg g]
      unfold readR at *
      split at h
      · cases h
      · rename_i g0
        rw [if_neg g0]
        have hne : runL (c :: r) ≠ [] := fun e => g0 (kindOf_nil e)
        have hpos : 1 ≤ (runL (c :: r)).length := by
          cases hh : runL (c :: r) with
          | nil => exact absurd hh hne
          | cons a b => simp
        split at h
        · rename_i g3
          rw [if_pos g3, numT_ok h]
          exact ⟨hpos, hr⟩
        · rename_i g3
          rw [if_neg g3]
          split at h
          · cases h
          · rename_i g16
            rw [if_neg g16]
            exact ⟨hpos, hr⟩
theorem index_le : ∀ (l : List UInt8) (c : UInt8), indexByte l c ≤ l.length ∧ -1 ≤ indexByte l c ∧ (indexByte l c < 0 → indexByte l c = -1) ∧ (indexByte l c = l.length → l = [] ∨ indexByte l c = -1)
  | [], c => ⟨by simp [indexByte], by simp [indexByte], fun _ => by simp [indexByte], fun _ => Or.inl rfl⟩
  | b :: l, c => by
    obtain ⟨h1, h2, h3, h4⟩ := index_le l c
    unfold indexByte
    by_cases g : (b == c) = true
    · rw [if_pos g]
      simp only [List.length_cons]
      refine ⟨by omega, by omega, fun h => by omega, fun h => by omega⟩
    · rw [if_neg g]
      by_cases g2 : (indexByte l c == -1) = true
      · rw [if_pos g2]
        simp only [List.length_cons]
        refine ⟨by omega, by omega, fun h => by trivial, fun h => Or.inr (by trivial)⟩
      · rw [if_neg g2]
        have g3 : indexByte l c ≠ -1 := by simpa using g2
        simp only [List.length_cons]
        refine ⟨by omega, by omega, fun h => by omega, fun h => ?_⟩
        rcases h4 (by omega) with e | e
        · subst e
          simp [indexByte] at g3
        · exact absurd e g3
theorem ba_of {b : ByteArray} {l : List UInt8} (h : b.data.toList = l) : b = ⟨l.toArray⟩ := by
  subst h
  cases b
  simp
def flatT : List (Tk × Int) → List Value
  | [] => []
  | x :: r => [.int .i64 x.1.k, .string ⟨x.1.t.toArray⟩, .bool x.1.f, .int .u64 x.1.x, .int .i64 x.2] ++ flatT r
theorem flatT_append (a b : List (Tk × Int)) : flatT (a ++ b) = flatT a ++ flatT b := by
  induction a with
  | nil => rfl
  | cons x a ih => simp only [List.cons_append, flatT, ih, List.append_assoc]
theorem Tryz.info_token : (Tryz.prog.info? 93).map (fun i => (i.zero, i.size, i.bytes)) = some (some (.agg #[.int .i64 0, .string ⟨#[]⟩, .bool false, .int .u64 0, .int .i64 0]), 5, 48) := by kernel_rfl
theorem info_parts {P : Program} {e : TypeId} {z : Value} {n b : Nat} (h : (P.info? e).map (fun i => (i.zero, i.size, i.bytes)) = some (some z, n, b)) : ∃ i, P.info? e = some i ∧ i.zero = some z ∧ i.size = n ∧ i.bytes = b := by
  cases hi : P.info? e with
  | none => rw [hi] at h; cases h
  | some i =>
    rw [hi] at h
    simp only [Option.map_some, Option.some.injEq, Prod.mk.injEq] at h
    exact ⟨i, rfl, h.1, h.2.1, h.2.2⟩
def ReaderSaid (w : World) (e : Ending) (w' : World) : Prop :=
  ∃ b kb, e = .returned (.func (.func 72) #[] #[.pointer (some ⟨b, 0, none⟩)]) ∧ w'.cell? ⟨b, 0, none⟩ = some (.map (some kb)) ∧ KMap w' kb 72 kindF ∧ Below w.heap.size w w'
theorem letter_at (s : ByteArray) (k : Nat) (hk : k < s.size) (w : World) : (Instr.index 9 (.string s) (.int .i64 (k : Int))).run Tryz.prog w = .ok (.int .u8 (s.data.toList.getD k 0).toNat) w := by
  rw [run_index_string w 9 s .i64 _ Tryz.underlying9, dif_pos (by omega)]
  have hz := Lib.size_eq s
  have e : s[((k : Int)).toNat]'(by omega) = s.data.toList.getD k 0 := by
    simp only [Int.toNat_natCast]
    rw [List.getD, List.getElem?_eq_getElem (by omega)]
    rfl
  rw [e]
def LexSaid (R : Res) (w : World) (e : Ending) (w' : World) : Prop :=
  Below w.heap.size w w' ∧ match R with
  | .good T => ∃ a n c, e = .returned (.tuple #[.slice a n c, .int .i64 0, .int .i64 0]) ∧ w'.ownsRow w.heap.size 93 5 (.slice a n c) T.length (flatT T)
  | .bad k line => e = .returned (.tuple #[.slice none 0 0, .int .i64 k, .int .i64 line])
def blanksB : ByteArray := ⟨#[9, 13, 32]⟩
theorem own_same {base : Nat} {e : TypeId} {size : Nat} {v : Value} {n : Nat} {xs : List Value} {W W' : World} (h : W.ownsRow base e size v n xs) (hk : ∀ g, v.ownBlock = some g → W'.heap[g]? = W.heap[g]?) : W'.ownsRow base e size v n xs := by
  refine ⟨h.1, ?_⟩
  rcases h.2 with e | ⟨g, cap, cur, rfl, hg, hb, hr⟩
  · exact Or.inl e
  · exact Or.inr ⟨g, cap, cur, rfl, hg, (hk g rfl).trans hb, hr⟩
theorem own_base {base base' : Nat} {e : TypeId} {size : Nat} {v : Value} {n : Nat} {xs : List Value} {W : World} (h : W.ownsRow base e size v n xs) (hb : base' ≤ base) : W.ownsRow base' e size v n xs := by
  refine ⟨h.1, ?_⟩
  rcases h.2 with e | ⟨g, cap, cur, rfl, hg, hr⟩
  · exact Or.inl e
  · exact Or.inr ⟨g, cap, cur, rfl, Nt hb hg, hr⟩
theorem own_below {base : Nat} {e : TypeId} {size : Nat} {v : Value} {n : Nat} {xs : List Value} {W W' : World} (h : W.ownsRow base e size v n xs) (hb : Below W.heap.size W W') : W'.ownsRow base e size v n xs :=
  own_same h fun g hg => hb.block g (h.lt g hg).2
theorem index_pos {c : UInt8} {r : List UInt8} (h : c ≠ 10) : indexByte (c :: r) 10 < 0 ∨ 1 ≤ indexByte (c :: r) 10 := by
  obtain ⟨h1, h2, h3, h4⟩ := index_le r 10
  unfold indexByte
  have e : (c == 10) = false := by simpa using h
  rw [e]
  simp only [Bool.false_eq_true, if_false]
  by_cases g2 : (indexByte r 10 == -1) = true
  · rw [if_pos g2]
    exact Or.inl (by decide)
  · rw [if_neg g2]
    have g3 : indexByte r 10 ≠ -1 := by simpa using g2
    exact Or.inr (by omega)
theorem flatT_get : ∀ {T : List (Tk × Int)} {q : Nat} (hq : q < T.length), (flatT T)[q * 5]? = some (.int .i64 (T[q]).1.k) ∧ (flatT T)[q * 5 + 1]? = some (.string ⟨(T[q]).1.t.toArray⟩) ∧ (flatT T)[q * 5 + 2]? = some (.bool (T[q]).1.f) ∧ (flatT T)[q * 5 + 3]? = some (.int .u64 (T[q]).1.x) ∧ (flatT T)[q * 5 + 4]? = some (.int .i64 (T[q]).2)
  | [], q, hq => by cases hq
  | x :: T, 0, _ => ⟨rfl, rfl, rfl, rfl, rfl⟩
  | x :: T, q + 1, hq => by
    obtain ⟨h0, h1, h2, h3, h4⟩ := flatT_get (T := T) (q := q) (by simpa using hq)
    have e : ∀ c, (flatT (x :: T))[(q + 1) * 5 + c]? = (flatT T)[q * 5 + c]? := fun c => by
      rw [show (q + 1) * 5 + c = (q * 5 + c) + 1 + 1 + 1 + 1 + 1 by omega]
      simp [flatT]
    have e0 := e 0
    simp only [Nat.add_zero] at e0
    exact ⟨e0.trans h0, (e 1).trans h1, (e 2).trans h2, (e 3).trans h3, (e 4).trans h4⟩
structure TokAt (W : World) (g : Nat) (j : Nat) (x : Tk × Int) : Prop where
  c0 : W.cell? ⟨g, j * 5, none⟩ = some (.int .i64 x.1.k)
  c1 : W.cell? ⟨g, j * 5 + 1, none⟩ = some (.string ⟨x.1.t.toArray⟩)
  c2 : W.cell? ⟨g, j * 5 + 2, none⟩ = some (.bool x.1.f)
  c3 : W.cell? ⟨g, j * 5 + 3, none⟩ = some (.int .u64 x.1.x)
  c4 : W.cell? ⟨g, j * 5 + 4, none⟩ = some (.int .i64 x.2)
theorem TokAt.later {W W' : World} {g j : Nat} {x : Tk × Int} (h : TokAt W g j x) (hb : Below W.heap.size W W') : TokAt W' g j x := ⟨later' hb h.c0, later' hb h.c1, later' hb h.c2, later' hb h.c3, later' hb h.c4⟩
theorem own_tok {W : World} {base : Nat} {a : Option Addr} {n c : Nat} {T : List (Tk × Int)} (h : W.ownsRow base 93 5 (.slice a n c) T.length (flatT T)) {j : Nat} (hj : j < T.length) : ∃ g, a = some ⟨g, 0, none⟩ ∧ TokAt W g j T[j] := by
  rcases h.2 with ⟨e, e2⟩ | ⟨g, cap, cur, e, -⟩
  · omega
  · cases e
    obtain ⟨f0, f1, f2, f3, f4⟩ := flatT_get hj
    have k : ∀ i v, (flatT T)[i]? = some v → W.cell? ⟨g, i, none⟩ = some v := fun i v hv => by
      have := h.cells rfl i v hv
      rw [Addr.add_lit] at this
      simpa using this
    exact ⟨g, rfl, k _ _ f0, k _ _ f1, k _ _ f2, k _ _ f3, k _ _ f4⟩
theorem own_n {W : World} {base : Nat} {a : Option Addr} {n c : Nat} {T : List (Tk × Int)} (h : W.ownsRow base 93 5 (.slice a n c) T.length (flatT T)) : n = T.length := by
  rcases h.2 with ⟨e, e2⟩ | ⟨g, cap, cur, e, -⟩
  · cases e; exact e2.symm
  · cases e; rfl
theorem LexSaid.view {R : Res} {w w' : World} {e : Ending} (h : LexSaid R w e w') : ∃ (T : List (Tk × Int)) (a : Option Addr) (c : Nat) (er line : Int), e = .returned (.tuple #[.slice a T.length c, .int .i64 er, .int .i64 line]) ∧ w'.ownsRow w.heap.size 93 5 (.slice a T.length c) T.length (flatT T) ∧ Below w.heap.size w w' ∧ ((R = .good T ∧ er = 0 ∧ line = 0) ∨ (R = .bad er line ∧ T = [])) := by
  obtain ⟨hb, h⟩ := h
  cases R with
  | good T =>
    obtain ⟨a, n, c, he, hown⟩ := h
    obtain rfl := own_n hown
    exact ⟨T, a, c, 0, 0, he, hown, hb, Or.inl ⟨rfl, rfl, rfl⟩⟩
  | bad er line => exact ⟨[], none, 0, er, line, h, World.ownsRow_nil _ _ _ _, hb, Or.inr ⟨rfl, rfl⟩⟩
end Go.Proofs.YthehgcmhcioffaaGreatDoor
