import Derived.Shelf.Small.Strs
import Derived.Shelf.Strings.Search1
import Derived.Shelf.Strings.LastIndex
import Derived.Shelf.Strings.Prefix
import Derived.Shelf.Strconv.AtoiAll
import Derived.Shelf.Strconv.ToError
import Derived.Shelf.Strconv.ToErrorRange
import Derived.Shelf.Strconv.Lower
import Derived.Test.YtlfmfhmbkpnjbaaGreatDoorProg
import Derived.Test.YtlfmfhmbkpnjbaaGreatDoorAl15
import Derived.Test.YtlfmfhmbkpnjbaaGreatDoorAl24
import Derived.Test.YtlfmfhmbkpnjbaaGreatDoorAl1
import Derived.Test.YtlfmfhmbkpnjbaaGreatDoorRows
namespace Go.Proofs
open Go.Shelf
def Tryz.lays137_ren : Go.Shelf.Ren := ⟨fun | 137 => 81 | 217 => 107 | 266 => 128 | n => n, fun | 9 => 9 | 5 => 5 | 3 => 3 | n => n, fun | n => n⟩
theorem Tryz.lays137 : Go.Proofs.Lays.n137 Tryz.prog Tryz.lays137_ren := {
  mixed := by kernel_rfl
  f137 := Tryz.func81.trans (congrArg some (by kernel_rfl))
  f217 := Tryz.func107.trans (congrArg some (by kernel_rfl))
  f266 := Tryz.func128.trans (congrArg some (by kernel_rfl))
  t3 := Tryz.underlying3
  a3 := Tryz.isAgg3
  z3 := Tryz.sizeOf3
  v3 := Tryz.zeroValue3
  t5 := Tryz.underlying5
  a5 := Tryz.isAgg5
  z5 := Tryz.sizeOf5
  v5 := Tryz.zeroValue5
  t9 := Tryz.underlying9
  a9 := Tryz.isAgg9
  z9 := Tryz.sizeOf9
  v9 := Tryz.zeroValue9 }
open Go.RowKit in
theorem Tryz.strings_IndexByte (s : ByteArray) (c : Int) (w : World) :
    Calls Tryz.prog 81 #[.string s, .int .u8 c] w fun e w' => e = .returned (.int .i64 (Lib.indexByte s.data.toList c.toNat.toUInt8)) ∧ w' = w := Any.strings_IndexByte Tryz.lays137 s c w
def Tryz.lays217_ren : Go.Shelf.Ren := ⟨fun | 217 => 107 | 266 => 128 | n => n, fun | 9 => 9 | 5 => 5 | 3 => 3 | n => n, fun | n => n⟩
theorem Tryz.lays217 : Go.Proofs.Lays.n217 Tryz.prog Tryz.lays217_ren := {
  mixed := by kernel_rfl
  f217 := Tryz.func107.trans (congrArg some (by kernel_rfl))
  f266 := Tryz.func128.trans (congrArg some (by kernel_rfl))
  t3 := Tryz.underlying3
  a3 := Tryz.isAgg3
  z3 := Tryz.sizeOf3
  v3 := Tryz.zeroValue3
  t5 := Tryz.underlying5
  a5 := Tryz.isAgg5
  z5 := Tryz.sizeOf5
  v5 := Tryz.zeroValue5
  t9 := Tryz.underlying9
  a9 := Tryz.isAgg9
  z9 := Tryz.sizeOf9
  v9 := Tryz.zeroValue9 }
open Go.RowKit Go.Lib in
theorem Tryz.stringslite_IndexByte (s : ByteArray) (c : Int) (w : World) :
    Calls Tryz.prog 107 #[.string s, .int .u8 c] w fun e w' => e = .returned (.int .i64 (Lib.indexByte s.data.toList c.toNat.toUInt8)) ∧ w' = w := Any.stringslite_IndexByte Tryz.lays217 s c w
def Tryz.lays149_ren : Go.Shelf.Ren := ⟨fun | 149 => 46 | 222 => 75 | n => n, fun | 9 => 9 | 5 => 5 | 3 => 3 | 4 => 4 | n => n, fun | n => n⟩
theorem Tryz.lays149 : Go.Proofs.Lays.n149 Tryz.prog Tryz.lays149_ren := {
  mixed := by kernel_rfl
  f149 := Tryz.func46.trans (congrArg some (by kernel_rfl))
  f222 := Tryz.func75.trans (congrArg some (by kernel_rfl))
  t3 := Tryz.underlying3
  a3 := Tryz.isAgg3
  z3 := Tryz.sizeOf3
  v3 := Tryz.zeroValue3
  t4 := Tryz.underlying4
  a4 := Tryz.isAgg4
  z4 := Tryz.sizeOf4
  v4 := Tryz.zeroValue4
  t5 := Tryz.underlying5
  a5 := Tryz.isAgg5
  z5 := Tryz.sizeOf5
  v5 := Tryz.zeroValue5
  t9 := Tryz.underlying9
  a9 := Tryz.isAgg9
  z9 := Tryz.sizeOf9
  v9 := Tryz.zeroValue9 }
open Go.RowKit Go.Lib in
theorem Tryz.strings_LastIndexByte (s : ByteArray) (c : Int) (hs : s.size < 4611686018427387904) (w : World) :
    Calls Tryz.prog 46 #[.string s, .int .u8 c] w fun e w' => e = .returned (.int .i64 (Lib.lastIndexByte s c)) ∧ w' = w := Any.strings_LastIndexByte Tryz.lays149 s c hs w
def Tryz.lays102_ren : Go.Shelf.Ren := ⟨fun | 102 => 51 | 209 => 85 | 207 => 111 | n => n, fun | 9 => 9 | 4 => 4 | 3 => 3 | n => n, fun | n => n⟩
theorem Tryz.lays102 : Go.Proofs.Lays.n102 Tryz.prog Tryz.lays102_ren := {
  mixed := by kernel_rfl
  f102 := Tryz.func51.trans (congrArg some (by kernel_rfl))
  f207 := Tryz.func111.trans (congrArg some (by kernel_rfl))
  f209 := Tryz.func85.trans (congrArg some (by kernel_rfl))
  t3 := Tryz.underlying3
  a3 := Tryz.isAgg3
  z3 := Tryz.sizeOf3
  v3 := Tryz.zeroValue3
  t4 := Tryz.underlying4
  a4 := Tryz.isAgg4
  z4 := Tryz.sizeOf4
  v4 := Tryz.zeroValue4
  t9 := Tryz.underlying9
  a9 := Tryz.isAgg9
  z9 := Tryz.sizeOf9
  v9 := Tryz.zeroValue9 }
open Go.RowKit Go.Lib in
theorem Tryz.strings_TrimSuffix (s p : ByteArray) (w : World) (hs : s.size ≤ 9223372036854775807) :
    Calls Tryz.prog 51 #[.string s, .string p] w fun e w' => e = .returned (.string ⟨(Lib.trimSuffix s.data.toList p.data.toList).toArray⟩) ∧ w' = w := Any.strings_TrimSuffix Tryz.lays102 s p w hs
def Tryz.laysC172_ren : Go.Shelf.Ren := ⟨fun | 172 => 106 | 244 => 126 | 245 => 127 | 247 => 139 | 279 => 140 | 280 => 141 | 281 => 142 | 282 => 143 | 287 => 152 | 316 => 153 | 171 => 94 | 205 => 154 | 321 => 160 | 322 => 161 | 243 => 117 | 246 => 135 | 283 => 147 | 284 => 148 | 285 => 149 | 286 => 150 | 129 => 156 | 317 => 155 | 318 => 157 | 319 => 158 | 320 => 159 | 337 => 162 | 338 => 163 | n => n, fun | 9 => 9 | 3 => 3 | 75 => 100 | 76 => 101 | 4 => 4 | 5 => 5 | 167 => 203 | 37 => 94 | 0 => 0 | 85 => 204 | 2 => 2 | 168 => 206 | 53 => 189 | 175 => 209 | 46 => 192 | 210 => 220 | 127 => 140 | 145 => 229 | 143 => 227 | 21 => 21 | 171 => 213 | 173 => 216 | 212 => 223 | 51 => 190 | 20 => 20 | 213 => 224 | 232 => 231 | 233 => 232 | 80 => 65 | n => n, fun | 15 => 2 | 16 => 3 | 17 => 4 | 18 => 5 | 19 => 6 | n => n⟩
theorem Tryz.laysC172 : Go.Proofs.LaysC.n172 Tryz.prog Tryz.laysC172_ren := {
  mixed := by kernel_rfl
  f129 := Tryz.func156.trans (congrArg some (by kernel_rfl))
  f171 := Tryz.func94.trans (congrArg some (by kernel_rfl))
  f172 := Tryz.func106.trans (congrArg some (by kernel_rfl))
  f205 := Tryz.func154.trans (congrArg some (by kernel_rfl))
  f243 := Tryz.func117.trans (congrArg some (by kernel_rfl))
  f244 := Tryz.func126.trans (congrArg some (by kernel_rfl))
  f245 := Tryz.func127.trans (congrArg some (by kernel_rfl))
  f246 := Tryz.func135.trans (congrArg some (by kernel_rfl))
  f247 := Tryz.func139.trans (congrArg some (by kernel_rfl))
  f279 := Tryz.func140.trans (congrArg some (by kernel_rfl))
  f280 := Tryz.func141.trans (congrArg some (by kernel_rfl))
  f281 := Tryz.func142.trans (congrArg some (by kernel_rfl))
  f282 := Tryz.func143.trans (congrArg some (by kernel_rfl))
  f283 := Tryz.func147.trans (congrArg some (by kernel_rfl))
  f284 := Tryz.func148.trans (congrArg some (by kernel_rfl))
  f285 := Tryz.func149.trans (congrArg some (by kernel_rfl))
  f286 := Tryz.func150.trans (congrArg some (by kernel_rfl))
  f287 := Tryz.func152.trans (congrArg some (by kernel_rfl))
  f316 := Tryz.func153.trans (congrArg some (by kernel_rfl))
  f317 := Tryz.func155.trans (congrArg some (by kernel_rfl))
  f318 := Tryz.func157.trans (congrArg some (by kernel_rfl))
  f319 := Tryz.func158.trans (congrArg some (by kernel_rfl))
  f320 := Tryz.func159.trans (congrArg some (by kernel_rfl))
  f321 := Tryz.func160.trans (congrArg some (by kernel_rfl))
  f322 := Tryz.func161.trans (congrArg some (by kernel_rfl))
  f337 := Tryz.func162.trans (congrArg some (by kernel_rfl))
  f338 := Tryz.func163.trans (congrArg some (by kernel_rfl))
  t0 := Tryz.underlying0
  a0 := Tryz.isAgg0
  z0 := Tryz.sizeOf0
  v0 := Tryz.zeroValue0
  t2 := Tryz.underlying2
  a2 := Tryz.isAgg2
  z2 := Tryz.sizeOf2
  v2 := Tryz.zeroValue2
  t3 := Tryz.underlying3
  a3 := Tryz.isAgg3
  z3 := Tryz.sizeOf3
  v3 := Tryz.zeroValue3
  t4 := Tryz.underlying4
  a4 := Tryz.isAgg4
  z4 := Tryz.sizeOf4
  v4 := Tryz.zeroValue4
  t5 := Tryz.underlying5
  a5 := Tryz.isAgg5
  z5 := Tryz.sizeOf5
  v5 := Tryz.zeroValue5
  t9 := Tryz.underlying9
  a9 := Tryz.isAgg9
  z9 := Tryz.sizeOf9
  v9 := Tryz.zeroValue9
  t20 := Tryz.underlying20
  a20 := Tryz.isAgg20
  z20 := Tryz.sizeOf20
  v20 := Tryz.zeroValue20
  t21 := Tryz.underlying21
  a21 := Tryz.isAgg21
  z21 := Tryz.sizeOf21
  v21 := Tryz.zeroValue21
  t37 := Tryz.underlying94
  a37 := Tryz.isAgg94
  z37 := Tryz.sizeOf94
  v37 := Tryz.zeroValue94
  t46 := Tryz.underlying192
  a46 := Tryz.isAgg192
  z46 := Tryz.sizeOf192
  v46 := Tryz.zeroValue192
  t51 := Tryz.underlying190
  a51 := Tryz.isAgg190
  z51 := Tryz.sizeOf190
  v51 := Tryz.zeroValue190
  t53 := Tryz.underlying189
  a53 := Tryz.isAgg189
  z53 := Tryz.sizeOf189
  v53 := Tryz.zeroValue189
  t75 := Tryz.underlying100
  a75 := Tryz.isAgg100
  z75 := Tryz.sizeOf100
  v75 := Tryz.zeroValue100
  t76 := Tryz.underlying101
  a76 := Tryz.isAgg101
  z76 := Tryz.sizeOf101
  v76 := Tryz.zeroValue101
  t85 := Tryz.underlying204
  a85 := Tryz.isAgg204
  z85 := Tryz.sizeOf204
  v85 := Tryz.zeroValue204
  t127 := Tryz.underlying140
  a127 := Tryz.isAgg140
  z127 := Tryz.sizeOf140
  v127 := Tryz.zeroValue140
  t143 := Tryz.underlying227
  a143 := Tryz.isAgg227
  z143 := Tryz.sizeOf227
  v143 := Tryz.zeroValue227
  t145 := Tryz.underlying229
  a145 := Tryz.isAgg229
  z145 := Tryz.sizeOf229
  v145 := Tryz.zeroValue229
  t167 := Tryz.underlying203
  a167 := Tryz.isAgg203
  z167 := Tryz.sizeOf203
  v167 := Tryz.zeroValue203
  t168 := Tryz.underlying206
  a168 := Tryz.isAgg206
  z168 := Tryz.sizeOf206
  v168 := Tryz.zeroValue206
  t171 := Tryz.underlying213
  a171 := Tryz.isAgg213
  z171 := Tryz.sizeOf213
  v171 := Tryz.zeroValue213
  t173 := Tryz.underlying216
  a173 := Tryz.isAgg216
  z173 := Tryz.sizeOf216
  v173 := Tryz.zeroValue216
  t175 := Tryz.underlying209
  a175 := Tryz.isAgg209
  z175 := Tryz.sizeOf209
  v175 := Tryz.zeroValue209
  t210 := Tryz.underlying220
  a210 := Tryz.isAgg220
  z210 := Tryz.sizeOf220
  v210 := Tryz.zeroValue220
  t212 := Tryz.underlying223
  a212 := Tryz.isAgg223
  z212 := Tryz.sizeOf223
  v212 := Tryz.zeroValue223
  t213 := Tryz.underlying224
  a213 := Tryz.isAgg224
  z213 := Tryz.sizeOf224
  t232 := Tryz.underlying231
  a232 := Tryz.isAgg231
  z232 := Tryz.sizeOf231
  v232 := Tryz.zeroValue231
  t233 := Tryz.underlying232
  a233 := Tryz.isAgg232
  z233 := Tryz.sizeOf232
  v233 := Tryz.zeroValue232
  g15 := by kernel_rfl
  g16 := by kernel_rfl
  g17 := by kernel_rfl
  g18 := by kernel_rfl
  g19 := by kernel_rfl
  t80 := Tryz.underlying65
  a80 := Tryz.isAgg65
  z80 := Tryz.sizeOf65
  v80 := Tryz.zeroValue65
  i0 := by kernel_rfl
  i2 := by kernel_rfl
  i3 := by kernel_rfl
  i4 := by kernel_rfl
  i5 := by kernel_rfl
  i9 := by kernel_rfl
  i20 := by kernel_rfl
  i21 := by kernel_rfl
  i37 := by kernel_rfl
  i46 := by kernel_rfl
  i51 := by kernel_rfl
  i53 := by kernel_rfl
  i75 := by kernel_rfl
  i76 := by kernel_rfl
  i80 := by kernel_rfl
  i85 := by kernel_rfl
  i127 := by kernel_rfl
  i143 := by kernel_rfl
  i145 := by kernel_rfl
  i167 := by kernel_rfl
  i168 := by kernel_rfl
  i171 := by kernel_rfl
  i173 := by kernel_rfl
  i175 := by kernel_rfl
  i210 := by kernel_rfl
  i212 := by kernel_rfl
  i232 := by kernel_rfl
  i233 := by kernel_rfl
  m15 := by kernel_rfl
  m16 := by kernel_rfl
  m17 := by kernel_rfl
  m18 := by kernel_rfl
  m19 := by kernel_rfl
  c0 := by kernel_rfl
  c2 := by kernel_rfl
  c3 := by kernel_rfl
  c4 := by kernel_rfl
  c5 := by kernel_rfl
  c9 := by kernel_rfl
  c20 := by kernel_rfl
  c21 := by kernel_rfl
  c37 := by kernel_rfl
  c46 := by kernel_rfl
  c51 := by kernel_rfl
  c53 := by kernel_rfl
  c75 := by kernel_rfl
  c76 := by kernel_rfl
  c80 := by kernel_rfl
  c85 := by kernel_rfl
  c127 := by kernel_rfl
  c143 := by kernel_rfl
  c145 := by kernel_rfl
  c167 := by kernel_rfl
  c168 := by kernel_rfl
  c171 := by kernel_rfl
  c173 := by kernel_rfl
  c175 := by kernel_rfl
  c210 := by kernel_rfl
  c212 := by kernel_rfl
  c213 := by kernel_rfl
  c232 := by kernel_rfl
  c233 := by kernel_rfl }
open Go.RowKit in
theorem Tryz.strconv_Atoi_ok (s : ByteArray) (hmax : s.size ≤ 9223372036854775806) (v : Int) (h : Lib.atoiAll s.data.toList = .ok v) (w : World) :
    Calls Tryz.prog 106 #[.string s] w fun e w' => e = .returned (.tuple #[.int .i64 v, .nilIface]) ∧ (w' = w ∨ ∃ t, w' = Lib.bytesWorld w 5 t) := Any.strconv_Atoi_ok Tryz.laysC172 s hmax v h w
open Go.RowKit in
theorem Tryz.strconv_Atoi_syntax (s : ByteArray) (hlim : s.size ≤ 281474976710656) (h : Lib.atoiAll s.data.toList = .«syntax») (ev : Value) (w : World) (hv : w.cell? ⟨2, 0, none⟩ = some ev) (hev : ev = .nilIface ∨ ∃ te pe, ev = .iface te pe) :
    Calls Tryz.prog 106 #[.string s] w fun e w' => ∃ N, e = .returned (.tuple #[.int .i64 (0), .iface 206 (.pointer (some ⟨N, 0, none⟩))]) ∧ w.heap.size ≤ N ∧ w'.heap[N]? = some (.cells #[.string ⟨#[65, 116, 111, 105]⟩, .string s, ev] 220 (0, 0)) ∧ Below w.heap.size w w' := Any.strconv_Atoi_syntax Tryz.laysC172 s hlim h ev w hv hev
open Go.RowKit in
theorem Tryz.strconv_Atoi_range (s : ByteArray) (hlim : s.size ≤ 281474976710656) (h : Lib.atoiAll s.data.toList = .range) (ev : Value) (w : World) (hv : w.cell? ⟨3, 0, none⟩ = some ev) (hev : ev = .nilIface ∨ ∃ te pe, ev = .iface te pe) :
    Calls Tryz.prog 106 #[.string s] w fun e w' => ∃ N, e = .returned (.tuple #[.int .i64 (Lib.atoiSat s.data.toList), .iface 206 (.pointer (some ⟨N, 0, none⟩))]) ∧ w.heap.size ≤ N ∧ w'.heap[N]? = some (.cells #[.string ⟨#[65, 116, 111, 105]⟩, .string s, ev] 220 (0, 0)) ∧ Below w.heap.size w w' := Any.strconv_Atoi_range Tryz.laysC172 s hlim h ev w hv hev
def Tryz.laysC245_ren : Go.Shelf.Ren := ⟨fun | 245 => 127 | 279 => 140 | 280 => 141 | 281 => 142 | 282 => 143 | 316 => 153 | 171 => 94 | 205 => 154 | 243 => 117 | 246 => 135 | 283 => 147 | 284 => 148 | 285 => 149 | 286 => 150 | 129 => 156 | 317 => 155 | 318 => 157 | 319 => 158 | 320 => 159 | 337 => 162 | 338 => 163 | n => n, fun | 9 => 9 | 3 => 3 | 75 => 100 | 167 => 203 | 4 => 4 | 168 => 206 | 210 => 220 | 37 => 94 | 0 => 0 | 127 => 140 | 145 => 229 | 143 => 227 | 2 => 2 | 171 => 213 | 53 => 189 | 5 => 5 | 173 => 216 | 212 => 223 | 51 => 190 | 20 => 20 | 213 => 224 | 46 => 192 | 232 => 231 | 233 => 232 | 80 => 65 | n => n, fun | 15 => 2 | 16 => 3 | 17 => 4 | 18 => 5 | 19 => 6 | n => n⟩
theorem Tryz.laysC245 : Go.Proofs.LaysC.n245 Tryz.prog Tryz.laysC245_ren := {
  mixed := by kernel_rfl
  f129 := Tryz.func156.trans (congrArg some (by kernel_rfl))
  f171 := Tryz.func94.trans (congrArg some (by kernel_rfl))
  f205 := Tryz.func154.trans (congrArg some (by kernel_rfl))
  f243 := Tryz.func117.trans (congrArg some (by kernel_rfl))
  f245 := Tryz.func127.trans (congrArg some (by kernel_rfl))
  f246 := Tryz.func135.trans (congrArg some (by kernel_rfl))
  f279 := Tryz.func140.trans (congrArg some (by kernel_rfl))
  f280 := Tryz.func141.trans (congrArg some (by kernel_rfl))
  f281 := Tryz.func142.trans (congrArg some (by kernel_rfl))
  f282 := Tryz.func143.trans (congrArg some (by kernel_rfl))
  f283 := Tryz.func147.trans (congrArg some (by kernel_rfl))
  f284 := Tryz.func148.trans (congrArg some (by kernel_rfl))
  f285 := Tryz.func149.trans (congrArg some (by kernel_rfl))
  f286 := Tryz.func150.trans (congrArg some (by kernel_rfl))
  f316 := Tryz.func153.trans (congrArg some (by kernel_rfl))
  f317 := Tryz.func155.trans (congrArg some (by kernel_rfl))
  f318 := Tryz.func157.trans (congrArg some (by kernel_rfl))
  f319 := Tryz.func158.trans (congrArg some (by kernel_rfl))
  f320 := Tryz.func159.trans (congrArg some (by kernel_rfl))
  f337 := Tryz.func162.trans (congrArg some (by kernel_rfl))
  f338 := Tryz.func163.trans (congrArg some (by kernel_rfl))
  t0 := Tryz.underlying0
  a0 := Tryz.isAgg0
  z0 := Tryz.sizeOf0
  v0 := Tryz.zeroValue0
  t2 := Tryz.underlying2
  a2 := Tryz.isAgg2
  z2 := Tryz.sizeOf2
  v2 := Tryz.zeroValue2
  t3 := Tryz.underlying3
  a3 := Tryz.isAgg3
  z3 := Tryz.sizeOf3
  v3 := Tryz.zeroValue3
  t4 := Tryz.underlying4
  a4 := Tryz.isAgg4
  z4 := Tryz.sizeOf4
  v4 := Tryz.zeroValue4
  t5 := Tryz.underlying5
  a5 := Tryz.isAgg5
  z5 := Tryz.sizeOf5
  v5 := Tryz.zeroValue5
  t9 := Tryz.underlying9
  a9 := Tryz.isAgg9
  z9 := Tryz.sizeOf9
  v9 := Tryz.zeroValue9
  t20 := Tryz.underlying20
  a20 := Tryz.isAgg20
  z20 := Tryz.sizeOf20
  v20 := Tryz.zeroValue20
  t37 := Tryz.underlying94
  a37 := Tryz.isAgg94
  z37 := Tryz.sizeOf94
  v37 := Tryz.zeroValue94
  t46 := Tryz.underlying192
  a46 := Tryz.isAgg192
  z46 := Tryz.sizeOf192
  v46 := Tryz.zeroValue192
  t51 := Tryz.underlying190
  a51 := Tryz.isAgg190
  z51 := Tryz.sizeOf190
  v51 := Tryz.zeroValue190
  t53 := Tryz.underlying189
  a53 := Tryz.isAgg189
  z53 := Tryz.sizeOf189
  v53 := Tryz.zeroValue189
  t75 := Tryz.underlying100
  a75 := Tryz.isAgg100
  z75 := Tryz.sizeOf100
  v75 := Tryz.zeroValue100
  t127 := Tryz.underlying140
  a127 := Tryz.isAgg140
  z127 := Tryz.sizeOf140
  v127 := Tryz.zeroValue140
  t143 := Tryz.underlying227
  a143 := Tryz.isAgg227
  z143 := Tryz.sizeOf227
  v143 := Tryz.zeroValue227
  t145 := Tryz.underlying229
  a145 := Tryz.isAgg229
  z145 := Tryz.sizeOf229
  v145 := Tryz.zeroValue229
  t167 := Tryz.underlying203
  a167 := Tryz.isAgg203
  z167 := Tryz.sizeOf203
  v167 := Tryz.zeroValue203
  t168 := Tryz.underlying206
  a168 := Tryz.isAgg206
  z168 := Tryz.sizeOf206
  v168 := Tryz.zeroValue206
  t171 := Tryz.underlying213
  a171 := Tryz.isAgg213
  z171 := Tryz.sizeOf213
  v171 := Tryz.zeroValue213
  t173 := Tryz.underlying216
  a173 := Tryz.isAgg216
  z173 := Tryz.sizeOf216
  v173 := Tryz.zeroValue216
  t210 := Tryz.underlying220
  a210 := Tryz.isAgg220
  z210 := Tryz.sizeOf220
  v210 := Tryz.zeroValue220
  t212 := Tryz.underlying223
  a212 := Tryz.isAgg223
  z212 := Tryz.sizeOf223
  v212 := Tryz.zeroValue223
  t213 := Tryz.underlying224
  a213 := Tryz.isAgg224
  z213 := Tryz.sizeOf224
  t232 := Tryz.underlying231
  a232 := Tryz.isAgg231
  z232 := Tryz.sizeOf231
  v232 := Tryz.zeroValue231
  t233 := Tryz.underlying232
  a233 := Tryz.isAgg232
  z233 := Tryz.sizeOf232
  v233 := Tryz.zeroValue232
  g15 := by kernel_rfl
  g16 := by kernel_rfl
  g17 := by kernel_rfl
  g18 := by kernel_rfl
  g19 := by kernel_rfl
  t80 := Tryz.underlying65
  a80 := Tryz.isAgg65
  z80 := Tryz.sizeOf65
  v80 := Tryz.zeroValue65
  i0 := by kernel_rfl
  i2 := by kernel_rfl
  i3 := by kernel_rfl
  i4 := by kernel_rfl
  i5 := by kernel_rfl
  i9 := by kernel_rfl
  i20 := by kernel_rfl
  i37 := by kernel_rfl
  i46 := by kernel_rfl
  i51 := by kernel_rfl
  i53 := by kernel_rfl
  i75 := by kernel_rfl
  i80 := by kernel_rfl
  i127 := by kernel_rfl
  i143 := by kernel_rfl
  i145 := by kernel_rfl
  i167 := by kernel_rfl
  i168 := by kernel_rfl
  i171 := by kernel_rfl
  i173 := by kernel_rfl
  i210 := by kernel_rfl
  i212 := by kernel_rfl
  i232 := by kernel_rfl
  i233 := by kernel_rfl
  m15 := by kernel_rfl
  m16 := by kernel_rfl
  m17 := by kernel_rfl
  m18 := by kernel_rfl
  m19 := by kernel_rfl
  c0 := by kernel_rfl
  c2 := by kernel_rfl
  c3 := by kernel_rfl
  c4 := by kernel_rfl
  c5 := by kernel_rfl
  c9 := by kernel_rfl
  c20 := by kernel_rfl
  c37 := by kernel_rfl
  c46 := by kernel_rfl
  c51 := by kernel_rfl
  c53 := by kernel_rfl
  c75 := by kernel_rfl
  c80 := by kernel_rfl
  c127 := by kernel_rfl
  c143 := by kernel_rfl
  c145 := by kernel_rfl
  c167 := by kernel_rfl
  c168 := by kernel_rfl
  c171 := by kernel_rfl
  c173 := by kernel_rfl
  c210 := by kernel_rfl
  c212 := by kernel_rfl
  c213 := by kernel_rfl
  c232 := by kernel_rfl
  c233 := by kernel_rfl }
open Go.RowKit in
theorem Tryz.strconv_toError_syntax (fn s : ByteArray) (base bits : Int) (ev : Value) (w : World) (hlim : s.size ≤ 281474976710656) (hv : w.cell? ⟨2, 0, none⟩ = some ev) (hev : ev = .nilIface ∨ ∃ te pe, ev = .iface te pe) :
    Calls Tryz.prog 127 #[.string fn, .string s, .int .i64 base, .int .i64 bits, .iface 203 (.int .i64 2)] w fun e w' => ∃ N, e = .returned (.iface 206 (.pointer (some ⟨N, 0, none⟩))) ∧ w.heap.size ≤ N ∧ w'.heap[N]? = some (.cells #[.string fn, .string s, ev] 220 (0, 0)) ∧ Below w.heap.size w w' := Any.strconv_toError_syntax Tryz.laysC245 fn s base bits ev w hlim hv hev
open Go.RowKit in
theorem Tryz.strconv_toError_range (fn s : ByteArray) (base bits : Int) (ev : Value) (w : World) (hlim : s.size ≤ 281474976710656) (hv : w.cell? ⟨3, 0, none⟩ = some ev) (hev : ev = .nilIface ∨ ∃ te pe, ev = .iface te pe) :
    Calls Tryz.prog 127 #[.string fn, .string s, .int .i64 base, .int .i64 bits, .iface 203 (.int .i64 1)] w fun e w' => ∃ N, e = .returned (.iface 206 (.pointer (some ⟨N, 0, none⟩))) ∧ w.heap.size ≤ N ∧ w'.heap[N]? = some (.cells #[.string fn, .string s, ev] 220 (0, 0)) ∧ Below w.heap.size w w' := Any.strconv_toError_range Tryz.laysC245 fn s base bits ev w hlim hv hev
def Tryz.lays321_ren : Go.Shelf.Ren := ⟨fun | 321 => 160 | n => n, fun | 5 => 5 | n => n, fun | n => n⟩
theorem Tryz.lays321 : Go.Proofs.Lays.n321 Tryz.prog Tryz.lays321_ren := {
  mixed := by kernel_rfl
  f321 := Tryz.func160.trans (congrArg some (by kernel_rfl))
  t5 := Tryz.underlying5
  a5 := Tryz.isAgg5
  z5 := Tryz.sizeOf5
  v5 := Tryz.zeroValue5 }
open Go.RowKit in
theorem Tryz.internal_strconv_lower (c : Int) (w : World) :
    Calls Tryz.prog 160 #[.int .u8 c] w fun e w' => e = .returned (.int .u8 (bits .or .u8 c 32)) ∧ w' = w := Any.internal_strconv_lower Tryz.lays321 c w
end Go.Proofs

namespace Go.Proofs.YtlfmfhmbkpnjbaaGreatDoor
open Go.RowKit

/-- The library's tables, and its two errors. -/
structure Errs (w : World) : Prop where
  tabs : Tabs w
  syn : ∃ te pe, w.cell? ⟨2, 0, none⟩ = some (.iface te pe)
  rng : ∃ te pe, w.cell? ⟨3, 0, none⟩ = some (.iface te pe)
theorem Errs.keep {w w' : World} {S : Nat → Prop} (h : Errs w) (k : Kept S w w') (h1 : ¬ S 6) (h2 : ¬ S 4) (h3 : ¬ S 2) (h4 : ¬ S 3) : Errs w' := by
  obtain ⟨te, pe, hs⟩ := h.syn
  obtain ⟨tr, pr, hr⟩ := h.rng
  exact ⟨h.tabs.keep k h1 h2, ⟨te, pe, by rw [cell_keep k (World.block_lt_of_cell? w _ hs) h3]; exact hs⟩, ⟨tr, pr, by rw [cell_keep k (World.block_lt_of_cell? w _ hr) h4]; exact hr⟩⟩
theorem Errs.calm {w w' : World} (h : Errs w) (k : Kept (fun _ => False) w w') : Errs w' := h.keep k (fun e => e) (fun e => e) (fun e => e) (fun e => e)

/-- A text of some bytes. -/
abbrev baL (l : List UInt8) : ByteArray := ⟨l.toArray⟩
theorem baL_size (l : List UInt8) : (baL l).size = l.length := by show l.toArray.size = _; simp
theorem baL_list (l : List UInt8) : (baL l).data.toList = l := by simp
theorem baL_inj {a b : List UInt8} (h : baL a = baL b) : a = b := by
  have := congrArg (fun x : ByteArray => x.data.toList) h
  simpa using this
theorem baL_beq (a b : List UInt8) : ((baL a).toList == (baL b).toList) = decide (a = b) := by
  rw [ByteArray.toList_eq, ByteArray.toList_eq]
  by_cases h : a = b <;> simp [h]

set_option maxHeartbeats 1000000 in
set_option maxRecDepth 100000 in
/-- Where a sign stands. -/
theorem index1_c (s : ByteArray) (c : UInt8) (w : World) :
    Calls Tryz.prog 105 #[.string s, .string ⟨#[c]⟩] w fun e w' => e = .returned (.int .i64 (Lib.indexByte s.data.toList c)) ∧ w' = w := by
  have hz : ((⟨#[c]⟩ : ByteArray).size : Int) = 1 := rfl
  have hcc : ((c.toNat : Int).toNat.toUInt8) = c := by simp
  by_cases hs : (⟨#[c]⟩ : ByteArray) = s
  · subst hs
    have he : Lib.indexByte (⟨#[c]⟩ : ByteArray).data.toList c = 0 := by simp [Lib.indexByte]
    rw [he]
    go_enter Tryz.func105, Tryz.ntmps105
    go_wp2_with fail
    go_ret
    exact ⟨rfl, rfl⟩
  · have hb : ([c] == s.toList) = false := by
      rw [beq_eq_false_iff_ne]
      intro e
      apply hs
      apply bytes_inj
      rw [← e]
      simp [ByteArray.toList_eq]
    go_enter Tryz.func105, Tryz.ntmps105
    go_wp2_with fail
    refine (Tryz.stringslite_IndexByte s c.toNat w).mono ?_
    rintro e w' ⟨rfl, rfl⟩
    rw [hcc]
    go_wp2
    go_ret
    exact ⟨rfl, rfl⟩

set_option maxHeartbeats 1000000 in
set_option maxRecDepth 100000 in
/-- strings.Cut at one sign. -/
theorem cut0_c (s : List UInt8) (c : UInt8) (w : World) (hl : (s.length : Int) ≤ 4611686018427387904) :
    Calls Tryz.prog 76 #[.string (baL s), .string ⟨#[c]⟩] w fun e w' => e = .returned (.tuple #[.string (baL (cutL c s).1), .string (baL (cutL c s).2.1), .bool (cutL c s).2.2]) ∧ Kept (fun _ => False) w w' := by
  have hz : ((⟨#[c]⟩ : ByteArray).size : Int) = 1 := rfl
  have hsz := baL_size s
  rcases cutL_index c s with ⟨h1, h2⟩ | ⟨i, h1, h2, h3⟩
  · rw [h2]
    go_enter Tryz.func76, Tryz.ntmps76
    go_wp2_with fail
    refine (index1_c (baL s) c w).mono ?_
    rintro e w' ⟨rfl, rfl⟩
    rw [baL_list, h1]
    go_wp2
    go_ret3
    exact ⟨rfl, Kept.refl _ _⟩
  · have e1 : baL (s.take i) = (baL s).extract 0 i := by rw [Lib.extract_eq]; simp
    have e2 : baL (s.drop (i + 1)) = (baL s).extract (i + 1) (baL s).size := by
      rw [Lib.extract_eq, baL_list, List.take_of_length_le (by rw [List.length_drop, hsz]; exact Nat.le_refl _)]
    rw [h3]
    simp only [e1, e2]
    have c1 : (0 : Int) ≤ (i : Int) := by omega
    have c2 : (i : Int) ≤ ((baL s).size : Int) := by rw [hsz]; omega
    have c3 : (0 : Int) ≤ (i : Int) + 1 := by omega
    have c4 : (i : Int) + 1 ≤ ((baL s).size : Int) := by rw [hsz]; omega
    have HH := hide h1
    have HS := hide hsz
    clear e1 e2 h1 h3 hsz
    generalize hS : baL s = S at *
    go_enter Tryz.func76, Tryz.ntmps76
    go_wp2_with fail
    refine (index1_c S c w).mono ?_
    rintro e w' ⟨rfl, rfl⟩
    rw [show S.data.toList = s from by rw [← hS], HH.out]
    go_wp2
    go_quiet (fail)
    go_wp2
    go_ret3
    exact ⟨rfl, Kept.drewN _ _⟩

set_option maxHeartbeats 1000000 in
set_option maxRecDepth 100000 in
theorem cut1_c (s : List UInt8) (c : UInt8) (w : World) (hl : (s.length : Int) ≤ 4611686018427387904) :
    Calls Tryz.prog 47 #[.string (baL s), .string ⟨#[c]⟩] w fun e w' => e = .returned (.tuple #[.string (baL (cutL c s).1), .string (baL (cutL c s).2.1), .bool (cutL c s).2.2]) ∧ Kept (fun _ => False) w w' := by
  go_enter Tryz.func47, Tryz.ntmps47
  go_wp2_with fail
  refine (cut0_c s c w hl).mono ?_
  rintro e w1 ⟨rfl, k1⟩
  have K1 := hide k1
  clear k1
  go_wp2
  go_ret3
  exact ⟨rfl, K1.out⟩
end Go.Proofs.YtlfmfhmbkpnjbaaGreatDoor

namespace Go.Proofs.YtlfmfhmbkpnjbaaGreatDoor
open Go.RowKit

/-- A world as the cache keeps it: its tick, the list's place, length and room. -/
structure Wv where
  t : Int
  p : Option Addr
  n : Nat
  cap : Nat
def Wv.sl (v : Wv) : Value := .slice v.p v.n v.cap
abbrev Ew := Int × Wv

/-- The cells of a list of entries, three each. -/
def flat3 : List Ew → List Value
  | [] => []
  | p :: r => .int .i64 p.1 :: .int .i64 p.2.t :: p.2.sl :: flat3 r

theorem flat3_length (L : List Ew) : (flat3 L).length = L.length * 3 := by
  induction L with
  | nil => rfl
  | cons p r ih => simp only [flat3, List.length_cons, ih]; omega

theorem flat3_append (L M : List Ew) : flat3 (L ++ M) = flat3 L ++ flat3 M := by
  induction L with
  | nil => rfl
  | cons p r ih => simp [flat3, ih]

theorem flat3_take (L : List Ew) (n : Nat) : (flat3 L).take (n * 3) = flat3 (L.take n) := by
  induction L generalizing n with
  | nil => simp [flat3]
  | cons p r ih =>
    cases n with
    | zero => simp [flat3]
    | succ m => rw [show (m + 1) * 3 = m * 3 + 1 + 1 + 1 from by omega]; simp [flat3, ih]

theorem flat3_drop (L : List Ew) (n : Nat) : (flat3 L).drop (n * 3) = flat3 (L.drop n) := by
  induction L generalizing n with
  | nil => simp [flat3]
  | cons p r ih =>
    cases n with
    | zero => simp
    | succ m => rw [show (m + 1) * 3 = m * 3 + 1 + 1 + 1 from by omega]; simp [flat3, ih]

theorem flat3_get (L : List Ew) (j : Nat) (h : j < L.length) : (flat3 L)[j * 3]? = some (.int .i64 L[j].1) ∧ (flat3 L)[j * 3 + 1]? = some (.int .i64 L[j].2.t) ∧ (flat3 L)[j * 3 + 2]? = some L[j].2.sl := by
  induction L generalizing j with
  | nil => simp at h
  | cons p r ih =>
    cases j with
    | zero => simp [flat3]
    | succ m =>
      have := ih m (by simpa using h)
      rw [show (m + 1) * 3 = m * 3 + 1 + 1 + 1 from by omega]
      simpa [flat3, Nat.add_assoc] using this

theorem flat3_one (L : List Ew) : ∀ u ∈ flat3 L, u.oneCell' = true := by
  induction L with
  | nil => simp [flat3]
  | cons p r ih =>
    intro u hu
    simp only [flat3, List.mem_cons] at hu
    rcases hu with rfl | rfl | rfl | h
    · rfl
    · rfl
    · rfl
    · exact ih u h

/-- The cache of worlds in memory. -/
def CacheAt3 (w : World) (c : Nat) (cap : Int) (v : Value) (n : Nat) (xs : List Value) : Prop :=
  w.heap[c]? = some (.cells #[.int .i64 cap, v] 127 (0, 0)) ∧ w.ownsRow 0 131 3 v n xs

theorem CacheAt3.ne {w : World} {c : Nat} {cap : Int} {v : Value} {n : Nat} {xs : List Value} (h : CacheAt3 w c cap v n xs) : v.ownBlock ≠ some c := by
  intro e
  rcases h.2.2 with ⟨rfl, _⟩ | ⟨g, cp, cur, rfl, _, hh, _⟩
  · cases e
  · obtain rfl : g = c := by simpa [Value.ownBlock] using e
    have := h.1.symm.trans hh
    simp at this

theorem new_three (w0 : World) (a b d : Value) (T : TypeId) (m : Nat) (hm : m = w0.heap.size) : ∀ j u, [a, b, d][j]? = some u → (w0.alloc (.cells #[a, b, d] T)).cell? ((⟨m, 0, none⟩ : Addr).add j) = some u := by
  subst hm
  intro j u hu
  rw [addr_add, cell_block (heap_alloc_new w0 _)]
  simpa using hu

theorem three_cells {w : World} {c : Nat} {a b d : Value} {T : TypeId} (h : w.heap[c]? = some (.cells #[a, b, d] T (0, 0))) :
    w.cell? ⟨c, 0, none⟩ = some a ∧ w.cell? ⟨c, 1, none⟩ = some b ∧ w.cell? ⟨c, 2, none⟩ = some d ∧ w.frozen? ⟨c, 0, none⟩ = false ∧ w.frozen? ⟨c, 1, none⟩ = false ∧ w.frozen? ⟨c, 2, none⟩ = false := by
  simp [World.cell?, World.frozen?, h]

theorem grow_fin3 {w w1 : World} {nq : Nat} {o : Obj} {c : Nat} {cap : Int} {v : Value} {g cp' n' : Nat} {xs' : List Value} (hb : w.heap[c]? = some (.cells #[.int .i64 cap, v] 127 (0, 0))) (hne : v.ownBlock ≠ some c)
    (hgrow : ((w.drewN nq).alloc o).grownBy w1 v.ownBlock) (hown : w1.ownsRow 0 131 3 (.slice (some ⟨g, 0, none⟩) n' cp') n' xs') (hg : v.ownBlock = some g ∨ w.heap.size + 1 ≤ g) :
    CacheAt3 (w1.setCell ⟨c, 1, none⟩ (.slice (some ⟨g, 0, none⟩) n' cp')) c cap (.slice (some ⟨g, 0, none⟩) n' cp') n' xs' ∧
      Kept (fun k => k = c ∨ v.ownBlock = some k) w (w1.setCell ⟨c, 1, none⟩ (.slice (some ⟨g, 0, none⟩) n' cp')) ∧
      (v.ownBlock = some g ∨ w.heap.size ≤ g) := by
  have hc := heap_lt hb
  have hgc : g ≠ c := by
    rcases hg with h | h
    · intro e; exact hne (by rw [h, e])
    · omega
  have hg' : v.ownBlock = some g ∨ w.heap.size ≤ g := by
    rcases hg with h | h
    · exact Or.inl h
    · right; omega
  refine ⟨⟨two_set (grow_at hb hne hgrow) _, owns_block hown ?_⟩, ?_, hg'⟩
  · intro g' e
    simp only [Value.ownBlock, Option.some.injEq] at e
    subst e
    exact Below.heap_setCell _ _ _ _ hgc
  · refine ((Kept.drewN w nq).join (Kept.alloc _ o) (R := fun _ => False) (fun _ _ h => h) (fun _ _ h => h)).join ((Kept.of_grown hgrow).join (Kept.setCell w1 _ _) (R := fun k => k = c ∨ v.ownBlock = some k) (fun _ _ h => Or.inr h.symm) (fun _ _ h => Or.inl h)) (fun _ _ h => h.elim) (fun _ _ h => h)

theorem use_facts3 {w w1 : World} {c g : Nat} {x v a b d : Value} {cs : List Value} (hb : w.heap[c]? = some (.cells #[x, v] 127 (0, 0))) (hne : g ≠ c) (hg : g < w.heap.size) (h2 : 3 ≤ cs.length)
    (hg1 : w1.heap[g]? = some (.cells cs.toArray 131 (0, 0))) (hk : Kept (fun k => k = g) (w.alloc (.cells #[a, b, d] 131)).drew w1) :
    w1.cell? ⟨c, 1, none⟩ = some v ∧ w1.cell? ⟨w.heap.size, 0, none⟩ = some a ∧ w1.cell? ⟨w.heap.size, 1, none⟩ = some b ∧ w1.cell? ⟨w.heap.size, 2, none⟩ = some d ∧
      w1.cell? ⟨g, 0, none⟩ = some (cs.getD 0 undef) ∧ w1.cell? ⟨g, 1, none⟩ = some (cs.getD 1 undef) ∧ w1.cell? ⟨g, 2, none⟩ = some (cs.getD 2 undef) ∧ w1.frozen? ⟨g, 0, none⟩ = false ∧ w1.frozen? ⟨g, 1, none⟩ = false ∧ w1.frozen? ⟨g, 2, none⟩ = false := by
  have hc := heap_lt hb
  have e1 : w1.heap[c]? = some (.cells #[x, v] 127 (0, 0)) := by
    rw [hk.block c (by show c < (w.alloc _).heap.size; simp; omega) (fun e => hne e.symm)]
    exact (Below.heap_alloc w _ c hc).trans hb
  have e2 : w1.heap[w.heap.size]? = some (.cells #[a, b, d] 131 (0, 0)) := by
    rw [hk.block _ (by show _ < (w.alloc _).heap.size; simp) (by omega)]
    exact heap_alloc_new w _
  refine ⟨by rw [cell_block e1]; rfl, by rw [cell_block e2]; rfl, by rw [cell_block e2]; rfl, by rw [cell_block e2]; rfl, ?_, ?_, ?_, by simp [World.frozen?, hg1], by simp [World.frozen?, hg1], by simp [World.frozen?, hg1]⟩
  · rw [cell_block hg1]; simp [List.getD, show 0 < cs.length by omega]
  · rw [cell_block hg1]; simp [List.getD, show 1 < cs.length by omega]
  · rw [cell_block hg1]; simp [List.getD, show 2 < cs.length by omega]

theorem touch_cells3 (L : List Ew) (p : Nat) (e : Ew) (h : p < L.length) (cur : List Value) (htk : cur.take (L.length * 3) = flat3 L) (hc : L.length * 3 ≤ cur.length) :
    ((((splice cur 3 (flat3 (L.take p))).set 0 (.int .i64 e.1)).set 1 (.int .i64 e.2.t)).set 2 e.2.sl).take (L.length * 3) = flat3 (touch L p e) ∧
    ((((splice cur 3 (flat3 (L.take p))).set 0 (.int .i64 e.1)).set 1 (.int .i64 e.2.t)).set 2 e.2.sl).length = cur.length := by
  have e1 : cur = flat3 L ++ cur.drop (L.length * 3) := by rw [← htk, List.take_append_drop]
  have hl : (flat3 (L.take p)).length = p * 3 := by rw [flat3_length, List.length_take]; congr 1; omega
  have e2 : cur.drop (3 + (flat3 (L.take p)).length) = flat3 (L.drop (p + 1)) ++ cur.drop (L.length * 3) := by
    rw [hl, show 3 + p * 3 = (p + 1) * 3 from by omega]
    conv => lhs; rw [e1]
    rw [List.drop_append_of_le_length (by rw [flat3_length]; omega), flat3_drop]
  have e3 : (((splice cur 3 (flat3 (L.take p))).set 0 (.int .i64 e.1)).set 1 (.int .i64 e.2.t)).set 2 e.2.sl = flat3 (touch L p e) ++ cur.drop (L.length * 3) := by
    unfold splice
    rw [e2]
    match cur, hc with
    | [], hc => simp at hc; omega
    | [_], hc => simp at hc; omega
    | [_, _], hc => simp at hc; omega
    | a :: b :: d :: r, _ => simp [touch, flat3, flat3_append]
  rw [e3]
  have e4 : (flat3 (touch L p e)).length = L.length * 3 := by rw [flat3_length, touch_length L p e h]
  constructor
  · rw [← e4]; exact List.take_left
  · rw [List.length_append, e4, List.length_drop]; omega

theorem use_fin3 {w w1 w2 : World} {c g cp : Nat} {cap : Int} (L : List Ew) (p : Nat) (k : Int) (v : Wv) (hp : p < L.length) (cur : List Value)
    (hcp : L.length ≤ cp) (hcm : cp ≤ maxLen) (hsz : cur.length = cp * 3) (htk : cur.take (L.length * 3) = flat3 L)
    (hb : w.heap[c]? = some (.cells #[.int .i64 cap, .slice (some ⟨g, 0, none⟩) L.length cp] 127 (0, 0))) (hne : g ≠ c) (_hg : g < w.heap.size)
    (hg1 : w1.heap[g]? = some (.cells (splice cur 3 (flat3 (L.take p))).toArray 131 (0, 0))) (hk : Kept (fun k => k = g) (w.alloc (.cells #[.int .i64 k, .int .i64 v.t, v.sl] 131)).drew w1)
    (h1 : w2.heap = (((w1.setCell ⟨g, 0, none⟩ (.int .i64 k)).setCell ⟨g, 1, none⟩ (.int .i64 v.t)).setCell ⟨g, 2, none⟩ v.sl).heap) (h2 : w2.os = w1.os) (h3 : w2.tape = w1.tape) (h4 : w2.output = w1.output) :
    CacheAt3 w2 c cap (.slice (some ⟨g, 0, none⟩) L.length cp) L.length (flat3 (touch L p (k, v))) ∧ Kept (fun k => k = g) w w2 := by
  have hc := heap_lt hb
  obtain ⟨t1, t2⟩ := touch_cells3 L p (k, v) hp cur htk (by omega)
  have e0 : (((w1.setCell ⟨g, 0, none⟩ (.int .i64 k)).setCell ⟨g, 1, none⟩ (.int .i64 v.t)).setCell ⟨g, 2, none⟩ v.sl) = w1.setRow g ((((splice cur 3 (flat3 (L.take p))).set 0 (.int .i64 k)).set 1 (.int .i64 v.t)).set 2 v.sl).toArray := by
    rw [setCell_eq_setRow w1 g 0 _ 131 (0, 0) _ hg1, setCell_eq_setRow _ g 1 _ 131 (0, 0) _ (setRow_heap w1 g _ _ 131 (0, 0) hg1), setRow_setRow, setCell_eq_setRow _ g 2 _ 131 (0, 0) _ (setRow_heap w1 g _ _ 131 (0, 0) hg1), setRow_setRow]
    congr 1
    apply Array.ext'
    simp
  rw [e0] at h1
  have e2 : w2.heap[g]? = some (.cells ((((splice cur 3 (flat3 (L.take p))).set 0 (.int .i64 k)).set 1 (.int .i64 v.t)).set 2 v.sl).toArray 131 (0, 0)) := by
    rw [h1]; exact setRow_heap w1 g _ _ 131 (0, 0) hg1
  have eo : ∀ j, j ≠ g → w2.heap[j]? = w1.heap[j]? := fun j hj => by rw [h1]; exact setRow_other w1 g j _ hj
  refine ⟨⟨?_, ?_, Or.inr ⟨g, cp, _, rfl, Nat.zero_le _, e2, hcp, hcm, ?_, ?_⟩⟩, ?_⟩
  · rw [eo c (fun e => hne e.symm), hk.block c (by show c < (w.alloc _).heap.size; simp; omega) (fun e => hne e.symm)]
    exact (Below.heap_alloc w _ c hc).trans hb
  · rw [flat3_length, touch_length L p (k, v) hp]
  · rw [List.size_toArray, t2, hsz]
  · exact t1
  · refine ⟨h2.trans hk.os, h3.trans hk.tape, h4.trans hk.output, ?_, ?_⟩
    · have := hk.size
      have q : ((w.alloc (Obj.cells #[.int .i64 k, .int .i64 v.t, v.sl] 131)).drew).heap.size = w.heap.size + 1 := by show (w.alloc _).heap.size = _; simp
      rw [h1]; simp; omega
    · intro j hj hn
      rw [eo j hn, hk.block j (by show j < (w.alloc _).heap.size; simp; omega) hn]
      exact Below.heap_alloc w _ j hj

theorem CacheAt3.keep {w w' : World} {c : Nat} {cap : Int} {v : Value} {n : Nat} {xs : List Value} {S : Nat → Prop} (h : CacheAt3 w c cap v n xs) (hk : Kept S w w') (hS : ∀ j, Foot c v j → ¬ S j) : CacheAt3 w' c cap v n xs :=
  ⟨by rw [hk.block c (heap_lt h.1) (hS c (Or.inl rfl))]; exact h.1, owns_block h.2 (fun g hg => hk.block g (owns_lt h.2 g hg) (hS g (Or.inr hg)))⟩

theorem CacheAt3.lt {w : World} {c : Nat} {cap : Int} {v : Value} {n : Nat} {xs : List Value} (h : CacheAt3 w c cap v n xs) : ∀ j, Foot c v j → j < w.heap.size := by
  intro j hj
  rcases hj with rfl | hj
  · exact heap_lt h.1
  · exact owns_lt h.2 j hj
end Go.Proofs.YtlfmfhmbkpnjbaaGreatDoor
