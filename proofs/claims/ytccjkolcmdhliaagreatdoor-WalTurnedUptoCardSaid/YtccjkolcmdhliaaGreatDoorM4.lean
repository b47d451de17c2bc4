/- The library's calls that the log makes, by the shelf's contracts, at this program's numbers. -/
import Derived.Shelf.Strconv.Itoa3
import Derived.Shelf.Strconv.AtoiAll
import Derived.Shelf.Strconv.ErrVarAll
import Derived.Shelf.Strings.Prefix
import Derived.Shelf.Strings.Repeat
import Derived.Shelf.LaysM
import Derived.Shelf.LaysC
import Derived.Test.YtccjkolcmdhliaaGreatDoorProg
import Derived.Test.YtccjkolcmdhliaaGreatDoorM3
import Derived.Lib.ItoaMem
import Derived.Lib.AppendIntMem
import Derived.WalkSmall
import Derived.Test.YtccjkolcmdhliaaGreatDoorM2
import Derived.Deep.RegionHeld3
import Derived.Deep.DeepCutAuto
import Derived.Laws.OwnMore
import Derived.StillTailTactics
import Derived.Deep.RegionLaw
import Derived.Deep.AppendLies
import Derived.Lib.AtoiAllCases
namespace Go.Proofs.YtccjkolcmdhliaaGreatDoor
open Go.Shelf Go.Proofs
def Tryz.laysM171_ren : Go.Shelf.Ren := ⟨fun | 171 => 77 | 243 => 113 | 246 => 143 | 283 => 165 | 284 => 166 | 285 => 167 | 286 => 168 | 129 => 190 | 317 => 193 | 318 => 194 | 319 => 195 | 320 => 196 | 337 => 213 | 338 => 214 | n => n, fun | 3 => 3 | 9 => 9 | 2 => 2 | 4 => 4 | 171 => 222 | 0 => 0 | 53 => 143 | 37 => 63 | 5 => 5 | 173 => 225 | 212 => 247 | 51 => 161 | 20 => 20 | 213 => 248 | 46 => 165 | 232 => 275 | 233 => 276 | n => n, fun | 17 => 0 | 18 => 4 | 19 => 5 | n => n⟩
theorem Tryz.laysM171 : Go.Proofs.LaysM.n171 Tryz.prog Tryz.laysM171_ren := {
  mixed := by kernel_rfl
  f129 := Tryz.func190.trans (congrArg some (by kernel_rfl))
  f171 := Tryz.func77.trans (congrArg some (by kernel_rfl))
  f243 := Tryz.func113.trans (congrArg some (by kernel_rfl))
  f246 := Tryz.func143.trans (congrArg some (by kernel_rfl))
  f283 := Tryz.func165.trans (congrArg some (by kernel_rfl))
  f284 := Tryz.func166.trans (congrArg some (by kernel_rfl))
  f285 := Tryz.func167.trans (congrArg some (by kernel_rfl))
  f286 := Tryz.func168.trans (congrArg some (by kernel_rfl))
  f317 := Tryz.func193.trans (congrArg some (by kernel_rfl))
  f318 := Tryz.func194.trans (congrArg some (by kernel_rfl))
  f319 := Tryz.func195.trans (congrArg some (by kernel_rfl))
  f320 := Tryz.func196.trans (congrArg some (by kernel_rfl))
  f337 := Tryz.func213.trans (congrArg some (by kernel_rfl))
  f338 := Tryz.func214.trans (congrArg some (by kernel_rfl))
  t0 := Tryz.underlying0
  a0 := Tryz.isAgg0
  z0 := Tryz.sizeOf0
  v0 := Tryz.zeroValue0
  t2 := Tryz.underlying2
  a2 := Tryz.isAgg2
  z2 := Tryz.sizeOf2
  v2 := Tryz.zeroValue2
  t3 := Tryz.underlying3
  a3 := Tryz.isAgg3
  z3 := Tryz.sizeOf3
  v3 := Tryz.zeroValue3
  t4 := Tryz.underlying4
  a4 := Tryz.isAgg4
  z4 := Tryz.sizeOf4
  v4 := Tryz.zeroValue4
  t5 := Tryz.underlying5
  a5 := Tryz.isAgg5
  z5 := Tryz.sizeOf5
  v5 := Tryz.zeroValue5
  t9 := Tryz.underlying9
  a9 := Tryz.isAgg9
  z9 := Tryz.sizeOf9
  v9 := Tryz.zeroValue9
  t20 := Tryz.underlying20
  a20 := Tryz.isAgg20
  z20 := Tryz.sizeOf20
  v20 := Tryz.zeroValue20
  t37 := Tryz.underlying63
  a37 := Tryz.isAgg63
  z37 := Tryz.sizeOf63
  v37 := Tryz.zeroValue63
  t46 := Tryz.underlying165
  a46 := Tryz.isAgg165
  z46 := Tryz.sizeOf165
  v46 := Tryz.zeroValue165
  t51 := Tryz.underlying161
  a51 := Tryz.isAgg161
  z51 := Tryz.sizeOf161
  v51 := Tryz.zeroValue161
  t53 := Tryz.underlying143
  a53 := Tryz.isAgg143
  z53 := Tryz.sizeOf143
  v53 := Tryz.zeroValue143
  t171 := Tryz.underlying222
  a171 := Tryz.isAgg222
  z171 := Tryz.sizeOf222
  v171 := Tryz.zeroValue222
  t173 := Tryz.underlying225
  a173 := Tryz.isAgg225
  z173 := Tryz.sizeOf225
  v173 := Tryz.zeroValue225
  t212 := Tryz.underlying247
  a212 := Tryz.isAgg247
  z212 := Tryz.sizeOf247
  v212 := Tryz.zeroValue247
  t213 := Tryz.underlying248
  a213 := Tryz.isAgg248
  z213 := Tryz.sizeOf248
  t232 := Tryz.underlying275
  a232 := Tryz.isAgg275
  z232 := Tryz.sizeOf275
  v232 := Tryz.zeroValue275
  t233 := Tryz.underlying276
  a233 := Tryz.isAgg276
  z233 := Tryz.sizeOf276
  v233 := Tryz.zeroValue276
  g17 := by kernel_rfl
  g18 := by kernel_rfl
  g19 := by kernel_rfl
  i0 := by kernel_rfl
  i2 := by kernel_rfl
  i3 := by kernel_rfl
  i4 := by kernel_rfl
  i5 := by kernel_rfl
  i9 := by kernel_rfl
  i20 := by kernel_rfl
  i37 := by kernel_rfl
  i46 := by kernel_rfl
  i51 := by kernel_rfl
  i53 := by kernel_rfl
  i171 := by kernel_rfl
  i173 := by kernel_rfl
  i212 := by kernel_rfl
  i232 := by kernel_rfl
  i233 := by kernel_rfl
  m17 := by kernel_rfl
  m18 := by kernel_rfl
  m19 := by kernel_rfl }
open Go.RowKit Go.Sort Go.Lib in
/-- strconv.Itoa: "Itoa is equivalent to FormatInt(int64(i), 10).": i's DECIMAL NUMERAL ('Lib.itoa': a '-' where i is negative, then the digits), FOR EVERY int. The world behind the call: the world before it, new blocks behind the heap (the library's 'var a [24]byte'), draws. (LAID: no walk: one application.) -/
theorem Tryz.strconv_Itoa (n : Int) (h0 : -9223372036854775808 ≤ n) (h1 : n ≤ 9223372036854775807) (w : World) (htab : Lib.TabIs Tryz.prog w "internal/strconv.uint64pow10" .u64 Lib.pow10Tab) :
    Calls Tryz.prog 77 #[.int .i64 n] w fun e w' => e = .returned (.string ⟨(Lib.itoa n).toArray⟩) ∧ ∃ k os, w' = grow (w.drewN k) os := Any.strconv_Itoa Tryz.laysM171 n h0 h1 w htab
def Tryz.laysC172_ren : Go.Shelf.Ren := ⟨fun | 172 => 126 | 244 => 149 | 245 => 150 | 247 => 171 | 279 => 172 | 280 => 173 | 281 => 174 | 282 => 175 | 287 => 197 | 316 => 198 | 171 => 77 | 205 => 199 | 321 => 215 | 322 => 216 | 243 => 113 | 246 => 143 | 283 => 165 | 284 => 166 | 285 => 167 | 286 => 168 | 129 => 190 | 317 => 193 | 318 => 194 | 319 => 195 | 320 => 196 | 337 => 213 | 338 => 214 | n => n, fun | 9 => 9 | 3 => 3 | 75 => 173 | 76 => 174 | 4 => 4 | 5 => 5 | 167 => 230 | 37 => 63 | 0 => 0 | 85 => 231 | 2 => 2 | 168 => 233 | 53 => 143 | 175 => 250 | 46 => 165 | 210 => 254 | 127 => 211 | 145 => 268 | 143 => 266 | 21 => 21 | 171 => 222 | 173 => 225 | 212 => 247 | 51 => 161 | 20 => 20 | 213 => 248 | 232 => 275 | 233 => 276 | 80 => 176 | n => n, fun | 15 => 2 | 16 => 3 | 17 => 0 | 18 => 4 | 19 => 5 | n => n⟩
theorem Tryz.laysC172 : Go.Proofs.LaysC.n172 Tryz.prog Tryz.laysC172_ren := {
  mixed := by kernel_rfl
  f129 := Tryz.func190.trans (congrArg some (by kernel_rfl))
  f171 := Tryz.func77.trans (congrArg some (by kernel_rfl))
  f172 := Tryz.func126.trans (congrArg some (by kernel_rfl))
  f205 := Tryz.func199.trans (congrArg some (by kernel_rfl))
  f243 := Tryz.func113.trans (congrArg some (by kernel_rfl))
  f244 := Tryz.func149.trans (congrArg some (by kernel_rfl))
  f245 := Tryz.func150.trans (congrArg some (by kernel_rfl))
  f246 := Tryz.func143.trans (congrArg some (by kernel_rfl))
  f247 := Tryz.func171.trans (congrArg some (by kernel_rfl))
  f279 := Tryz.func172.trans (congrArg some (by kernel_rfl))
  f280 := Tryz.func173.trans (congrArg some (by kernel_rfl))
  f281 := Tryz.func174.trans (congrArg some (by kernel_rfl))
  f282 := Tryz.func175.trans (congrArg some (by kernel_rfl))
  f283 := Tryz.func165.trans (congrArg some (by kernel_rfl))
  f284 := Tryz.func166.trans (congrArg some (by kernel_rfl))
  f285 := Tryz.func167.trans (congrArg some (by kernel_rfl))
  f286 := Tryz.func168.trans (congrArg some (by kernel_rfl))
  f287 := Tryz.func197.trans (congrArg some (by kernel_rfl))
  f316 := Tryz.func198.trans (congrArg some (by kernel_rfl))
  f317 := Tryz.func193.trans (congrArg some (by kernel_rfl))
  f318 := Tryz.func194.trans (congrArg some (by kernel_rfl))
  f319 := Tryz.func195.trans (congrArg some (by kernel_rfl))
  f320 := Tryz.func196.trans (congrArg some (by kernel_rfl))
  f321 := Tryz.func215.trans (congrArg some (by kernel_rfl))
  f322 := Tryz.func216.trans (congrArg some (by kernel_rfl))
  f337 := Tryz.func213.trans (congrArg some (by kernel_rfl))
  f338 := Tryz.func214.trans (congrArg some (by kernel_rfl))
  t0 := Tryz.underlying0
  a0 := Tryz.isAgg0
  z0 := Tryz.sizeOf0
  v0 := Tryz.zeroValue0
  t2 := Tryz.underlying2
  a2 := Tryz.isAgg2
  z2 := Tryz.sizeOf2
  v2 := Tryz.zeroValue2
  t3 := Tryz.underlying3
  a3 := Tryz.isAgg3
  z3 := Tryz.sizeOf3
  v3 := Tryz.zeroValue3
  t4 := Tryz.underlying4
  a4 := Tryz.isAgg4
  z4 := Tryz.sizeOf4
  v4 := Tryz.zeroValue4
  t5 := Tryz.underlying5
  a5 := Tryz.isAgg5
  z5 := Tryz.sizeOf5
  v5 := Tryz.zeroValue5
  t9 := Tryz.underlying9
  a9 := Tryz.isAgg9
  z9 := Tryz.sizeOf9
  v9 := Tryz.zeroValue9
  t20 := Tryz.underlying20
  a20 := Tryz.isAgg20
  z20 := Tryz.sizeOf20
  v20 := Tryz.zeroValue20
  t21 := Tryz.underlying21
  a21 := Tryz.isAgg21
  z21 := Tryz.sizeOf21
  v21 := Tryz.zeroValue21
  t37 := Tryz.underlying63
  a37 := Tryz.isAgg63
  z37 := Tryz.sizeOf63
  v37 := Tryz.zeroValue63
  t46 := Tryz.underlying165
  a46 := Tryz.isAgg165
  z46 := Tryz.sizeOf165
  v46 := Tryz.zeroValue165
  t51 := Tryz.underlying161
  a51 := Tryz.isAgg161
  z51 := Tryz.sizeOf161
  v51 := Tryz.zeroValue161
  t53 := Tryz.underlying143
  a53 := Tryz.isAgg143
  z53 := Tryz.sizeOf143
  v53 := Tryz.zeroValue143
  t75 := Tryz.underlying173
  a75 := Tryz.isAgg173
  z75 := Tryz.sizeOf173
  v75 := Tryz.zeroValue173
  t76 := Tryz.underlying174
  a76 := Tryz.isAgg174
  z76 := Tryz.sizeOf174
  v76 := Tryz.zeroValue174
  t85 := Tryz.underlying231
  a85 := Tryz.isAgg231
  z85 := Tryz.sizeOf231
  v85 := Tryz.zeroValue231
  t127 := Tryz.underlying211
  a127 := Tryz.isAgg211
  z127 := Tryz.sizeOf211
  v127 := Tryz.zeroValue211
  t143 := Tryz.underlying266
  a143 := Tryz.isAgg266
  z143 := Tryz.sizeOf266
  v143 := Tryz.zeroValue266
  t145 := Tryz.underlying268
  a145 := Tryz.isAgg268
  z145 := Tryz.sizeOf268
  v145 := Tryz.zeroValue268
  t167 := Tryz.underlying230
  a167 := Tryz.isAgg230
  z167 := Tryz.sizeOf230
  v167 := Tryz.zeroValue230
  t168 := Tryz.underlying233
  a168 := Tryz.isAgg233
  z168 := Tryz.sizeOf233
  v168 := Tryz.zeroValue233
  t171 := Tryz.underlying222
  a171 := Tryz.isAgg222
  z171 := Tryz.sizeOf222
  v171 := Tryz.zeroValue222
  t173 := Tryz.underlying225
  a173 := Tryz.isAgg225
  z173 := Tryz.sizeOf225
  v173 := Tryz.zeroValue225
  t175 := Tryz.underlying250
  a175 := Tryz.isAgg250
  z175 := Tryz.sizeOf250
  v175 := Tryz.zeroValue250
  t210 := Tryz.underlying254
  a210 := Tryz.isAgg254
  z210 := Tryz.sizeOf254
  v210 := Tryz.zeroValue254
  t212 := Tryz.underlying247
  a212 := Tryz.isAgg247
  z212 := Tryz.sizeOf247
  v212 := Tryz.zeroValue247
  t213 := Tryz.underlying248
  a213 := Tryz.isAgg248
  z213 := Tryz.sizeOf248
  t232 := Tryz.underlying275
  a232 := Tryz.isAgg275
  z232 := Tryz.sizeOf275
  v232 := Tryz.zeroValue275
  t233 := Tryz.underlying276
  a233 := Tryz.isAgg276
  z233 := Tryz.sizeOf276
  v233 := Tryz.zeroValue276
  g15 := by kernel_rfl
  g16 := by kernel_rfl
  g17 := by kernel_rfl
  g18 := by kernel_rfl
  g19 := by kernel_rfl
  t80 := Tryz.underlying176
  a80 := Tryz.isAgg176
  z80 := Tryz.sizeOf176
  v80 := Tryz.zeroValue176
  i0 := by kernel_rfl
  i2 := by kernel_rfl
  i3 := by kernel_rfl
  i4 := by kernel_rfl
  i5 := by kernel_rfl
  i9 := by kernel_rfl
  i20 := by kernel_rfl
  i21 := by kernel_rfl
  i37 := by kernel_rfl
  i46 := by kernel_rfl
  i51 := by kernel_rfl
  i53 := by kernel_rfl
  i75 := by kernel_rfl
  i76 := by kernel_rfl
  i80 := by kernel_rfl
  i85 := by kernel_rfl
  i127 := by kernel_rfl
  i143 := by kernel_rfl
  i145 := by kernel_rfl
  i167 := by kernel_rfl
  i168 := by kernel_rfl
  i171 := by kernel_rfl
  i173 := by kernel_rfl
  i175 := by kernel_rfl
  i210 := by kernel_rfl
  i212 := by kernel_rfl
  i232 := by kernel_rfl
  i233 := by kernel_rfl
  m15 := by kernel_rfl
  m16 := by kernel_rfl
  m17 := by kernel_rfl
  m18 := by kernel_rfl
  m19 := by kernel_rfl
  c0 := by kernel_rfl
  c2 := by kernel_rfl
  c3 := by kernel_rfl
  c4 := by kernel_rfl
  c5 := by kernel_rfl
  c9 := by kernel_rfl
  c20 := by kernel_rfl
  c21 := by kernel_rfl
  c37 := by kernel_rfl
  c46 := by kernel_rfl
  c51 := by kernel_rfl
  c53 := by kernel_rfl
  c75 := by kernel_rfl
  c76 := by kernel_rfl
  c80 := by kernel_rfl
  c85 := by kernel_rfl
  c127 := by kernel_rfl
  c143 := by kernel_rfl
  c145 := by kernel_rfl
  c167 := by kernel_rfl
  c168 := by kernel_rfl
  c171 := by kernel_rfl
  c173 := by kernel_rfl
  c175 := by kernel_rfl
  c210 := by kernel_rfl
  c212 := by kernel_rfl
  c213 := by kernel_rfl
  c232 := by kernel_rfl
  c233 := by kernel_rfl }
open Go.RowKit in
/-- strconv.Atoi, AT EVERY STRING THAT SPELLS AN int ('Lib.atoiAll .. = .ok v'; of whatever length: leading zeros count): v, AND NO ERROR. The world: as it was, or with the one new row that '[]byte(..)' lays. (LAID: no walk: one application.) -/
theorem Tryz.strconv_Atoi_ok (s : ByteArray) (hmax : s.size ≤ 9223372036854775806) (v : Int) (h : Lib.atoiAll s.data.toList = .ok v) (w : World) :
    Calls Tryz.prog 126 #[.string s] w fun e w' => e = .returned (.tuple #[.int .i64 v, .nilIface]) ∧ (w' = w ∨ ∃ t, w' = Lib.bytesWorld w 5 t) := Any.strconv_Atoi_ok Tryz.laysC172 s hmax v h w
open Go.RowKit in
theorem Tryz.strconv_Atoi_syntax_var (s : ByteArray) (hlim : s.size ≤ 281474976710656) (h : Lib.atoiAll s.data.toList = Lib.atoiAll []) (tp : TypeId) (p : Value) (w : World) (hvar : w.var? Tryz.prog "strconv.ErrSyntax" = some #[.iface tp p]) :
    Calls Tryz.prog 126 #[.string s] w fun e w' => ∃ N, e = .returned (.tuple #[.int .i64 0, .iface 233 (.pointer (some ⟨N, 0, none⟩))]) ∧ w.heap.size ≤ N ∧ w'.heap[N]? = some (.cells #[.string ⟨#[65, 116, 111, 105]⟩, .string s, .iface tp p] 254 (0, 0)) ∧ Below w.heap.size w w' := Any.strconv_Atoi_syntax_var Tryz.laysC172 s hlim (h.trans rfl) tp p w hvar
open Go.RowKit in
theorem Tryz.strconv_Atoi_range_var (s : ByteArray) (hlim : s.size ≤ 281474976710656) (h : Lib.atoiAll s.data.toList = .range) (tp : TypeId) (p : Value) (w : World) (hvar : w.var? Tryz.prog "strconv.ErrRange" = some #[.iface tp p]) :
    Calls Tryz.prog 126 #[.string s] w fun e w' => ∃ N, e = .returned (.tuple #[.int .i64 (Lib.atoiSat s.data.toList), .iface 233 (.pointer (some ⟨N, 0, none⟩))]) ∧ w.heap.size ≤ N ∧ w'.heap[N]? = some (.cells #[.string ⟨#[65, 116, 111, 105]⟩, .string s, .iface tp p] 254 (0, 0)) ∧ Below w.heap.size w w' := Any.strconv_Atoi_range_var Tryz.laysC172 s hlim h tp p w hvar
def Tryz.lays206_ren : Go.Shelf.Ren := ⟨fun | 206 => 146 | n => n, fun | 9 => 9 | 4 => 4 | 3 => 3 | n => n, fun | n => n⟩
theorem Tryz.lays206 : Go.Proofs.Lays.n206 Tryz.prog Tryz.lays206_ren := {
  mixed := by kernel_rfl
  f206 := Tryz.func146.trans (congrArg some (by kernel_rfl))
  t3 := Tryz.underlying3
  a3 := Tryz.isAgg3
  z3 := Tryz.sizeOf3
  v3 := Tryz.zeroValue3
  t4 := Tryz.underlying4
  a4 := Tryz.isAgg4
  z4 := Tryz.sizeOf4
  v4 := Tryz.zeroValue4
  t9 := Tryz.underlying9
  a9 := Tryz.isAgg9
  z9 := Tryz.sizeOf9
  v9 := Tryz.zeroValue9 }
open Go.RowKit Go.Lib in
/-- internal/stringslite.HasPrefix (what strings.HasPrefix calls). (LAID: no walk: one application.) -/
theorem Tryz.stringslite_HasPrefix (s p : ByteArray) (w : World) :
    Calls Tryz.prog 146 #[.string s, .string p] w fun e w' => e = .returned (.bool (Lib.hasPrefix s.data.toList p.data.toList)) ∧ w' = w := Any.stringslite_HasPrefix Tryz.lays206 s p w
def Tryz.lays101_ren : Go.Shelf.Ren := ⟨fun | 101 => 154 | 208 => 177 | 206 => 146 | n => n, fun | 9 => 9 | 4 => 4 | 3 => 3 | n => n, fun | n => n⟩
theorem Tryz.lays101 : Go.Proofs.Lays.n101 Tryz.prog Tryz.lays101_ren := {
  mixed := by kernel_rfl
  f101 := Tryz.func154.trans (congrArg some (by kernel_rfl))
  f206 := Tryz.func146.trans (congrArg some (by kernel_rfl))
  f208 := Tryz.func177.trans (congrArg some (by kernel_rfl))
  t3 := Tryz.underlying3
  a3 := Tryz.isAgg3
  z3 := Tryz.sizeOf3
  v3 := Tryz.zeroValue3
  t4 := Tryz.underlying4
  a4 := Tryz.isAgg4
  z4 := Tryz.sizeOf4
  v4 := Tryz.zeroValue4
  t9 := Tryz.underlying9
  a9 := Tryz.isAgg9
  z9 := Tryz.sizeOf9
  v9 := Tryz.zeroValue9 }
open Go.RowKit Go.Lib in
/-- strings.TrimPrefix: "TrimPrefix returns s without the provided leading prefix string. If s doesn't start with prefix, s is returned unchanged.": IT RETURNS 'Lib.trimPrefix s prefix'; the world is as it was. (LAID: no walk: one application.) -/
theorem Tryz.strings_TrimPrefix (s p : ByteArray) (w : World) :
    Calls Tryz.prog 154 #[.string s, .string p] w fun e w' => e = .returned (.string ⟨(Lib.trimPrefix s.data.toList p.data.toList).toArray⟩) ∧ w' = w := Any.strings_TrimPrefix Tryz.lays101 s p w
def Tryz.lays105_ren : Go.Shelf.Ren := ⟨fun | 105 => 78 | 212 => 114 | 99 => 115 | 165 => 116 | 166 => 117 | 170 => 118 | 169 => 119 | 263 => 144 | 264 => 145 | 206 => 146 | 240 => 147 | 241 => 148 | 276 => 169 | 277 => 170 | n => n, fun | 9 => 9 | 3 => 3 | 4 => 4 | 20 => 20 | 0 => 0 | 46 => 165 | 109 => 166 | 5 => 5 | 72 => 171 | 76 => 174 | 51 => 161 | 146 => 207 | 53 => 143 | 148 => 209 | 70 => 169 | 37 => 63 | 75 => 173 | 127 => 211 | 164 => 227 | 80 => 176 | n => n, fun | n => n⟩
theorem Tryz.lays105 : Go.Proofs.Lays.n105 Tryz.prog Tryz.lays105_ren := {
  mixed := by kernel_rfl
  f99 := Tryz.func115.trans (congrArg some (by kernel_rfl))
  f105 := Tryz.func78.trans (congrArg some (by kernel_rfl))
  f165 := Tryz.func116.trans (congrArg some (by kernel_rfl))
  f166 := Tryz.func117.trans (congrArg some (by kernel_rfl))
  f169 := Tryz.func119.trans (congrArg some (by kernel_rfl))
  f170 := Tryz.func118.trans (congrArg some (by kernel_rfl))
  f206 := Tryz.func146.trans (congrArg some (by kernel_rfl))
  f212 := Tryz.func114.trans (congrArg some (by kernel_rfl))
  f240 := Tryz.func147.trans (congrArg some (by kernel_rfl))
  f241 := Tryz.func148.trans (congrArg some (by kernel_rfl))
  f263 := Tryz.func144.trans (congrArg some (by kernel_rfl))
  f264 := Tryz.func145.trans (congrArg some (by kernel_rfl))
  f276 := Tryz.func169.trans (congrArg some (by kernel_rfl))
  f277 := Tryz.func170.trans (congrArg some (by kernel_rfl))
  t0 := Tryz.underlying0
  a0 := Tryz.isAgg0
  z0 := Tryz.sizeOf0
  v0 := Tryz.zeroValue0
  t3 := Tryz.underlying3
  a3 := Tryz.isAgg3
  z3 := Tryz.sizeOf3
  v3 := Tryz.zeroValue3
  t4 := Tryz.underlying4
  a4 := Tryz.isAgg4
  z4 := Tryz.sizeOf4
  v4 := Tryz.zeroValue4
  t5 := Tryz.underlying5
  a5 := Tryz.isAgg5
  z5 := Tryz.sizeOf5
  v5 := Tryz.zeroValue5
  t9 := Tryz.underlying9
  a9 := Tryz.isAgg9
  z9 := Tryz.sizeOf9
  v9 := Tryz.zeroValue9
  t20 := Tryz.underlying20
  a20 := Tryz.isAgg20
  z20 := Tryz.sizeOf20
  v20 := Tryz.zeroValue20
  t37 := Tryz.underlying63
  a37 := Tryz.isAgg63
  z37 := Tryz.sizeOf63
  v37 := Tryz.zeroValue63
  t46 := Tryz.underlying165
  a46 := Tryz.isAgg165
  z46 := Tryz.sizeOf165
  v46 := Tryz.zeroValue165
  t51 := Tryz.underlying161
  a51 := Tryz.isAgg161
  z51 := Tryz.sizeOf161
  v51 := Tryz.zeroValue161
  t53 := Tryz.underlying143
  a53 := Tryz.isAgg143
  z53 := Tryz.sizeOf143
  v53 := Tryz.zeroValue143
  t70 := Tryz.underlying169
  a70 := Tryz.isAgg169
  z70 := Tryz.sizeOf169
  v70 := Tryz.zeroValue169
  t72 := Tryz.underlying171
  a72 := Tryz.isAgg171
  z72 := Tryz.sizeOf171
  v72 := Tryz.zeroValue171
  t75 := Tryz.underlying173
  a75 := Tryz.isAgg173
  z75 := Tryz.sizeOf173
  v75 := Tryz.zeroValue173
  t76 := Tryz.underlying174
  a76 := Tryz.isAgg174
  z76 := Tryz.sizeOf174
  v76 := Tryz.zeroValue174
  t109 := Tryz.underlying166
  a109 := Tryz.isAgg166
  z109 := Tryz.sizeOf166
  v109 := Tryz.zeroValue166
  t127 := Tryz.underlying211
  a127 := Tryz.isAgg211
  z127 := Tryz.sizeOf211
  v127 := Tryz.zeroValue211
  t146 := Tryz.underlying207
  a146 := Tryz.isAgg207
  z146 := Tryz.sizeOf207
  v146 := Tryz.zeroValue207
  t148 := Tryz.underlying209
  a148 := Tryz.isAgg209
  z148 := Tryz.sizeOf209
  v148 := Tryz.zeroValue209
  t164 := Tryz.underlying227
  a164 := Tryz.isAgg227
  z164 := Tryz.sizeOf227
  v164 := Tryz.zeroValue227 }
theorem Tryz.Builder_Extra_105 : Builder.Extra Tryz.prog Tryz.lays105_ren := {
  sizeBuilder := by kernel_rfl
  liesBuilder := by kernel_rfl
  t5 := Tryz.underlying5
  a5 := Tryz.isAgg5
  z5 := Tryz.sizeOf5
  v5 := Tryz.zeroValue5
  infoByte := by kernel_rfl
  cellsByte := by kernel_rfl
  sizeByte := by kernel_rfl
  neB5 := by decide }
open Go.RowKit Go.Lib in
/-- **strings.Repeat: count ≥ 0, the result within one allocation: count copies of s.** (LAID: no walk: one application.) -/
theorem Tryz.strings_Repeat (s : ByteArray) (c : Nat) (w : World) (hc : c ≤ 9223372036854775807) (hlen : s.size * c ≤ 140737488355328) :
    Calls Tryz.prog 78 #[.string s, .int .i64 c] w fun e w' => e = .returned (.string ⟨(Lib.repeatL s.data.toList c).toArray⟩) ∧ Below w.heap.size w w' := Any.strings_Repeat Tryz.lays105 Tryz.Builder_Extra_105 s c w hc hlen
end Go.Proofs.YtccjkolcmdhliaaGreatDoor
/- The log's names and records: the variables of the library that they read; Name, Record. -/
namespace Go.Proofs.YtccjkolcmdhliaaGreatDoor
open Go.RowKit Go.Maps
set_option linter.unusedVariables false

/-- The library's own variables, as the program's text lays them. -/
structure Vr (w : World) : Prop where
  tab : Lib.TabIs Tryz.prog w "internal/strconv.uint64pow10" .u64 Lib.pow10Tab
  syn : ∃ tp p, w.var? Tryz.prog "strconv.ErrSyntax" = some #[.iface tp p]
  rng : ∃ tp p, w.var? Tryz.prog "strconv.ErrRange" = some #[.iface tp p]
theorem gTab : Tryz.prog.globalNamed "internal/strconv.uint64pow10" = some 0 := by kernel_rfl
theorem gSyn : Tryz.prog.globalNamed "strconv.ErrSyntax" = some 2 := by kernel_rfl
theorem gRng : Tryz.prog.globalNamed "strconv.ErrRange" = some 3 := by kernel_rfl
theorem var_of {w w' : World} {n : String} {g : Nat} {cs : Array Value} (hg : Tryz.prog.globalNamed n = some g) (hk : w'.heap[g]? = w.heap[g]?) (hv : w.var? Tryz.prog n = some cs) : w'.var? Tryz.prog n = some cs := by
  unfold World.var? at hv ⊢
  simp only [hg, Option.bind_some] at hv ⊢
  rw [hk]; exact hv
theorem var_lt {w : World} {n : String} {g : Nat} {cs : Array Value} (hg : Tryz.prog.globalNamed n = some g) (hv : w.var? Tryz.prog n = some cs) : g < w.heap.size := by
  unfold World.var? at hv
  simp only [hg, Option.bind_some] at hv
  rcases Nat.lt_or_ge g w.heap.size with h | h
  · exact h
  · rw [Array.getElem?_eq_none h] at hv; cases hv
theorem Vr.of {w w' : World} (h : Vr w) (hk : ∀ k, k < 4 → w'.heap[k]? = w.heap[k]?) : Vr w' := by
  obtain ⟨t1, p1, h1⟩ := h.syn
  obtain ⟨t2, p2, h2⟩ := h.rng
  exact ⟨var_of gTab (hk 0 (by omega)) h.tab, ⟨t1, p1, var_of gSyn (hk 2 (by omega)) h1⟩, ⟨t2, p2, var_of gRng (hk 3 (by omega)) h2⟩⟩
theorem Vr.lt {w : World} (h : Vr w) : 4 ≤ w.heap.size := by
  obtain ⟨t2, p2, h2⟩ := h.rng
  have := var_lt gRng h2
  omega
/-- What lies from block B on is not theirs. -/
theorem Vr.below {w w' : World} {B : Nat} (h : Vr w) (hB : 4 ≤ B) (hb : Below B w w') : Vr w' := h.of fun k hk => hb.block k (by omega)
theorem Vr.keep {w w' : World} (h : Vr w) (hb : Fr No w w') : Vr w' := h.of fun k hk => hb.block k (by have := h.lt; omega) id

/-! ### Name -/
theorem itoa_any (n : Int) (w : World) (hv : Vr w) (h0 : -9223372036854775808 ≤ n) (h1 : n ≤ 9223372036854775807) :
    Calls Tryz.prog 77 #[.int .i64 n] w fun e w' => e = .returned (sv (Lib.itoa n)) ∧ Fr No w w' := by
  refine (Tryz.strconv_Itoa n h0 h1 w hv.tab).mono ?_
  rintro e w' ⟨rfl, k, os, rfl⟩
  exact ⟨rfl, Fr.of_below (Lib.below_grow _ w (Nat.le_refl _) k os)⟩
theorem repeat_any (l : List UInt8) (c : Nat) (w : World) (hc : c ≤ 100) (hl : l.length ≤ 100) :
    Calls Tryz.prog 78 #[sv l, .int .i64 c] w fun e w' => e = .returned (sv (Lib.repeatL l c)) ∧ Fr No w w' := by
  have hm : l.length * c ≤ 100 * 100 := Nat.mul_le_mul hl hc
  refine (Tryz.strings_Repeat ⟨l.toArray⟩ c w (by omega) (by rw [sz]; omega)).mono ?_
  rintro e w' ⟨rfl, hb⟩
  exact ⟨rfl, Fr.of_below hb⟩
theorem nDigits_le : ∀ (k u : Nat), u < 10 ^ (k + 1) → Lib.nDigits u ≤ k + 1
  | 0, u, h => by rw [Lib.nDigits_small (by simpa using h)]; omega
  | k + 1, u, h => by
    by_cases h10 : u < 10
    · rw [Lib.nDigits_small h10]; omega
    · rw [Lib.nDigits_big h10]
      have := nDigits_le k (u / 10) (by rw [Nat.div_lt_iff_lt_mul (by omega)]; rw [Nat.pow_succ] at h; exact h)
      omega
theorem digits8 {n : Int} (h0 : 1 ≤ n) (h1 : n ≤ 99999999) : (Lib.itoa n).length ≤ 8 := by
  unfold Lib.itoa
  rw [if_neg (by omega), Lib.decDigits_length]
  exact nDigits_le 7 n.toNat (by omega)
def nameW (n : Int) : List UInt8 := if n < 1 ∨ 99999999 < n then [] else [119, 97, 108, 45] ++ Lib.repeatL [48] (8 - (Lib.itoa n).length) ++ Lib.itoa n
set_option maxHeartbeats 1000000 in
theorem name_any (n : Int) (w : World) (hv : Vr w) (h0 : -9223372036854775808 ≤ n) (h1 : n ≤ 9223372036854775807) :
    Calls Tryz.prog 28 #[.int .i64 n] w fun e w' => e = .returned (sv (nameW n)) ∧ Fr No w w' := by
  by_cases hlo : n < 1
  · have HV : Hid (nameW n = []) := Lib.hid (by unfold nameW; rw [if_pos (.inl hlo)])
    have hlt : decide (n < 1) = true := by simpa using hlo
    go_enter Tryz.func28, Tryz.ntmps28
    go_wp2
    go_ret
    exact ⟨by rw [HV.out]; rfl, Fr.refl _ _⟩
  · have hge : 1 ≤ n := by omega
    have hlt : decide (n < 1) = false := by simpa using hge
    by_cases hhi : 99999999 < n
    · have HV : Hid (nameW n = []) := Lib.hid (by unfold nameW; rw [if_pos (.inr hhi)])
      have hgt : decide (99999999 < n) = true := by simpa using hhi
      go_enter Tryz.func28, Tryz.ntmps28
      go_wp2
      go_ret
      exact ⟨by rw [HV.out]; rfl, Fr.refl _ _⟩
    · have hle : n ≤ 99999999 := by omega
      have hgt : decide (99999999 < n) = false := by simpa using hle
      have HV : Hid (nameW n = ([119, 97, 108, 45] ++ Lib.repeatL [48] (8 - (Lib.itoa n).length)) ++ Lib.itoa n) := Lib.hid (by unfold nameW; rw [if_neg (by omega)])
      have hd := digits8 hge hle
      have HI := Lib.hid (itoa_any n w hv h0 h1)
      obtain ⟨l, hl⟩ : ∃ l, Lib.itoa n = l := ⟨_, rfl⟩
      rw [hl] at HI hd HV
      have HRl : Hid (∀ c, (Lib.repeatL [48] c).length = c) := Lib.hid fun c => by rw [Lib.repeatL_length]; simp
      clear hl hv
      go_enter Tryz.func28, Tryz.ntmps28
      go_wp2_with fail
      refine HI.out.mono ?_
      rintro e w1 ⟨rfl, f1⟩
      have F1 := Lib.hid f1
      clear f1
      obtain ⟨c, hc⟩ : ∃ c : Nat, 8 - l.length = c := ⟨_, rfl⟩
      have e8 : (8 : Int) - (l.length : Int) = (c : Int) := by omega
      have e8' : IntKind.i64.wrap (8 - (l.length : Int)) = (c : Int) := by rw [e8]; exact IntWalk.i64_in _ (by omega)
      have HR := Lib.hid (repeat_any [48] c w1 (by omega) (by simp))
      obtain ⟨z, hz⟩ : ∃ z, Lib.repeatL [48] c = z := ⟨_, rfl⟩
      have hzl : z.length = c := by rw [← hz]; exact HRl.out c
      rw [hc, hz] at HV
      rw [hz] at HR
      have hzl8 : z.length ≤ 8 := by omega
      have q1 := fun w' => run_cat [119, 97, 108, 45] z (by simp; omega) w'
      have q2 := fun w' => run_cat ([119, 97, 108, 45] ++ z) l (by simp; omega) w'
      have Q1 := Lib.hid q1
      have Q2 := Lib.hid q2
      have HZ := Lib.hid hz
      have HZL := Lib.hid hzl
      have HC := Lib.hid hc
      clear hz hzl hc q1 q2
      go_wp2_with fail
      refine HR.out.mono ?_
      rintro e w2 ⟨rfl, f2⟩
      have F2 := Lib.hid f2
      clear f2 e8 e8'
      have q1 := Q1.out
      have q2 := Q2.out
      obtain ⟨y, hy⟩ : ∃ y, [119, 97, 108, 45] ++ z = y := ⟨_, rfl⟩
      rw [hy] at HV
      simp only [hy] at q1 q2
      obtain ⟨x, hx⟩ : ∃ x, y ++ l = x := ⟨_, rfl⟩
      rw [hx] at HV
      simp only [hx] at q2
      clear hy hx Q1 Q2
      go_wp2
      go_ret
      exact ⟨by rw [HV.out]; rfl, F1.out.trans F2.out fun _ _ h => h⟩
end Go.Proofs.YtccjkolcmdhliaaGreatDoor
/- The log: its state, how it lies in memory beside its disk; a record's bytes; state, said. -/
namespace Go.Proofs.YtccjkolcmdhliaaGreatDoor
open Go.RowKit Go.Maps
set_option linter.unusedVariables false

/-! ### Record -/
def body (seq : Int) (d : List UInt8) : List UInt8 := enc8 seq ++ (low d.length 4 ++ d)
def recB (seq : Int) (d : List UInt8) : List UInt8 × Int := if d.length ≤ 65524 then (frameR (body seq d), 0) else ([], 23)
theorem enc8_len (n : Int) : (enc8 n).length = 8 := by unfold enc8; rw [low_len]
theorem rec_done (seq : Int) (d : List UInt8) (hd : d.length ≤ 4294967295) :
    ((WS.zero.int seq).text d).fault = (if d.length ≤ 65524 then 0 else 23) ∧ ((WS.zero.int seq).text d).data = if d.length ≤ 65524 then body seq d else [] := by
  have e0 : WS.zero.int seq = ⟨enc8 seq, 0⟩ := by
    unfold WS.int WS.lay WS.zero
    rw [if_pos rfl, if_neg (by rw [enc8_len]; simp)]
    simp
  have e1 : (⟨enc8 seq, 0⟩ : WS).count (d.length : Int) = ⟨enc8 seq ++ low d.length 4, 0⟩ := by
    unfold WS.count
    rw [if_neg (by omega)]
    unfold WS.lay
    rw [if_pos rfl, if_neg (by rw [low_len]; simp only [enc8_len]; omega)]
    rw [Int.toNat_natCast]
  unfold WS.text
  rw [e0, e1]
  unfold WS.lay
  rw [if_pos rfl]
  simp only
  rw [List.length_append, enc8_len, low_len]
  by_cases h : d.length ≤ 65524
  · rw [if_neg (by omega), if_pos h, if_pos h]
    exact ⟨rfl, by unfold body; simp⟩
  · rw [if_pos (by omega), if_neg h, if_neg h]
    exact ⟨rfl, rfl⟩
theorem body_len (seq : Int) (d : List UInt8) : (body seq d).length = 12 + d.length := by
  unfold body
  rw [List.length_append, List.length_append, enc8_len, low_len]
  omega
theorem wl_all {v v' : Value} {w w0 w' : World} (h : WL (some w.heap.size) v w0 v' w') (hw : Below w.heap.size w w0) (hv : ∀ k, v.ownBlock = some k → w.heap.size ≤ k) : Below w.heap.size w w' ∧ ∀ k, v'.ownBlock = some k → w.heap.size ≤ k := by
  refine ⟨hw.trans (h.fr.below_of hw.size fun k hk => ?_), fun k hk => ?_⟩
  · rcases hk with e | e
    · rw [← Option.some.inj e]; exact Nat.le_refl _
    · exact hv k e
  · rcases h.own k hk with e | e
    · exact hv k e
    · have := hw.size; omega
set_option maxHeartbeats 1000000 in
theorem record_any (seq : Int) (d : List UInt8) (w : World) (hd : d.length ≤ 4294967295) :
    Calls Tryz.prog 26 #[.int .i64 seq, sv d] w fun e w' => e = .returned (.tuple #[sv (recB seq d).1, .int .i64 (recB seq d).2]) ∧ Fr No w w' := by
  obtain ⟨hf, hdt⟩ := rec_done seq d hd
  have hA := WAt.new w
  obtain ⟨w0, hw0⟩ : ∃ w0, w.alloc (.cells #[.slice none 0 0, .int .i64 0] 117) = w0 := ⟨_, rfl⟩
  have hb0 : Below w.heap.size w (w.alloc (.cells #[.slice none 0 0, .int .i64 0] 117)) := (Below.refl _ _).alloc (Nat.le_refl _) _
  rw [hw0] at hA hb0
  have hv0 : ∀ k, (Value.slice none 0 0).ownBlock = some k → w.heap.size ≤ k := by simp [Value.ownBlock]
  obtain ⟨g, hg⟩ : ∃ g, w.heap.size = g := ⟨_, rfl⟩
  have HA := Lib.hid hA
  have HB0 := Lib.hid hb0
  have HW0 := Lib.hid hw0
  have HG := Lib.hid hg
  have HF := Lib.hid hf
  have HDT := Lib.hid hdt
  have HMD : Hid (d.length ≤ maxLen) := Lib.hid (by unfold maxLen; omega)
  clear hA hb0 hw0 hf hdt hd
  rw [hg] at HA
  clear hg
  go_enter Tryz.func26, Tryz.ntmps26
  go_wp2_with fail
  rw [HW0.out, HG.out]
  have C1 := wint_any (some g) _ _ seq w0 HA.out
  rw [wpt_some] at C1
  refine C1.mono ?_
  clear C1
  rintro e w1 ⟨rfl, v1, h1, l1⟩
  have L1 := Lib.hid (wl_all (w := w) (by rw [HG.out]; exact l1) HB0.out hv0)
  have H1 := Lib.hid h1
  clear h1 l1
  go_wp2_with fail
  have C2 := wtext_any (some g) _ _ d w1 H1.out HMD.out
  rw [wpt_some] at C2
  refine C2.mono ?_
  clear C2
  rintro e w2 ⟨rfl, v2, h2, l2⟩
  have L2 := Lib.hid (wl_all (w := w) (by rw [HG.out]; exact l2) L1.out.1 L1.out.2)
  have H2 := Lib.hid h2
  clear h2 l2
  go_wp2_with fail
  have C3 := wdone_any (some g) _ _ w2 H2.out
  rw [wpt_some] at C3
  unfold WDone at C3
  rw [HF.out, HDT.out] at C3
  refine C3.mono ?_
  clear C3
  rintro e w3 ⟨rfl, f3⟩
  have L3 := Lib.hid (L2.out.1.trans (f3.below.mono L2.out.1.size))
  clear f3
  by_cases h : d.length ≤ 65524
  · rw [if_pos h, if_pos h]
    have HV : Hid (recB seq d = (frameR (body seq d), 0)) := Lib.hid (by unfold recB; rw [if_pos h])
    have hbl := body_len seq d
    have C4 := Lib.hid (frame_ok (body seq d) w3 (by omega))
    unfold Framed at C4
    rw [frameV_ok (by omega)] at C4
    obtain ⟨bd, hbd⟩ : ∃ bd, body seq d = bd := ⟨_, rfl⟩
    rw [hbd] at C4 HV ⊢
    clear hbd hbl h
    go_wp2_with fail
    refine C4.out.mono ?_
    rintro e w4 ⟨rfl, b4⟩
    have L4 := Lib.hid (L3.out.trans (b4.mono L3.out.size))
    clear b4
    go_wp2
    go_ret2
    exact ⟨by rw [HV.out]; rfl, Fr.of_below L4.out⟩
  · rw [if_neg h, if_neg h]
    have HV : Hid (recB seq d = ([], 23)) := Lib.hid (by unfold recB; rw [if_neg h])
    clear h
    go_wp2
    go_ret2
    exact ⟨by rw [HV.out]; rfl, Fr.of_below L3.out⟩

/-! ### the log -/
structure SegP where
  n : Int
  last : Int
def SegP.cells (s : SegP) : List Value := [.int .i64 s.n, .int .i64 s.last]
structure LS where
  fault : Int
  last : Int
  firm : Int
  files : List SegP
  size : Int
  bytes : Bool
  names : Bool
/-- The number of the last segment that there is. -/
def numOf (l : List SegP) : Int := match l.getLast? with | some s => s.n | none => 0
def LS.number (L : LS) : Int := numOf L.files
theorem numOf_snoc (fs : List SegP) (s : SegP) : numOf (fs ++ [s]) = s.n := by unfold numOf; simp
theorem numOf_nil : numOf [] = 0 := rfl
structure LS.Ok (N : Nat) (L : LS) : Prop where
  last : 0 ≤ L.last ∧ L.last ≤ 9223372036854775807
  firm : 0 ≤ L.firm ∧ L.firm ≤ 9223372036854775807
  number : 0 ≤ L.number ∧ L.number ≤ 100000000 + N
  size : 0 ≤ L.size ∧ L.size ≤ (N + 1) * 33554432
  files : L.files.length ≤ 64 + N
def LS.cells (L : LS) (d : Nat) (fv : Value) : Array Value :=
  #[.iface 25 (.pointer (some ⟨d, 0, none⟩)), .int .i64 L.fault, .int .i64 L.last, .int .i64 L.firm, fv, .int .i64 L.size, .bool L.bytes, .bool L.names]
structure LAt (w : World) (d g : Nat) (fv : Value) (L : LS) : Prop where
  blk : Blk w g 71 (L.cells d fv)
  row : w.ownsRow 0 102 2 fv L.files.length (L.files.flatMap SegP.cells)
/-- The blocks that aren't the disk's: the law's, and the log's. -/
def XL (X : Nat → Prop) (g : Nat) (fv : Value) (k : Nat) : Prop := X k ∨ k = g ∨ fv.ownBlock = some k
/-- A log on its disk, beside the law's own blocks X. -/
structure Lg (w : World) (X : Nat → Prop) (d g N : Nat) (S : AS) (L : LS) : Prop where
  vr : Vr w
  lo : ∀ k, k < 4 → X k
  log : ∃ fv, LAt w d g fv L ∧ Dk w (XL X g fv) d N S ∧ ¬ X g ∧ ∀ k, fv.ownBlock = some k → ¬ X k
  ok : L.Ok N
  big : N ≤ 1000000000
theorem LAt.of {w w' : World} {d g : Nat} {fv : Value} {L : LS} (h : LAt w d g fv L) (hk : ∀ k, (k = g ∨ fv.ownBlock = some k) → w'.heap[k]? = w.heap[k]?) : LAt w' d g fv L :=
  ⟨h.blk.of (hk g (.inl rfl)), own_of h.row fun k hb => hk k (.inr hb)⟩
theorem LAt.ne {w : World} {d g : Nat} {fv : Value} {L : LS} (h : LAt w d g fv L) : ∀ k, fv.ownBlock = some k → k ≠ g := fun k hk => own_blk_ne h.row hk h.blk (by decide)
theorem LAt.lt {w : World} {d g : Nat} {fv : Value} {L : LS} (h : LAt w d g fv L) : ∀ k, (k = g ∨ fv.ownBlock = some k) → k < w.heap.size := by
  rintro k (rfl | hk)
  · exact h.blk.lt
  · exact (h.row.lt k hk).2
theorem Vr.x {w w' : World} {X : Nat → Prop} (h : Vr w) (lo : ∀ k, k < 4 → X k) (hf : Fr (fun k => ¬ X k) w w') : Vr w' := h.of fun k hk => hf.block k (by have := h.lt; omega) fun hn => hn (lo k hk)
theorem Lg.keep {w w' : World} {X : Nat → Prop} {d g N : Nat} {S : AS} {L : LS} (h : Lg w X d g N S L) (hf : Fr No w w') : Lg w' X d g N S L := by
  obtain ⟨fv, h1, h2, h3, h4⟩ := h.log
  exact ⟨h.vr.keep hf, h.lo, ⟨fv, h1.of fun k hk => hf.block k (h1.lt k hk) id, h2.keep hf, h3, h4⟩, h.ok, h.big⟩
theorem Lg.more {w : World} {X : Nat → Prop} {d g N M : Nat} {S : AS} {L : LS} (h : Lg w X d g N S L) (hNM : N ≤ M) (hM : M ≤ 1000000000) : Lg w X d g M S L := by
  obtain ⟨fv, h1, h2, h3, h4⟩ := h.log
  exact ⟨h.vr, h.lo, ⟨fv, h1, h2.more hNM (by omega), h3, h4⟩, ⟨h.ok.last, h.ok.firm, by have := h.ok.number; omega, by
    have := h.ok.size
    have h2 : ((N : Int) + 1) * 33554432 ≤ ((M : Int) + 1) * 33554432 := by omega
    omega, by have := h.ok.files; omega⟩, hM⟩
/-- The disk has turned, and the log's own are as they were. -/
theorem Lg.disk {w w' : World} {X : Nat → Prop} {d g N M : Nat} {S S' : AS} {L : LS} {fv : Value} (h : Lg w X d g N S L) (hM : N ≤ M) (hM2 : M ≤ 1000000000) (hL : LAt w d g fv L) (h3 : ¬ X g) (h4 : ∀ k, fv.ownBlock = some k → ¬ X k) (hd : Dk w' (XL X g fv) d M S') (hf : Fr (fun k => ¬ XL X g fv k) w w') :
    Lg w' X d g M S' L ∧ Fr (fun k => ¬ X k) w w' := by
  have hx : Fr (fun k => ¬ X k) w w' := hf.mono fun k _ hk hx => hk (.inl hx)
  refine ⟨⟨h.vr.x h.lo hx, h.lo, ⟨fv, hL.of fun k hk => hf.block k (hL.lt k hk) fun hn => hn (.inr hk), hd, h3, h4⟩, ?_, hM2⟩, hx⟩
  exact ⟨h.ok.last, h.ok.firm, by have := h.ok.number; omega, by
    have := h.ok.size
    have h2 : ((N : Int) + 1) * 33554432 ≤ ((M : Int) + 1) * 33554432 := by omega
    omega, by have := h.ok.files; omega⟩
/-- The log's own block has turned. -/
theorem Lg.own {w w' : World} {X : Nat → Prop} {d g N : Nat} {S : AS} {L L' : LS} {fv : Value} (h : Lg w X d g N S L) (hL : LAt w d g fv L) (hd : Dk w (XL X g fv) d N S) (h3 : ¬ X g) (h4 : ∀ k, fv.ownBlock = some k → ¬ X k) (hf : Fr (One g) w w') (hb : Blk w' g 71 (L'.cells d fv)) (hfl : L'.files = L.files) (hok : L'.Ok N) :
    Lg w' X d g N S L' ∧ Fr (fun k => ¬ X k) w w' := by
  have hx : Fr (fun k => ¬ X k) w w' := hf.mono fun k _ hk hx => h3 (by have : k = g := hk; rw [← this]; exact hx)
  refine ⟨⟨h.vr.x h.lo hx, h.lo, ⟨fv, ⟨hb, ?_⟩, hd.side (hf.mono fun k _ hk => .inr (.inl hk)), h3, h4⟩, hok, h.big⟩, hx⟩
  rw [hfl]
  exact own_of hL.row fun k hk => hf.block k (hL.lt k (.inr hk)) fun e => hL.ne k hk e
end Go.Proofs.YtccjkolcmdhliaaGreatDoor
/- The log: state, said, syncBytes, settle, begin. -/
namespace Go.Proofs.YtccjkolcmdhliaaGreatDoor
open Go.RowKit Go.Maps
set_option linter.unusedVariables false

theorem Lg.cells {w : World} {X : Nat → Prop} {d g N : Nat} {S : AS} {L : LS} (h : Lg w X d g N S L) : ∃ fv, w.cell? ⟨g, 0, none⟩ = some (.iface 25 (.pointer (some ⟨d, 0, none⟩))) ∧ w.cell? ⟨g, 1, none⟩ = some (.int .i64 L.fault) ∧ w.cell? ⟨g, 2, none⟩ = some (.int .i64 L.last) ∧ w.cell? ⟨g, 3, none⟩ = some (.int .i64 L.firm) ∧ w.cell? ⟨g, 4, none⟩ = some fv ∧
    True ∧ w.cell? ⟨g, 5, none⟩ = some (.int .i64 L.size) ∧ w.cell? ⟨g, 6, none⟩ = some (.bool L.bytes) ∧ w.cell? ⟨g, 7, none⟩ = some (.bool L.names) := by
  obtain ⟨fv, h1, _⟩ := h.log
  exact ⟨fv, h1.blk.cell 0, h1.blk.cell 1, h1.blk.cell 2, h1.blk.cell 3, h1.blk.cell 4, trivial, h1.blk.cell 5, h1.blk.cell 6, h1.blk.cell 7⟩
theorem Lg.frozen {w : World} {X : Nat → Prop} {d g N : Nat} {S : AS} {L : LS} (h : Lg w X d g N S L) (i : Nat) : w.frozen? ⟨g, i, none⟩ = false := by
  obtain ⟨fv, h1, _⟩ := h.log
  exact h1.blk.frozen i
def gpt (g : Nat) : Value := .pointer (some ⟨g, 0, Option.none⟩)

set_option maxHeartbeats 400000 in
theorem state_any {w : World} {X : Nat → Prop} {d g N : Nat} {S : AS} {L : LS} (h : Lg w X d g N S L) : Calls Tryz.prog 57 #[gpt g] w fun e w' => e = .returned (.int .i64 L.fault) ∧ w = w' := by
  obtain ⟨fv, c0, c1, _⟩ := h.cells
  unfold gpt
  clear h
  go_enter Tryz.func57, Tryz.ntmps57
  go_wp2
  all_goals go_ret
  all_goals exact ⟨rfl, rfl⟩

/-! ### said -/
def LS.said (L : LS) (e : Int) : LS := if e ≠ 0 ∧ e ≠ 12 then { L with fault := e } else L
theorem said_same (L : LS) (e : Int) : (L.said e).files = L.files ∧ (L.said e).number = L.number ∧ (L.said e).size = L.size ∧ (L.said e).last = L.last ∧ (L.said e).firm = L.firm ∧ (L.said e).bytes = L.bytes ∧ (L.said e).names = L.names := by
  unfold LS.said; split <;> exact ⟨rfl, rfl, rfl, rfl, rfl, rfl, rfl⟩
theorem LS.Ok.said {N : Nat} {L : LS} (h : L.Ok N) (e : Int) : (L.said e).Ok N := by
  unfold LS.said; split
  · exact ⟨h.last, h.firm, h.number, h.size, h.files⟩
  · exact h
theorem said_zero (L : LS) : L.said 0 = L := by unfold LS.said; rw [if_neg (by simp)]
set_option maxHeartbeats 400000 in
theorem said_any {w : World} {X : Nat → Prop} {d g N : Nat} {S : AS} {L : LS} (h : Lg w X d g N S L) (n : Int) : Calls Tryz.prog 61 #[gpt g, .int .i64 n] w fun e w' => e = .returned (.int .i64 n) ∧ Lg w' X d g N S (L.said n) ∧ Fr (fun k => ¬ X k) w w' := by
  have H := Lib.hid h
  obtain ⟨fv, hL, hd, h3, h4⟩ := h.log
  have c1 : w.cell? ⟨g, 1, none⟩ = some (.int .i64 L.fault) := hL.blk.cell 1
  have f1 := hL.blk.frozen 1
  unfold gpt
  by_cases h0 : n = 0
  · subst h0
    have HV : Hid (L.said 0 = L) := Lib.hid (said_zero L)
    clear h hL hd h3 h4
    go_enter Tryz.func61, Tryz.ntmps61
    go_wp2
    go_ret
    exact ⟨rfl, by rw [HV.out]; exact H.out, Fr.refl _ _⟩
  · have b0 : (n != 0) = true := by simpa using h0
    by_cases h12 : n = 12
    · subst h12
      have HV : Hid (L.said 12 = L) := Lib.hid (by unfold LS.said; rw [if_neg (by simp)])
      clear h hL hd h3 h4 h0
      go_enter Tryz.func61, Tryz.ntmps61
      go_wp2
      go_ret
      exact ⟨rfl, by rw [HV.out]; exact H.out, Fr.refl _ _⟩
    · have b1 : (n != 12) = true := by simpa using h12
      have HV : Hid (L.said n = { L with fault := n }) := Lib.hid (by unfold LS.said; rw [if_pos ⟨h0, h12⟩])
      obtain ⟨w1, hw1⟩ : ∃ w1, w.setCell ⟨g, 1, none⟩ (.int .i64 n) = w1 := ⟨_, rfl⟩
      have hb := hL.blk.set_ 1 (.int .i64 n)
      rw [hw1] at hb
      have hfr : Fr (One g) w w1 := by rw [← hw1]; exact Fr.set0 g w 1 _
      have hfin := Lib.hid (H.out.own (L' := { L with fault := n }) hL hd h3 h4 hfr hb rfl ⟨H.out.ok.last, H.out.ok.firm, H.out.ok.number, H.out.ok.size, H.out.ok.files⟩)
      have HW1 := Lib.hid hw1
      clear h hL hd h3 h4 h0 h12 hb hfr hw1
      go_enter Tryz.func61, Tryz.ntmps61
      go_wp2
      rw [HW1.out]
      go_ret
      exact ⟨rfl, by rw [HV.out]; exact hfin.out.1, hfin.out.2⟩

/-! ### the disk's calls beside a log -/
theorem Lg.one {w : World} {X : Nat → Prop} {d g N : Nat} {S : AS} {L : LS} (h : Lg w X d g N S L) : w.cell? ⟨g, 0, none⟩ = some (.iface 25 (.pointer (some ⟨d, 0, none⟩))) := by
  obtain ⟨fv, c0, _⟩ := h.cells
  exact c0
def dkp (d : Nat) : Value := .pointer (some ⟨d, 0, Option.none⟩)
theorem lg_sync {w : World} {X : Nat → Prop} {d g N : Nat} {S : AS} {L : LS} (h : Lg w X d g N S L) (l : List UInt8) (hl : l.length ≤ maxLen) :
    Calls Tryz.prog 29 #[dkp d, sv l] w fun e w' => e = .returned (.int .i64 (S.sync l).2) ∧ Lg w' X d g N (S.sync l).1 L ∧ Fr (fun k => ¬ X k) w w' := by
  obtain ⟨fv, hL, hd, h3, h4⟩ := h.log
  refine (x_sync hd l hl).mono ?_
  rintro e w' ⟨he, hd', hf⟩
  exact ⟨he, h.disk (Nat.le_refl _) h.big hL h3 h4 hd' hf⟩
theorem lg_settle {w : World} {X : Nat → Prop} {d g N : Nat} {S : AS} {L : LS} (h : Lg w X d g N S L) :
    Calls Tryz.prog 30 #[dkp d] w fun e w' => e = .returned (.int .i64 S.settle.2) ∧ Lg w' X d g N S.settle.1 L ∧ Fr (fun k => ¬ X k) w w' := by
  obtain ⟨fv, hL, hd, h3, h4⟩ := h.log
  refine (x_settle hd).mono ?_
  rintro e w' ⟨he, hd', hf⟩
  exact ⟨he, h.disk (Nat.le_refl _) h.big hL h3 h4 hd' hf⟩
theorem lg_write {w : World} {X : Nat → Prop} {d g N : Nat} {S : AS} {L : LS} (h : Lg w X d g N S L) (hN : N + 1 ≤ 1000000000) (l data : List UInt8) (hl : l.length ≤ maxLen) (hd : data.length ≤ maxLen) :
    Calls Tryz.prog 27 #[dkp d, sv l, sv data] w fun e w' => e = .returned (.int .i64 (S.write l data).2) ∧ Lg w' X d g (N + 1) (S.write l data).1 L ∧ Fr (fun k => ¬ X k) w w' := by
  obtain ⟨fv, hL, hk, h3, h4⟩ := h.log
  refine (x_write hk (by omega) l data hl hd).mono ?_
  rintro e w' ⟨he, hd', hf⟩
  exact ⟨he, h.disk (Nat.le_succ _) hN hL h3 h4 hd' hf⟩
theorem lg_remove {w : World} {X : Nat → Prop} {d g N : Nat} {S : AS} {L : LS} (h : Lg w X d g N S L) (hN : N + 1 ≤ 1000000000) (l : List UInt8) (hl : l.length ≤ maxLen) :
    Calls Tryz.prog 253 #[dkp d, sv l] w fun e w' => e = .returned (.int .i64 (S.remove l).2) ∧ Lg w' X d g (N + 1) (S.remove l).1 L ∧ Fr (fun k => ¬ X k) w w' := by
  obtain ⟨fv, hL, hk, h3, h4⟩ := h.log
  refine (x_remove hk (by omega) l hl).mono ?_
  rintro e w' ⟨he, hd', hf⟩
  exact ⟨he, h.disk (Nat.le_succ _) hN hL h3 h4 hd' hf⟩
theorem lg_read {w : World} {X : Nat → Prop} {d g N : Nat} {S : AS} {L : LS} (h : Lg w X d g N S L) (l : List UInt8) (hl : l.length ≤ maxLen) :
    Calls Tryz.prog 47 #[dkp d, sv l] w fun e w' => e = .returned (.tuple #[sv (S.read l).1, .int .i64 (S.read l).2]) ∧ Fr No w w' := by
  obtain ⟨fv, hL, hk, h3, h4⟩ := h.log
  exact x_read hk l hl
/-- One cell of the log's own. -/
theorem Lg.set {w : World} {X : Nat → Prop} {d g N : Nat} {S : AS} {L : LS} (h : Lg w X d g N S L) (i : Nat) (u : Value) (L' : LS) (hc : ∀ fv, (L.cells d fv).setIfInBounds i u = L'.cells d fv) (hf : L'.files = L.files) (hok : L'.Ok N) :
    Lg (w.setCell ⟨g, i, none⟩ u) X d g N S L' ∧ Fr (fun k => ¬ X k) w (w.setCell ⟨g, i, none⟩ u) := by
  obtain ⟨fv, hL, hd, h3, h4⟩ := h.log
  have hb := hL.blk.set_ i u
  rw [hc] at hb
  exact h.own hL hd h3 h4 (Fr.set0 g w i u) hb hf hok
theorem Fr.thenX {X : Nat → Prop} {a b c : World} (h : Fr (fun k => ¬ X k) a b) (k : Fr (fun k => ¬ X k) b c) : Fr (fun k => ¬ X k) a c := h.trans k fun _ _ h => h
/-- The last segment's cells. -/
theorem segflat_at (fs : List SegP) (s : SegP) : ((fs ++ [s]).flatMap SegP.cells)[fs.length * 2]? = some (.int .i64 s.n) ∧ ((fs ++ [s]).flatMap SegP.cells)[fs.length * 2 + 1]? = some (.int .i64 s.last) := by
  have hl : (fs.flatMap SegP.cells).length = fs.length * 2 := by
    induction fs with
    | nil => rfl
    | cons a l ih => rw [List.flatMap_cons, List.length_append, ih]; simp [SegP.cells]; omega
  rw [List.flatMap_append]
  constructor
  · rw [List.getElem?_append_right (by omega), hl, Nat.sub_self]; rfl
  · rw [List.getElem?_append_right (by omega), hl, show fs.length * 2 + 1 - fs.length * 2 = 1 by omega]; rfl
theorem segflat_set (fs : List SegP) (s : SegP) (u : Int) : ((fs ++ [s]).flatMap SegP.cells).set (fs.length * 2 + 1) (.int .i64 u) = (fs ++ [(⟨s.n, u⟩ : SegP)]).flatMap SegP.cells := by
  have hl : (fs.flatMap SegP.cells).length = fs.length * 2 := by
    induction fs with
    | nil => rfl
    | cons a l ih => rw [List.flatMap_cons, List.length_append, ih]; simp [SegP.cells]; omega
  rw [List.flatMap_append, List.flatMap_append, List.set_append_right _ _ (by omega), hl, show fs.length * 2 + 1 - fs.length * 2 = 1 by omega]
  rfl
theorem Lg.lastSeg {w : World} {X : Nat → Prop} {d g N : Nat} {S : AS} {L : LS} (h : Lg w X d g N S L) {fs : List SegP} {s : SegP} (hf : L.files = fs ++ [s]) :
    ∃ gf cap, w.cell? ⟨g, 4, none⟩ = some (.slice (some ⟨gf, 0, none⟩) (fs.length + 1) cap) ∧ fs.length + 1 ≤ cap ∧ cap ≤ maxLen ∧ w.cell? ⟨gf, fs.length * 2, none⟩ = some (.int .i64 s.n) ∧ w.cell? ⟨gf, fs.length * 2 + 1, none⟩ = some (.int .i64 s.last) ∧ w.frozen? ⟨gf, fs.length * 2 + 1, none⟩ = false ∧
      (∀ u : Int, Lg (w.setCell ⟨gf, fs.length * 2 + 1, none⟩ (.int .i64 u)) X d g N S { L with files := fs ++ [⟨s.n, u⟩] } ∧ Fr (fun k => ¬ X k) w (w.setCell ⟨gf, fs.length * 2 + 1, none⟩ (.int .i64 u))) := by
  obtain ⟨fv, hL, hd, h3, h4⟩ := h.log
  have hr := hL.row
  have hlen : L.files.length = fs.length + 1 := by rw [hf]; simp
  rw [hlen, hf] at hr
  rcases hr.2 with ⟨_, h0⟩ | ⟨gf, cap, cur, rfl, hb, hh, hnc, hcm, hs, ht⟩
  · omega
  · have hc : w.cell? ⟨g, 4, none⟩ = some (.slice (some ⟨gf, 0, none⟩) (fs.length + 1) cap) := hL.blk.cell 4
    obtain ⟨e1, e2⟩ := segflat_at fs s
    have at_ : ∀ j v, j < (fs.length + 1) * 2 → ((fs ++ [s]).flatMap SegP.cells)[j]? = some v → w.cell? ⟨gf, j, none⟩ = some v := fun j v hj hv => by
      rw [cell_of_row w gf j cur 102 (0, 0) hh, ← hv, ← ht]
      simp [hj]
    refine ⟨gf, cap, hc, hnc, hcm, at_ _ _ (by omega) e1, at_ _ _ (by omega) e2, hr.frozenAt _, fun u => ?_⟩
    obtain ⟨hs1, hs2⟩ := hr.stored (fs.length * 2 + 1) (.int .i64 u)
    rw [segflat_set] at hs1
    have hne : gf ≠ g := hL.ne gf rfl
    have hxg : ¬ X gf := h4 gf rfl
    have hfr : Fr (One gf) w (w.setCell ⟨gf, fs.length * 2 + 1, none⟩ (.int .i64 u)) := Fr.set0 gf w _ _
    have hx : Fr (fun k => ¬ X k) w (w.setCell ⟨gf, fs.length * 2 + 1, none⟩ (.int .i64 u)) := hfr.mono fun k _ hk => by rw [show k = gf from hk]; exact hxg
    refine ⟨⟨h.vr.x h.lo hx, h.lo, ⟨.slice (some ⟨gf, 0, none⟩) (fs.length + 1) cap, ⟨hL.blk.of (Below.heap_setCell _ _ _ _ (Ne.symm hne)), by simpa using hs1⟩, hd.side (hfr.mono fun k _ hk => .inr (.inr (by rw [show k = gf from hk]; rfl))), h3, h4⟩, ?_, h.big⟩, hx⟩
    have := h.ok.files
    exact ⟨h.ok.last, h.ok.firm, by have h5 := h.ok.number; unfold LS.number at h5 ⊢; rw [hf, numOf_snoc] at h5; rw [numOf_snoc]; exact h5, h.ok.size, by simp only [List.length_append, List.length_singleton]; omega⟩
theorem Lg.fileSlice {w : World} {X : Nat → Prop} {d g N : Nat} {S : AS} {L : LS} (h : Lg w X d g N S L) : ∃ A c, w.cell? ⟨g, 4, none⟩ = some (.slice A L.files.length c) := by
  obtain ⟨fv, hL, hd, h3, h4⟩ := h.log
  have hc : w.cell? ⟨g, 4, none⟩ = some fv := hL.blk.cell 4
  rcases hL.row.2 with ⟨e1, h0⟩ | ⟨gf, cap, cur, e1, _⟩
  · exact ⟨none, 0, by rw [h0, ← e1]; exact hc⟩
  · exact ⟨_, _, by rw [hc, e1]⟩
set_option maxRecDepth 100000 in
set_option maxHeartbeats 1000000 in
theorem lnum_any {w : World} {X : Nat → Prop} {d g N : Nat} {S : AS} {L : LS} (h : Lg w X d g N S L) : Calls Tryz.prog 60 #[gpt g] w fun e w' => e = .returned (.int .i64 L.number) ∧ Fr No w w' := by
  have hfl := h.ok.files
  have hbig := h.big
  unfold gpt
  rcases List.eq_nil_or_concat L.files with hf | ⟨fs, s, hf⟩
  · obtain ⟨A, c, c4⟩ := h.fileSlice
    rw [hf] at c4
    have HV : Hid (L.number = 0) := Lib.hid (by unfold LS.number; rw [hf]; rfl)
    clear h hf hfl
    simp only [List.length_nil] at c4
    go_enter Tryz.func60, Tryz.ntmps60
    go_wp2
    go_ret
    exact ⟨by rw [HV.out]; rfl, Fr.refl _ _⟩
  · rw [List.concat_eq_append] at hf
    obtain ⟨gf, cap, q4, hnc, hcm, k0, k1, kf, _⟩ := h.lastSeg hf
    have hlen : L.files.length = fs.length + 1 := by rw [hf]; simp
    have HV : Hid (L.number = s.n) := Lib.hid (by unfold LS.number; rw [hf, numOf_snoc])
    obtain ⟨q, hq⟩ : ∃ q, fs.length + 1 = q := ⟨_, rfl⟩
    obtain ⟨m, hm⟩ : ∃ m, fs.length = m := ⟨_, rfl⟩
    have hwq : IntKind.i64.wrap ((q : Int) - 1) = (m : Int) := by rw [show (q : Int) - 1 = (m : Int) by omega]; exact IntWalk.i64_in _ (by omega)
    have b1 : (0 : Int) ≤ (m : Int) := by omega
    have b2 : (m : Int) < (q : Int) := by omega
    have b3 : (q : Int) ≤ 1000000100 := by omega
    have t0 : ((q : Int) == 0) = false := by rw [beq_eq_false_iff_ne]; omega
    rw [hq] at q4
    rw [hm] at k0
    obtain ⟨sn, hsn⟩ : ∃ sn, s.n = sn := ⟨_, rfl⟩
    rw [hsn] at k0 HV
    clear h hf hfl hbig hq hm hlen hnc hcm k1 kf hsn
    go_enter Tryz.func60, Tryz.ntmps60
    go_upto_region 3 with fail
    go_quiet (fail)
    all_goals go_wp2
    all_goals go_ret
    all_goals exact ⟨by rw [HV.out]; rfl, (Fr.refl No w).drewN nq⟩

/-! ### a call through the log's interface -/
theorem me_sync (a : Addr) (w : World) : (method 399 25 (.pointer (some a)) "Sync").run Tryz.prog w = .ok (29, .pointer (some a)) w := by kernel_rfl
theorem me_write (a : Addr) (w : World) : (method 399 25 (.pointer (some a)) "Write").run Tryz.prog w = .ok (27, .pointer (some a)) w := by kernel_rfl
theorem me_settle (a : Addr) (w : World) : (method 399 25 (.pointer (some a)) "Settle").run Tryz.prog w = .ok (30, .pointer (some a)) w := by kernel_rfl
theorem me_remove (a : Addr) (w : World) : (method 399 25 (.pointer (some a)) "Remove").run Tryz.prog w = .ok (253, .pointer (some a)) w := by kernel_rfl
theorem me_read (a : Addr) (w : World) : (method 399 25 (.pointer (some a)) "Read").run Tryz.prog w = .ok (47, .pointer (some a)) w := by kernel_rfl
theorem me_list (a : Addr) (w : World) : (method 399 25 (.pointer (some a)) "List").run Tryz.prog w = .ok (44, .pointer (some a)) w := by kernel_rfl
theorem me_cut (a : Addr) (w : World) : (method 399 25 (.pointer (some a)) "Cut").run Tryz.prog w = .ok (252, .pointer (some a)) w := by kernel_rfl

/-! ### syncBytes -/
def syncB (S : AS) (L : LS) : AS × LS × Int :=
  if L.bytes then
    if (S.sync (nameW L.number)).2 = 0 then ((S.sync (nameW L.number)).1, { L with bytes := false }, 0) else ((S.sync (nameW L.number)).1, L.said (S.sync (nameW L.number)).2, (S.sync (nameW L.number)).2)
  else (S, L, 0)
theorem nameW_len (n : Int) : (nameW n).length ≤ 20 := by
  unfold nameW
  split
  · simp
  · rename_i h
    rw [List.length_append, List.length_append, Lib.repeatL_length]
    have := digits8 (n := n) (by omega) (by omega)
    simp; omega
theorem nameW_max (n : Int) : (nameW n).length ≤ maxLen := by have := nameW_len n; unfold maxLen; omega
theorem LS.Ok.num64 {N : Nat} {L : LS} (h : L.Ok N) (hN : N ≤ 1000000000) : -9223372036854775808 ≤ L.number ∧ L.number ≤ 9223372036854775807 := by have := h.number; omega
set_option maxRecDepth 100000 in
set_option maxHeartbeats 1000000 in
theorem syncB_any {w : World} {X : Nat → Prop} {d g N : Nat} {S : AS} {L : LS} (h : Lg w X d g N S L) : Calls Tryz.prog 58 #[gpt g] w fun e w' => e = .returned (.int .i64 (syncB S L).2.2) ∧ Lg w' X d g N (syncB S L).1 (syncB S L).2.1 ∧ Fr (fun k => ¬ X k) w w' := by
  have H := Lib.hid h
  obtain ⟨fv, c0, c1, c2, c3, c4, c5, c6, c7, c8⟩ := h.cells
  unfold gpt
  cases hb : L.bytes with
  | false =>
    have HV : Hid (syncB S L = (S, L, 0)) := Lib.hid (by unfold syncB; rw [hb]; rfl)
    rw [hb] at c7
    clear h hb c1 c2 c3 c4 c6 c8
    go_enter Tryz.func58, Tryz.ntmps58
    go_wp2
    go_ret
    exact ⟨by rw [HV.out]; rfl, by rw [HV.out]; exact H.out, Fr.refl _ _⟩
  | true =>
    rw [hb] at c7
    have hn := h.ok.num64 h.big
    have HD := Lib.hid (h.keep ((Fr.refl No w).drew))
    have HN : Hid (∀ w', Vr w' → Calls Tryz.prog 28 #[.int .i64 L.number] w' fun e w'' => e = .returned (sv (nameW L.number)) ∧ Fr No w' w'') := Lib.hid fun w' hv => name_any L.number w' hv hn.1 hn.2
    have HNUM := Lib.hid (lnum_any HD.out)
    unfold gpt at HNUM
    go_enter Tryz.func58, Tryz.ntmps58
    go_upto_region 3 with fail
    have hm := me_sync
    have HV : Hid (syncB S L = if (S.sync (nameW L.number)).2 = 0 then ((S.sync (nameW L.number)).1, { L with bytes := false }, 0) else ((S.sync (nameW L.number)).1, L.said (S.sync (nameW L.number)).2, (S.sync (nameW L.number)).2)) := Lib.hid (by unfold syncB; rw [hb, if_pos rfl])
    have HBb := Lib.hid hb
    clear hb h
    go_cut [3] (fun ev wx => ev = .int .i64 (S.sync (nameW L.number)).2 ∧ Lg wx X d g N (S.sync (nameW L.number)).1 (L.said (S.sync (nameW L.number)).2) ∧ Fr (fun k => ¬ X k) w wx)
    case first =>
      go_region_held3 (fun w' => w'.cell? ⟨g, 0, none⟩ = some (.iface 25 (.pointer (some ⟨d, 0, none⟩))))
        (first | exact HL3.out.one | exact HL2.out.one | exact HL1.out.one | exact HL0.out.one | exact HD.out.one | go_keep)
        (first
          | (go_at_call 60; refine HNUM.out.mono ?_; rintro e w0' ⟨rfl, f0⟩; have HL0 := Lib.hid (HD.out.keep f0); have HF0 := Lib.hid f0; clear f0)
          | (go_at_call 28; refine (HN.out _ HL0.out.vr).mono ?_; rintro e w1 ⟨rfl, f1⟩; have HL1 := Lib.hid (HL0.out.keep f1); have HF1 := Lib.hid (HF0.out.trans f1 fun _ _ h => h); clear f1)
          | (go_at_call 29; refine (lg_sync HL1.out (nameW L.number) (nameW_max _)).mono ?_; rintro e w2 ⟨rfl, h2, f2⟩; have HL2 := Lib.hid h2; have HF2 := Lib.hid f2; clear h2 f2)
          | (go_at_call 61; refine (said_any HL2.out _).mono ?_; rintro e w3 ⟨rfl, h3, f3⟩; have HL3 := Lib.hid h3; have HF3 := Lib.hid f3; clear h3 f3))
      all_goals (go_simp; go_wp2_with fail)
      all_goals go_meet
      all_goals exact ⟨rfl, HL3.out, ((((Fr.refl (fun k => ¬ X k) w).drew.trans HF1.out fun _ _ hk => hk.elim).trans HF2.out fun _ _ h => h).trans HF3.out fun _ _ h => h)⟩
    case rest =>
    obtain ⟨rfl, hL, hF⟩ := hcut
    have HLL := Lib.hid hL
    have HFF := Lib.hid hF
    clear hL hF HN HD hm HNUM
    generalize (S.sync (nameW L.number)).1 = S1 at *
    generalize (S.sync (nameW L.number)).2 = E at *
    by_cases he : E = 0
    · rw [he, said_zero] at HLL
      rw [if_pos he] at HV
      subst he
      obtain ⟨fv', d0, d1, d2, d3, d4, d5, d6, d7, d8⟩ := HLL.out.cells
      have y7 := HLL.out.frozen 6
      have HS := Lib.hid (HLL.out.set 6 (.bool false) { L with bytes := false } (fun _ => rfl) rfl ⟨HLL.out.ok.last, HLL.out.ok.firm, HLL.out.ok.number, HLL.out.ok.size, HLL.out.ok.files⟩)
      clear c0 c1 c2 c3 c4 c5 c6 c7 c8
      go_wp2
      go_ret
      exact ⟨by rw [HV.out]; rfl, by rw [HV.out]; exact HS.out.1, HFF.out.thenX HS.out.2⟩
    · rw [if_neg he] at HV
      have hd : (E != 0) = true := by simpa using he
      clear he
      go_wp2
      go_ret
      exact ⟨by rw [HV.out]; rfl, by rw [HV.out]; exact HLL.out, HFF.out⟩

/-! ### settle -/
def settleL (S : AS) (L : LS) : AS × LS × Int :=
  if S.settle.2 = 0 then (S.settle.1, { L with names := false }, 0) else (S.settle.1, L.said S.settle.2, S.settle.2)
set_option maxRecDepth 100000 in
set_option maxHeartbeats 1000000 in
theorem settleL_any {w : World} {X : Nat → Prop} {d g N : Nat} {S : AS} {L : LS} (h : Lg w X d g N S L) : Calls Tryz.prog 59 #[gpt g] w fun e w' => e = .returned (.int .i64 (settleL S L).2.2) ∧ Lg w' X d g N (settleL S L).1 (settleL S L).2.1 ∧ Fr (fun k => ¬ X k) w w' := by
  have H := Lib.hid h
  obtain ⟨fv, c0, _⟩ := h.cells
  have HC := Lib.hid (lg_settle h)
  have hm := me_settle
  have HV : Hid (settleL S L = if S.settle.2 = 0 then (S.settle.1, { L with names := false }, 0) else (S.settle.1, L.said S.settle.2, S.settle.2)) := Lib.hid rfl
  unfold gpt
  clear h
  generalize S.settle.1 = S1 at *
  generalize S.settle.2 = E at *
  unfold dkp at HC
  go_enter Tryz.func59, Tryz.ntmps59
  go_wp2_with fail
  refine HC.out.mono ?_
  rintro e w1 ⟨rfl, h1, f1⟩
  have H1 := Lib.hid h1
  have F1 := Lib.hid f1
  clear h1 f1 HC
  go_wp2_with fail
  have C2 := said_any H1.out E
  unfold gpt at C2
  refine C2.mono ?_
  clear C2
  rintro e w2 ⟨rfl, h2, f2⟩
  have HLL := Lib.hid h2
  have HFF := Lib.hid (F1.out.thenX f2)
  clear h2 f2 hm c0
  by_cases he : E = 0
  · rw [he, said_zero] at HLL
    rw [if_pos he] at HV
    subst he
    obtain ⟨fv', d0, d1, d2, d3, d4, d5, d6, d7, d8⟩ := HLL.out.cells
    have y8 := HLL.out.frozen 7
    have HS := Lib.hid (HLL.out.set 7 (.bool false) { L with names := false } (fun _ => rfl) rfl ⟨HLL.out.ok.last, HLL.out.ok.firm, HLL.out.ok.number, HLL.out.ok.size, HLL.out.ok.files⟩)
    go_wp2
    go_ret
    exact ⟨by rw [HV.out]; rfl, by rw [HV.out]; exact HS.out.1, HFF.out.thenX HS.out.2⟩
  · rw [if_neg he] at HV
    have hd : (E != 0) = true := by simpa using he
    clear he
    go_wp2
    go_ret
    exact ⟨by rw [HV.out]; rfl, by rw [HV.out]; exact HLL.out, HFF.out⟩

/-! ### place -/
def placeL (S : AS) (L : LS) : AS × LS × Int × Int :=
  if 0 < L.number ∧ L.size < 4096 then (S, L, L.number, 0)
  else if (syncB S L).2.2 = 0 then ((syncB S L).1, (syncB S L).2.1, L.number + 1, 0) else ((syncB S L).1, (syncB S L).2.1, 0, (syncB S L).2.2)
theorem syncB_same (S : AS) (L : LS) : (syncB S L).2.1.files = L.files ∧ (syncB S L).2.1.number = L.number ∧ (syncB S L).2.1.size = L.size ∧ (syncB S L).2.1.last = L.last ∧ (syncB S L).2.1.firm = L.firm ∧ (syncB S L).2.1.names = L.names := by
  unfold syncB
  split
  · split
    · exact ⟨rfl, rfl, rfl, rfl, rfl, rfl⟩
    · obtain ⟨h1, h2, h3, h4, h5, h6, h7⟩ := said_same L (S.sync (nameW L.number)).2
      exact ⟨h1, h2, h3, h4, h5, h7⟩
  · exact ⟨rfl, rfl, rfl, rfl, rfl, rfl⟩
theorem ret_two {k1 k2 : IntKind} {a b c d : Int} (h1 : a = c) (h2 : b = d) : Ending.returned (.tuple #[.int k1 a, .int k2 b]) = Ending.returned (.tuple #[.int k1 c, .int k2 d]) := by rw [h1, h2]
set_option maxRecDepth 100000 in
set_option maxHeartbeats 1000000 in
theorem placeL_any {w : World} {X : Nat → Prop} {d g N : Nat} {S : AS} {L : LS} (h : Lg w X d g N S L) : Calls Tryz.prog 68 #[gpt g] w fun e w' => e = .returned (.tuple #[.int .i64 (placeL S L).2.2.1, .int .i64 (placeL S L).2.2.2]) ∧ Lg w' X d g N (placeL S L).1 (placeL S L).2.1 ∧ Fr (fun k => ¬ X k) w w' := by
  have H := Lib.hid h
  have hnum := h.ok.number
  have hbig := h.big
  have HC := Lib.hid (fun w' (hf : Fr No w w') => syncB_any (h.keep hf))
  have HNUM := Lib.hid (lnum_any h)
  unfold gpt at HC HNUM ⊢
  clear h
  obtain ⟨n, hn⟩ : ∃ n, L.number = n := ⟨_, rfl⟩
  rw [hn] at HNUM hnum
  by_cases h0 : 0 < n
  · have t1 : decide (0 < n) = true := by simpa using h0
    by_cases h1 : L.size < 4096
    · have HV : Hid (placeL S L = (S, L, n, 0)) := Lib.hid (by unfold placeL; rw [hn, if_pos ⟨h0, h1⟩])
      have t2 : decide (L.size < 4096) = true := by simpa using h1
      clear HC h0 h1 hn
      go_enter Tryz.func68, Tryz.ntmps68
      go_wp2_with fail
      refine HNUM.out.mono ?_
      rintro e w1 ⟨rfl, f1⟩
      have H1 := Lib.hid (H.out.keep f1)
      have F1 := Lib.hid f1
      obtain ⟨fv, c0, c1, c2, c3, c4, c5, c6, c7, c8⟩ := H1.out.cells
      clear f1 c0 c1 c2 c3 c4 c7 c8
      go_wp2
      go_ret2
      exact ⟨by rw [HV.out]; rfl, by rw [HV.out]; exact H1.out, F1.out.any⟩
    · have HV : Hid (placeL S L = if (syncB S L).2.2 = 0 then ((syncB S L).1, (syncB S L).2.1, n + 1, 0) else ((syncB S L).1, (syncB S L).2.1, 0, (syncB S L).2.2)) := Lib.hid (by unfold placeL; rw [hn, if_neg (fun hh => h1 hh.2)])
      have t2 : decide (L.size < 4096) = false := by simpa using h1
      have hw1 : IntKind.i64.wrap (n + 1) = n + 1 := IntWalk.i64_in _ (by omega)
      obtain ⟨x, hx⟩ : ∃ x, syncB S L = x := ⟨_, rfl⟩
      rw [hx] at HC HV
      obtain ⟨S1, L1, E⟩ := x
      clear h0 h1 hn hx
      go_enter Tryz.func68, Tryz.ntmps68
      go_wp2_with fail
      refine HNUM.out.mono ?_
      rintro e w1 ⟨rfl, f1⟩
      have H1 := Lib.hid (H.out.keep f1)
      have F1 := Lib.hid f1
      have HC1 := Lib.hid (HC.out w1 f1)
      obtain ⟨fv, c0, c1, c2, c3, c4, c5, c6, c7, c8⟩ := H1.out.cells
      clear f1 c0 c1 c2 c3 c4 c7 c8 HC
      go_wp2_with fail
      refine HC1.out.mono ?_
      rintro e w2 ⟨rfl, h2, f2⟩
      have H2 := Lib.hid (show Lg w2 X d g N S1 L1 from h2)
      have F2 := Lib.hid (F1.out.any.thenX f2)
      clear h2 f2 c6 HC1
      by_cases he : E = 0
      · subst he
        have HV1 := Lib.hid (HV.out.trans (if_pos rfl))
        clear HV
        go_wp2
        go_ret2
        exact ⟨by rw [HV1.out]; rfl, by rw [HV1.out]; exact H2.out, F2.out⟩
      · have HV1 := Lib.hid (HV.out.trans (if_neg he))
        have hd : (E != 0) = true := by simpa using he
        clear HV he
        go_wp2
        go_ret2
        exact ⟨by rw [HV1.out]; rfl, by rw [HV1.out]; exact H2.out, F2.out⟩
  · have t1 : decide (0 < n) = false := by simpa using h0
    have HV : Hid (placeL S L = if (syncB S L).2.2 = 0 then ((syncB S L).1, (syncB S L).2.1, n + 1, 0) else ((syncB S L).1, (syncB S L).2.1, 0, (syncB S L).2.2)) := Lib.hid (by unfold placeL; rw [hn, if_neg (fun hh => h0 hh.1)])
    have hw1 : IntKind.i64.wrap (n + 1) = n + 1 := IntWalk.i64_in _ (by omega)
    obtain ⟨x, hx⟩ : ∃ x, syncB S L = x := ⟨_, rfl⟩
    rw [hx] at HC HV
    obtain ⟨S1, L1, E⟩ := x
    clear h0 hn hx
    go_enter Tryz.func68, Tryz.ntmps68
    go_wp2_with fail
    refine HNUM.out.mono ?_
    rintro e w1 ⟨rfl, f1⟩
    have H1 := Lib.hid (H.out.keep f1)
    have F1 := Lib.hid f1
    have HC1 := Lib.hid (HC.out w1 f1)
    clear f1 HC
    go_wp2_with fail
    refine HC1.out.mono ?_
    rintro e w2 ⟨rfl, h2, f2⟩
    have H2 := Lib.hid (show Lg w2 X d g N S1 L1 from h2)
    have F2 := Lib.hid (F1.out.any.thenX f2)
    clear h2 f2 HC1
    by_cases he : E = 0
    · subst he
      have HV1 := Lib.hid (HV.out.trans (if_pos rfl))
      clear HV
      go_wp2
      go_ret2
      exact ⟨by rw [HV1.out]; rfl, by rw [HV1.out]; exact H2.out, F2.out⟩
    · have HV1 := Lib.hid (HV.out.trans (if_neg he))
      have hd : (E != 0) = true := by simpa using he
      clear HV he
      go_wp2
      go_ret2
      exact ⟨by rw [HV1.out]; rfl, by rw [HV1.out]; exact H2.out, F2.out⟩
end Go.Proofs.YtccjkolcmdhliaaGreatDoor
/- The log: write. -/
namespace Go.Proofs.YtccjkolcmdhliaaGreatDoor
open Go.RowKit Go.Maps
set_option linter.unusedVariables false

/-- The segment of this number is begun, if it isn't there yet. -/
def LS.begun (L : LS) (n : Int) : LS := if n = L.number then L else { L with files := L.files ++ [⟨n, 0⟩], size := 0, names := true }
/-- A record more, of so many bytes, in the last segment. -/
def LS.more (L : LS) (m : Nat) : LS := { L with files := L.files.dropLast ++ [⟨L.number, L.last + 1⟩], last := L.last + 1, size := L.size + m, bytes := true }
def LS.put (L : LS) (n : Int) (m : Nat) : LS := (L.begun n).more m
def writeL (S : AS) (L : LS) (n : Int) (r : List UInt8) : AS × LS × Int :=
  if (S.write (nameW n) r).2 = 0 then ((S.write (nameW n) r).1, L.put n r.length, 0) else ((S.write (nameW n) r).1, L.said (S.write (nameW n) r).2, (S.write (nameW n) r).2)
theorem begun_same (L : LS) (n : Int) : (L.begun n).last = L.last ∧ (L.begun n).firm = L.firm ∧ (L.begun n).fault = L.fault ∧ (L.begun n).bytes = L.bytes := by
  unfold LS.begun; split <;> exact ⟨rfl, rfl, rfl, rfl⟩
theorem begun_size (L : LS) (n : Int) : (L.begun n).size = L.size ∨ (L.begun n).size = 0 := by
  unfold LS.begun; split
  · exact .inl rfl
  · exact .inr rfl
theorem begun_files (L : LS) {n : Int} (hn : 0 < n) : ∃ fs s, (L.begun n).files = fs ++ [s] ∧ s.n = n := by
  unfold LS.begun
  split
  · rename_i h
    rcases List.eq_nil_or_concat L.files with hf | ⟨fs, s, hf⟩
    · rw [LS.number, hf, numOf_nil] at h; omega
    · rw [List.concat_eq_append] at hf
      rw [LS.number, hf, numOf_snoc] at h
      exact ⟨fs, s, hf, h.symm⟩
  · exact ⟨L.files, ⟨n, 0⟩, rfl, rfl⟩
theorem more_eq {L : LS} {fs : List SegP} {s : SegP} (h : L.files = fs ++ [s]) (m : Nat) : L.more m = { L with files := fs ++ [⟨s.n, L.last + 1⟩], last := L.last + 1, size := L.size + m, bytes := true } := by
  unfold LS.more LS.number
  rw [h, numOf_snoc, List.dropLast_concat]
theorem info102 : (Tryz.prog.info? 102).map (fun i => (i.zero, i.size, i.bytes)) = some (some (.agg #[.int .i64 0, .int .i64 0]), 2, 16) := by kernel_rfl
/-- What one segment more leaves. -/
theorem Lg.addSeg {w : World} {X : Nat → Prop} {d g N : Nat} {S : AS} {L : LS} (h : Lg w X d g N S L) (hfl : L.files.length < 64 + N) :
    ∃ A c, w.cell? ⟨g, 4, none⟩ = some (.slice A L.files.length c) ∧ w.ownsRow 0 102 2 (.slice A L.files.length c) L.files.length (L.files.flatMap SegP.cells) ∧ g < w.heap.size ∧
      ∀ (s : SegP) (wa w3 : World) (gg cap : Nat), (0 ≤ s.n ∧ s.n ≤ 100000000 + N) → Fr No w wa → wa.grownBy w3 (Value.slice A L.files.length c).ownBlock → w3.ownsRow 0 102 2 (.slice (some ⟨gg, 0, none⟩) (L.files.length + 1) cap) (L.files.length + 1) (L.files.flatMap SegP.cells ++ [.int .i64 s.n, .int .i64 s.last]) →
        ((Value.slice A L.files.length c).ownBlock = some gg ∨ w.heap.size ≤ gg) →
        w3.cell? ⟨g, 4, none⟩ = some (.slice A L.files.length c) ∧ w3.frozen? ⟨g, 4, none⟩ = false ∧
        Lg (w3.setCell ⟨g, 4, none⟩ (.slice (some ⟨gg, 0, none⟩) (L.files.length + 1) cap)) X d g N S { L with files := L.files ++ [s] } ∧ Fr (fun k => ¬ X k) w (w3.setCell ⟨g, 4, none⟩ (.slice (some ⟨gg, 0, none⟩) (L.files.length + 1) cap)) := by
  obtain ⟨fv, hL, hd, h3, h4⟩ := h.log
  have hform : ∃ A c, fv = .slice A L.files.length c := by
    rcases hL.row.2 with ⟨e1, h0⟩ | ⟨gf, cap, cur, e1, _⟩
    · exact ⟨none, 0, by rw [h0]; exact e1⟩
    · exact ⟨_, _, e1⟩
  obtain ⟨A, c, rfl⟩ := hform
  refine ⟨A, c, hL.blk.cell 4, hL.row, hL.blk.lt, fun s wa w3 gg cap hsn hwa hg ho hat => ?_⟩
  have hgl := hL.blk.lt
  have hne : (Value.slice A L.files.length c).ownBlock ≠ some g := fun e => hL.ne g e rfl
  have hb3 : Blk w3 g 71 (L.cells d (.slice A L.files.length c)) := hL.blk.of ((hg.block g (Nat.lt_of_lt_of_le hgl hwa.size) (fun e => hne e.symm)).trans (hwa.block g hgl id))
  have hgg : gg ≠ g := own_blk_ne ho rfl hb3 (by decide)
  obtain ⟨fv', hfv'⟩ : ∃ fv', (Value.slice (some ⟨gg, 0, none⟩) (L.files.length + 1) cap) = fv' := ⟨_, rfl⟩
  have hf3 : Fr (fun k => k = g ∨ (Value.slice A L.files.length c).ownBlock = some k) w w3 := hwa.any.grown hg fun k hk _ => .inr hk
  have hf : Fr (fun k => k = g ∨ (Value.slice A L.files.length c).ownBlock = some k) w (w3.setCell ⟨g, 4, none⟩ fv') := hf3.setCell (p := ⟨g, 4, none⟩) (fun _ => .inl rfl) _
  have hx : Fr (fun k => ¬ X k) w (w3.setCell ⟨g, 4, none⟩ fv') := hf.mono fun k _ hk => by
    rcases hk with rfl | hk
    · exact h3
    · exact h4 k hk
  have hggx : ¬ X gg := by
    rcases hat with e | e
    · exact h4 gg e
    · intro hxx
      have := hd.base gg (.inl hxx)
      omega
  have hrow : (w3.setCell ⟨g, 4, none⟩ fv').ownsRow 0 102 2 fv' (L.files ++ [s]).length ((L.files ++ [s]).flatMap SegP.cells) := by
    rw [← hfv']
    have := own_of ho (w' := w3.setCell ⟨g, 4, none⟩ (.slice (some ⟨gg, 0, none⟩) (L.files.length + 1) cap)) (fun k hk => Below.heap_setCell _ _ _ _ (by
      simp [Value.ownBlock] at hk; subst hk; exact hgg))
    rw [List.length_append, List.flatMap_append]
    simpa [SegP.cells] using this
  have hdd : Dk (w3.setCell ⟨g, 4, none⟩ fv') (XL X g fv') d N S := hd.grow (hf.mono fun k _ hk => by
    rcases hk with rfl | hk
    · exact .inr (.inl rfl)
    · exact .inr (.inr hk)) fun k hk => by
      rcases hk with hk | rfl | hk
      · exact ⟨Nat.lt_of_lt_of_le (hd.base k (.inl hk)) hf.size, .inl (.inl hk)⟩
      · exact ⟨Nat.lt_of_lt_of_le hgl hf.size, .inl (.inr (.inl rfl))⟩
      · refine ⟨(hrow.lt k hk).2, ?_⟩
        have e : gg = k := by rw [← hfv'] at hk; simpa [Value.ownBlock] using hk
        rcases hat with e2 | e2
        · exact .inl (.inr (.inr (by rw [← e]; exact e2)))
        · exact .inr (by omega)
  rw [hfv']
  refine ⟨hb3.cell 4, hb3.frozen 4, ⟨h.vr.x h.lo hx, h.lo, ⟨fv', ⟨hb3.set_ 4 _, hrow⟩, hdd, h3, fun k hk => ?_⟩, ?_, h.big⟩, hx⟩
  · have e : gg = k := by rw [← hfv'] at hk; simpa [Value.ownBlock] using hk
    rw [← e]; exact hggx
  · exact ⟨h.ok.last, h.ok.firm, by unfold LS.number; rw [numOf_snoc]; exact hsn, h.ok.size, by simp only [List.length_append, List.length_singleton]; omega⟩
set_option maxRecDepth 100000 in
set_option maxHeartbeats 2000000 in
theorem writeL_any {w : World} {X : Nat → Prop} {d g N : Nat} {S : AS} {L : LS} (h : Lg w X d g N S L) (hN : N + 1 ≤ 1000000000) (n : Int) (hn0 : 0 < n) (hn1 : n ≤ 100000000 + ((N + 1 : Nat) : Int)) (r : List UInt8) (hr : r.length ≤ 1000000) (hlast : L.last < 9223372036854775807) : Calls Tryz.prog 69 #[gpt g, .int .i64 n, sv r] w fun e w' => e = .returned (.int .i64 (writeL S L n r).2.2) ∧ Lg w' X d g (N + 1) (writeL S L n r).1 (writeL S L n r).2.1 ∧ Fr (fun k => ¬ X k) w w' := by
  have H := Lib.hid h
  obtain ⟨fv, c0, c1, c2, c3, c4, c5, c6, c7, c8⟩ := h.cells
  have HD := Lib.hid (h.keep ((Fr.refl No w).drew))
  have HN := Lib.hid (name_any n w.drew (h.keep ((Fr.refl No w).drew)).vr (by omega) (by omega))
  have HRm : Hid (r.length ≤ maxLen) := Lib.hid (by unfold maxLen; omega)
  have hm := me_write
  have hbig := h.big
  have HV : Hid (writeL S L n r = if (S.write (nameW n) r).2 = 0 then ((S.write (nameW n) r).1, L.put n r.length, 0) else ((S.write (nameW n) r).1, L.said (S.write (nameW n) r).2, (S.write (nameW n) r).2)) := Lib.hid rfl
  have HOK := Lib.hid h.ok
  unfold gpt
  clear h c1 c2 c3 c4 c5 c6 c7 c8
  go_enter Tryz.func69, Tryz.ntmps69
  go_upto_region 1 with fail
  go_cut [7] (fun ev wx => ev = .int .i64 (S.write (nameW n) r).2 ∧ Lg wx X d g (N + 1) (S.write (nameW n) r).1 (L.said (S.write (nameW n) r).2) ∧ Fr (fun k => ¬ X k) w wx)
  case first =>
    go_region_held3 (fun w' => w'.cell? ⟨g, 0, none⟩ = some (.iface 25 (.pointer (some ⟨d, 0, none⟩))))
      (first | exact HL3.out.one | exact HL2.out.one | exact HL1.out.one | exact HD.out.one | go_keep)
      (first
        | (go_at_call 28; refine HN.out.mono ?_; rintro e w1 ⟨rfl, f1⟩; have HL1 := Lib.hid (HD.out.keep f1); have HF1 := Lib.hid f1; clear f1)
        | (go_at_call 27; refine (lg_write HL1.out hN (nameW n) r (nameW_max _) HRm.out).mono ?_; rintro e w2 ⟨rfl, h2, f2⟩; have HL2 := Lib.hid h2; have HF2 := Lib.hid f2; clear h2 f2)
        | (go_at_call 61; refine (said_any HL2.out _).mono ?_; rintro e w3 ⟨rfl, h3, f3⟩; have HL3 := Lib.hid h3; have HF3 := Lib.hid f3; clear h3 f3))
    all_goals (go_simp; go_wp2_with fail)
    all_goals go_meet
    all_goals exact ⟨rfl, HL3.out, ((((Fr.refl (fun k => ¬ X k) w).drew.trans HF1.out fun _ _ hk => hk.elim).thenX HF2.out).thenX HF3.out)⟩
  case rest =>
  obtain ⟨rfl, hL, hF⟩ := hcut
  have HLL := Lib.hid hL
  have HFF := Lib.hid hF
  clear hL hF HN HD hm c0
  generalize (S.write (nameW n) r).1 = S1 at *
  generalize (S.write (nameW n) r).2 = E at *
  by_cases he : E = 0
  · rw [he, said_zero] at HLL
    rw [if_pos he] at HV
    subst he
    have HNUM := lnum_any HLL.out
    unfold gpt at HNUM
    have HNUM' := Lib.hid HNUM
    clear HNUM
    go_wp2_with fail
    refine HNUM'.out.mono ?_
    rintro e w1 ⟨rfl, f1⟩
    have H1 := Lib.hid (HLL.out.keep f1)
    have F1 := Lib.hid (HFF.out.trans f1 fun _ _ hk => hk.elim)
    clear f1 HNUM' HLL HFF
    obtain ⟨nm, hnm⟩ : ∃ nm, L.number = nm := ⟨_, rfl⟩
    rw [hnm]
    go_upto_if 26 with fail
    go_cut [26] (fun _ wx => Lg wx X d g (N + 1) S1 (L.begun n) ∧ Fr (fun k => ¬ X k) w1 wx)
    case first =>
      by_cases hnn : n = nm
      · have hd : (n != nm) = false := by simpa using hnn
        have HB : Hid (L.begun n = L) := Lib.hid (by unfold LS.begun; rw [hnm, if_pos hnn])
        clear hnn hnm
        go_wp2_with fail
        go_meet
        exact ⟨by rw [HB.out]; exact H1.out, Fr.refl _ _⟩
      · have hd : (n != nm) = true := by simpa using hnn
        have HB : Hid (L.begun n = { L with files := L.files ++ [⟨n, 0⟩], size := 0, names := true }) := Lib.hid (by unfold LS.begun; rw [hnm, if_neg hnn])
        obtain ⟨i0, hi0, hz0, hz1, hz2⟩ := info_parts info102
        obtain ⟨A, c, q4, hrow, hgl, hadd⟩ := H1.out.addSeg (by have := HOK.out.files; omega)
        have HROW := Lib.hid hrow
        have HADD := Lib.hid (hadd ⟨n, 0⟩)
        have hnl : L.files.length ≤ 64 + N := HOK.out.files
        obtain ⟨nn, hnn'⟩ : ∃ nn, L.files.length = nn := ⟨_, rfl⟩
        rw [hnn'] at q4 HROW HADD hnl
        clear hnn' hnn hnm hrow hadd
        go_upto_region 6 with (at_builtin; refine wpList_append_lies _ (by rfl) _ _ 69 (by rfl) 0 102 i0 _ 2 16 Tryz.underlying69 hi0 hz0 hz1 hz2 rfl (by omega) (.slice A nn c) _ _ (by rfl) (HROW.out.alloc _) ⟨w1.heap.size, 0, none⟩ 1 1 [.int .i64 n, .int .i64 0] (by rfl) (by rfl) (World.news_of_block (cs := #[.int .i64 n, .int .i64 0]) (t := 102) (fr := (0, 0)) (heap_alloc_new w1 _)) (by simp [Value.oneCell']) (by omega) (by unfold maxLen; omega) (by omega) (by simp) (w1.heap.size + 1) (by simp) ?_; intro gg cap w5 hown3 hgrow hat hlt; have hall := HADD.out _ _ _ _ ⟨by show 0 ≤ n; omega, hn1⟩ ((Fr.refl No w1).alloc _) hgrow hown3 (hat.imp id (fun e => by omega)); have q7 := hall.1; have qf := hall.2.1; have HE := Lib.hid hall.2.2; clear hgrow hown3 hat hall)
        obtain ⟨w6, hw6⟩ : ∃ w6, w5.setCell ⟨g, 4, none⟩ (.slice (some ⟨gg, 0, none⟩) (nn + 1) cap) = w6 := ⟨_, rfl⟩
        rw [hw6] at HE ⊢
        clear hw6 q7 qf q4 hlt
        obtain ⟨fv6, x0, x1, x2, x3, x4, x5, x6, x7, x8⟩ := HE.out.1.cells
        have y5 := HE.out.1.frozen 5
        have hokE := HE.out.1.ok
        have hS7 := HE.out.1.set 5 (.int .i64 0) { L with files := L.files ++ [⟨n, 0⟩], size := 0 } (fun _ => rfl) rfl ⟨hokE.last, hokE.firm, hokE.number, by simp only; omega, hokE.files⟩
        obtain ⟨w7, hw7⟩ : ∃ w7, w6.setCell ⟨g, 5, none⟩ (.int .i64 0) = w7 := ⟨_, rfl⟩
        rw [hw7] at hS7
        have hok7 := hS7.1.ok
        have hS8 := hS7.1.set 7 (.bool true) { L with files := L.files ++ [⟨n, 0⟩], size := 0, names := true } (fun _ => rfl) rfl ⟨hok7.last, hok7.firm, hok7.number, hok7.size, hok7.files⟩
        have HW7 := Lib.hid hw7
        have HS8 := Lib.hid hS8
        have HC7 := Lib.hid hS7.1.cells
        have HY7 := Lib.hid (hS7.1.frozen 7)
        have HFF7 := Lib.hid (HE.out.2.thenX hS7.2)
        clear hokE hok7 hS7 hS8 hw7 x0 x1 x2 x3 x4 x5 x7 x8
        go_upto_region 7 with fail
        rw [HW7.out]
        obtain ⟨fv7, z0, z1, z2, z3, z4, z5, z6, z7, z8⟩ := HC7.out
        have y7 := HY7.out
        clear z0 z1 z2 z3 z4 z5 z6 z7
        go_wp2_with fail
        go_meet
        exact ⟨by rw [HB.out]; exact HS8.out.1, HFF7.out.thenX HS8.out.2⟩
    case rest =>
    obtain ⟨hL, hF⟩ := hcut
    have HLB := Lib.hid hL
    have HFB := Lib.hid (F1.out.thenX hF)
    clear hL hF H1 F1 hnm
    obtain ⟨fs, s, hfs, hsn⟩ := begun_files L hn0
    have hsame := (begun_same L n).1
    have hbsz : 0 ≤ (L.begun n).size ∧ (L.begun n).size ≤ ((N : Int) + 1) * 33554432 := by
      have h1 := HOK.out.size
      rcases begun_size L n with e | e
      · rw [e]; exact h1
      · rw [e]; omega
    have HPUT : Hid (L.put n r.length = { L.begun n with files := fs ++ [⟨s.n, L.last + 1⟩], last := L.last + 1, size := (L.begun n).size + r.length, bytes := true }) := Lib.hid (by unfold LS.put; rw [more_eq hfs, hsame])
    obtain ⟨LB, hLB⟩ : ∃ LB, L.begun n = LB := ⟨_, rfl⟩
    rw [hLB] at HLB hfs hsame hbsz HPUT
    clear hLB
    obtain ⟨la, hla⟩ : ∃ la, L.last = la := ⟨_, rfl⟩
    rw [hla] at hsame hlast HPUT
    obtain ⟨sz, hsz⟩ : ∃ sz, LB.size = sz := ⟨_, rfl⟩
    rw [hsz] at hbsz HPUT
    have hlo := HOK.out.last
    rw [hla] at hlo
    clear hla
    have hw1 : IntKind.i64.wrap (la + 1) = la + 1 := IntWalk.i64_in _ (by omega)
    have hw2 : IntKind.i64.wrap (sz + (r.length : Int)) = sz + (r.length : Int) := IntWalk.i64_in _ (by omega)
    obtain ⟨fv', d0, d1, d2, d3, d4, d5, d6, d7, d8⟩ := HLB.out.cells
    rw [hsame] at d2
    have y2 := HLB.out.frozen 2
    have hok1 := HLB.out.ok
    have hS2 := HLB.out.set 2 (.int .i64 (la + 1)) { LB with last := la + 1 } (fun _ => rfl) rfl ⟨by simp only; omega, hok1.firm, hok1.number, hok1.size, hok1.files⟩
    obtain ⟨w2, hw2e⟩ : ∃ w2, wc.setCell ⟨g, 2, none⟩ (.int .i64 (la + 1)) = w2 := ⟨_, rfl⟩
    rw [hw2e] at hS2
    have HS2 := Lib.hid hS2
    have HW2 := Lib.hid hw2e
    clear hok1 hS2 hw2e d0 d1 d3 d4 d5 d6 d7 d8
    go_upto_region 9 with fail
    rw [HW2.out]
    clear d2 y2 HW2
    obtain ⟨gf, cap, q4, hnc, hcm, k0, k1, kf, hset⟩ := HS2.out.1.lastSeg (fs := fs) (s := s) hfs
    have hfl2 : fs.length < 64 + (N + 1) := by
      have h1 := HS2.out.1.ok.files
      have h2 : LB.files.length = fs.length + 1 := by rw [hfs]; simp
      have h3 : LB.files.length ≤ 64 + (N + 1) := h1
      omega
    have HSET := Lib.hid (hset (la + 1))
    obtain ⟨q, hq⟩ : ∃ q, fs.length + 1 = q := ⟨_, rfl⟩
    obtain ⟨m, hm⟩ : ∃ m, fs.length = m := ⟨_, rfl⟩
    have hwq : IntKind.i64.wrap ((q : Int) - 1) = (m : Int) := by rw [show (q : Int) - 1 = (m : Int) by omega]; exact IntWalk.i64_in _ (by omega)
    have b1 : (0 : Int) ≤ (m : Int) := by omega
    have b2 : (m : Int) < (q : Int) := by omega
    have b3 : (q : Int) ≤ 1000000100 := by omega
    rw [hq] at q4
    rw [hm] at k1 kf HSET
    obtain ⟨fv2, z0, z1, z2, z3, z4, z5, z6, z7, z8⟩ := HS2.out.1.cells
    have n2 : w2.cell? ⟨g, 2, none⟩ = some (.int .i64 (la + 1)) := z2
    clear z0 z1 z2 z3 z4 z5 z6 z7 z8 hset hnc hcm k0 hq hm hfl2
    go_still_tail 16, (by kernel_rfl)
    change wpList _ _ _ _ _ (World.drew _)
    go_upto_region 10 with fail
    obtain ⟨w3, hw3⟩ : ∃ w3, (w2.setCell ⟨gf, m * 2 + 1, none⟩ (.int .i64 (la + 1))).drew = w3 := ⟨_, rfl⟩
    have H3 : Hid (Lg w3 X d g (N + 1) S1 { LB with last := la + 1, files := fs ++ [⟨s.n, la + 1⟩] }) := Lib.hid (by rw [← hw3]; exact HSET.out.1.keep ((Fr.refl No _).drew))
    have F3 : Hid (Fr (fun k => ¬ X k) w w3) := Lib.hid (by rw [← hw3]; exact (HFB.out.thenX HS2.out.2).thenX HSET.out.2.drew)
    rw [hw3]
    clear hw3 q4 k1 kf hwq b1 b2 b3 n2 HSET HS2
    obtain ⟨fv3, z0, z1, z2, z3, z4, z5, z6, z7, z8⟩ := H3.out.cells
    have n5 : w3.cell? ⟨g, 5, none⟩ = some (.int .i64 sz) := by rw [← hsz]; exact z6
    have y5 := H3.out.frozen 5
    have hok3 := H3.out.ok
    have hS4 := H3.out.set 5 (.int .i64 (sz + (r.length : Int))) { LB with last := la + 1, files := fs ++ [⟨s.n, la + 1⟩], size := sz + r.length } (fun _ => rfl) rfl ⟨hok3.last, hok3.firm, hok3.number, by simp only; omega, hok3.files⟩
    obtain ⟨w4, hw4⟩ : ∃ w4, w3.setCell ⟨g, 5, none⟩ (.int .i64 (sz + (r.length : Int))) = w4 := ⟨_, rfl⟩
    rw [hw4] at hS4
    have hok4 := hS4.1.ok
    have hS5 := hS4.1.set 6 (.bool true) { LB with last := la + 1, files := fs ++ [⟨s.n, la + 1⟩], size := sz + r.length, bytes := true } (fun _ => rfl) rfl ⟨hok4.last, hok4.firm, hok4.number, hok4.size, hok4.files⟩
    have HS5 := Lib.hid hS5
    have HF4 := Lib.hid (F3.out.thenX hS4.2)
    have HC4 := Lib.hid hS4.1.cells
    have HY4 := Lib.hid (hS4.1.frozen 6)
    have HW4 := Lib.hid hw4
    clear hok3 hok4 hS4 hS5 hw4 z0 z1 z2 z3 z4 z5 z6 z7 z8
    go_upto_region 11 with fail
    rw [HW4.out]
    obtain ⟨fv4, z0, z1, z2, z3, z4, z5, z6, z7, z8⟩ := HC4.out
    have y6 := HY4.out
    clear z0 z1 z2 z3 z4 z5 z6 z8 n5 y5
    go_wp2
    go_ret
    exact ⟨by rw [HV.out]; rfl, by rw [HV.out]; show Lg _ X d g (N + 1) S1 (L.put n r.length); rw [HPUT.out]; exact HS5.out.1, HF4.out.thenX HS5.out.2⟩
  · rw [if_neg he] at HV
    have hd : (E != 0) = true := by simpa using he
    clear he
    go_wp2
    go_ret
    exact ⟨by rw [HV.out]; rfl, by rw [HV.out]; exact HLL.out, HFF.out⟩
end Go.Proofs.YtccjkolcmdhliaaGreatDoor
/- The log: Append, Sync, Last, Firm, Broken. -/
namespace Go.Proofs.YtccjkolcmdhliaaGreatDoor
open Go.RowKit Go.Maps
set_option linter.unusedVariables false

theorem frameR_len (l : List UInt8) : (frameR l).length = 8 + l.length := by
  unfold frameR
  rw [List.length_append, List.length_append, low_len, low_len]
theorem recB_len (n : Int) (d : List UInt8) : (recB n d).1.length ≤ 65544 := by
  unfold recB
  split
  · rw [frameR_len, body_len]; omega
  · simp
theorem recB_err (n : Int) (d : List UInt8) : (recB n d).2 = 0 ∨ (recB n d).2 = 23 := by
  unfold recB; split
  · exact .inl rfl
  · exact .inr rfl
theorem placeL_same (S : AS) (L : LS) : (placeL S L).2.1.last = L.last ∧ (placeL S L).2.1.number = L.number := by
  unfold placeL
  split
  · exact ⟨rfl, rfl⟩
  · split
    · exact ⟨(syncB_same S L).2.2.2.1, (syncB_same S L).2.1⟩
    · exact ⟨(syncB_same S L).2.2.2.1, (syncB_same S L).2.1⟩
theorem placeL_num {S : AS} {L : LS} (h : (placeL S L).2.2.2 = 0) : (placeL S L).2.2.1 = L.number ∧ 0 < L.number ∨ (placeL S L).2.2.1 = L.number + 1 := by
  unfold placeL at h ⊢
  split
  · rename_i h1; exact .inl ⟨rfl, h1.1⟩
  · rename_i h1
    rw [if_neg h1] at h
    split
    · exact .inr rfl
    · rename_i h2
      rw [if_neg h2] at h
      exact absurd h h2
def appendL (S : AS) (L : LS) (data : List UInt8) : AS × LS × Int × Int :=
  if L.fault ≠ 0 then (S, L, 0, L.fault)
  else if L.last = 9223372036854775807 then (S, L, 0, 23)
  else if (recB (L.last + 1) data).2 ≠ 0 then (S, L, 0, (recB (L.last + 1) data).2)
  else if (placeL S L).2.2.2 ≠ 0 then ((placeL S L).1, (placeL S L).2.1, 0, (placeL S L).2.2.2)
  else if (writeL (placeL S L).1 (placeL S L).2.1 (placeL S L).2.2.1 (recB (L.last + 1) data).1).2.2 ≠ 0 then ((writeL (placeL S L).1 (placeL S L).2.1 (placeL S L).2.2.1 (recB (L.last + 1) data).1).1, (writeL (placeL S L).1 (placeL S L).2.1 (placeL S L).2.2.1 (recB (L.last + 1) data).1).2.1, 0, (writeL (placeL S L).1 (placeL S L).2.1 (placeL S L).2.2.1 (recB (L.last + 1) data).1).2.2)
  else ((writeL (placeL S L).1 (placeL S L).2.1 (placeL S L).2.2.1 (recB (L.last + 1) data).1).1, (writeL (placeL S L).1 (placeL S L).2.1 (placeL S L).2.2.1 (recB (L.last + 1) data).1).2.1, (writeL (placeL S L).1 (placeL S L).2.1 (placeL S L).2.2.1 (recB (L.last + 1) data).1).2.1.last, 0)
def AppPost (X : Nat → Prop) (d g N : Nat) (w : World) (r : AS × LS × Int × Int) (e : Ending) (w' : World) : Prop :=
  e = .returned (.tuple #[.int .i64 r.2.2.1, .int .i64 r.2.2.2]) ∧ Lg w' X d g (N + 2) r.1 r.2.1 ∧ Fr (fun k => ¬ X k) w w'
set_option maxRecDepth 100000 in
set_option maxHeartbeats 2000000 in
theorem append_any {w : World} {X : Nat → Prop} {d g N : Nat} {S : AS} {L : LS} (h : Lg w X d g N S L) (hN : N + 2 ≤ 1000000000) (data : List UInt8) (hd : data.length ≤ 4294967295) : Calls Tryz.prog 24 #[gpt g, sv data] w (AppPost X d g N w (appendL S L data)) := by
  have H := Lib.hid h
  obtain ⟨fv, c0, c1, c2, c3, c4, c5, c6, c7, c8⟩ := h.cells
  have hlast := h.ok.last
  have C0 := Lib.hid (state_any h)
  have HLL := Lib.hid (placeL_same S L)
  have HPN := Lib.hid (@placeL_num S L)
  have hnum := h.ok.number
  have HRE := Lib.hid (recB_err (L.last + 1) data)
  have HRL := Lib.hid (recB_len (L.last + 1) data)
  have HRC := Lib.hid (fun w => record_any (L.last + 1) data w hd)
  clear h c0 c1 c3 c4 c5 c6 c7 c8
  unfold gpt at C0 ⊢
  by_cases hf : L.fault = 0
  · rw [hf] at C0
    by_cases hm : L.last = 9223372036854775807
    · have HV : Hid (appendL S L data = (S, L, 0, 23)) := Lib.hid (by unfold appendL; rw [if_neg (by simp [hf]), if_pos hm])
      have hb : (L.last == 9223372036854775807) = true := by simpa using hm
      clear hm hf HLL HPN HRE HRL HRC hlast hnum
      generalize L.last = la at *
      go_enter Tryz.func24, Tryz.ntmps24
      go_wp2_with fail
      refine C0.out.mono ?_
      rintro e w' ⟨rfl, rfl⟩
      go_wp2
      go_ret2
      exact ⟨by rw [HV.out]; rfl, by rw [HV.out]; exact H.out.more (by omega) hN, Fr.refl _ _⟩
    · have hb : (L.last == 9223372036854775807) = false := by simpa using hm
      have hw1 : IntKind.i64.wrap (L.last + 1) = L.last + 1 := IntWalk.i64_in _ (by omega)
      have HLT : Hid (L.last < 9223372036854775807) := Lib.hid (by omega)
      have HV0 : Hid (appendL S L data = if (recB (L.last + 1) data).2 ≠ 0 then (S, L, 0, (recB (L.last + 1) data).2)
        else if (placeL S L).2.2.2 ≠ 0 then ((placeL S L).1, (placeL S L).2.1, 0, (placeL S L).2.2.2)
        else if (writeL (placeL S L).1 (placeL S L).2.1 (placeL S L).2.2.1 (recB (L.last + 1) data).1).2.2 ≠ 0 then ((writeL (placeL S L).1 (placeL S L).2.1 (placeL S L).2.2.1 (recB (L.last + 1) data).1).1, (writeL (placeL S L).1 (placeL S L).2.1 (placeL S L).2.2.1 (recB (L.last + 1) data).1).2.1, 0, (writeL (placeL S L).1 (placeL S L).2.1 (placeL S L).2.2.1 (recB (L.last + 1) data).1).2.2)
        else ((writeL (placeL S L).1 (placeL S L).2.1 (placeL S L).2.2.1 (recB (L.last + 1) data).1).1, (writeL (placeL S L).1 (placeL S L).2.1 (placeL S L).2.2.1 (recB (L.last + 1) data).1).2.1, (writeL (placeL S L).1 (placeL S L).2.1 (placeL S L).2.2.1 (recB (L.last + 1) data).1).2.1.last, 0)) := Lib.hid (by unfold appendL; rw [if_neg (by simp [hf]), if_neg hm])
      clear hm hf hlast
      obtain ⟨rc, re, hrc⟩ : ∃ a b, recB (L.last + 1) data = (a, b) := ⟨_, _, rfl⟩
      rw [hrc] at HV0 HRE HRL
      have HRC' := HRC
      simp only [hrc] at HRC'
      clear HRC hrc
      go_enter Tryz.func24, Tryz.ntmps24
      go_wp2_with fail
      refine C0.out.mono ?_
      rintro e w' ⟨rfl, rfl⟩
      go_wp2_with fail
      refine (HRC'.out w).mono ?_
      rintro e w1 ⟨rfl, f1⟩
      have HL1 := Lib.hid (H.out.keep f1)
      have HF1 : Hid (Fr (fun k => ¬ X k) w w1) := Lib.hid f1.any
      clear f1 HRC'
      by_cases hre : re = 0
      · subst hre
        have HV1 := Lib.hid ((HV0.out).trans (if_neg (by simp)))
        have CB := placeL_any HL1.out
        unfold gpt at CB
        have CBH := Lib.hid CB
        clear HV0 CB
        obtain ⟨S1, L1, pn, E1, hbe⟩ : ∃ a b c d, placeL S L = (a, b, c, d) := ⟨_, _, _, _, rfl⟩
        rw [hbe] at HV1 CBH HLL HPN
        clear hbe
        go_wp2_with fail
        refine CBH.out.mono ?_
        rintro e w2 ⟨rfl, h2, f2⟩
        have HL2 := Lib.hid (show Lg w2 X d g N S1 L1 from h2)
        have HF2 := Lib.hid (HF1.out.thenX f2)
        clear h2 f2 CBH
        by_cases hE1 : E1 = 0
        · subst hE1
          have HV2 := Lib.hid ((HV1.out).trans (if_neg (by simp)))
          have hpn : 0 < pn ∧ pn ≤ 100000000 + ((N + 1 : Nat) : Int) := by
            rcases HPN.out rfl with ⟨e, e2⟩ | e
            · have e' : pn = L.number := e
              omega
            · have e' : pn = L.number + 1 := e
              omega
          have CW := writeL_any HL2.out (by omega) pn hpn.1 hpn.2 rc (by have h1 : rc.length ≤ 65544 := HRL.out; omega) (by have h1 : L1.last = L.last := HLL.out.1; rw [h1]; exact HLT.out)
          unfold gpt at CW
          have CWH := Lib.hid CW
          clear HV1 CW hpn
          obtain ⟨S2, L2, E2, hwe⟩ : ∃ a b c, writeL S1 L1 pn rc = (a, b, c) := ⟨_, _, _, rfl⟩
          simp only [hwe] at HV2
          rw [hwe] at CWH
          clear hwe
          go_wp2_with fail
          refine CWH.out.mono ?_
          rintro e w3 ⟨rfl, h3, f3⟩
          have HL3 := Lib.hid (Lg.more (show Lg w3 X d g (N + 1) S2 L2 from h3) (Nat.le_succ _) hN)
          have HF3 := Lib.hid (HF2.out.thenX f3)
          clear h3 f3 CWH c2
          by_cases hE2 : E2 = 0
          · subst hE2
            have HV3 := Lib.hid ((HV2.out).trans (if_neg (by simp)))
            obtain ⟨fv3, x0, x1, x2, x3, x4, x5, x6, x7, x8⟩ := HL3.out.cells
            clear HV2 x0 x1 x3 x4 x5 x6 x7 x8
            go_wp2
            go_ret2
            exact ⟨by rw [HV3.out]; rfl, by rw [HV3.out]; exact HL3.out, HF3.out⟩
          · have hd2 : (E2 != 0) = true := by simpa using hE2
            have HV3 := Lib.hid ((HV2.out).trans (if_pos (by simpa using hE2)))
            clear HV2 hE2
            go_wp2
            go_ret2
            exact ⟨by rw [HV3.out]; rfl, by rw [HV3.out]; exact HL3.out, HF3.out⟩
        · have hd1 : (E1 != 0) = true := by simpa using hE1
          have HV2 := Lib.hid ((HV1.out).trans (if_pos (by simpa using hE1)))
          clear HV1 hE1
          go_wp2
          go_ret2
          exact ⟨by rw [HV2.out]; rfl, by rw [HV2.out]; exact HL2.out.more (by omega) hN, HF2.out⟩
      · have hdr : (re != 0) = true := by simpa using hre
        have HV1 := Lib.hid ((HV0.out).trans (if_pos (by simpa using hre)))
        clear HV0 hre
        go_wp2
        go_ret2
        exact ⟨by rw [HV1.out]; rfl, by rw [HV1.out]; exact HL1.out.more (by omega) hN, HF1.out⟩
  · have HV : Hid (appendL S L data = (S, L, 0, L.fault)) := Lib.hid (by unfold appendL; rw [if_pos hf])
    have hd : (L.fault != 0) = true := by simpa using hf
    clear hf HLL HPN HRE HRL HRC hlast c2 hnum
    generalize hfa : L.fault = fa at *
    have HFA := Lib.hid hfa
    clear hfa
    go_enter Tryz.func24, Tryz.ntmps24
    go_wp2_with fail
    refine C0.out.mono ?_
    rintro e w' ⟨rfl, rfl⟩
    go_wp2
    go_ret2
    exact ⟨by rw [HV.out]; rfl, by rw [HV.out]; exact H.out.more (by omega) hN, Fr.refl _ _⟩

/-! ### Sync -/
def LS.firmed (L : LS) : LS := { L with firm := L.last }
def syncL (S : AS) (L : LS) : AS × LS × Int :=
  if L.fault ≠ 0 then (S, L, L.fault)
  else if (syncB S L).2.2 ≠ 0 then syncB S L
  else if (syncB S L).2.1.names then
    if (settleL (syncB S L).1 (syncB S L).2.1).2.2 ≠ 0 then settleL (syncB S L).1 (syncB S L).2.1
    else ((settleL (syncB S L).1 (syncB S L).2.1).1, (settleL (syncB S L).1 (syncB S L).2.1).2.1.firmed, 0)
  else ((syncB S L).1, (syncB S L).2.1.firmed, 0)
theorem Lg.firmed {w : World} {X : Nat → Prop} {d g N : Nat} {S : AS} {L : LS} (h : Lg w X d g N S L) : Lg (w.setCell ⟨g, 3, none⟩ (.int .i64 L.last)) X d g N S L.firmed ∧ Fr (fun k => ¬ X k) w (w.setCell ⟨g, 3, none⟩ (.int .i64 L.last)) :=
  h.set 3 (.int .i64 L.last) L.firmed (fun _ => rfl) rfl ⟨h.ok.last, h.ok.last, h.ok.number, h.ok.size, h.ok.files⟩
set_option maxRecDepth 100000 in
set_option maxHeartbeats 2000000 in
theorem syncL_any {w : World} {X : Nat → Prop} {d g N : Nat} {S : AS} {L : LS} (h : Lg w X d g N S L) : Calls Tryz.prog 20 #[gpt g] w fun e w' => e = .returned (.int .i64 (syncL S L).2.2) ∧ Lg w' X d g N (syncL S L).1 (syncL S L).2.1 ∧ Fr (fun k => ¬ X k) w w' := by
  have H := Lib.hid h
  have C0 := Lib.hid (state_any h)
  have CB := Lib.hid (syncB_any h)
  clear h
  unfold gpt at C0 CB ⊢
  by_cases hf : L.fault = 0
  · rw [hf] at C0
    have HV0 : Hid (syncL S L = if (syncB S L).2.2 ≠ 0 then syncB S L
      else if (syncB S L).2.1.names then
        if (settleL (syncB S L).1 (syncB S L).2.1).2.2 ≠ 0 then settleL (syncB S L).1 (syncB S L).2.1
        else ((settleL (syncB S L).1 (syncB S L).2.1).1, (settleL (syncB S L).1 (syncB S L).2.1).2.1.firmed, 0)
      else ((syncB S L).1, (syncB S L).2.1.firmed, 0)) := Lib.hid (by unfold syncL; rw [if_neg (by simp [hf])])
    obtain ⟨S1, L1, E1, hbe⟩ : ∃ a b c, syncB S L = (a, b, c) := ⟨_, _, _, rfl⟩
    rw [hbe] at HV0 CB
    clear hbe hf
    go_enter Tryz.func20, Tryz.ntmps20
    go_wp2_with fail
    refine C0.out.mono ?_
    rintro e w' ⟨rfl, rfl⟩
    go_wp2_with fail
    refine CB.out.mono ?_
    rintro e w1 ⟨rfl, h1, f1⟩
    have H1 := Lib.hid (show Lg w1 X d g N S1 L1 from h1)
    have F1 := Lib.hid f1
    clear h1 f1 CB C0
    by_cases hE1 : E1 = 0
    · subst hE1
      have HV1 := Lib.hid ((HV0.out).trans (if_neg (by simp)))
      obtain ⟨fv, x0, x1, x2, x3, x4, x5, x6, x7, x8⟩ := H1.out.cells
      have y3 := H1.out.frozen 3
      clear HV0 x0 x1 x4 x5 x6 x7
      cases hn : L1.names with
      | false =>
        rw [hn] at x8
        have HV2 : Hid (syncL S L = (S1, L1.firmed, 0)) := Lib.hid (by rw [HV1.out, if_neg (by simp [hn])])
        have HX := Lib.hid H1.out.firmed
        clear HV1 hn
        go_wp2
        go_ret
        exact ⟨by rw [HV2.out]; rfl, by rw [HV2.out]; exact HX.out.1, F1.out.thenX HX.out.2⟩
      | true =>
        rw [hn] at x8
        have HV2 := Lib.hid ((HV1.out).trans (if_pos (by simp [hn])))
        have CS := settleL_any H1.out
        unfold gpt at CS
        have CSH := Lib.hid CS
        obtain ⟨S2, L2, E2, hse⟩ : ∃ a b c, settleL S1 L1 = (a, b, c) := ⟨_, _, _, rfl⟩
        simp only [hse] at HV2
        rw [hse] at CSH
        clear HV1 hn CS hse
        go_wp2_with fail
        refine CSH.out.mono ?_
        rintro e w2 ⟨rfl, h2, f2⟩
        have H2 := Lib.hid (show Lg w2 X d g N S2 L2 from h2)
        have F2 := Lib.hid (F1.out.thenX f2)
        clear h2 f2 CSH x2 x3 x8 y3
        by_cases hE2 : E2 = 0
        · subst hE2
          have HV3 := Lib.hid ((HV2.out).trans (if_neg (by simp)))
          obtain ⟨fv2, x0, x1, x2, x3, x4, x5, x6, x7, x8⟩ := H2.out.cells
          have y3 := H2.out.frozen 3
          have HX := Lib.hid H2.out.firmed
          clear HV2 x0 x1 x4 x5 x6 x7 x8
          go_wp2
          go_ret
          exact ⟨by rw [HV3.out]; rfl, by rw [HV3.out]; exact HX.out.1, F2.out.thenX HX.out.2⟩
        · have hd2 : (E2 != 0) = true := by simpa using hE2
          have HV3 := Lib.hid ((HV2.out).trans (if_pos (by simpa using hE2)))
          clear HV2 hE2
          go_wp2
          go_ret
          exact ⟨by rw [HV3.out]; rfl, by rw [HV3.out]; exact H2.out, F2.out⟩
    · have hd1 : (E1 != 0) = true := by simpa using hE1
      have HV1 := Lib.hid ((HV0.out).trans (if_pos (by simpa using hE1)))
      clear HV0 hE1
      go_wp2
      go_ret
      exact ⟨by rw [HV1.out]; rfl, by rw [HV1.out]; exact H1.out, F1.out⟩
  · have HV : Hid (syncL S L = (S, L, L.fault)) := Lib.hid (by unfold syncL; rw [if_pos hf])
    have hd : (L.fault != 0) = true := by simpa using hf
    clear hf CB
    generalize hfa : L.fault = fa at *
    have HFA := Lib.hid hfa
    clear hfa
    go_enter Tryz.func20, Tryz.ntmps20
    go_wp2_with fail
    refine C0.out.mono ?_
    rintro e w' ⟨rfl, rfl⟩
    go_wp2
    go_ret
    exact ⟨by rw [HV.out]; rfl, by rw [HV.out]; exact H.out, Fr.refl _ _⟩

/-! ### what is told -/
set_option maxHeartbeats 400000 in
theorem last_any {w : World} {X : Nat → Prop} {d g N : Nat} {S : AS} {L : LS} (h : Lg w X d g N S L) : Calls Tryz.prog 16 #[gpt g] w fun e w' => e = .returned (.int .i64 L.last) ∧ w = w' := by
  obtain ⟨fv, c0, c1, c2, _⟩ := h.cells
  unfold gpt
  clear h c0 c1
  go_enter Tryz.func16, Tryz.ntmps16
  go_wp2
  go_ret
  exact ⟨rfl, rfl⟩
set_option maxHeartbeats 400000 in
theorem firm_any {w : World} {X : Nat → Prop} {d g N : Nat} {S : AS} {L : LS} (h : Lg w X d g N S L) : Calls Tryz.prog 17 #[gpt g] w fun e w' => e = .returned (.int .i64 L.firm) ∧ w = w' := by
  obtain ⟨fv, c0, c1, c2, c3, _⟩ := h.cells
  unfold gpt
  clear h c0 c1 c2
  go_enter Tryz.func17, Tryz.ntmps17
  go_wp2
  go_ret
  exact ⟨rfl, rfl⟩
set_option maxHeartbeats 400000 in
theorem broken_any {w : World} {X : Nat → Prop} {d g N : Nat} {S : AS} {L : LS} (h : Lg w X d g N S L) : Calls Tryz.prog 18 #[gpt g] w fun e w' => e = .returned (.bool (L.fault != 0)) ∧ w = w' := by
  obtain ⟨fv, c0, c1, _⟩ := h.cells
  unfold gpt
  clear h c0
  go_enter Tryz.func18, Tryz.ntmps18
  go_wp2
  go_ret
  exact ⟨rfl, rfl⟩
end Go.Proofs.YtccjkolcmdhliaaGreatDoor
/- Opening a log: the segments' numbers; check, must. -/
namespace Go.Proofs.YtccjkolcmdhliaaGreatDoor
open Go.RowKit Go.Maps Go.Sort Go.Lib
set_option linter.unusedVariables false

/-! ### check, must -/
def given (n : Int) : Value := .iface 39 (.int .i64 n)
theorem check_ok (w : World) : Calls Tryz.prog 53 #[.bool true] w fun e w' => e = .returned (.tuple #[]) ∧ w = w' := by
  go_enter Tryz.func53, Tryz.ntmps53
  go_wp2
  go_end0
  exact ⟨rfl, rfl⟩
theorem check_no (w : World) : Calls Tryz.prog 53 #[.bool false] w fun e w' => e = .panicked [{ v := given 24, recovered := false }] ∧ w = w' := by
  go_enter Tryz.func53, Tryz.ntmps53
  go_wp2
  exact ⟨rfl, rfl, rfl⟩
theorem must_ok (w : World) : Calls Tryz.prog 103 #[.int .i64 0] w fun e w' => e = .returned (.tuple #[]) ∧ w = w' := by
  go_enter Tryz.func103, Tryz.ntmps103
  go_wp2
  go_end0
  exact ⟨rfl, rfl⟩
theorem must_no (n : Int) (hn : n ≠ 0) (w : World) : Calls Tryz.prog 103 #[.int .i64 n] w fun e w' => e = .panicked [{ v := given n, recovered := false }] ∧ w = w' := by
  have hb : (n != 0) = true := by simpa using hn
  clear hn
  go_enter Tryz.func103, Tryz.ntmps103
  go_wp2
  exact ⟨rfl, rfl, rfl⟩

/-! ### numberOf -/
def walL : List UInt8 := [119, 97, 108, 45]
def numW (s : List UInt8) : Int :=
  match Lib.atoiAll (Lib.trimPrefix s walL) with
  | .ok v => if nameW v = s then v else 0
  | _ => 0
theorem numW_bd (s : List UInt8) : i64 (numW s) := by
  unfold numW
  cases h : Lib.atoiAll (Lib.trimPrefix s walL) with
  | ok v =>
    simp only
    split
    · exact Lib.atoiAll_bounds h
    · unfold i64; omega
  | _ => simp only; unfold i64; omega
theorem trim_any (s : List UInt8) (w : World) : Calls Tryz.prog 154 #[sv s, sv walL] w fun e w' => e = .returned (sv (Lib.trimPrefix s walL)) ∧ w = w' := by
  refine (Tryz.strings_TrimPrefix ⟨s.toArray⟩ ⟨walL.toArray⟩ w).mono ?_
  rintro e w' ⟨h1, h2⟩
  exact ⟨h1, h2.symm⟩
theorem trim_len (s p : List UInt8) : (Lib.trimPrefix s p).length ≤ s.length := by
  unfold Lib.trimPrefix
  split
  · simp
  · exact Nat.le_refl _
theorem bytes_fr (w : World) (t : ByteArray) : Fr No w (Lib.bytesWorld w 5 t) :=
  ⟨rfl, rfl, rfl, by rw [Lib.bytesWorld_size]; omega, fun k hk _ => Lib.bytesWorld_at_old w 5 t k hk⟩
set_option maxHeartbeats 1000000 in
theorem numberOf_any (s : List UInt8) (w : World) (hv : Vr w) (hl : s.length ≤ 1000000) : Calls Tryz.prog 131 #[sv s] w fun e w' => e = .returned (.int .i64 (numW s)) ∧ Fr No w w' := by
  have HT := Lib.hid (trim_any s w)
  have htl := trim_len s walL
  obtain ⟨t, ht⟩ : ∃ t, Lib.trimPrefix s walL = t := ⟨_, rfl⟩
  have HNW : Hid (numW s = match Lib.atoiAll t with | .ok v => if nameW v = s then v else 0 | _ => 0) := Lib.hid (by unfold numW; rw [ht])
  rw [ht] at HT htl
  have HV := Lib.hid hv
  clear ht
  unfold walL at HT
  cases h : Lib.atoiAll t with
  | ok v =>
    have hbd := Lib.atoiAll_bounds h
    have HA := Lib.hid (Tryz.strconv_Atoi_ok ⟨t.toArray⟩ (by rw [sz]; omega) v h w)
    rw [h] at HNW
    clear h htl
    go_enter Tryz.func131, Tryz.ntmps131
    go_wp2_with fail
    refine HT.out.mono ?_
    rintro e w' ⟨rfl, rfl⟩
    go_wp2_with fail
    refine HA.out.mono ?_
    rintro e w1 ⟨rfl, hw1⟩
    have hf1 : Fr No w w1 := by
      rcases hw1 with rfl | ⟨t', rfl⟩
      · exact Fr.refl _ _
      · exact bytes_fr w t'
    have F1 := Lib.hid hf1
    have HN := Lib.hid (name_any v w1 (hv.keep hf1) hbd.1 hbd.2)
    obtain ⟨nv, hnv⟩ : ∃ nv, nameW v = nv := ⟨_, rfl⟩
    rw [hnv] at HN HNW
    clear hw1 hf1 hnv HA hv
    go_wp2_with fail
    refine HN.out.mono ?_
    rintro e w2 ⟨rfl, f2⟩
    have F2 := Lib.hid (F1.out.trans f2 fun _ _ h => h)
    clear f2
    by_cases hc : nv = s
    · have HE : Hid (numW s = v) := Lib.hid (by rw [HNW.out, if_pos hc])
      have hb : (nv == s) = true := by simpa using hc
      have hb2 : (nv != s) = false := by simpa using hc
      clear hc
      go_wp2
      go_ret
      exact ⟨by rw [HE.out]; rfl, F2.out⟩
    · have HE : Hid (numW s = 0) := Lib.hid (by rw [HNW.out, if_neg hc])
      have hb : (nv == s) = false := by simpa using hc
      have hb2 : (nv != s) = true := by simpa using hc
      clear hc
      go_wp2
      go_ret
      exact ⟨by rw [HE.out]; rfl, F2.out⟩
  | range =>
    obtain ⟨tp, p, hs⟩ := hv.rng
    have HA := Lib.hid (Tryz.strconv_Atoi_range_var ⟨t.toArray⟩ (by rw [sz]; omega) h tp p w hs)
    have HE : Hid (numW s = 0) := Lib.hid (by rw [HNW.out, h])
    clear h htl hs hv
    go_enter Tryz.func131, Tryz.ntmps131
    go_wp2_with fail
    refine HT.out.mono ?_
    rintro e w' ⟨rfl, rfl⟩
    go_wp2_with fail
    refine HA.out.mono ?_
    rintro e w1 ⟨NN, rfl, hN1, hN2, hbl⟩
    have F1 := Lib.hid (Fr.of_below hbl)
    clear hN1 hN2 hbl HA
    go_wp2
    go_ret
    exact ⟨by rw [HE.out]; rfl, F1.out⟩
  | _ =>
    obtain ⟨tp, p, hs⟩ := hv.syn
    have HA := Lib.hid (Tryz.strconv_Atoi_syntax_var ⟨t.toArray⟩ (by rw [sz]; omega) (h.trans rfl) tp p w hs)
    have HE : Hid (numW s = 0) := Lib.hid (by rw [HNW.out, h])
    clear h htl hs hv
    go_enter Tryz.func131, Tryz.ntmps131
    go_wp2_with fail
    refine HT.out.mono ?_
    rintro e w' ⟨rfl, rfl⟩
    go_wp2_with fail
    refine HA.out.mono ?_
    rintro e w1 ⟨NN, rfl, hN1, hN2, hbl⟩
    have F1 := Lib.hid (Fr.of_below hbl)
    clear hN1 hN2 hbl HA
    go_wp2
    go_ret
    exact ⟨by rw [HE.out]; rfl, F1.out⟩

/-! ### segments -/
def segsW (ns : List (List UInt8)) : List Int := (ns.map numW).filter fun n => decide (0 < n)
theorem segsW_snoc (ns : List (List UInt8)) (j : Nat) (h : j < ns.length) : segsW (ns.take (j + 1)) = if 0 < numW ns[j] then segsW (ns.take j) ++ [numW ns[j]] else segsW (ns.take j) := by
  rw [List.take_succ_eq_append_getElem h]
  unfold segsW
  rw [List.map_append, List.filter_append]
  by_cases hp : 0 < numW ns[j]
  · rw [if_pos hp]; simp [hp]
  · rw [if_neg hp]; simp [hp]
theorem segsW_len (ns : List (List UInt8)) : (segsW ns).length ≤ ns.length := by
  unfold segsW
  exact Nat.le_trans (List.length_filter_le _ _) (by simp)
theorem info3 : (Tryz.prog.info? 3).map (fun i => (i.zero, i.size, i.bytes)) = some (some (.int .i64 0), 1, 8) := by kernel_rfl
/-- The names, as the disk lists them. -/
def NamesAt (w : World) (A : Option Addr) (c : Nat) (ns : List (List UInt8)) : Prop := w.ownsRow 0 9 1 (.slice A ns.length c) ns.length (ns.map encStr)
theorem NamesAt.at {w : World} {A : Option Addr} {c : Nat} {ns : List (List UInt8)} (h : NamesAt w A c ns) (j : Nat) (hj : j < ns.length) :
    ∃ g, A = some ⟨g, 0, none⟩ ∧ g < w.heap.size ∧ ∀ w' : World, w'.heap[g]? = w.heap[g]? → w'.cell? ⟨g, j, none⟩ = some (sv ns[j]) := by
  rcases h.2 with ⟨_, h0⟩ | ⟨g, cap, cur, e1, hb, hh, hnc, hcm, hs, ht⟩
  · omega
  · have e2 : A = some ⟨g, 0, none⟩ := by injection e1
    refine ⟨g, e2, by rw [e2] at h; exact (World.ownsRow.lt h g rfl).2, fun w' hw => ?_⟩
    rw [cell_of_row w' g j cur 9 (0, 0) (hw.trans hh)]
    have : (cur.toList.take (ns.length * 1))[j]? = (ns.map encStr)[j]? := by rw [ht]
    rw [List.getElem?_take, if_pos (by omega), List.getElem?_map, List.getElem?_eq_getElem hj] at this
    simpa [encStr] using this
set_option maxRecDepth 100000 in
set_option maxHeartbeats 4000000 in
theorem segments_any (A : Option Addr) (c : Nat) (ns : List (List UInt8)) (w : World) (hv : Vr w) (hr : NamesAt w A c ns) (hl : ∀ s ∈ ns, s.length ≤ 1000000) (hn : ns.length ≤ 1000000) :
    Calls Tryz.prog 102 #[.slice A ns.length c] w fun e w' => ∃ V, e = .returned V ∧ RowE (fun k => w.heap.size ≤ k) w' 1 intE V (segsW ns) ∧ Fr No w w' := by
  obtain ⟨b, hb⟩ : ∃ b, w.heap.size = b := ⟨_, rfl⟩
  obtain ⟨w0, hw0⟩ : ∃ w0, w.alloc (.cells #[] 3) = w0 := ⟨_, rfl⟩
  have hg0 : Grow b 3 1 intG w0 (.slice (some ⟨b, 0, none⟩) 0 0) [] := by rw [← hw0, ← hb]; exact Grow.nil w.heap.size 3 1 intG w (Nat.le_refl _)
  have f0 : Fr No w w0 := by rw [← hw0]; exact (Fr.refl _ w).alloc _
  have HG0 := Lib.hid hg0
  have F0 := Lib.hid f0
  have HV := Lib.hid hv
  have HR := Lib.hid hr
  have HL := Lib.hid hl
  have HBS := Lib.hid (show b = w.heap.size from hb.symm)
  have HW0 := Lib.hid hw0
  obtain ⟨n, hnn⟩ : ∃ n, ns.length = n := ⟨_, rfl⟩
  have HN := Lib.hid hnn
  rw [hnn] at hn ⊢
  clear hg0 f0 hv hr hl hb hw0 hnn
  go_enter Tryz.func102, Tryz.ntmps102
  go_wp2_with fail
  rw [HW0.out, ← HBS.out]
  go_loopw [3, 10] (fun v i wr => ∃ j : Nat, ∃ A' c', j ≤ n ∧ i = .int .i64 j ∧ v = .slice A' (segsW (ns.take j)).length c' ∧ Grow b 3 1 intG wr (.slice A' (segsW (ns.take j)).length c') (segsW (ns.take j)) ∧ Fr No w wr) (fun _ i _ => n - (intOf i).toNat)
  case atStart => exact ⟨0, _, _, by omega, rfl, rfl, HG0.out, F0.out⟩
  case round =>
    obtain ⟨j, A', c', hj, rfl, rfl, hg, hf⟩ := hrel
    have HG := Lib.hid hg
    have HF := Lib.hid hf
    clear hg hf
    by_cases hlt : j < n
    · have hjl : j < ns.length := by rw [HN.out]; exact hlt
      obtain ⟨gn, rfl, hgn, hcell⟩ := HR.out.at j hjl
      have x0 : wr.cell? ⟨gn, j, none⟩ = some (sv ns[j]) := hcell wr (HF.out.block gn hgn id)
      have HS := Lib.hid (segsW_snoc ns j hjl)
      have HLn := Lib.hid (segsW_len (ns.take j))
      have HC := Lib.hid (numberOf_any ns[j] wr (HV.out.keep HF.out) (HL.out _ (List.getElem_mem hjl)))
      have hbd := numW_bd ns[j]
      obtain ⟨v, hv⟩ : ∃ v, numW ns[j] = v := ⟨_, rfl⟩
      obtain ⟨s, hs⟩ : ∃ s, ns[j] = s := ⟨_, rfl⟩
      rw [hv] at HS HC hbd
      rw [hs] at HC x0
      have HTL : Hid ((ns.take j).length ≤ n) := Lib.hid (by rw [List.length_take]; omega)
      clear hcell hgn hjl hv hs
      go_wp2_with fail
      refine HC.out.mono ?_
      rintro e w1 ⟨rfl, f1⟩
      have hg1 := HG.out.keep intG_elem f1 (fun k hk => hk.elim)
      have HG1 := Lib.hid hg1
      have HF1 := Lib.hid (HF.out.trans f1 fun _ _ h => h)
      have HS1 := Lib.hid f1.size
      clear f1 hg1 HC x0
      by_cases hp : 0 < v
      · have hd : decide (0 < v) = true := by simpa using hp
        have hel : intG (fun x => wr.heap.size ≤ x) w1 v [.int .i64 v] := ⟨rfl, hbd⟩
        have hlen : (segsW (ns.take j)).length ≤ n := Nat.le_trans HLn.out HTL.out
        obtain ⟨A2, c2, w4, hap, hg4, f4, hlt4⟩ := HG1.out.more intG_elem (w0 := wr) (by rw [HBS.out]; exact HF.out.size) HS1.out (fun x hx => (HG.out.lt x hx).2) 34 Tryz.underlying34 (.int .i64 0) info3 rfl (by omega) v [.int .i64 v] rfl (by simp [Value.oneCell']) hel (by omega) (by unfold maxLen; omega)
        have hf4 : Fr No w w4 := HF1.out.trans f4 fun x hlx hx => by have := (HG.out.lt x hx).1; have := HBS.out; omega
        have HAP := Lib.hid hap
        have HG4 : Hid (Grow b 3 1 intG w4 (.slice A2 ((segsW (ns.take j)).length + 1) c2) (segsW (ns.take (j + 1)))) := Lib.hid (by rw [HS.out, if_pos hp]; exact hg4)
        have HF4 := Lib.hid hf4
        have HE : Hid ((segsW (ns.take (j + 1))).length = (segsW (ns.take j)).length + 1) := Lib.hid (by rw [HS.out, if_pos hp]; simp)
        clear hap hg4 f4 hlt4 hf4 hel hp hlen
        go_wp2_with (at_builtin; refine wpList_add rfl _ _ _ _ rfl _ _ _ _ rfl rfl (HAP.out _) ?_)
        go_roundw
        case rel => exact ⟨j + 1, A2, c2, by omega, by go_num, by rw [HE.out], by rw [HE.out]; exact HG4.out, HF4.out⟩
        case measure => simp [intOf]; omega
      · have hd : decide (0 < v) = false := by simpa using hp
        have HE : Hid (segsW (ns.take (j + 1)) = segsW (ns.take j)) := Lib.hid (by rw [HS.out, if_neg hp])
        clear hp
        go_wp2
        go_roundw
        case rel => exact ⟨j + 1, A', c', by omega, by go_num, by rw [HE.out], by rw [HE.out]; exact HG1.out, HF1.out⟩
        case measure => simp [intOf]; omega
    · obtain rfl : j = n := by omega
      have HE : Hid (segsW (ns.take j) = segsW ns) := Lib.hid (by rw [List.take_of_length_le (by rw [HN.out]; omega)])
      have hlen : (segsW ns).length ≤ j := by rw [← HN.out]; exact segsW_len ns
      have hrow := HG.out.row intG_elem (by rw [HE.out]; unfold maxLen; omega)
      rw [HBS.out] at hrow
      have HROW := Lib.hid hrow
      clear hrow hlen
      go_wp2
      go_ret
      exact ⟨_, rfl, by have := HROW.out; rw [HE.out] at this; rw [HE.out]; exact this, HF.out⟩
end Go.Proofs.YtccjkolcmdhliaaGreatDoor
/- Opening a log: a record taken up, what may follow, a segment's bytes read. -/
namespace Go.Proofs.YtccjkolcmdhliaaGreatDoor
open Go.RowKit Go.Maps
set_option linter.unusedVariables false

section
variable {α : Type}
/-- One more, laid ahead in a block of its own. -/
theorem Grow.more2 {b e size bytes : Nat} {E : (Nat → Prop) → World → α → List Value → Prop} (hE : Elem E) {w0 w : World} {v : Value} {l : List α} (h : Grow b e size E w v l) (hb : b ≤ w0.heap.size) (hw0 : w0.heap.size ≤ w.heap.size) (hv0 : ∀ k, v.ownBlock = some k → k < w0.heap.size)
    (t : TypeId) (ht : Tryz.prog.underlying t = some (.slice e)) (z : Value) (hinfo : (Tryz.prog.info? e).map (fun i => (i.zero, i.size, i.bytes)) = some (some z, size, bytes)) (hzs : z.cells.size = size) (hsz : 0 < size)
    (x : α) (cs : List Value) (hcs : cs.length = size) (hone : ∀ u ∈ cs, u.oneCell' = true) (hx : E (fun k => w0.heap.size ≤ k) w x cs) (hlen : (l.length + 1) * bytes ≤ 140737488355328) (hmax : l.length + 1 ≤ maxLen) :
    ∃ A c w', (∀ ty, (Builtin.append_ #[t, t] ty #[v, .slice (some ⟨w.heap.size, 0, none⟩) 1 1]).run Tryz.prog (w.alloc (.cells cs.toArray e)) = .ok (.slice A (l.length + 1) c) w') ∧ Grow b e size E w' (.slice A (l.length + 1) c) (l ++ [x]) ∧
      Fr (fun k => v.ownBlock = some k) w w' ∧ (∀ k, (Value.slice A (l.length + 1) c).ownBlock = some k → k < w'.heap.size) ∧ (∀ k, (Value.slice A (l.length + 1) c).ownBlock = some k → v.ownBlock = some k ∨ w.heap.size ≤ k) := by
  obtain ⟨K, xs, ho, hel, hK⟩ := h
  obtain ⟨i0, hi, hz0, hz1, hz2⟩ := info_parts hinfo
  have hfa : Fr No w (w.alloc (.cells cs.toArray e)) := (Fr.refl No w).alloc _
  have ho' : (w.alloc (.cells cs.toArray e)).ownsRow b e size v l.length xs := own_of ho fun k hk => hfa.block k (ho.lt k hk).2 id
  have hnews : ∀ j u, cs[j]? = some u → (w.alloc (.cells cs.toArray e)).cell? ((⟨w.heap.size, 0, none⟩ : Addr).add j) = some u := by
    intro j u hu
    rw [Addr.add_lit, Nat.zero_add]
    exact ((Blk.new w e cs.toArray).cell j).trans (by simpa using hu)
  obtain ⟨v', w', hr, how, hgr, hnil, hat⟩ := run_append_own_at (P := Tryz.prog) (w.alloc (.cells cs.toArray e)) b t 0 e i0 z size bytes ht hi hz0 hz1 hz2 hzs hsz v l.length xs ho' ⟨w.heap.size, 0, none⟩ 1 1 cs (by omega) hnews hone hmax hlen (by simp; omega)
  have hv' : ∃ A c, v' = .slice A (l.length + 1) c := by
    rcases how.2 with ⟨e1, h0⟩ | ⟨g, cap, cur, e1, _⟩
    · omega
    · exact ⟨_, _, e1⟩
  obtain ⟨A, c, rfl⟩ := hv'
  have hsize : w.heap.size < (w.alloc (.cells cs.toArray e)).heap.size := by simp
  have hfr : Fr (fun k => v.ownBlock = some k) w w' := hfa.any.grown hgr fun k hk _ => hk
  have hw' : w.heap.size < w'.heap.size := Nat.lt_of_lt_of_le hsize hgr.size
  refine ⟨A, c, w', fun ty => hr, ⟨fun k => K k ∨ (w0.heap.size ≤ k ∧ k < w.heap.size), xs ++ cs, by simpa using how, fun j hj => ?_, fun k hk => ?_⟩, hfr, fun k hk => ?_, fun k hk => ?_⟩
  · rw [List.length_append, List.length_singleton] at hj
    by_cases hjl : j < l.length
    · obtain ⟨cs', h1, h2, h3⟩ := hel j hjl
      refine ⟨cs', h1, fun i hi' => ?_, ?_⟩
      · have hlt : j * size + i < xs.length := by
          rw [ho.1]
          have := Nat.mul_le_mul_right size (show j + 1 ≤ l.length by omega)
          rw [Nat.add_mul, Nat.one_mul] at this
          omega
        rw [List.getElem?_append_left hlt]; exact h2 i hi'
      · rw [List.getElem_append_left hjl]
        exact hE.mono _ _ _ _ _ _ h3 fun k hk hlt => ⟨.inl hk, hfr.block k hlt (hK k hk).2.2⟩
    · obtain rfl : j = l.length := by omega
      refine ⟨cs, hcs, fun i hi' => ?_, ?_⟩
      · rw [List.getElem?_append_right (by rw [ho.1]; omega), ho.1, Nat.add_sub_cancel_left]
      · rw [List.getElem_append_right (by omega)]
        simp only [Nat.sub_self, List.getElem_cons_zero]
        exact hE.mono _ _ _ _ _ _ hx fun k hk hlt => ⟨.inr ⟨hk, hlt⟩, hfr.block k hlt fun e => by have := hv0 k e; omega⟩
  · have hatk : ∀ j, (Value.slice A (l.length + 1) c).ownBlock = some j → v.ownBlock = some j ∨ j = (w.alloc (.cells cs.toArray e)).heap.size := fun j hj => by
      rcases hat with e1 | e1
      · exact .inl (e1 ▸ hj)
      · rw [hj] at e1; exact .inr (Option.some.inj e1)
    rcases hk with hk | hk
    · obtain ⟨h1, h2, h3⟩ := hK k hk
      refine ⟨h1, by omega, fun e1 => ?_⟩
      rcases hatk k e1 with e2 | e2
      · exact h3 e2
      · omega
    · refine ⟨by omega, by omega, fun e1 => ?_⟩
      rcases hatk k e1 with e2 | e2
      · have := hv0 k e2; omega
      · omega
  · exact (how.lt k hk).2
  · rcases hat with e1 | e1
    · exact .inl (e1 ▸ hk)
    · rw [hk] at e1
      have e2 := Option.some.inj e1
      exact .inr (by omega)
end

/-! ### records -/
structure RcP where
  seq : Int
  data : List UInt8
def RcP.cells (r : RcP) : List Value := [.int .i64 r.seq, sv r.data]
def RcP.val (r : RcP) : Value := .agg #[.int .i64 r.seq, sv r.data]
def RcP.Ok (r : RcP) : Prop := i64 r.seq ∧ r.data.length ≤ maxLen
def recE (r : RcP) (cs : List Value) : Prop := cs = r.cells ∧ r.Ok
def recG (_ : Nat → Prop) (_ : World) (r : RcP) (cs : List Value) : Prop := recE r cs
theorem recG_elem : Elem recG := ⟨fun _ _ _ _ _ _ h _ => h⟩
theorem info52 : (Tryz.prog.info? 52).map (fun i => (i.zero, i.size, i.bytes)) = some (some (.agg #[.int .i64 0, .string ⟨#[]⟩]), 2, 24) := by kernel_rfl

theorem take_le (S : RS) (n : Nat) : (S.take n).1.length ≤ S.rest.length := by
  unfold RS.take
  split
  · split
    · simp
    · simp only [List.length_take]; omega
  · simp
theorem fail_rest (S : RS) (e : Int) : (S.fail e).rest.length ≤ S.rest.length := by unfold RS.fail; split <;> simp
theorem many_rest (S : RS) (k : Nat) : (S.many k).2.rest.length ≤ S.rest.length := by
  unfold RS.many
  split
  · exact Nat.le_trans (fail_rest _ _) (take_rest S 4)
  · exact take_rest S 4
theorem text_le (S : RS) : S.text.1.length ≤ S.rest.length := Nat.le_trans (take_le _ _) (many_rest S 1)
theorem int_bd (S : RS) : i64 S.int.1 := by
  unfold RS.int i64
  rw [IntKind.wrap_i64]
  omega

def unRec (b : List UInt8) : RcP × Int :=
  if (RS.mk b 0).int.2.text.2.done = 0 then (⟨(RS.mk b 0).int.1, (RS.mk b 0).int.2.text.1⟩, 0) else (⟨0, []⟩, (RS.mk b 0).int.2.text.2.done)
theorem unRec_ok (b : List UInt8) (hb : b.length ≤ 1073741824) : (unRec b).1.Ok := by
  have h1 := int_bd (RS.mk b 0)
  have h2 := text_le (RS.mk b 0).int.2
  have h3 : (RS.mk b 0).int.2.rest.length ≤ b.length := take_rest (RS.mk b 0) 8
  unfold unRec
  split
  · exact ⟨h1, by unfold maxLen; simp only; omega⟩
  · exact ⟨by unfold i64; simp only; omega, by simp⟩
theorem Fr.no_of {F : Nat → Prop} {w w' : World} {b : Nat} (h : Fr F w w') (hb : w.heap.size ≤ b) (hF : ∀ k, F k → b ≤ k) : Fr No w w' := h.mono fun k hk hf => by have := hF k hf; omega
set_option maxRecDepth 100000 in
set_option maxHeartbeats 2000000 in
theorem unRec_any (b : List UInt8) (w : World) (hb : b.length ≤ 1073741824) : Calls Tryz.prog 133 #[sv b] w fun e w' => e = .returned (.tuple #[(unRec b).1.val, .int .i64 (unRec b).2]) ∧ Fr No w w' := by
  obtain ⟨w0, hw0⟩ : ∃ w0, w.alloc (.cells #[.int .i64 0, .string ⟨#[]⟩] 52) = w0 := ⟨_, rfl⟩
  obtain ⟨gr, hgr⟩ : ∃ gr, w.heap.size = gr := ⟨_, rfl⟩
  obtain ⟨w1, hw1⟩ : ∃ w1, w0.alloc (.cells #[sv b, .int .i64 0] 237) = w1 := ⟨_, rfl⟩
  obtain ⟨p, hp⟩ : ∃ p, w0.heap.size = p := ⟨_, rfl⟩
  have hb0 : Blk w0 gr 52 #[.int .i64 0, .string ⟨#[]⟩] := by rw [← hw0, ← hgr]; exact Blk.new w 52 _
  have f0 : Fr No w w0 := by rw [← hw0]; exact (Fr.refl _ w).alloc _
  have f1 : Fr No w0 w1 := by rw [← hw1]; exact (Fr.refl _ w0).alloc _
  have hr1 : RAt w1 (some p) ⟨b, 0⟩ := by rw [← hw1, ← hp]; exact RAt.new w0 b hb
  have hb1 := hb0.of (f1.block gr hb0.lt id)
  have hgp : gr < p := by have := hb0.lt; omega
  have HR1 := Lib.hid hr1
  have HB1 := Lib.hid hb1
  have F1 : Hid (Fr (fun k => gr ≤ k) w w1) := Lib.hid ((f0.trans f1 fun _ _ h => h).any)
  have HW0 := Lib.hid hw0
  have HW1 := Lib.hid hw1
  have HP := Lib.hid hp
  have HGR := Lib.hid hgr
  have HV : Hid (unRec b = if (RS.mk b 0).int.2.text.2.done = 0 then (⟨(RS.mk b 0).int.1, (RS.mk b 0).int.2.text.1⟩, 0) else (⟨0, []⟩, (RS.mk b 0).int.2.text.2.done)) := Lib.hid rfl
  clear hb0 f0 f1 hr1 hb1 hw0 hw1 hp hgr
  go_enter Tryz.func133, Tryz.ntmps133
  go_wp2_with fail
  rw [HW0.out, HGR.out]
  refine (read_any b w0).mono ?_
  rintro e w' ⟨rfl, hw'⟩
  rw [HW1.out] at hw'
  subst hw'
  rw [HP.out]
  go_wp2_with fail
  have C1 := rint_any (some p) _ w1 HR1.out
  rw [wpt_some] at C1
  refine C1.mono ?_
  clear C1
  rintro e w2 ⟨rfl, h2, f2⟩
  have H2 := Lib.hid h2
  have HB2 := Lib.hid (HB1.out.of (f2.block gr HB1.out.lt fun e => by have := Option.some.inj e; omega))
  have F2 : Hid (Fr (fun k => gr ≤ k) w w2) := Lib.hid (F1.out.trans f2 fun k _ hk => by have := Option.some.inj hk; omega)
  clear h2 f2
  go_wp2_with fail
  have C2 := rtext_any (some p) _ w2 H2.out
  rw [wpt_some] at C2
  refine C2.mono ?_
  clear C2
  rintro e w3 ⟨rfl, h3, f3⟩
  have H3 := Lib.hid h3
  have HB3 := Lib.hid (HB2.out.of (f3.block gr HB2.out.lt fun e => by have := Option.some.inj e; omega))
  have F3 : Hid (Fr (fun k => gr ≤ k) w w3) := Lib.hid (F2.out.trans f3 fun k _ hk => by have := Option.some.inj hk; omega)
  clear h3 f3
  go_wp2_with fail
  have C3 := rdone_any (some p) _ w3 H3.out
  rw [wpt_some] at C3
  refine C3.mono ?_
  clear C3
  rintro e w' ⟨rfl, rfl⟩
  obtain ⟨dn, hdn⟩ : ∃ dn, (RS.mk b 0).int.2.text.2.done = dn := ⟨_, rfl⟩
  rw [hdn] at HV ⊢
  obtain ⟨nn, hnn⟩ : ∃ nn, (RS.mk b 0).int.1 = nn := ⟨_, rfl⟩
  rw [hnn] at HV ⊢
  obtain ⟨tx, htx⟩ : ∃ tx, (RS.mk b 0).int.2.text.1 = tx := ⟨_, rfl⟩
  rw [htx] at HV ⊢
  have z0 : w3.cell? ⟨gr, 0, none⟩ = some (.int .i64 0) := HB3.out.cell 0
  have z1 : w3.cell? ⟨gr, 1, none⟩ = some (.string ⟨#[]⟩) := HB3.out.cell 1
  have y0 := HB3.out.frozen 0
  have y1 := HB3.out.frozen 1
  have hfin : ∀ u0 u1, Fr No w ((w3.setCell ⟨gr, 0, none⟩ u0).setCell ⟨gr, 1, none⟩ u1) := fun u0 u1 => by
    have hg := HGR.out
    exact ((F3.out.setCell (p := ⟨gr, 0, none⟩) (fun _ => Nat.le_refl gr) u0).setCell (p := ⟨gr, 1, none⟩) (fun _ => Nat.le_refl gr) u1).no_of (b := gr) (by omega) fun k hk => hk
  have HFIN := Lib.hid hfin
  clear hdn hnn htx hfin
  by_cases he : dn = 0
  · subst he
    have HE : Hid (unRec b = (⟨nn, tx⟩, 0)) := Lib.hid (by rw [HV.out, if_pos rfl])
    go_wp2
    refine bodyPost_ret (v := .tuple #[.agg #[.int .i64 nn, sv tx], .int .i64 0]) (by simp [results, Tryz.results133, go_sem, z0, z1]) rfl ?_
    exact ⟨by rw [HE.out]; rfl, HFIN.out _ _⟩
  · have HE : Hid (unRec b = (⟨0, []⟩, dn)) := Lib.hid (by rw [HV.out, if_neg he])
    have hd : (dn != 0) = true := by simpa using he
    clear he
    go_wp2
    refine bodyPost_ret (v := .tuple #[.agg #[.int .i64 0, sv []], .int .i64 dn]) (by simp [results, Tryz.results133, go_sem, z0, z1]) rfl ?_
    exact ⟨by rw [HE.out]; rfl, HFIN.out _ _⟩

/-! ### follows -/
def followsW (rs : List RcP) (r : RcP) : Bool :=
  match rs.getLast? with
  | none => decide (1 ≤ r.seq)
  | some q => decide (1 < r.seq) && (r.seq - 1 == q.seq)
theorem Grow.lastSeq {b : Nat} {w : World} {A : Option Addr} {n c : Nat} {rs : List RcP} {q : RcP} (h : Grow b 52 2 recG w (.slice A n c) (rs ++ [q])) :
    ∃ g, A = some ⟨g, 0, none⟩ ∧ n = rs.length + 1 ∧ g < w.heap.size ∧ ∀ w' : World, w'.heap[g]? = w.heap[g]? → w'.cell? ⟨g, rs.length * 2, none⟩ = some (.int .i64 q.seq) := by
  obtain ⟨K, xs, ho, hel, hK⟩ := h
  rcases ho.2 with ⟨e1, h0⟩ | ⟨g, cap, cur, e1, hg, hh, hn, hcm, hcs, htk⟩
  · simp at h0
  · injection e1 with e1 e3 e2
    subst e1; subst e2
    refine ⟨g, rfl, by rw [e3]; simp, (World.ownsRow.lt ho g rfl).2, fun w' hw => ?_⟩
    obtain ⟨cs, h1, h2, h3, _⟩ := hel rs.length (by simp)
    rw [cell_of_row w' g _ cur 52 (0, 0) (hw.trans hh)]
    have h4 := h2 0 (by omega)
    rw [← htk, List.getElem?_take, if_pos (by simp)] at h4
    rw [h3] at h4
    simpa [RcP.cells] using h4
set_option maxRecDepth 100000 in
set_option maxHeartbeats 2000000 in
theorem follows_any {b : Nat} {w : World} {A : Option Addr} {n c : Nat} {rs : List RcP} (r : RcP) (h : Grow b 52 2 recG w (.slice A n c) rs) (hr : r.Ok) (hn : rs.length ≤ 1000000000) :
    Calls Tryz.prog 134 #[.slice A n c, .agg #[.int .i64 r.seq, sv r.data]] w fun e w' => e = .returned (.bool (followsW rs r)) ∧ Fr No w w' := by
  obtain ⟨w0, hw0⟩ : ∃ w0, w.alloc (.cells #[.int .i64 r.seq, sv r.data] 52) = w0 := ⟨_, rfl⟩
  obtain ⟨gr, hgr⟩ : ∃ gr, w.heap.size = gr := ⟨_, rfl⟩
  have hb0 : Blk w0 gr 52 #[.int .i64 r.seq, sv r.data] := by rw [← hw0, ← hgr]; exact Blk.new w 52 _
  have f0 : Fr No w w0 := by rw [← hw0]; exact (Fr.refl _ w).alloc _
  have z0 : w0.cell? ⟨gr, 0, none⟩ = some (.int .i64 r.seq) := hb0.cell 0
  have F0 := Lib.hid f0
  have HW0 := Lib.hid hw0
  have HGR := Lib.hid hgr
  have hs1 : -9223372036854775808 ≤ r.seq := hr.1.1
  have hs2 : r.seq ≤ 9223372036854775807 := hr.1.2
  rcases List.eq_nil_or_concat rs with rfl | ⟨fs, q, hf⟩
  · have hn0 : n = 0 := by
      obtain ⟨A', c', e⟩ := h.len
      injection e
    subst hn0
    have HE : Hid (followsW [] r = decide (1 ≤ r.seq)) := Lib.hid rfl
    clear h hb0 f0 hw0 hgr hr
    go_enter Tryz.func134, Tryz.ntmps134
    go_wp2_with fail
    rw [HW0.out, HGR.out]
    go_wp2
    go_ret
    exact ⟨by rw [HE.out]; rfl, F0.out⟩
  · rw [List.concat_eq_append] at hf
    subst hf
    obtain ⟨g, rfl, rfl, hg, hcell⟩ := h.lastSeq
    have x0 : w0.cell? ⟨g, fs.length * 2, none⟩ = some (.int .i64 q.seq) := hcell w0 (f0.block g hg id)
    have HE : Hid (followsW (fs ++ [q]) r = (decide (1 < r.seq) && (r.seq - 1 == q.seq))) := Lib.hid (by unfold followsW; simp)
    obtain ⟨m, hm⟩ : ∃ m, fs.length = m := ⟨_, rfl⟩
    obtain ⟨k, hk⟩ : ∃ k, fs.length + 1 = k := ⟨_, rfl⟩
    have hkl : k ≤ 1000000000 := by rw [← hk]; simpa using hn
    have hwk : IntKind.i64.wrap ((k : Int) - 1) = (m : Int) := by rw [show (k : Int) - 1 = (m : Int) by omega]; exact IntWalk.i64_in _ (by omega)
    have b1 : (0 : Int) ≤ (m : Int) := by omega
    have b2 : (m : Int) < (k : Int) := by omega
    have b3 : (k : Int) ≤ 1000000000 := by omega
    have t0 : ((k : Int) == 0) = false := by rw [beq_eq_false_iff_ne]; omega
    have t0' : (k == 0) = false := by rw [beq_eq_false_iff_ne]; omega
    have hk0 : k ≠ 0 := by omega
    rw [hm] at x0
    rw [hk] at *
    clear h hb0 f0 hw0 hgr hr hcell hm hk hn hk0
    by_cases hp : 1 < r.seq
    · have hd : decide (1 < r.seq) = true := by simpa using hp
      have hw1 : IntKind.i64.wrap (r.seq - 1) = r.seq - 1 := IntWalk.i64_in _ (by omega)
      have HE2 : Hid (followsW (fs ++ [q]) r = (r.seq - 1 == q.seq)) := Lib.hid (by rw [HE.out, hd]; rfl)
      clear hp
      go_enter Tryz.func134, Tryz.ntmps134
      go_upto_region 3 with fail
      rw [HW0.out, HGR.out]
      go_quiet (fail)
      all_goals go_wp2
      all_goals go_ret
      all_goals exact ⟨by rw [HE2.out]; rfl, F0.out.drewN _⟩
    · have hd : decide (1 < r.seq) = false := by simpa using hp
      have HE2 : Hid (followsW (fs ++ [q]) r = false) := Lib.hid (by rw [HE.out, hd]; rfl)
      clear hp hwk
      go_enter Tryz.func134, Tryz.ntmps134
      go_upto_region 3 with fail
      rw [HW0.out, HGR.out]
      go_quiet (fail)
      all_goals go_wp2
      all_goals go_ret
      all_goals exact ⟨by rw [HE2.out]; rfl, F0.out.drewN _⟩

/-! ### scan -/
/-- What a segment's bytes hold, from a place on; none: the log may not be. -/
def scanW : Nat → List RcP → List UInt8 → Nat → Option (List RcP × Nat)
  | 0, rs, D, at_ => some (rs, at_)
  | k + 1, rs, D, at_ =>
    if at_ < D.length then
      if (unfR (D.drop at_)).2.2 = 20 then some (rs, at_)
      else if (unfR (D.drop at_)).2.2 ≠ 0 then none
      else if (unRec (unfR (D.drop at_)).1).2 ≠ 0 then none
      else if followsW rs (unRec (unfR (D.drop at_)).1).1 then scanW k (rs ++ [(unRec (unfR (D.drop at_)).1).1]) D (at_ + (unfR (D.drop at_)).2.1)
      else none
    else some (rs, at_)
/-- A call of scan. -/
def ScanP (b : Nat) (w : World) (v : Value) (res : Option (List RcP × Nat)) (e : Ending) (w' : World) : Prop :=
  (∀ rs at_, res = some (rs, at_) → ∃ A c, e = .returned (.tuple #[.slice A rs.length c, .int .i64 (at_ : Nat)]) ∧ Grow b 52 2 recG w' (.slice A rs.length c) rs ∧ (∀ k, (Value.slice A rs.length c).ownBlock = some k → v.ownBlock = some k ∨ w.heap.size ≤ k)) ∧
    (res = none → e = .panicked [{ v := given 24, recovered := false }]) ∧ Fr (fun k => v.ownBlock = some k) w w'
theorem unfR_size (l : List UInt8) (h : (unfR l).2.2 = 0) : 8 ≤ (unfR l).2.1 ∧ (unfR l).2.1 ≤ l.length ∧ (unfR l).1.length ≤ l.length := by
  unfold unfR at h ⊢
  split at h
  · simp at h
  · rename_i h8
    split at h
    · simp at h
    · rename_i hn
      split at h
      · simp at h
      · rename_i hc
        split at h
        · simp at h
        · rename_i hk
          rw [if_neg h8, if_neg hn, if_neg hc, if_neg hk]
          refine ⟨by simp, by simp only; omega, ?_⟩
          simp only [List.length_take, List.length_drop]
          omega
end Go.Proofs.YtccjkolcmdhliaaGreatDoor
/- Opening a log: a segment's bytes are read. -/
namespace Go.Proofs.YtccjkolcmdhliaaGreatDoor
open Go.RowKit Go.Maps
set_option linter.unusedVariables false

theorem unfR_err (l : List UInt8) : (unfR l).2.2 = 0 ∨ (unfR l).2.2 = 20 ∨ (unfR l).2.2 = 21 ∨ (unfR l).2.2 = 23 := by
  unfold unfR
  split
  · simp
  · split
    · simp
    · split
      · simp
      · split <;> simp
theorem scanW_step {D : List UInt8} {rs : List RcP} {at_ k : Nat} (h : at_ < D.length) : scanW (k + 1) rs D at_ =
    (if (unfR (D.drop at_)).2.2 = 20 then some (rs, at_)
      else if (unfR (D.drop at_)).2.2 ≠ 0 then none
      else if (unRec (unfR (D.drop at_)).1).2 ≠ 0 then none
      else if followsW rs (unRec (unfR (D.drop at_)).1).1 then scanW k (rs ++ [(unRec (unfR (D.drop at_)).1).1]) D (at_ + (unfR (D.drop at_)).2.1)
      else none) := by rw [scanW, if_pos h]
theorem scanW_end {D : List UInt8} {rs : List RcP} {at_ k : Nat} (h : ¬ at_ < D.length) : scanW (k + 1) rs D at_ = some (rs, at_) := by rw [scanW, if_neg h]
set_option maxRecDepth 100000 in
set_option maxHeartbeats 4000000 in
theorem scan_any {b : Nat} {w : World} {A : Option Addr} {n c : Nat} {rs : List RcP} (D : List UInt8) (h : Grow b 52 2 recG w (.slice A n c) rs) (hb : b ≤ w.heap.size) (hrs : rs.length ≤ 800000000) (hD : D.length ≤ 1073741824) :
    Calls Tryz.prog 104 #[.slice A n c, sv D] w (ScanP b w (.slice A n c) (scanW (D.length + 1) rs D 0)) := by
  obtain ⟨R, hR⟩ : ∃ R, scanW (D.length + 1) rs D 0 = R := ⟨_, rfl⟩
  have hn : n = rs.length := by
    obtain ⟨A', c', e⟩ := h.len
    injection e
  subst hn
  obtain ⟨V, hV⟩ : ∃ V, Value.slice A rs.length c = V := ⟨_, rfl⟩
  have hg0 := h
  have ho0 : ∀ k, (Value.slice A rs.length c).ownBlock = some k → V.ownBlock = some k ∨ w.heap.size ≤ k := fun k hk => .inl (hV ▸ hk)
  have HG0 := Lib.hid hg0
  have HO0 := Lib.hid ho0
  have HR := Lib.hid hR
  have HB := Lib.hid hb
  have HVL : Hid (∀ k, V.ownBlock = some k → k < w.heap.size) := Lib.hid fun k hk => (h.lt k (hV.symm ▸ hk)).2
  have HVL' : Hid (Value.slice A rs.length c = V) := Lib.hid hV
  obtain ⟨n0, hn0⟩ : ∃ n0, rs.length = n0 := ⟨_, rfl⟩
  rw [hn0] at hrs
  have HN0 := Lib.hid hn0
  rw [hR, hn0]
  rw [hn0] at HG0 HO0 HVL'
  clear h hg0 ho0 hR hb hV hn0
  go_enter Tryz.func104, Tryz.ntmps104
  go_wp2_with fail
  go_loopw [0, 6] (fun v i wr => ∃ k : Nat, ∃ rs1 : List RcP, ∃ at1 : Nat, ∃ A1 c1, D.length < k + at1 ∧ at1 ≤ D.length ∧ scanW k rs1 D at1 = R ∧ rs1.length * 8 ≤ n0 * 8 + at1 ∧ v = .slice A1 rs1.length c1 ∧ i = .int .i64 (at1 : Nat) ∧ Grow b 52 2 recG wr (.slice A1 rs1.length c1) rs1 ∧ (∀ k, (Value.slice A1 rs1.length c1).ownBlock = some k → V.ownBlock = some k ∨ w.heap.size ≤ k) ∧ Fr (fun k => V.ownBlock = some k) w wr) (fun _ i _ => D.length - (intOf i).toNat)
  case atStart => exact ⟨D.length + 1, rs, 0, A, c, by omega, by omega, HR.out, by rw [HN0.out]; omega, by rw [HN0.out], rfl, by rw [HN0.out]; exact HG0.out, by rw [HN0.out]; exact HO0.out, Fr.refl _ w⟩
  case round =>
    obtain ⟨k, rs1, at1, A1, c1, hk, hat, hres, hcnt, rfl, rfl, hg, ho, hf⟩ := hrel
    obtain ⟨k, rfl⟩ : ∃ k', k = k' + 1 := ⟨k - 1, by omega⟩
    have HG := Lib.hid hg
    have HO := Lib.hid ho
    have HF := Lib.hid hf
    clear hg ho hf
    by_cases hlt : at1 < D.length
    · have HX : Hid (Value.string ((ByteArray.mk D.toArray).extract at1 D.length) = sv (D.drop at1)) := Lib.hid (by rw [ext_list, List.take_length])
      rw [scanW_step hlt] at hres
      have hdl : (D.drop at1).length = D.length - at1 := List.length_drop
      have HC := Lib.hid (unf_any (D.drop at1) wr (by rw [hdl]; unfold maxLen; omega))
      unfold Unf at HC
      have hsz := unfR_size (D.drop at1)
      rw [hdl] at hsz
      obtain ⟨bd, hbd⟩ : ∃ x, (unfR (D.drop at1)).1 = x := ⟨_, rfl⟩
      obtain ⟨sz1, hsz1⟩ : ∃ x, (unfR (D.drop at1)).2.1 = x := ⟨_, rfl⟩
      obtain ⟨er, her⟩ : ∃ x, (unfR (D.drop at1)).2.2 = x := ⟨_, rfl⟩
      rw [hbd, hsz1, her] at hres HC hsz
      have HRES := Lib.hid hres
      have HSZ := Lib.hid hsz
      clear hdl hres hsz hbd hsz1 her
      go_wp2_with fail
      rw [HX.out]
      refine HC.out.mono ?_
      rintro e w1 ⟨rfl, f1⟩
      have F1 := Lib.hid (HF.out.trans (Fr.of_below f1) fun _ _ h => h.elim)
      have HG1 := Lib.hid (HG.out.keep recG_elem (Fr.of_below f1) (fun k hk => hk.elim))
      clear f1 HC
      by_cases h20 : er = 20
      · subst h20
        have hr1 := HRES.out
        rw [if_pos rfl] at hr1
        have HR1 := Lib.hid hr1
        clear hr1
        go_wp2_with fail
        refine bodyPost_ret (v := .tuple #[.slice A1 rs1.length c1, .int .i64 (at1 : Nat)]) (by simp [results, Tryz.results104, go_sem]) rfl ?_
        refine ⟨fun rs' at' e => ?_, fun e => ?_, by rw [HVL'.out]; exact F1.out⟩
        · rw [← HR1.out] at e
          obtain ⟨rfl, rfl⟩ := Prod.mk.inj (Option.some.inj e)
          exact ⟨A1, c1, rfl, HG1.out, fun k hk => by rw [HVL'.out]; exact HO.out k hk⟩
        · rw [← HR1.out] at e; exact nomatch e
      · have hd20 : (er == 20) = false := by simpa using h20
        have hr1 := HRES.out
        rw [if_neg h20] at hr1
        have HR1 := Lib.hid hr1
        clear hr1
        by_cases h0 : er = 0
        · subst h0
          have hr2 := HR1.out
          rw [if_neg (by simp)] at hr2
          obtain ⟨hs1, hs2, hs3⟩ := HSZ.out rfl
          have hbl : bd.length ≤ 1073741824 := by omega
          have HC2 := Lib.hid (unRec_any bd w1 hbl)
          have hok := unRec_ok bd hbl
          obtain ⟨⟨q, dt⟩, hr⟩ : ∃ x, (unRec bd).1 = x := ⟨_, rfl⟩
          obtain ⟨ur, hur⟩ : ∃ x, (unRec bd).2 = x := ⟨_, rfl⟩
          rw [hr, hur] at hr2 HC2
          rw [hr] at hok
          have HR2 := Lib.hid hr2
          unfold RcP.val at HC2
          simp only at HC2
          have HOK := Lib.hid hok
          clear hr hur hr2 hok
          go_wp2_with fail
          refine (check_ok w1).mono ?_
          rintro e w' ⟨rfl, rfl⟩
          go_wp2_with fail
          refine HC2.out.mono ?_
          rintro e w2 ⟨rfl, f2⟩
          have F2 := Lib.hid (F1.out.trans f2 fun _ _ h => h.elim)
          have HG2 := Lib.hid (HG1.out.keep recG_elem f2 (fun k hk => hk.elim))
          clear f2 HC2
          by_cases hu : ur = 0
          · subst hu
            have hr3 := HR2.out
            rw [if_neg (by simp)] at hr3
            have HC3 := Lib.hid (fun (w3 : World) (hg : Grow b 52 2 recG w3 (.slice A1 rs1.length c1) rs1) => follows_any ⟨q, dt⟩ hg HOK.out (by omega))
            obtain ⟨fb, hfb⟩ : ∃ x, followsW rs1 ⟨q, dt⟩ = x := ⟨_, rfl⟩
            rw [hfb] at hr3 HC3
            have HR3 := Lib.hid hr3
            clear hr3 hfb
            go_wp2_with fail
            obtain ⟨w2a, hw2a⟩ : ∃ w2a, w2.alloc (.cells #[.int .i64 q, .string ⟨dt.toArray⟩] 52) = w2a := ⟨_, rfl⟩
            have fa : Fr No w2 w2a := by rw [← hw2a]; exact (Fr.refl _ w2).alloc _
            have ba : Blk w2a w2.heap.size 52 #[.int .i64 q, sv dt] := by rw [← hw2a]; exact Blk.new w2 52 _
            rw [hw2a]
            obtain ⟨gr, hgr⟩ : ∃ gr, w2.heap.size = gr := ⟨_, rfl⟩
            rw [hgr] at ba ⊢
            refine (HC3.out w2a (HG2.out.keep recG_elem fa fun k hk => hk.elim)).mono ?_
            rintro e w3 ⟨rfl, f3⟩
            have f23 : Fr No w2 w3 := fa.trans f3 fun _ _ h => h
            have F3 := Lib.hid (F2.out.trans f23 fun _ _ h => h.elim)
            have HG3 := Lib.hid (HG2.out.keep recG_elem f23 fun k hk => hk.elim)
            have b3 := ba.of (f3.block gr ba.lt id)
            have z0 : w3.cell? ⟨gr, 0, none⟩ = some (.int .i64 q) := b3.cell 0
            have z1 : w3.cell? ⟨gr, 1, none⟩ = some (sv dt) := b3.cell 1
            clear fa ba f3 f23 hw2a hgr b3 HC3 HG2 F2
            by_cases hf : fb = true
            · subst hf
              have hr4 := HR3.out
              rw [if_pos rfl] at hr4
              obtain ⟨A2, c2, w4, hap, hg4, f4, hlt4, ho4⟩ := HG3.out.more2 recG_elem (w0 := w3) (Nat.le_trans HB.out F3.out.size) (Nat.le_refl _) (fun x hx => (HG3.out.lt x hx).2) 43 Tryz.underlying43 (.agg #[.int .i64 0, .string ⟨#[]⟩]) info52 rfl (by omega) ⟨q, dt⟩ [.int .i64 q, sv dt] rfl (by simp [Value.oneCell']) ⟨rfl, HOK.out⟩ (by omega) (by unfold maxLen; omega)
              have HR4 := Lib.hid hr4
              have HAP := Lib.hid hap
              have HG4 := Lib.hid hg4
              have HO4 : Hid (∀ x, (Value.slice A2 (rs1.length + 1) c2).ownBlock = some x → V.ownBlock = some x ∨ w.heap.size ≤ x) := Lib.hid fun x hx => by
                rcases ho4 x hx with h | h
                · exact HO.out x h
                · exact .inr (Nat.le_trans F3.out.size h)
              have HF4 : Hid (Fr (fun k => V.ownBlock = some k) w w4) := Lib.hid (F3.out.trans f4 fun x hlx hx => by
                rcases HO.out x hx with h | h
                · exact h
                · omega)
              have hw1 : IntKind.i64.wrap ((at1 : Int) + (sz1 : Int)) = ((at1 + sz1 : Nat) : Int) := by rw [IntWalk.i64_in _ (by omega)]; omega
              clear hap hg4 f4 hlt4 ho4 hr4
              go_wp2_with (first | (at_builtin; refine wpList_add rfl _ _ _ _ rfl _ _ _ _ rfl rfl (HAP.out _) ?_) | (refine (check_ok w3).mono ?_; rintro e w' ⟨rfl, rfl⟩))
              refine ⟨⟨k, rs1 ++ [⟨q, dt⟩], at1 + sz1, A2, c2, by omega, by omega, HR4.out, by rw [List.length_append, List.length_singleton]; omega, by rw [List.length_append, List.length_singleton], by go_num, ?_, ?_, HF4.out⟩, ?_⟩
              · rw [List.length_append, List.length_singleton]; exact HG4.out
              · rw [List.length_append, List.length_singleton]; exact HO4.out
              · simp [intOf]; omega
            · have hfb : fb = false := by simpa using hf
              subst hfb
              have hr4 := HR3.out
              rw [if_neg (by simp)] at hr4
              have HR4 := Lib.hid hr4
              clear hr4
              go_wp2_with fail
              refine (check_no w3).mono ?_
              rintro e w' ⟨rfl, rfl⟩
              go_wp2_with fail
              refine ⟨rfl, fun rs' at' e => ?_, fun _ => rfl, by rw [HVL'.out]; exact F3.out⟩
              rw [← HR4.out] at e; exact nomatch e
          · have hdu : (ur == 0) = false := by simpa using hu
            have hr3 := HR2.out
            rw [if_pos hu] at hr3
            have HR3 := Lib.hid hr3
            clear hr3
            go_wp2_with fail
            refine (check_no _).mono ?_
            rintro e w' ⟨rfl, rfl⟩
            go_wp2_with fail
            refine ⟨rfl, fun rs' at' e => ?_, fun _ => rfl, by rw [HVL'.out]; exact F2.out.alloc _⟩
            rw [← HR3.out] at e; exact nomatch e
        · have hd0 : (er == 0) = false := by simpa using h0
          have hr2 := HR1.out
          rw [if_pos h0] at hr2
          have HR2 := Lib.hid hr2
          clear hr2
          go_wp2_with fail
          refine (check_no w1).mono ?_
          rintro e w' ⟨rfl, rfl⟩
          go_wp2_with fail
          refine ⟨rfl, fun rs' at' e => ?_, fun _ => rfl, by rw [HVL'.out]; exact F1.out⟩
          rw [← HR2.out] at e; exact nomatch e
    · have hr1 : scanW (k + 1) rs1 D at1 = some (rs1, at1) := scanW_end hlt
      rw [hr1] at hres
      have HRES := Lib.hid hres
      clear hres hr1
      go_wp2
      refine bodyPost_ret (v := .tuple #[.slice A1 rs1.length c1, .int .i64 (at1 : Nat)]) (by simp [results, Tryz.results104, go_sem]) rfl ?_
      refine ⟨fun rs' at' e => ?_, fun e => ?_, by rw [HVL'.out]; exact HF.out⟩
      · rw [← HRES.out] at e
        obtain ⟨rfl, rfl⟩ := Prod.mk.inj (Option.some.inj e)
        exact ⟨A1, c1, rfl, HG.out, fun k hk => by rw [HVL'.out]; exact HO.out k hk⟩
      · rw [← HRES.out] at e; exact nomatch e
end Go.Proofs.YtccjkolcmdhliaaGreatDoor
/- Opening a log: what fits a number, and what is behind it. -/
namespace Go.Proofs.YtccjkolcmdhliaaGreatDoor
open Go.RowKit Go.Maps
set_option linter.unusedVariables false

theorem Grow.recAt {b : Nat} {w : World} {A : Option Addr} {n c : Nat} {rs : List RcP} (h : Grow b 52 2 recG w (.slice A n c) rs) (j : Nat) (hj : j < rs.length) :
    ∃ g, A = some ⟨g, 0, none⟩ ∧ n = rs.length ∧ g < w.heap.size ∧ ∀ w' : World, w'.heap[g]? = w.heap[g]? → w'.cell? ⟨g, j * 2, none⟩ = some (.int .i64 rs[j].seq) ∧ w'.cell? ⟨g, j * 2 + 1, none⟩ = some (sv rs[j].data) := by
  obtain ⟨K, xs, ho, hel, hK⟩ := h
  rcases ho.2 with ⟨e1, h0⟩ | ⟨g, cap, cur, e1, hg, hh, hn, hcm, hcs, htk⟩
  · omega
  · injection e1 with e1 e3 e2
    subst e1; subst e2
    refine ⟨g, rfl, e3, (World.ownsRow.lt ho g rfl).2, fun w' hw => ?_⟩
    obtain ⟨cs, h1, h2, h3, _⟩ := hel j hj
    have hlt : ∀ i, i < 2 → j * 2 + i < rs.length * 2 := fun i hi => by omega
    constructor
    · rw [cell_of_row w' g _ cur 52 (0, 0) (hw.trans hh)]
      have h4 := h2 0 (by omega)
      rw [← htk, List.getElem?_take, if_pos (hlt 0 (by omega))] at h4
      rw [h3] at h4
      simpa [RcP.cells] using h4
    · rw [cell_of_row w' g _ cur 52 (0, 0) (hw.trans hh)]
      have h4 := h2 1 (by omega)
      rw [← htk, List.getElem?_take, if_pos (hlt 1 (by omega))] at h4
      rw [h3] at h4
      simpa [RcP.cells] using h4

def fitsW (rs : List RcP) (from_ : Int) : Bool :=
  match rs.head?, rs.getLast? with
  | some p, some q => decide (p.seq - 1 ≤ from_) && decide (from_ ≤ q.seq)
  | _, _ => true
set_option maxRecDepth 100000 in
set_option maxHeartbeats 2000000 in
theorem fits_any {b : Nat} {w : World} {A : Option Addr} {n c : Nat} {rs : List RcP} (m : Int) (h : Grow b 52 2 recG w (.slice A n c) rs) (hpos : ∀ r ∈ rs, 1 ≤ r.seq ∧ r.seq ≤ 9223372036854775807) (hn : rs.length ≤ 1000000000) :
    Calls Tryz.prog 54 #[.slice A n c, .int .i64 m] w fun e w' => e = .returned (.bool (fitsW rs m)) ∧ Fr No w w' := by
  have hn0 : n = rs.length := by
    obtain ⟨A', c', e⟩ := h.len
    injection e
  by_cases h0 : rs.length = 0
  · obtain rfl : rs = [] := List.eq_nil_of_length_eq_zero h0
    subst hn0
    have HE : Hid (fitsW [] m = true) := Lib.hid rfl
    clear h hpos
    go_enter Tryz.func54, Tryz.ntmps54
    go_wp2_with fail
    go_ret
    exact ⟨by rw [HE.out]; rfl, Fr.refl _ w⟩
  · obtain ⟨g, rfl, -, hg, hc0⟩ := h.recAt 0 (by omega)
    obtain ⟨g', hg', -, -, hc1⟩ := h.recAt (rs.length - 1) (by omega)
    obtain rfl : g = g' := by injection hg' with e; injection e
    have x0 := (hc0 w rfl).1
    have x1 := (hc1 w rfl).1
    have hp0 := hpos rs[0] (List.getElem_mem _)
    have HE : Hid (fitsW rs m = (decide (rs[0].seq - 1 ≤ m) && decide (m ≤ rs[rs.length - 1].seq))) := Lib.hid (by
      unfold fitsW
      rw [List.head?_eq_getElem?, List.getLast?_eq_getElem?, List.getElem?_eq_getElem (by omega), List.getElem?_eq_getElem (by omega)])
    obtain ⟨p, hp⟩ : ∃ p, rs[0].seq = p := ⟨_, rfl⟩
    obtain ⟨q, hq⟩ : ∃ q, rs[rs.length - 1].seq = q := ⟨_, rfl⟩
    obtain ⟨k, hk⟩ : ∃ k, rs.length = k := ⟨_, rfl⟩
    obtain ⟨j, hj⟩ : ∃ j, rs.length - 1 = j := ⟨_, rfl⟩
    rw [hp] at x0 hp0
    rw [hq] at x1
    rw [hp, hq] at HE
    rw [hj] at x1
    rw [Nat.zero_mul] at x0
    rw [hn0, hk]
    have hkl : k ≤ 1000000000 := by omega
    have hk0 : k ≠ 0 := by omega
    have hwk : IntKind.i64.wrap ((k : Int) - 1) = (j : Int) := by rw [show (k : Int) - 1 = (j : Int) by omega]; exact IntWalk.i64_in _ (by omega)
    have hwp : IntKind.i64.wrap (p - 1) = p - 1 := IntWalk.i64_in _ (by omega)
    have b1 : (0 : Int) ≤ (j : Int) := by omega
    have b2 : (j : Int) < (k : Int) := by omega
    have b3 : (0 : Int) < (k : Int) := by omega
    have t0 : ((k : Int) == 0) = false := by rw [beq_eq_false_iff_ne]; omega
    clear h hg hc0 hc1 hg' hp hq hk hj hn0 h0 hpos hn
    by_cases ha : p - 1 ≤ m
    · have hd : decide (p - 1 ≤ m) = true := by simpa using ha
      have HE2 : Hid (fitsW rs m = decide (m ≤ q)) := Lib.hid (by rw [HE.out, hd]; rfl)
      clear ha
      go_enter Tryz.func54, Tryz.ntmps54
      go_upto_region 3 with fail
      go_quiet (fail)
      go_wp2
      go_ret
      exact ⟨by rw [HE2.out]; rfl, (Fr.refl _ w).drewN _⟩
    · have hd : decide (p - 1 ≤ m) = false := by simpa using ha
      have HE2 : Hid (fitsW rs m = false) := Lib.hid (by rw [HE.out, hd]; rfl)
      clear ha
      go_enter Tryz.func54, Tryz.ntmps54
      go_upto_region 3 with fail
      go_quiet (fail)
      go_wp2
      go_ret
      exact ⟨by rw [HE2.out]; rfl, (Fr.refl _ w).drewN _⟩

/-! ### behind -/
def behindW (rs : List RcP) (m : Int) : List RcP := rs.filter fun r => decide (m < r.seq)
theorem behindW_snoc (rs : List RcP) (m : Int) (j : Nat) (h : j < rs.length) : behindW (rs.take (j + 1)) m = if m < rs[j].seq then behindW (rs.take j) m ++ [rs[j]] else behindW (rs.take j) m := by
  unfold behindW
  rw [List.take_succ_eq_append_getElem h, List.filter_append]
  by_cases hd : m < rs[j].seq
  · rw [if_pos hd]; simp [hd]
  · rw [if_neg hd]; simp [hd]
theorem behindW_len (rs : List RcP) (m : Int) : (behindW rs m).length ≤ rs.length := List.length_filter_le _ _
set_option maxRecDepth 100000 in
set_option maxHeartbeats 2000000 in
theorem behind_any {b : Nat} {w : World} {A : Option Addr} {n c : Nat} {rs : List RcP} (m : Int) (h : Grow b 52 2 recG w (.slice A n c) rs) (hn : rs.length ≤ 1000000000) (hok : ∀ r ∈ rs, r.Ok) :
    Calls Tryz.prog 56 #[.slice A n c, .int .i64 m] w fun e w' => ∃ A' c', e = .returned (.slice A' (behindW rs m).length c') ∧ Grow w.heap.size 52 2 recG w' (.slice A' (behindW rs m).length c') (behindW rs m) ∧ Fr No w w' := by
  have hn0 : n = rs.length := by
    obtain ⟨A', c', e⟩ := h.len
    injection e
  subst hn0
  obtain ⟨bb, hbb⟩ : ∃ b, w.heap.size = b := ⟨_, rfl⟩
  obtain ⟨w0, hw0⟩ : ∃ w0, w.alloc (.cells #[] 52) = w0 := ⟨_, rfl⟩
  have hg0 : Grow bb 52 2 recG w0 (.slice (some ⟨bb, 0, none⟩) 0 0) [] := by rw [← hw0, ← hbb]; exact Grow.nil w.heap.size 52 2 recG w (Nat.le_refl _)
  have f0 : Fr No w w0 := by rw [← hw0]; exact (Fr.refl _ w).alloc _
  have HG0 := Lib.hid hg0
  have F0 := Lib.hid f0
  have H := Lib.hid h
  have HOK := Lib.hid hok
  have HBS := Lib.hid (show bb = w.heap.size from hbb.symm)
  have HW0 := Lib.hid hw0
  obtain ⟨n, hnn⟩ : ∃ n, rs.length = n := ⟨_, rfl⟩
  have HN := Lib.hid hnn
  rw [hnn] at hn ⊢
  clear hg0 f0 h hok hbb hw0 hnn
  go_enter Tryz.func56, Tryz.ntmps56
  go_wp2_with fail
  rw [HW0.out, ← HBS.out]
  go_loopw [5, 11] (fun v i wr => ∃ j : Nat, ∃ A' c', j ≤ n ∧ i = .int .i64 j ∧ v = .slice A' (behindW (rs.take j) m).length c' ∧ Grow bb 52 2 recG wr (.slice A' (behindW (rs.take j) m).length c') (behindW (rs.take j) m) ∧ Fr No w wr) (fun _ i _ => n - (intOf i).toNat)
  case atStart => exact ⟨0, _, _, by omega, rfl, rfl, HG0.out, F0.out⟩
  case round =>
    obtain ⟨j, A', c', hj, rfl, rfl, hg, hf⟩ := hrel
    have HG := Lib.hid hg
    have HF := Lib.hid hf
    clear hg hf
    by_cases hlt : j < n
    · have hjl : j < rs.length := by rw [HN.out]; exact hlt
      obtain ⟨gn, rfl, -, hgn, hcell⟩ := H.out.recAt j hjl
      obtain ⟨x0, x1⟩ := hcell wr (HF.out.block gn hgn id)
      have HS := Lib.hid (behindW_snoc rs m j hjl)
      have HLn := Lib.hid (behindW_len (rs.take j) m)
      have HTL : Hid ((rs.take j).length ≤ n) := Lib.hid (by rw [List.length_take]; omega)
      have hrok := HOK.out rs[j] (List.getElem_mem _)
      obtain ⟨r, hr⟩ : ∃ r, rs[j] = r := ⟨_, rfl⟩
      obtain ⟨q, dt⟩ := r
      rw [hr] at HS hrok x0 x1
      simp only at x0 x1 HS
      have HROK := Lib.hid hrok
      obtain ⟨w3, hw3⟩ : ∃ w3, wr.alloc (.cells #[.int .i64 q, .string ⟨dt.toArray⟩] 52) = w3 := ⟨_, rfl⟩
      have hw3s : w3.heap.size = wr.heap.size + 1 := by rw [← hw3]; simp
      have f3 : Fr No wr w3 := by rw [← hw3]; exact (Fr.refl _ wr).alloc _
      have HF3 := Lib.hid (HF.out.trans f3 fun _ _ h => h)
      have HG3 := Lib.hid (HG.out.keep recG_elem f3 fun k hk => hk.elim)
      clear hcell hgn hjl hr hrok f3
      by_cases hp : m < q
      · have hd : decide (m < q) = true := by simpa using hp
        obtain ⟨A2, c2, w4, hap, hg4, f4, hlt4, ho4⟩ := HG3.out.more2 recG_elem (w0 := w3) (by rw [HBS.out]; exact HF3.out.size) (Nat.le_refl _) (fun x hx => (HG3.out.lt x hx).2) 43 Tryz.underlying43 (.agg #[.int .i64 0, .string ⟨#[]⟩]) info52 rfl (by omega) ⟨q, dt⟩ [.int .i64 q, sv dt] rfl (by simp [Value.oneCell']) ⟨rfl, HROK.out⟩ (by have := HLn.out; have := HTL.out; omega) (by have := HLn.out; have := HTL.out; unfold maxLen; omega)
        rw [hw3s] at hap
        have HAP := Lib.hid hap
        have HG4 : Hid (Grow bb 52 2 recG w4 (.slice A2 ((behindW (rs.take j) m).length + 1) c2) (behindW (rs.take (j + 1)) m)) := Lib.hid (by rw [HS.out, if_pos hp]; exact hg4)
        have HF4 : Hid (Fr No w w4) := Lib.hid (HF3.out.trans f4 fun x hlx hx => by have := (HG3.out.lt x hx).1; have := HBS.out; omega)
        have HE : Hid ((behindW (rs.take (j + 1)) m).length = (behindW (rs.take j) m).length + 1) := Lib.hid (by rw [HS.out, if_pos hp]; simp)
        rw [← hw3] at HAP
        clear hap hg4 f4 hlt4 ho4 hp hw3s hw3
        go_wp2_with (at_builtin; refine wpList_add rfl _ _ _ _ rfl _ _ _ _ rfl rfl (HAP.out _) ?_)
        refine ⟨⟨j + 1, A2, c2, by omega, by go_num, by rw [HE.out], by rw [HE.out]; exact HG4.out, HF4.out⟩, ?_⟩
        simp [intOf]; omega
      · have hd : decide (m < q) = false := by simpa using hp
        have HE : Hid (behindW (rs.take (j + 1)) m = behindW (rs.take j) m) := Lib.hid (by rw [HS.out, if_neg hp])
        clear hp
        rw [← hw3] at HF3 HG3
        clear hw3s hw3
        go_wp2
        refine ⟨⟨j + 1, A', c', by omega, by go_num, by rw [HE.out], by rw [HE.out]; exact HG3.out, HF3.out⟩, ?_⟩
        simp [intOf]; omega
    · obtain rfl : j = n := by omega
      have HE : Hid (behindW (rs.take j) m = behindW rs m) := Lib.hid (by rw [List.take_of_length_le (by rw [HN.out]; omega)])
      go_wp2
      go_ret
      exact ⟨A', c', by rw [HE.out]; rfl, by have := HG.out; rw [HE.out, HBS.out] at this; exact this, HF.out⟩
end Go.Proofs.YtccjkolcmdhliaaGreatDoor
