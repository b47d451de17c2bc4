/- The library's calls that the log makes, by the shelf's contracts, at this program's numbers. -/
import Derived.Shelf.Strconv.Itoa3
import Derived.Shelf.Strconv.AtoiAll
import Derived.Shelf.Strconv.ErrVarAll
import Derived.Shelf.Strings.Prefix
import Derived.Shelf.LaysM
import Derived.Shelf.LaysC
import Derived.Test.YtikpojnmaiplnaaGreatDoorProg
import Derived.Test.YtikpojnmaiplnaaGreatDoorRows
import Derived.WalkKit
import Derived.WalkSpells
import Derived.WalkLawsBesides
import Derived.Deep.QuietTactic
import Derived.BigQuiet
import Derived.Lib.Hide
import Derived.Maps.OwnSet
import Derived.Maps.Ext
import Derived.Maps.RangeWalk
import Derived.Deep.AppendLies
import Derived.Deep.Draws
import Derived.Shelf.SlGeneric
import Derived.Shelf.SlMaps.Clone
import Derived.Shelf.SlMaps.Copy
import Derived.Shelf.SlIter.Nil
import Derived.Shelf.SortM.Plain
import Derived.Shelf.SortM.SortNone
import Derived.Ground.GgzProg
import Derived.Ground.SlgmProg
import Derived.Ground.SlmcProg
import Derived.Ground.SlmpProg
import Derived.Deep.DeepFit
import Derived.StillTailTactics
import Derived.Lib.AppendStr
import Derived.Deep.RegionLaw
import Derived.Lib.QuietBelow
import Derived.Laws.BitsAllLaws
import Derived.IntWalk
import Derived.Deep.LoopGhost
import Derived.Laws.LoneSync
import Derived.Laws.Pointers
import Derived.Defers
import Derived.RegionTactic
import Derived.RegionCalls
import Derived.ChangeAlike
import Derived.Outline
import Derived.Laws.Bits64b
import Derived.Deep.OwnRows
import Derived.Deep.DeepCutAuto
namespace Go.Proofs.YtikpojnmaiplnaaGreatDoor
open Go.Shelf Go.Proofs
def Tryz.laysM171_ren : Go.Shelf.Ren := ⟨fun | 171 => 41 | 243 => 85 | 246 => 149 | 283 => 175 | 284 => 176 | 285 => 177 | 286 => 178 | 129 => 194 | 317 => 193 | 318 => 195 | 319 => 196 | 320 => 197 | 337 => 217 | 338 => 218 | n => n, fun | 3 => 3 | 9 => 9 | 2 => 2 | 4 => 4 | 171 => 206 | 0 => 0 | 53 => 82 | 37 => 65 | 5 => 5 | 173 => 209 | 212 => 236 | 51 => 135 | 20 => 20 | 213 => 237 | 46 => 150 | 232 => 269 | 233 => 270 | n => n, fun | 17 => 0 | 18 => 3 | 19 => 4 | n => n⟩
theorem Tryz.laysM171 : Go.Proofs.LaysM.n171 Tryz.prog Tryz.laysM171_ren := {
  mixed := by kernel_rfl
  f129 := Tryz.func194.trans (congrArg some (by kernel_rfl))
  f171 := Tryz.func41.trans (congrArg some (by kernel_rfl))
  f243 := Tryz.func85.trans (congrArg some (by kernel_rfl))
  f246 := Tryz.func149.trans (congrArg some (by kernel_rfl))
  f283 := Tryz.func175.trans (congrArg some (by kernel_rfl))
  f284 := Tryz.func176.trans (congrArg some (by kernel_rfl))
  f285 := Tryz.func177.trans (congrArg some (by kernel_rfl))
  f286 := Tryz.func178.trans (congrArg some (by kernel_rfl))
  f317 := Tryz.func193.trans (congrArg some (by kernel_rfl))
  f318 := Tryz.func195.trans (congrArg some (by kernel_rfl))
  f319 := Tryz.func196.trans (congrArg some (by kernel_rfl))
  f320 := Tryz.func197.trans (congrArg some (by kernel_rfl))
  f337 := Tryz.func217.trans (congrArg some (by kernel_rfl))
  f338 := Tryz.func218.trans (congrArg some (by kernel_rfl))
  t0 := Tryz.underlying0
  a0 := Tryz.isAgg0
  z0 := Tryz.sizeOf0
  v0 := Tryz.zeroValue0
  t2 := Tryz.underlying2
  a2 := Tryz.isAgg2
  z2 := Tryz.sizeOf2
  v2 := Tryz.zeroValue2
  t3 := Tryz.underlying3
  a3 := Tryz.isAgg3
  z3 := Tryz.sizeOf3
  v3 := Tryz.zeroValue3
  t4 := Tryz.underlying4
  a4 := Tryz.isAgg4
  z4 := Tryz.sizeOf4
  v4 := Tryz.zeroValue4
  t5 := Tryz.underlying5
  a5 := Tryz.isAgg5
  z5 := Tryz.sizeOf5
  v5 := Tryz.zeroValue5
  t9 := Tryz.underlying9
  a9 := Tryz.isAgg9
  z9 := Tryz.sizeOf9
  v9 := Tryz.zeroValue9
  t20 := Tryz.underlying20
  a20 := Tryz.isAgg20
  z20 := Tryz.sizeOf20
  v20 := Tryz.zeroValue20
  t37 := Tryz.underlying65
  a37 := Tryz.isAgg65
  z37 := Tryz.sizeOf65
  v37 := Tryz.zeroValue65
  t46 := Tryz.underlying150
  a46 := Tryz.isAgg150
  z46 := Tryz.sizeOf150
  v46 := Tryz.zeroValue150
  t51 := Tryz.underlying135
  a51 := Tryz.isAgg135
  z51 := Tryz.sizeOf135
  v51 := Tryz.zeroValue135
  t53 := Tryz.underlying82
  a53 := Tryz.isAgg82
  z53 := Tryz.sizeOf82
  v53 := Tryz.zeroValue82
  t171 := Tryz.underlying206
  a171 := Tryz.isAgg206
  z171 := Tryz.sizeOf206
  v171 := Tryz.zeroValue206
  t173 := Tryz.underlying209
  a173 := Tryz.isAgg209
  z173 := Tryz.sizeOf209
  v173 := Tryz.zeroValue209
  t212 := Tryz.underlying236
  a212 := Tryz.isAgg236
  z212 := Tryz.sizeOf236
  v212 := Tryz.zeroValue236
  t213 := Tryz.underlying237
  a213 := Tryz.isAgg237
  z213 := Tryz.sizeOf237
  t232 := Tryz.underlying269
  a232 := Tryz.isAgg269
  z232 := Tryz.sizeOf269
  v232 := Tryz.zeroValue269
  t233 := Tryz.underlying270
  a233 := Tryz.isAgg270
  z233 := Tryz.sizeOf270
  v233 := Tryz.zeroValue270
  g17 := by kernel_rfl
  g18 := by kernel_rfl
  g19 := by kernel_rfl
  i0 := by kernel_rfl
  i2 := by kernel_rfl
  i3 := by kernel_rfl
  i4 := by kernel_rfl
  i5 := by kernel_rfl
  i9 := by kernel_rfl
  i20 := by kernel_rfl
  i37 := by kernel_rfl
  i46 := by kernel_rfl
  i51 := by kernel_rfl
  i53 := by kernel_rfl
  i171 := by kernel_rfl
  i173 := by kernel_rfl
  i212 := by kernel_rfl
  i232 := by kernel_rfl
  i233 := by kernel_rfl
  m17 := by kernel_rfl
  m18 := by kernel_rfl
  m19 := by kernel_rfl }
open Go.RowKit Go.Sort Go.Lib in
/-- strconv.Itoa: "Itoa is equivalent to FormatInt(int64(i), 10).": i's DECIMAL NUMERAL ('Lib.itoa': a '-' where i is negative, then the digits), FOR EVERY int. The world behind the call: the world before it, new blocks behind the heap (the library's 'var a [24]byte'), draws. (LAID: no walk: one application.) -/
theorem Tryz.strconv_Itoa (n : Int) (h0 : -9223372036854775808 ≤ n) (h1 : n ≤ 9223372036854775807) (w : World) (htab : Lib.TabIs Tryz.prog w "internal/strconv.uint64pow10" .u64 Lib.pow10Tab) :
    Calls Tryz.prog 41 #[.int .i64 n] w fun e w' => e = .returned (.string ⟨(Lib.itoa n).toArray⟩) ∧ ∃ k os, w' = grow (w.drewN k) os := Any.strconv_Itoa Tryz.laysM171 n h0 h1 w htab
def Tryz.laysC172_ren : Go.Shelf.Ren := ⟨fun | 172 => 130 | 244 => 170 | 245 => 171 | 247 => 188 | 279 => 189 | 280 => 190 | 281 => 191 | 282 => 192 | 287 => 214 | 316 => 215 | 171 => 41 | 205 => 216 | 321 => 227 | 322 => 228 | 243 => 85 | 246 => 149 | 283 => 175 | 284 => 176 | 285 => 177 | 286 => 178 | 129 => 194 | 317 => 193 | 318 => 195 | 319 => 196 | 320 => 197 | 337 => 217 | 338 => 218 | n => n, fun | 9 => 9 | 3 => 3 | 75 => 142 | 76 => 143 | 4 => 4 | 5 => 5 | 167 => 229 | 37 => 65 | 0 => 0 | 85 => 230 | 2 => 2 | 168 => 232 | 53 => 82 | 175 => 253 | 46 => 150 | 210 => 256 | 127 => 149 | 145 => 268 | 143 => 266 | 21 => 21 | 171 => 206 | 173 => 209 | 212 => 236 | 51 => 135 | 20 => 20 | 213 => 237 | 232 => 269 | 233 => 270 | 80 => 80 | n => n, fun | 15 => 1 | 16 => 2 | 17 => 0 | 18 => 3 | 19 => 4 | n => n⟩
theorem Tryz.laysC172 : Go.Proofs.LaysC.n172 Tryz.prog Tryz.laysC172_ren := {
  mixed := by kernel_rfl
  f129 := Tryz.func194.trans (congrArg some (by kernel_rfl))
  f171 := Tryz.func41.trans (congrArg some (by kernel_rfl))
  f172 := Tryz.func130.trans (congrArg some (by kernel_rfl))
  f205 := Tryz.func216.trans (congrArg some (by kernel_rfl))
  f243 := Tryz.func85.trans (congrArg some (by kernel_rfl))
  f244 := Tryz.func170.trans (congrArg some (by kernel_rfl))
  f245 := Tryz.func171.trans (congrArg some (by kernel_rfl))
  f246 := Tryz.func149.trans (congrArg some (by kernel_rfl))
  f247 := Tryz.func188.trans (congrArg some (by kernel_rfl))
  f279 := Tryz.func189.trans (congrArg some (by kernel_rfl))
  f280 := Tryz.func190.trans (congrArg some (by kernel_rfl))
  f281 := Tryz.func191.trans (congrArg some (by kernel_rfl))
  f282 := Tryz.func192.trans (congrArg some (by kernel_rfl))
  f283 := Tryz.func175.trans (congrArg some (by kernel_rfl))
  f284 := Tryz.func176.trans (congrArg some (by kernel_rfl))
  f285 := Tryz.func177.trans (congrArg some (by kernel_rfl))
  f286 := Tryz.func178.trans (congrArg some (by kernel_rfl))
  f287 := Tryz.func214.trans (congrArg some (by kernel_rfl))
  f316 := Tryz.func215.trans (congrArg some (by kernel_rfl))
  f317 := Tryz.func193.trans (congrArg some (by kernel_rfl))
  f318 := Tryz.func195.trans (congrArg some (by kernel_rfl))
  f319 := Tryz.func196.trans (congrArg some (by kernel_rfl))
  f320 := Tryz.func197.trans (congrArg some (by kernel_rfl))
  f321 := Tryz.func227.trans (congrArg some (by kernel_rfl))
  f322 := Tryz.func228.trans (congrArg some (by kernel_rfl))
  f337 := Tryz.func217.trans (congrArg some (by kernel_rfl))
  f338 := Tryz.func218.trans (congrArg some (by kernel_rfl))
  t0 := Tryz.underlying0
  a0 := Tryz.isAgg0
  z0 := Tryz.sizeOf0
  v0 := Tryz.zeroValue0
  t2 := Tryz.underlying2
  a2 := Tryz.isAgg2
  z2 := Tryz.sizeOf2
  v2 := Tryz.zeroValue2
  t3 := Tryz.underlying3
  a3 := Tryz.isAgg3
  z3 := Tryz.sizeOf3
  v3 := Tryz.zeroValue3
  t4 := Tryz.underlying4
  a4 := Tryz.isAgg4
  z4 := Tryz.sizeOf4
  v4 := Tryz.zeroValue4
  t5 := Tryz.underlying5
  a5 := Tryz.isAgg5
  z5 := Tryz.sizeOf5
  v5 := Tryz.zeroValue5
  t9 := Tryz.underlying9
  a9 := Tryz.isAgg9
  z9 := Tryz.sizeOf9
  v9 := Tryz.zeroValue9
  t20 := Tryz.underlying20
  a20 := Tryz.isAgg20
  z20 := Tryz.sizeOf20
  v20 := Tryz.zeroValue20
  t21 := Tryz.underlying21
  a21 := Tryz.isAgg21
  z21 := Tryz.sizeOf21
  v21 := Tryz.zeroValue21
  t37 := Tryz.underlying65
  a37 := Tryz.isAgg65
  z37 := Tryz.sizeOf65
  v37 := Tryz.zeroValue65
  t46 := Tryz.underlying150
  a46 := Tryz.isAgg150
  z46 := Tryz.sizeOf150
  v46 := Tryz.zeroValue150
  t51 := Tryz.underlying135
  a51 := Tryz.isAgg135
  z51 := Tryz.sizeOf135
  v51 := Tryz.zeroValue135
  t53 := Tryz.underlying82
  a53 := Tryz.isAgg82
  z53 := Tryz.sizeOf82
  v53 := Tryz.zeroValue82
  t75 := Tryz.underlying142
  a75 := Tryz.isAgg142
  z75 := Tryz.sizeOf142
  v75 := Tryz.zeroValue142
  t76 := Tryz.underlying143
  a76 := Tryz.isAgg143
  z76 := Tryz.sizeOf143
  v76 := Tryz.zeroValue143
  t85 := Tryz.underlying230
  a85 := Tryz.isAgg230
  z85 := Tryz.sizeOf230
  v85 := Tryz.zeroValue230
  t127 := Tryz.underlying149
  a127 := Tryz.isAgg149
  z127 := Tryz.sizeOf149
  v127 := Tryz.zeroValue149
  t143 := Tryz.underlying266
  a143 := Tryz.isAgg266
  z143 := Tryz.sizeOf266
  v143 := Tryz.zeroValue266
  t145 := Tryz.underlying268
  a145 := Tryz.isAgg268
  z145 := Tryz.sizeOf268
  v145 := Tryz.zeroValue268
  t167 := Tryz.underlying229
  a167 := Tryz.isAgg229
  z167 := Tryz.sizeOf229
  v167 := Tryz.zeroValue229
  t168 := Tryz.underlying232
  a168 := Tryz.isAgg232
  z168 := Tryz.sizeOf232
  v168 := Tryz.zeroValue232
  t171 := Tryz.underlying206
  a171 := Tryz.isAgg206
  z171 := Tryz.sizeOf206
  v171 := Tryz.zeroValue206
  t173 := Tryz.underlying209
  a173 := Tryz.isAgg209
  z173 := Tryz.sizeOf209
  v173 := Tryz.zeroValue209
  t175 := Tryz.underlying253
  a175 := Tryz.isAgg253
  z175 := Tryz.sizeOf253
  v175 := Tryz.zeroValue253
  t210 := Tryz.underlying256
  a210 := Tryz.isAgg256
  z210 := Tryz.sizeOf256
  v210 := Tryz.zeroValue256
  t212 := Tryz.underlying236
  a212 := Tryz.isAgg236
  z212 := Tryz.sizeOf236
  v212 := Tryz.zeroValue236
  t213 := Tryz.underlying237
  a213 := Tryz.isAgg237
  z213 := Tryz.sizeOf237
  t232 := Tryz.underlying269
  a232 := Tryz.isAgg269
  z232 := Tryz.sizeOf269
  v232 := Tryz.zeroValue269
  t233 := Tryz.underlying270
  a233 := Tryz.isAgg270
  z233 := Tryz.sizeOf270
  v233 := Tryz.zeroValue270
  g15 := by kernel_rfl
  g16 := by kernel_rfl
  g17 := by kernel_rfl
  g18 := by kernel_rfl
  g19 := by kernel_rfl
  t80 := Tryz.underlying80
  a80 := Tryz.isAgg80
  z80 := Tryz.sizeOf80
  v80 := Tryz.zeroValue80
  i0 := by kernel_rfl
  i2 := by kernel_rfl
  i3 := by kernel_rfl
  i4 := by kernel_rfl
  i5 := by kernel_rfl
  i9 := by kernel_rfl
  i20 := by kernel_rfl
  i21 := by kernel_rfl
  i37 := by kernel_rfl
  i46 := by kernel_rfl
  i51 := by kernel_rfl
  i53 := by kernel_rfl
  i75 := by kernel_rfl
  i76 := by kernel_rfl
  i80 := by kernel_rfl
  i85 := by kernel_rfl
  i127 := by kernel_rfl
  i143 := by kernel_rfl
  i145 := by kernel_rfl
  i167 := by kernel_rfl
  i168 := by kernel_rfl
  i171 := by kernel_rfl
  i173 := by kernel_rfl
  i175 := by kernel_rfl
  i210 := by kernel_rfl
  i212 := by kernel_rfl
  i232 := by kernel_rfl
  i233 := by kernel_rfl
  m15 := by kernel_rfl
  m16 := by kernel_rfl
  m17 := by kernel_rfl
  m18 := by kernel_rfl
  m19 := by kernel_rfl
  c0 := by kernel_rfl
  c2 := by kernel_rfl
  c3 := by kernel_rfl
  c4 := by kernel_rfl
  c5 := by kernel_rfl
  c9 := by kernel_rfl
  c20 := by kernel_rfl
  c21 := by kernel_rfl
  c37 := by kernel_rfl
  c46 := by kernel_rfl
  c51 := by kernel_rfl
  c53 := by kernel_rfl
  c75 := by kernel_rfl
  c76 := by kernel_rfl
  c80 := by kernel_rfl
  c85 := by kernel_rfl
  c127 := by kernel_rfl
  c143 := by kernel_rfl
  c145 := by kernel_rfl
  c167 := by kernel_rfl
  c168 := by kernel_rfl
  c171 := by kernel_rfl
  c173 := by kernel_rfl
  c175 := by kernel_rfl
  c210 := by kernel_rfl
  c212 := by kernel_rfl
  c213 := by kernel_rfl
  c232 := by kernel_rfl
  c233 := by kernel_rfl }
open Go.RowKit in
/-- strconv.Atoi, AT EVERY STRING THAT SPELLS AN int ('Lib.atoiAll .. = .ok v'; of whatever length: leading zeros count): v, AND NO ERROR. The world: as it was, or with the one new row that '[]byte(..)' lays. (LAID: no walk: one application.) -/
theorem Tryz.strconv_Atoi_ok (s : ByteArray) (hmax : s.size ≤ 9223372036854775806) (v : Int) (h : Lib.atoiAll s.data.toList = .ok v) (w : World) :
    Calls Tryz.prog 130 #[.string s] w fun e w' => e = .returned (.tuple #[.int .i64 v, .nilIface]) ∧ (w' = w ∨ ∃ t, w' = Lib.bytesWorld w 5 t) := Any.strconv_Atoi_ok Tryz.laysC172 s hmax v h w
open Go.RowKit in
theorem Tryz.strconv_Atoi_syntax_var (s : ByteArray) (hlim : s.size ≤ 281474976710656) (h : Lib.atoiAll s.data.toList = Lib.atoiAll []) (tp : TypeId) (p : Value) (w : World) (hvar : w.var? Tryz.prog "strconv.ErrSyntax" = some #[.iface tp p]) :
    Calls Tryz.prog 130 #[.string s] w fun e w' => ∃ N, e = .returned (.tuple #[.int .i64 0, .iface 232 (.pointer (some ⟨N, 0, none⟩))]) ∧ w.heap.size ≤ N ∧ w'.heap[N]? = some (.cells #[.string ⟨#[65, 116, 111, 105]⟩, .string s, .iface tp p] 256 (0, 0)) ∧ Below w.heap.size w w' := Any.strconv_Atoi_syntax_var Tryz.laysC172 s hlim (h.trans rfl) tp p w hvar
open Go.RowKit in
theorem Tryz.strconv_Atoi_range_var (s : ByteArray) (hlim : s.size ≤ 281474976710656) (h : Lib.atoiAll s.data.toList = .range) (tp : TypeId) (p : Value) (w : World) (hvar : w.var? Tryz.prog "strconv.ErrRange" = some #[.iface tp p]) :
    Calls Tryz.prog 130 #[.string s] w fun e w' => ∃ N, e = .returned (.tuple #[.int .i64 (Lib.atoiSat s.data.toList), .iface 232 (.pointer (some ⟨N, 0, none⟩))]) ∧ w.heap.size ≤ N ∧ w'.heap[N]? = some (.cells #[.string ⟨#[65, 116, 111, 105]⟩, .string s, .iface tp p] 256 (0, 0)) ∧ Below w.heap.size w w' := Any.strconv_Atoi_range_var Tryz.laysC172 s hlim h tp p w hvar
def Tryz.lays206_ren : Go.Shelf.Ren := ⟨fun | 206 => 213 | n => n, fun | 9 => 9 | 4 => 4 | 3 => 3 | n => n, fun | n => n⟩
theorem Tryz.lays206 : Go.Proofs.Lays.n206 Tryz.prog Tryz.lays206_ren := {
  mixed := by kernel_rfl
  f206 := Tryz.func213.trans (congrArg some (by kernel_rfl))
  t3 := Tryz.underlying3
  a3 := Tryz.isAgg3
  z3 := Tryz.sizeOf3
  v3 := Tryz.zeroValue3
  t4 := Tryz.underlying4
  a4 := Tryz.isAgg4
  z4 := Tryz.sizeOf4
  v4 := Tryz.zeroValue4
  t9 := Tryz.underlying9
  a9 := Tryz.isAgg9
  z9 := Tryz.sizeOf9
  v9 := Tryz.zeroValue9 }
open Go.RowKit Go.Lib in
/-- internal/stringslite.HasPrefix (what strings.HasPrefix calls). (LAID: no walk: one application.) -/
theorem Tryz.stringslite_HasPrefix (s p : ByteArray) (w : World) :
    Calls Tryz.prog 213 #[.string s, .string p] w fun e w' => e = .returned (.bool (Lib.hasPrefix s.data.toList p.data.toList)) ∧ w' = w := Any.stringslite_HasPrefix Tryz.lays206 s p w
def Tryz.lays101_ren : Go.Shelf.Ren := ⟨fun | 101 => 169 | 208 => 187 | 206 => 213 | n => n, fun | 9 => 9 | 4 => 4 | 3 => 3 | n => n, fun | n => n⟩
theorem Tryz.lays101 : Go.Proofs.Lays.n101 Tryz.prog Tryz.lays101_ren := {
  mixed := by kernel_rfl
  f101 := Tryz.func169.trans (congrArg some (by kernel_rfl))
  f206 := Tryz.func213.trans (congrArg some (by kernel_rfl))
  f208 := Tryz.func187.trans (congrArg some (by kernel_rfl))
  t3 := Tryz.underlying3
  a3 := Tryz.isAgg3
  z3 := Tryz.sizeOf3
  v3 := Tryz.zeroValue3
  t4 := Tryz.underlying4
  a4 := Tryz.isAgg4
  z4 := Tryz.sizeOf4
  v4 := Tryz.zeroValue4
  t9 := Tryz.underlying9
  a9 := Tryz.isAgg9
  z9 := Tryz.sizeOf9
  v9 := Tryz.zeroValue9 }
open Go.RowKit Go.Lib in
/-- strings.TrimPrefix: "TrimPrefix returns s without the provided leading prefix string. If s doesn't start with prefix, s is returned unchanged.": IT RETURNS 'Lib.trimPrefix s prefix'; the world is as it was. (LAID: no walk: one application.) -/
theorem Tryz.strings_TrimPrefix (s p : ByteArray) (w : World) :
    Calls Tryz.prog 169 #[.string s, .string p] w fun e w' => e = .returned (.string ⟨(Lib.trimPrefix s.data.toList p.data.toList).toArray⟩) ∧ w' = w := Any.strings_TrimPrefix Tryz.lays101 s p w
end Go.Proofs.YtikpojnmaiplnaaGreatDoor
/- Walks over the disk's smallest functions: names and picks. -/
namespace Go.Proofs.YtikpojnmaiplnaaGreatDoor
open Go.RowKit
set_option linter.unusedVariables false

def nameByte (n : Int) : Bool := decide ((97 ≤ n ∧ n ≤ 122) ∨ (48 ≤ n ∧ n ≤ 57) ∨ n = 46 ∨ n = 45 ∨ n = 95)
theorem ret_bool {a b : Bool} (h : a = b) : Ending.returned (.bool a) = Ending.returned (.bool b) := by rw [h]
theorem ret_int {k : IntKind} {a b : Int} (h : a = b) : Ending.returned (.int k a) = Ending.returned (.int k b) := by rw [h]

set_option maxHeartbeats 400000 in
theorem inName_any (n : Int) (w : World) (h0 : 0 ≤ n) (h1 : n < 256) :
    Calls Tryz.prog 211 #[.int .u8 n] w fun e w' => e = .returned (.bool (nameByte n)) ∧ w = w' := by
  go_enter Tryz.func211, Tryz.ntmps211
  go_wp2
  all_goals go_ret
  all_goals refine ⟨ret_bool ?_, rfl⟩
  all_goals (unfold nameByte; rw [Bool.eq_iff_iff]; simp; try omega)

/-- May these bytes be a file's name? -/
def nameOk (s : List UInt8) : Bool := decide (1 ≤ s.length) && decide (s.length ≤ 32) && s.all fun c => nameByte c.toNat

theorem nameOk_no {s : List UInt8} {k : Nat} (hk : k < s.length) (h : nameByte (s[k].toNat : Int) = false) : nameOk s = false := by
  unfold nameOk
  have : s.all (fun c => nameByte c.toNat) = false := by
    rw [List.all_eq_false]
    exact ⟨s[k], List.getElem_mem hk, by simp [h]⟩
  simp [this]

theorem nameOk_yes {s : List UInt8} (h1 : 1 ≤ s.length) (h2 : s.length ≤ 32) (h : ∀ k (hk : k < s.length), nameByte (s[k].toNat : Int) = true) : nameOk s = true := by
  unfold nameOk
  simp only [h1, h2, decide_true, Bool.true_and, List.all_eq_true]
  intro c hc
  obtain ⟨k, hk, rfl⟩ := List.getElem_of_mem hc
  exact h k hk

theorem u8_lt (c : UInt8) : (0 : Int) ≤ (c.toNat : Int) ∧ (c.toNat : Int) < 256 := by have := c.toNat_lt; omega

def NamesTo (s : ByteArray) (k : Nat) : Prop := ∀ j (hj : j < s.data.toList.length), j < k → nameByte (s.data.toList[j].toNat : Int) = true

set_option maxHeartbeats 400000 in
theorem isName_any (s : ByteArray) (w : World) (hs : s.size ≤ maxLen) :
    Calls Tryz.prog 185 #[.string s] w fun e w' => e = .returned (.bool (nameOk s.data.toList)) ∧ w = w' := by
  unfold maxLen at hs
  have hl : s.data.toList.length = s.size := by simp
  have HL := Lib.hid hl
  clear hl
  by_cases h0 : 1 ≤ s.size
  · by_cases h32 : s.size ≤ 32
    · go_enter Tryz.func185, Tryz.ntmps185
      go_wp2
      go_loop [3, 14] (fun _ i => ∃ k : Nat, k ≤ s.size ∧ i = .int .i64 k ∧ NamesTo s k) (fun _ i => s.size - (intOf i).toNat)
      case atStart => exact ⟨0, Nat.zero_le _, rfl, fun j hj hk => by omega⟩
      case round =>
        obtain ⟨k, hk, rfl, H⟩ := hrel
        by_cases hlt : k < s.size
        · have hb := u8_lt s[k]
          go_wp2_with (go_at_call 211; refine (inName_any _ _ (by omega) (by omega)).mono ?_; rintro e w' ⟨rfl, rfl⟩)
          · have hn : (!nameByte (s[k].toNat : Int)) = true := by assumption
            go_ret
            refine ⟨ret_bool ?_, rfl⟩
            have hl := HL.out
            exact (nameOk_no (k := k) (by omega) (by rw [Bool.not_eq_true'] at hn; exact hn)).symm
          · have hn : (!nameByte (s[k].toNat : Int)) = false := by assumption
            refine ⟨⟨k + 1, by omega, by go_num, fun j hj hjk => ?_⟩, by simp [intOf]; omega⟩
            by_cases e : j = k
            · subst e; rw [Bool.not_eq_false'] at hn; exact hn
            · exact H j hj (by omega)
        · go_wp2
          go_ret
          refine ⟨ret_bool ?_, rfl⟩
          have hl := HL.out
          rw [nameOk_yes (by omega) (by omega) (fun j hj => H j hj (by omega))]
    · go_enter Tryz.func185, Tryz.ntmps185
      go_wp2
      go_ret
      refine ⟨ret_bool ?_, rfl⟩
      have hl := HL.out
      unfold nameOk
      simp only [hl]
      simp; omega
  · go_enter Tryz.func185, Tryz.ntmps185
    go_wp2
    go_ret
    refine ⟨ret_bool ?_, rfl⟩
    have hl := HL.out
    unfold nameOk
    simp only [hl]
    simp; omega


/-! ### pick -/
/-- A pick as the document uses it: below 0 it counts as its mirror. -/
def pickOf (p : Int) : Int := if p < 0 then -(p + 1) else p

set_option maxHeartbeats 400000 in
theorem pick_none (a : Option Addr) (c : Nat) (most : Int) (w : World) :
    Calls Tryz.prog 53 #[.slice a 0 c, .int .i64 most] w fun e w' => e = .returned (.tuple #[.int .i64 0, .slice none 0 0]) ∧ w = w' := by
  go_enter Tryz.func53, Tryz.ntmps53
  go_wp2
  go_ret2
  exact ⟨rfl, rfl⟩

set_option maxHeartbeats 400000 in
theorem pick_some (ad : Addr) (n c : Nat) (p : Int) (most : Int) (w : World) (hn : 0 < n) (hc : n ≤ c) (hcm : c ≤ 9223372036854775807) (hp : w.cell? ad = some (.int .i64 p)) (hp1 : -9223372036854775808 ≤ p) (hp2 : p ≤ 9223372036854775807) (hm0 : 0 ≤ most) (hm1 : most < 9223372036854775807) :
    Calls Tryz.prog 53 #[.slice (some ad) n c, .int .i64 most] w fun e w' => e = .returned (.tuple #[.int .i64 (pickOf p % (most + 1)), .slice (some (if c = 1 then ad else ad.add 1)) (n - 1) (c - 1)]) ∧ ∃ k, w' = w.drewN k := by
  have e1 : IntKind.i64.wrap (most + 1) = most + 1 := IntWalk.i64_in _ (by omega)
  have E1 := Lib.hid e1
  clear e1
  by_cases h : p < 0
  · have hv : -(p + 1).tmod (most + 1) = pickOf p % (most + 1) := by
      rw [← Int.neg_tmod, Int.tmod_eq_emod_of_nonneg (by omega)]
      unfold pickOf; rw [if_pos h]
    have HV := Lib.hid hv
    clear hv
    go_enter Tryz.func53, Tryz.ntmps53
    go_wp2
    have e1 := E1.out
    go_quiet (fail)
    all_goals go_wp2
    all_goals go_ret2
    all_goals (rw [HV.out]; first | exact ⟨rfl, _, rfl⟩ | (refine ⟨?_, _, rfl⟩; simp [*, Addr.add]))
  · have hv : pickOf p = p := by unfold pickOf; rw [if_neg h]
    have HV := Lib.hid hv
    clear hv
    have h' : 0 ≤ p := by omega
    go_enter Tryz.func53, Tryz.ntmps53
    go_wp2
    have e1 := E1.out
    go_quiet (fail)
    all_goals go_wp2
    all_goals go_ret2
    all_goals (rw [HV.out]; try rw [Int.tmod_eq_emod_of_nonneg h'])
    all_goals first | exact ⟨rfl, _, rfl⟩ | (refine ⟨?_, _, rfl⟩; simp [*, Addr.add])

/-! ### check -/
set_option maxHeartbeats 400000 in
theorem check_off (d : Nat) (v : Value) (n c : Nat) (A : Option Addr) (w : World) (hon : w.cell? ⟨d, 1, none⟩ = some (.bool false)) :
    Calls Tryz.prog 165 #[.pointer (some ⟨d, 0, none⟩), .slice A n c] w fun e w' => e = .returned (.int .i64 13) ∧ w = w' := by
  go_enter Tryz.func165, Tryz.ntmps165
  go_wp2
  go_ret
  exact ⟨rfl, rfl⟩

set_option maxHeartbeats 400000 in
theorem check_nil (A : Option Addr) (n c : Nat) (w : World) :
    Calls Tryz.prog 165 #[.pointer none, .slice A n c] w fun e w' => e = .returned (.int .i64 1) ∧ w = w' := by
  go_enter Tryz.func165, Tryz.ntmps165
  go_wp2
  go_ret
  exact ⟨rfl, rfl⟩

/-- What check says of names, where there is power. -/
def checkOf (on : Bool) (ss : List (List UInt8)) : Int := if on then (if ss.all nameOk then 0 else 10) else 13

def AllTo (ss : List ByteArray) (k : Nat) : Prop := ∀ j (hj : j < ss.length), j < k → nameOk (ss[j]).data.toList = true

theorem all_no {ss : List ByteArray} {k : Nat} (hk : k < ss.length) (h : nameOk (ss[k]).data.toList = false) : checkOf true (ss.map (·.data.toList)) = 10 := by
  unfold checkOf
  have : (ss.map (·.data.toList)).all nameOk = false := by
    rw [List.all_eq_false]
    exact ⟨_, List.mem_map.2 ⟨ss[k], List.getElem_mem hk, rfl⟩, by simp [h]⟩
  simp [this]
theorem all_yes {ss : List ByteArray} (h : AllTo ss ss.length) : checkOf true (ss.map (·.data.toList)) = 0 := by
  unfold checkOf
  have : (ss.map (·.data.toList)).all nameOk = true := by
    rw [List.all_eq_true]
    intro x hx
    obtain ⟨y, hy, rfl⟩ := List.mem_map.1 hx
    obtain ⟨j, hj, rfl⟩ := List.getElem_of_mem hy
    exact h j hj hj
  simp [this]

set_option maxHeartbeats 400000 in
theorem check_on (d : Nat) (ad : Addr) (ss : List ByteArray) (c : Nat) (w : World) (hon : w.cell? ⟨d, 1, none⟩ = some (.bool true)) (hn : ss.length ≤ 1000)
    (hs : ∀ i (hi : i < ss.length), ss[i].size ≤ maxLen) (hc : ∀ i (hi : i < ss.length), w.cell? (ad.add i) = some (.string ss[i])) :
    Calls Tryz.prog 165 #[.pointer (some ⟨d, 0, none⟩), .slice (some ad) ss.length c] w fun e w' => e = .returned (.int .i64 (checkOf true (ss.map (·.data.toList)))) ∧ w = w' := by
  have HS := Lib.hid hs
  have HC := Lib.hid hc
  clear hs hc
  go_enter Tryz.func165, Tryz.ntmps165
  go_wp2
  go_loop [6, 16] (fun _ i => ∃ k : Nat, k ≤ ss.length ∧ i = .int .i64 k ∧ AllTo ss k) (fun _ i => ss.length - (intOf i).toNat)
  case atStart => exact ⟨0, Nat.zero_le _, rfl, fun j hj hk => by omega⟩
  case round =>
    obtain ⟨k, hk, rfl, H⟩ := hrel
    by_cases hlt : k < ss.length
    · have hcell := HC.out k hlt
      have hsz := HS.out k hlt
      have HZ := Lib.hid hsz
      clear hsz
      go_wp2_with (go_at_call 185; refine (isName_any _ _ HZ.out).mono ?_; rintro e w' ⟨rfl, rfl⟩)
      · have hn : (!nameOk (ss[k]).data.toList) = true := by assumption
        go_ret
        refine ⟨ret_int ?_, rfl⟩
        exact (all_no hlt (by rw [Bool.not_eq_true'] at hn; exact hn)).symm
      · have hn : (!nameOk (ss[k]).data.toList) = false := by assumption
        refine ⟨⟨k + 1, by omega, by go_num, fun j hj hjk => ?_⟩, by simp [intOf]; omega⟩
        by_cases e : j = k
        · subst e; rw [Bool.not_eq_false'] at hn; exact hn
        · exact H j hj (by omega)
    · go_wp2
      go_ret
      refine ⟨ret_int ?_, rfl⟩
      have e : k = ss.length := by omega
      subst e
      exact (all_yes H).symm

theorem check_one (d : Nat) (ad : Addr) (s : ByteArray) (w : World) (on : Bool) (hon : w.cell? ⟨d, 1, none⟩ = some (.bool on)) (hs : s.size ≤ maxLen) (hc : w.cell? ad = some (.string s)) :
    Calls Tryz.prog 165 #[.pointer (some ⟨d, 0, none⟩), .slice (some ad) 1 1] w fun e w' => e = .returned (.int .i64 (checkOf on [s.data.toList])) ∧ w = w' := by
  cases on
  · exact check_off d (.bool true) 1 1 _ w hon
  · exact check_on d ad [s] 1 w hon (by simp) (by simpa using hs) (by simpa [Addr.add] using hc)
theorem check_two (d g : Nat) (s t : ByteArray) (w : World) (on : Bool) (hon : w.cell? ⟨d, 1, none⟩ = some (.bool on)) (hs : s.size ≤ maxLen) (ht : t.size ≤ maxLen) (hc : w.cell? ⟨g, 0, none⟩ = some (.string s)) (hc' : w.cell? ⟨g, 1, none⟩ = some (.string t)) :
    Calls Tryz.prog 165 #[.pointer (some ⟨d, 0, none⟩), .slice (some ⟨g, 0, none⟩) 2 2] w fun e w' => e = .returned (.int .i64 (checkOf on [s.data.toList, t.data.toList])) ∧ w = w' := by
  cases on
  · exact check_off d (.bool true) 2 2 _ w hon
  · refine check_on d ⟨g, 0, none⟩ [s, t] 2 w hon (by simp) ?_ ?_
    · intro i hi
      match i, hi with
      | 0, _ => exact hs
      | 1, _ => exact ht
    · intro i hi
      match i, hi with
      | 0, _ => exact hc
      | 1, _ => exact hc'
end Go.Proofs.YtikpojnmaiplnaaGreatDoor
/- What a disk's memory is: its blocks, the maps, the rows; kept while other blocks turn. -/
namespace Go.Proofs.YtikpojnmaiplnaaGreatDoor
open Go.RowKit Go.Maps
set_option linter.unusedVariables false

abbrev DU := DataW Unit

/-! ### frames -/
/-- Of the blocks that were there, those outside F are as they were. -/
structure Fr (F : Nat → Prop) (w w' : World) : Prop where
  os : w'.os = w.os
  tape : w'.tape = w.tape
  output : w'.output = w.output
  size : w.heap.size ≤ w'.heap.size
  block : ∀ k, k < w.heap.size → ¬ F k → w'.heap[k]? = w.heap[k]?

def No : Nat → Prop := fun _ => False

theorem Fr.refl (F : Nat → Prop) (w : World) : Fr F w w := ⟨rfl, rfl, rfl, Nat.le_refl _, fun _ _ _ => rfl⟩
theorem Fr.mono {F G : Nat → Prop} {w w' : World} (h : Fr F w w') (hFG : ∀ k, k < w.heap.size → F k → G k) : Fr G w w' :=
  ⟨h.os, h.tape, h.output, h.size, fun k hk hn => h.block k hk fun hf => hn (hFG k hk hf)⟩
theorem Fr.trans {F G : Nat → Prop} {a b c : World} (h : Fr F a b) (k : Fr G b c) (hGF : ∀ j, j < a.heap.size → G j → F j) : Fr F a c :=
  ⟨k.os.trans h.os, k.tape.trans h.tape, k.output.trans h.output, Nat.le_trans h.size k.size,
   fun j hj hn => (k.block j (Nat.lt_of_lt_of_le hj h.size) fun hg => hn (hGF j hj hg)).trans (h.block j hj hn)⟩
theorem Fr.drew {F : Nat → Prop} {a w : World} (h : Fr F a w) : Fr F a w.drew := ⟨h.os, h.tape, h.output, h.size, h.block⟩
theorem Fr.drewN {F : Nat → Prop} {a w : World} (h : Fr F a w) (n : Nat) : Fr F a (w.drewN n) := ⟨h.os, h.tape, h.output, h.size, h.block⟩
theorem Fr.alloc {F : Nat → Prop} {a w : World} (h : Fr F a w) (o : Obj) : Fr F a (w.alloc o) :=
  ⟨h.os, h.tape, h.output, by simp; have := h.size; omega, fun j hj hn => (Below.heap_alloc w o j (Nat.lt_of_lt_of_le hj h.size)).trans (h.block j hj hn)⟩
theorem Fr.setCell {F : Nat → Prop} {a w : World} (h : Fr F a w) {p : Addr} (hp : p.block < a.heap.size → F p.block) (u : Value) : Fr F a (w.setCell p u) :=
  ⟨h.os, h.tape, h.output, by simp [World.setCell]; exact h.size, fun j hj hn => (Below.heap_setCell w p u j (fun e => hn (by subst e; exact hp hj))).trans (h.block j hj hn)⟩
theorem Fr.grown {F : Nat → Prop} {a w w' : World} {row : Option Nat} (h : Fr F a w) (hg : w.grownBy w' row) (hr : ∀ k, row = some k → k < a.heap.size → F k) : Fr F a w' :=
  ⟨hg.os.trans h.os, hg.tape.trans h.tape, hg.output.trans h.output, Nat.le_trans h.size hg.size, fun j hj hn =>
    (hg.block j (Nat.lt_of_lt_of_le hj h.size) fun e => hn (hr j e.symm hj)).trans (h.block j hj hn)⟩
theorem Fr.of_below {w w' : World} (h : Below w.heap.size w w') : Fr No w w' := ⟨h.os, h.tape, h.output, h.size, fun k hk _ => h.block k hk⟩
theorem Fr.below {w w' : World} (h : Fr No w w') : Below w.heap.size w w' := ⟨h.os, h.tape, h.output, h.size, fun k hk => h.block k hk id⟩
theorem Fr.below_of {F : Nat → Prop} {B : Nat} {w w' : World} (h : Fr F w w') (hB : B ≤ w.heap.size) (hF : ∀ k, F k → B ≤ k) : Below B w w' :=
  ⟨h.os, h.tape, h.output, h.size, fun k hk => h.block k (Nat.lt_of_lt_of_le hk hB) fun hf => by have := hF k hf; omega⟩
theorem Fr.any {G : Nat → Prop} {w w' : World} (h : Fr No w w') : Fr G w w' := h.mono fun _ _ hf => hf.elim

/-! ### blocks -/
def Blk (w : World) (g : Nat) (t : TypeId) (cs : Array Value) : Prop := w.heap[g]? = some (.cells cs t (0, 0))
section
variable {w w' : World} {g : Nat} {t : TypeId} {cs : Array Value}
theorem Blk.lt (h : Blk w g t cs) : g < w.heap.size := by
  rcases Nat.lt_or_ge g w.heap.size with hlt | hge
  · exact hlt
  · unfold Blk at h; rw [Array.getElem?_eq_none hge] at h; cases h
theorem Blk.cell (h : Blk w g t cs) (i : Nat) : w.cell? ⟨g, i, none⟩ = cs[i]? := cell_of_row w g i cs t (0, 0) h
theorem Blk.frozen (h : Blk w g t cs) (i : Nat) : w.frozen? ⟨g, i, none⟩ = false := by
  unfold Blk at h
  simp [World.frozen?, h]
theorem Blk.new (w : World) (t : TypeId) (cs : Array Value) : Blk (w.alloc (.cells cs t)) w.heap.size t cs := heap_alloc_new w _
theorem Blk.set_ (h : Blk w g t cs) (i : Nat) (u : Value) : Blk (w.setCell ⟨g, i, none⟩ u) g t (cs.setIfInBounds i u) := by
  unfold Blk at h ⊢
  simp [World.setCell, Array.getElem?_modify, h]
theorem Blk.of (h : Blk w g t cs) (hk : w'.heap[g]? = w.heap[g]?) : Blk w' g t cs := hk.trans h
theorem Blk.ne_ {g' : Nat} {t' : TypeId} {cs' : Array Value} (h : Blk w g t cs) (h' : Blk w g' t' cs') (hne : t ≠ t') : g ≠ g' := by
  rintro rfl
  unfold Blk at h h'
  rw [h] at h'
  injection h' with h'
  injection h' with _ ht
  exact hne ht
end

/-! ### rows: what a row needs of the heap is its own block alone -/
theorem own_of {w w' : World} {base : Nat} {e : TypeId} {size n : Nat} {v : Value} {xs : List Value} (h : w.ownsRow base e size v n xs)
    (hk : ∀ k, v.ownBlock = some k → w'.heap[k]? = w.heap[k]?) : w'.ownsRow base e size v n xs := by
  refine ⟨h.1, ?_⟩
  rcases h.2 with h2 | ⟨g, cap, cur, rfl, hb, hh, r⟩
  · exact .inl h2
  · exact .inr ⟨g, cap, cur, rfl, hb, (hk g rfl).trans hh, r⟩
theorem own_base {w : World} {base base' : Nat} {e : TypeId} {size n : Nat} {v : Value} {xs : List Value} (h : w.ownsRow base e size v n xs) (hb : base' ≤ base) : w.ownsRow base' e size v n xs := by
  refine ⟨h.1, ?_⟩
  rcases h.2 with h2 | ⟨g, cap, cur, rfl, hg, r⟩
  · exact .inl h2
  · exact .inr ⟨g, cap, cur, rfl, by omega, r⟩
theorem own_row {w : World} {base : Nat} {e : TypeId} {size n g : Nat} {v : Value} {xs : List Value} (h : w.ownsRow base e size v n xs) (hg : v.ownBlock = some g) :
    ∃ cur, w.heap[g]? = some (.cells cur e (0, 0)) := by
  rcases h.2 with ⟨rfl, _⟩ | ⟨g', cap, cur, rfl, _, hh, _⟩
  · simp [Value.ownBlock] at hg
  · simp [Value.ownBlock] at hg; subst hg; exact ⟨cur, hh⟩
theorem own_blk_ne {w : World} {base : Nat} {e t : TypeId} {size n g k : Nat} {v : Value} {xs : List Value} {cs : Array Value} (h : w.ownsRow base e size v n xs) (hk : v.ownBlock = some k) (hg : Blk w g t cs) (hne : e ≠ t) : k ≠ g := by
  obtain ⟨cur, hc⟩ := own_row h hk
  exact Blk.ne_ (w := w) (t := e) hc hg hne
theorem own_own_ne {w : World} {base base' : Nat} {e e' : TypeId} {size size' n n' k k' : Nat} {v v' : Value} {xs xs' : List Value} (h : w.ownsRow base e size v n xs) (hk : v.ownBlock = some k) (h' : w.ownsRow base' e' size' v' n' xs') (hk' : v'.ownBlock = some k') (hne : e ≠ e') : k ≠ k' := by
  obtain ⟨cur, hc⟩ := own_row h hk
  obtain ⟨cur', hc'⟩ := own_row h' hk'
  exact Blk.ne_ (w := w) (t := e) hc hc' hne
/-- The first k of a row of one-cell elements. -/
theorem own_take {w : World} {base : Nat} {e : TypeId} {n cap : Nat} {a : Option Addr} {xs : List Value} (h : w.ownsRow base e 1 (.slice a n cap) n xs) (k : Nat) (hk : k ≤ n) : w.ownsRow base e 1 (.slice a k cap) k (xs.take k) := by
  have hl := h.1
  refine ⟨by simp [List.length_take]; omega, ?_⟩
  rcases h.2 with ⟨e1, rfl⟩ | ⟨g, cap', cur, e1, hb, hh, hnc, hcm, hs, ht⟩
  · injection e1 with e1 _ e2
    subst e1; subst e2
    exact .inl ⟨by rw [show k = 0 by omega], by omega⟩
  · injection e1 with e1 _ e2
    subst e1; subst e2
    refine .inr ⟨g, cap, cur, rfl, hb, hh, by omega, hcm, hs, ?_⟩
    rw [← ht, List.take_take]
    congr 1; omega

/-! ### maps, nil let in -/
section
variable {P : Program} {k : TypeId} {R : Value → Option (DU × List MemPlace)}
def MapAt (w : World) (P : Program) (k : TypeId) (R : Value → Option (DU × List MemPlace)) (m : Option Nat) (D : DU) : Prop :=
  match m with
  | none => D = .map []
  | some b => w.ownsMap P k R b (Maps.size D) D
theorem owns_tight {w : World} {b n : Nat} {D : DU} (h : w.ownsMap P k R b n D) : w.ownsMap P k R b (Maps.size D) D := by
  obtain ⟨es, clock, hb, F, hs, rfl⟩ := h
  exact ⟨es, clock, hb, F, by rw [Maps.size_eq, length_sorted]; simp, rfl⟩
theorem owns_of {w w' : World} {b n : Nat} {D : DU} (h : w.ownsMap P k R b n D) (hk : w'.heap[b]? = w.heap[b]?) : w'.ownsMap P k R b n D := by
  obtain ⟨es, clock, hb, r⟩ := h
  exact ⟨es, clock, hk.trans hb, r⟩
theorem MapAt.of {w w' : World} {m : Option Nat} {D : DU} (h : MapAt w P k R m D) (hk : ∀ b, m = some b → w'.heap[b]? = w.heap[b]?) : MapAt w' P k R m D := by
  cases m with
  | none => exact h
  | some b => exact owns_of (b := b) h (hk b rfl)
theorem MapAt.lt {w : World} {m : Option Nat} {D : DU} (h : MapAt w P k R m D) : ∀ b, m = some b → b < w.heap.size := by
  rintro b rfl
  exact World.ownsMap.lt (b := b) h
theorem MapAt.isMap {w : World} {m : Option Nat} {D : DU} (h : MapAt w P k R m D) : IsMap D := by
  cases m with
  | none => rw [show D = .map [] from h]; exact isMap_empty
  | some b => exact World.ownsMap.isMap (b := b) h
theorem MapAt.tidy (K : Keyed P k) {w : World} {m : Option Nat} {D : DU} (h : MapAt w P k R m D) : Tidy D := by
  cases m with
  | none => rw [show D = .map [] from h]; exact tidy_empty
  | some b => exact World.ownsMap.tidy (b := b) h K
theorem owns_map {w : World} {b n : Nat} {D : DU} (h : w.ownsMap P k R b n D) : ∃ es c, w.heap[b]? = some (.map es c) := by
  obtain ⟨es, clock, hb, _⟩ := h
  exact ⟨es, clock, hb⟩
theorem map_ne_blk {w : World} {b g : Nat} {es : Array MapEntry} {c : Nat} {t : TypeId} {cs : Array Value} {fz : Nat × Nat} (h : w.heap[b]? = some (.map es c)) (h' : w.heap[g]? = some (.cells cs t fz)) : b ≠ g := by
  rintro rfl
  rw [h] at h'
  cases h'
end

/-- How a file's pointer reads in the table of files: by its block's number. -/
def ptrElem (v : Value) : Option (DU × List MemPlace) :=
  match v with
  | .pointer none => some (.nil, [])
  | .pointer (some ⟨b, 0, none⟩) => some (.lit (.int .i64 b), [])
  | _ => none
theorem ptrElem_mk (b : Nat) : ptrElem (.pointer (some ⟨b, 0, none⟩)) = some (.lit (.int .i64 b), []) := rfl
theorem ptrElem_inv {v : Value} {b : Nat} {ps : List MemPlace} (h : ptrElem v = some (.lit (.int .i64 b), ps)) : v = .pointer (some ⟨b, 0, none⟩) := by
  unfold ptrElem at h
  split at h
  · simp at h
  · rename_i b'
    simp at h
    obtain ⟨h, _⟩ := h
    rw [show b' = b by omega]
  · simp at h

end Go.Proofs.YtikpojnmaiplnaaGreatDoor
/- The library's calls that the disk makes, by the shelf's contracts, at this program's numbers. -/
namespace Go.Proofs.YtikpojnmaiplnaaGreatDoor
open Go.RowKit Go.Maps Go.Sort Go.Shelf Go.Proofs
def Lay.keys_ren : Go.Shelf.Ren := ⟨fun | 7 => 104 | 10 => 160 | n => n, fun | 23 => 100 | 26 => 9 | 3 => 3 | 28 => 164 | 0 => 0 | 27 => 163 | 33 => 38 | 4 => 4 | n => n, fun | n => n⟩
theorem Lay.keys : Go.Proofs.SlLaysZ.n7 Tryz.prog Lay.keys_ren := {
  mixed := by kernel_rfl
  f7 := ⟨Tryz.f104.name, by decide, Tryz.func104.trans (congrArg some (by kernel_rfl))⟩
  f10 := ⟨Tryz.f160.name, by decide, Tryz.func160.trans (congrArg some (by kernel_rfl))⟩
  t0 := Tryz.underlying0
  a0 := Tryz.isAgg0
  z0 := Tryz.sizeOf0
  v0 := Tryz.zeroValue0
  t4 := Tryz.underlying4
  a4 := Tryz.isAgg4
  z4 := Tryz.sizeOf4
  v4 := Tryz.zeroValue4
  t23 := Tryz.underlying100
  a23 := Tryz.isAgg100
  z23 := Tryz.sizeOf100
  v23 := Tryz.zeroValue100
  t26 := Tryz.underlying9
  a26 := Tryz.isAgg9
  z26 := Tryz.sizeOf9
  v26 := Tryz.zeroValue9
  t27 := Tryz.underlying163
  a27 := Tryz.isAgg163
  z27 := Tryz.sizeOf163
  v27 := Tryz.zeroValue163
  t28 := Tryz.underlying164
  a28 := Tryz.isAgg164
  z28 := Tryz.sizeOf164
  v28 := Tryz.zeroValue164
  t33 := Tryz.underlying38
  a33 := Tryz.isAgg38
  z33 := Tryz.sizeOf38
  v33 := Tryz.zeroValue38 }
def Lay.sorted_ren : Go.Shelf.Ren := ⟨fun | 6 => 103 | 8 => 158 | 9 => 159 | 11 => 182 | 13 => 184 | 12 => 183 | 23 => 210 | 24 => 194 | 14 => 201 | 15 => 202 | 16 => 203 | 17 => 204 | 18 => 205 | 19 => 206 | 20 => 207 | 21 => 208 | 22 => 209 | 25 => 221 | 26 => 222 | 27 => 223 | 28 => 224 | 29 => 225 | 30 => 226 | 31 => 233 | n => n, fun | 26 => 9 | 28 => 164 | 24 => 22 | 0 => 0 | 3 => 3 | 37 => 150 | 48 => 135 | 50 => 82 | 4 => 4 | 40 => 244 | 39 => 243 | 45 => 196 | 5 => 5 | 9 => 9 | 51 => 259 | 55 => 263 | 57 => 275 | 58 => 276 | 33 => 38 | n => n, fun | n => n⟩
theorem Lay.sorted : Go.Proofs.SlLaysZ.n6 Tryz.prog Lay.sorted_ren := {
  mixed := by kernel_rfl
  f6 := ⟨Tryz.f103.name, by decide, Tryz.func103.trans (congrArg some (by kernel_rfl))⟩
  f8 := ⟨Tryz.f158.name, by decide, Tryz.func158.trans (congrArg some (by kernel_rfl))⟩
  f11 := ⟨Tryz.f182.name, by decide, Tryz.func182.trans (congrArg some (by kernel_rfl))⟩
  t0 := Tryz.underlying0
  a0 := Tryz.isAgg0
  z0 := Tryz.sizeOf0
  v0 := Tryz.zeroValue0
  t24 := Tryz.underlying22
  a24 := Tryz.isAgg22
  z24 := Tryz.sizeOf22
  v24 := Tryz.zeroValue22
  t26 := Tryz.underlying9
  a26 := Tryz.isAgg9
  z26 := Tryz.sizeOf9
  v26 := Tryz.zeroValue9
  t28 := Tryz.underlying164
  a28 := Tryz.isAgg164
  z28 := Tryz.sizeOf164
  v28 := Tryz.zeroValue164
  i26 := by kernel_rfl }
def Lay.sort_ren : Go.Shelf.Ren := ⟨fun | 6 => 159 | 8 => 184 | 9 => 183 | 19 => 210 | 20 => 194 | 21 => 201 | 22 => 202 | 23 => 203 | 24 => 204 | 25 => 205 | 26 => 206 | 27 => 207 | 28 => 208 | 29 => 209 | 36 => 221 | 31 => 222 | 32 => 223 | 37 => 224 | 38 => 225 | 39 => 226 | 41 => 233 | n => n, fun | 27 => 22 | 29 => 9 | 3 => 3 | 32 => 150 | 26 => 22 | 0 => 0 | 44 => 135 | 46 => 82 | 4 => 4 | 36 => 244 | 35 => 243 | 41 => 196 | 5 => 5 | 9 => 9 | 53 => 259 | 57 => 263 | 63 => 275 | 64 => 276 | n => n, fun | n => n⟩
theorem Lay.sort : Go.Proofs.SlLaysM.n6 Tryz.prog Lay.sort_ren := {
  mixed := by kernel_rfl
  f6 := ⟨Tryz.f159.name, by decide, Tryz.func159.trans (congrArg some (by kernel_rfl))⟩
  f8 := Tryz.func184.trans (congrArg some (by kernel_rfl))
  f9 := ⟨Tryz.f183.name, by decide, Tryz.func183.trans (congrArg some (by kernel_rfl))⟩
  f19 := Tryz.func210.trans (congrArg some (by kernel_rfl))
  f20 := Tryz.func194.trans (congrArg some (by kernel_rfl))
  f21 := ⟨Tryz.f201.name, by decide, Tryz.func201.trans (congrArg some (by kernel_rfl))⟩
  f22 := ⟨Tryz.f202.name, by decide, Tryz.func202.trans (congrArg some (by kernel_rfl))⟩
  f23 := ⟨Tryz.f203.name, by decide, Tryz.func203.trans (congrArg some (by kernel_rfl))⟩
  f24 := ⟨Tryz.f204.name, by decide, Tryz.func204.trans (congrArg some (by kernel_rfl))⟩
  f25 := ⟨Tryz.f205.name, by decide, Tryz.func205.trans (congrArg some (by kernel_rfl))⟩
  f26 := ⟨Tryz.f206.name, by decide, Tryz.func206.trans (congrArg some (by kernel_rfl))⟩
  f27 := ⟨Tryz.f207.name, by decide, Tryz.func207.trans (congrArg some (by kernel_rfl))⟩
  f28 := ⟨Tryz.f208.name, by decide, Tryz.func208.trans (congrArg some (by kernel_rfl))⟩
  f29 := ⟨Tryz.f209.name, by decide, Tryz.func209.trans (congrArg some (by kernel_rfl))⟩
  f31 := Tryz.func222.trans (congrArg some (by kernel_rfl))
  f32 := Tryz.func223.trans (congrArg some (by kernel_rfl))
  f36 := ⟨Tryz.f221.name, by decide, Tryz.func221.trans (congrArg some (by kernel_rfl))⟩
  f37 := ⟨Tryz.f224.name, by decide, Tryz.func224.trans (congrArg some (by kernel_rfl))⟩
  f38 := ⟨Tryz.f225.name, by decide, Tryz.func225.trans (congrArg some (by kernel_rfl))⟩
  f39 := ⟨Tryz.f226.name, by decide, Tryz.func226.trans (congrArg some (by kernel_rfl))⟩
  f41 := ⟨Tryz.f233.name, by decide, Tryz.func233.trans (congrArg some (by kernel_rfl))⟩
  t0 := Tryz.underlying0
  a0 := Tryz.isAgg0
  z0 := Tryz.sizeOf0
  v0 := Tryz.zeroValue0
  t3 := Tryz.underlying3
  a3 := Tryz.isAgg3
  z3 := Tryz.sizeOf3
  v3 := Tryz.zeroValue3
  t4 := Tryz.underlying4
  a4 := Tryz.isAgg4
  z4 := Tryz.sizeOf4
  v4 := Tryz.zeroValue4
  t5 := Tryz.underlying5
  a5 := Tryz.isAgg5
  z5 := Tryz.sizeOf5
  v5 := Tryz.zeroValue5
  t9 := Tryz.underlying9
  a9 := Tryz.isAgg9
  z9 := Tryz.sizeOf9
  v9 := Tryz.zeroValue9
  t26 := Tryz.underlying22
  a26 := Tryz.isAgg22
  z26 := Tryz.sizeOf22
  v26 := Tryz.zeroValue22
  t27 := Tryz.underlying22
  a27 := Tryz.isAgg22
  z27 := Tryz.sizeOf22
  v27 := Tryz.zeroValue22
  t29 := Tryz.underlying9
  a29 := Tryz.isAgg9
  z29 := Tryz.sizeOf9
  v29 := Tryz.zeroValue9
  t32 := Tryz.underlying150
  a32 := Tryz.isAgg150
  z32 := Tryz.sizeOf150
  v32 := Tryz.zeroValue150
  t35 := Tryz.underlying243
  a35 := Tryz.isAgg243
  z35 := Tryz.sizeOf243
  v35 := Tryz.zeroValue243
  t36 := Tryz.underlying244
  a36 := Tryz.isAgg244
  z36 := Tryz.sizeOf244
  v36 := Tryz.zeroValue244
  t41 := Tryz.underlying196
  a41 := Tryz.isAgg196
  z41 := Tryz.sizeOf196
  v41 := Tryz.zeroValue196
  t44 := Tryz.underlying135
  a44 := Tryz.isAgg135
  z44 := Tryz.sizeOf135
  v44 := Tryz.zeroValue135
  t46 := Tryz.underlying82
  a46 := Tryz.isAgg82
  z46 := Tryz.sizeOf82
  v46 := Tryz.zeroValue82
  t53 := Tryz.underlying259
  a53 := Tryz.isAgg259
  z53 := Tryz.sizeOf259
  v53 := Tryz.zeroValue259
  t57 := Tryz.underlying263
  a57 := Tryz.isAgg263
  z57 := Tryz.sizeOf263
  v57 := Tryz.zeroValue263
  t63 := Tryz.underlying275
  a63 := Tryz.isAgg275
  z63 := Tryz.sizeOf275
  v63 := Tryz.zeroValue275
  t64 := Tryz.underlying276
  a64 := Tryz.isAgg276
  z64 := Tryz.sizeOf276
  v64 := Tryz.zeroValue276 }
def Lay.clone_ren : Go.Shelf.Ren := ⟨fun | 5 => 105 | 7 => 161 | n => n, fun | 23 => 100 | 25 => 9 | 3 => 3 | 4 => 4 | 20 => 20 | n => n, fun | n => n⟩
theorem Lay.clone : Go.Proofs.SlLaysW.n5 Tryz.prog Lay.clone_ren := {
  mixed := by kernel_rfl
  f5 := ⟨Tryz.f105.name, by decide, Tryz.func105.trans (congrArg some (by kernel_rfl))⟩
  f7 := Tryz.func161.trans (congrArg some (by kernel_rfl))
  t4 := Tryz.underlying4
  a4 := Tryz.isAgg4
  z4 := Tryz.sizeOf4
  v4 := Tryz.zeroValue4
  t20 := Tryz.underlying20
  a20 := Tryz.isAgg20
  z20 := Tryz.sizeOf20
  v20 := Tryz.zeroValue20
  t23 := Tryz.underlying100
  a23 := Tryz.isAgg100
  z23 := Tryz.sizeOf100
  v23 := Tryz.zeroValue100 }
def Lay.copy_ren : Go.Shelf.Ren := ⟨fun | 5 => 54 | n => n, fun | 23 => 100 | 24 => 100 | 26 => 9 | 27 => 3 | 0 => 0 | 4 => 4 | n => n, fun | n => n⟩
theorem Lay.copy : Go.Proofs.SlLaysX.n5 Tryz.prog Lay.copy_ren := {
  mixed := by kernel_rfl
  f5 := ⟨Tryz.f54.name, by decide, Tryz.func54.trans (congrArg some (by kernel_rfl))⟩
  t0 := Tryz.underlying0
  a0 := Tryz.isAgg0
  z0 := Tryz.sizeOf0
  v0 := Tryz.zeroValue0
  t4 := Tryz.underlying4
  a4 := Tryz.isAgg4
  z4 := Tryz.sizeOf4
  v4 := Tryz.zeroValue4
  t23 := Tryz.underlying100
  a23 := Tryz.isAgg100
  z23 := Tryz.sizeOf100
  v23 := Tryz.zeroValue100
  t24 := Tryz.underlying100
  a24 := Tryz.isAgg100
  z24 := Tryz.sizeOf100
  v24 := Tryz.zeroValue100
  a26 := Tryz.isAgg9
  z26 := Tryz.sizeOf9
  a27 := Tryz.isAgg3
  z27 := Tryz.sizeOf3 }

/-! ### what they say here -/
theorem sorts (m : Nat) : AnyZ.SortsIn Tryz.prog Lay.sorted_ren Fence.wide m :=
  ⟨fun blk off cap ss W hH hblk hsz => callsIn_wide.2 (AnyM.slices_Sort_string Lay.sort blk off cap ss W hH hblk hsz),
   fun p cap W => callsIn_wide.2 (AnyM.slices_Sort_string_none Lay.sort p cap W)⟩

theorem keys_in (mb : Option Nat) (W : World) : CallsIn Fence.wide 5 Tryz.prog 104 #[.map mb] W fun e w' => e = .returned (.func (.func 160) #[] #[.pointer (some ⟨W.heap.size, 0, none⟩)]) ∧ w' = W.alloc (.cells #[.map mb] 100) :=
  AnyZ.keys_in Lay.keys Fence.wide 5 trivial rfl mb W

set_option maxHeartbeats 1000000 in
theorem sorted_keys {H : Type} (b nn : Nat) (D0 : DataW H) (R : Value → Option (DataW H × List MemPlace)) (w : World) (hown : w.ownsMap Tryz.prog 9 R b nn D0) (hmax : Maps.size D0 ≤ maxLen) (hbytes : Maps.size D0 * 16 ≤ 140737488355328) :
    CallsIn Fence.wide 5 Tryz.prog 103 #[.func (.func 160) #[] #[.pointer (some ⟨w.heap.size, 0, none⟩)]] (w.alloc (.cells #[.map (some b)] 100)) fun e w' => ∃ (v : Value) (ss : List (List UInt8)), e = .returned v ∧ ss.Perm (strKeys D0) ∧
      w'.ownsRow (w.alloc (.cells #[.map (some b)] 100)).heap.size 9 1 v ss.length ((ss.mergeSort (fun x y => decide (x ≤ y))).map encStr) ∧ (v = .slice none 0 0 ↔ ss = []) ∧ Below (w.alloc (.cells #[.map (some b)] 100)).heap.size (w.alloc (.cells #[.map (some b)] 100)) w' := by
  have hbl := hown.lt
  have hseq : SeqGives Fence.wide 2 Tryz.prog 160 #[.pointer (some ⟨w.heap.size, 0, none⟩)] encStr (fun ss => ss.Perm (strKeys D0)) (Maps.size D0) (w.alloc (.cells #[.map (some b)] 100)) :=
    AnyZ.keys_gives (ρ := Lay.keys_ren) { Lay.keys with } Fence.wide _ trivial rfl (by omega) w.heap.size b nn D0 _ (by simp) (by simp) (by
      obtain ⟨es, clock, hb, Ft, hs, hD⟩ := hown
      exact ⟨es, clock, (Below.heap_alloc _ _ b hbl).trans hb, Ft, hs, hD⟩)
  exact AnyZ.sorted_in Lay.sorted Fence.wide 5 trivial trivial trivial trivial rfl (by omega) (sorts _) (enters_of Tryz.func159 (by kernel_rfl) rfl) 160 #[.pointer (some ⟨w.heap.size, 0, none⟩)] trivial (enters_of Tryz.func160 (by kernel_rfl) rfl) _ _ hmax hbytes _ hseq

set_option maxHeartbeats 1000000 in
/-- sorted: the map's keys, rising. -/
theorem sorted_any {H : Type} (b nn : Nat) (D0 : DataW H) (R : Value → Option (DataW H × List MemPlace)) (w : World) (hown : w.ownsMap Tryz.prog 9 R b nn D0) (hmax : Maps.size D0 ≤ maxLen) (hbytes : Maps.size D0 * 16 ≤ 140737488355328) :
    Calls Tryz.prog 56 #[.map (some b)] w fun e w' => ∃ (v : Value) (ss : List (List UInt8)), e = .returned v ∧ ss.Perm (strKeys D0) ∧
      w'.ownsRow w.heap.size 9 1 v ss.length ((ss.mergeSort (fun x y => decide (x ≤ y))).map encStr) ∧ (v = .slice none 0 0 ↔ ss = []) ∧ Below w.heap.size w w' := by
  refine (callsIn_wide (n := 6)).1 ?_
  have hfK : Fence.wide.fn 104 := trivial
  have hfS : Fence.wide.fn 103 := trivial
  refine callsIn_of_wp Tryz.func56 rfl trivial ?_ rfl
  simp only [Tryz.ntmps56, List.size_toArray, List.length_cons, List.length_nil, Nat.reduceAdd, Nat.reduceSub, Array.replicate_succ, Array.replicate_zero, List.push_toArray, List.append_toArray, List.nil_append, List.cons_append]
  gi_wp2_with (first
    | (gi_at_call 104; refine (keys_in _ _).mono ?_; rintro e w' ⟨rfl, rfl⟩)
    | (gi_at_call 103; refine (sorted_keys b nn D0 R w hown hmax hbytes).mono ?_; rintro e w' ⟨v, ss, rfl, hS, hrow, hnil, hb⟩))
  go_ret
  exact ⟨v, ss, rfl, hS, ownsRow_base_a hrow (by simp), hnil, ((Below.refl _ w).alloc (Nat.le_refl _) _).trans (hb.mono (by simp))⟩

theorem clone_owns {H : Type} (R : Value → Option (DataW H × List MemPlace)) (b n : Nat) (D : DataW H) (w : World) (hown : w.ownsMap Tryz.prog 9 R b n D) :
    Calls Tryz.prog 105 #[.map (some b)] w fun e w' => e = .returned (.map (some w.heap.size)) ∧ w'.ownsMap Tryz.prog 9 R w.heap.size n D ∧ w'.ownsMap Tryz.prog 9 R b n D ∧ Below w.heap.size w w' := by
  have hcon := AnyW.maps_Clone_owns Lay.clone 9 R b n D w hown
  exact hcon

theorem law9 : Keyed Tryz.prog 9 := string_keyed Tryz.underlying9
theorem law3 : Keyed Tryz.prog 3 := int_keyed Tryz.underlying3

theorem copy_opt {H : Type} (R : Value → Option (DataW H × List MemPlace)) (bd nd : Nat) (ps : Option Nat) (Dd Ds : DataW H) (w : World) (hd : w.ownsMap Tryz.prog 9 R bd nd Dd) (hs : SrcOf Tryz.prog 9 R w ps Ds) (hne : ps ≠ some bd) (hroom : nd + Maps.size Ds ≤ maxLen) :
    Calls Tryz.prog 54 #[.map (some bd), .map ps] w fun e w' => e = .returned (.tuple #[]) ∧ w'.ownsMap Tryz.prog 9 R bd (nd + Maps.size Ds) (Lib.mergeD Dd Ds) ∧ w.grownBy w' (some bd) := by
  have hcon := AnyX.maps_Copy_opt Lay.copy law9 R bd nd ps Dd Ds w hd hs hne hroom
  exact hcon

theorem canonK_merge {H : Type} {Kd : Lit → Prop} (O : OneKind Kd) {D : DataW H} (c : CanonK Kd D) : Lib.mergeD (.map []) D = D :=
  (merged_eq O (left := fun _ => false) ⟨fun k => by simp [has], fun k z => by
    by_cases h : has D k = true
    · simp [h]
    · rw [atKey_of_not_has (by simpa using h)]; simp [DataW.atKey]⟩ (fun _ => rfl) (c.canon O) ⟨[], rfl, List.Pairwise.nil, by intro p hp; cases hp⟩ c).symm

/-- maps.Copy into a new map: the map itself. -/
theorem copy_new (R : Value → Option (DU × List MemPlace)) (bd : Nat) (m : Option Nat) (D : DU) (w : World) (hd : w.ownsMap Tryz.prog 9 R bd 0 (.map [])) (hs : MapAt w Tryz.prog 9 R m D) (hne : m ≠ some bd) (hroom : Maps.size D ≤ maxLen) :
    Calls Tryz.prog 54 #[.map (some bd), .map m] w fun e w' => e = .returned (.tuple #[]) ∧ w'.ownsMap Tryz.prog 9 R bd (Maps.size D) D ∧ w.grownBy w' (some bd) := by
  cases m with
  | none =>
    have hD : D = .map [] := hs
    subst hD
    exact (copy_opt R bd 0 none (.map []) .nil w hd (.inl ⟨rfl, rfl⟩) hne (Nat.zero_le _)).mono fun e w' ⟨he, h1, h2⟩ => ⟨he, h1, h2⟩
  | some b =>
    have ho : w.ownsMap Tryz.prog 9 R b (Maps.size D) D := hs
    refine (copy_opt R bd 0 (some b) (.map []) D w hd (.inr ⟨b, _, rfl, ho⟩) hne (by omega)).mono fun e w' ⟨he, h1, h2⟩ => ⟨he, ?_, h2⟩
    rw [canonK_merge law9.one (ho.canonK law9)] at h1
    simpa using h1
end Go.Proofs.YtikpojnmaiplnaaGreatDoor
/- What a disk is: the state as the document has it, and how it lies in memory. -/
namespace Go.Proofs.YtikpojnmaiplnaaGreatDoor
open Go.RowKit Go.Maps
set_option linter.unusedVariables false

/-- A loose change of names. -/
structure Ch where
  frm : List UInt8
  to : List UInt8
  file : Int
/-- A file. -/
structure FR where
  bytes : List UInt8
  firm : Nat
/-- A disk. -/
structure AS where
  room : Int
  on : Bool
  armed : Bool
  left : Int
  steps : Int
  last : Int
  names : DU
  firm : DU
  loose : List Ch
  file : Int → Option FR

def Ch.cells (c : Ch) : List Value := [.string ⟨c.frm.toArray⟩, .string ⟨c.to.toArray⟩, .int .i64 c.file]
def byteV (u : UInt8) : Value := .int .u8 u.toNat

/-- Where it lies. -/
structure Rp where
  nm : Option Nat
  fm : Option Nat
  fb : Option Nat
  lv : Value
  rc : Int → Nat × Value
  FD : DU

def cellsOf (S : AS) (R : Rp) : Array Value :=
  #[.int .i64 S.room, .bool S.on, .bool S.armed, .int .i64 S.left, .int .i64 S.steps, .map R.nm, .map R.fm, R.lv, .map R.fb, .int .i64 S.last]


/-- How file n lies. -/
def FileAt (w : World) (R : Rp) (n : Int) : Option FR → Prop
  | none => has R.FD (.int .i64 n) = false
  | some r => (∀ z, R.FD.atKey (.int .i64 n) z = .lit (.int .i64 (R.rc n).1)) ∧ Blk w (R.rc n).1 126 #[(R.rc n).2, .int .i64 r.firm] ∧ w.ownsRow 0 5 1 (R.rc n).2 r.bytes.length (r.bytes.map byteV)

structure At (w : World) (d : Nat) (R : Rp) (S : AS) : Prop where
  blk : Blk w d 109 (cellsOf S R)
  names : MapAt w Tryz.prog 9 (plainElem Tryz.prog 3) R.nm S.names
  firm : MapAt w Tryz.prog 9 (plainElem Tryz.prog 3) R.fm S.firm
  files : MapAt w Tryz.prog 3 ptrElem R.fb R.FD
  loose : w.ownsRow 0 114 3 R.lv S.loose.length (S.loose.flatMap Ch.cells)
  fd : ∀ n, FileAt w R n (S.file n)
  ne1 : ∀ b, R.nm = some b → R.fm ≠ some b
  ne2 : ∀ b, R.nm = some b → R.fb ≠ some b
  ne3 : ∀ b, R.fm = some b → R.fb ≠ some b
  ap : ∀ n m r q, n ≠ m → S.file n = some r → S.file m = some q → (R.rc n).1 ≠ (R.rc m).1 ∧ ∀ k, (R.rc n).2.ownBlock = some k → (R.rc m).2.ownBlock ≠ some k
  onn : S.on = true → ∃ b c, R.nm = some b ∧ R.fb = some c

/-- The blocks that are the disk's. -/
def foot (d : Nat) (R : Rp) (S : AS) (k : Nat) : Prop :=
  k = d ∨ R.nm = some k ∨ R.fm = some k ∨ R.fb = some k ∨ R.lv.ownBlock = some k ∨ ∃ n r, S.file n = some r ∧ (k = (R.rc n).1 ∨ (R.rc n).2.ownBlock = some k)

theorem FileAt.of {w w' : World} {R : Rp} {n : Int} {o : Option FR} (h : FileAt w R n o) (hk : ∀ r, o = some r → ∀ k, (k = (R.rc n).1 ∨ (R.rc n).2.ownBlock = some k) → w'.heap[k]? = w.heap[k]?) : FileAt w' R n o := by
  cases o with
  | none => exact h
  | some r =>
    obtain ⟨h1, h2, h3⟩ := h
    exact ⟨h1, h2.of (hk r rfl _ (.inl rfl)), own_of h3 fun k hb => hk r rfl k (.inr hb)⟩

theorem At.of {w w' : World} {d : Nat} {R : Rp} {S : AS} (h : At w d R S) (hk : ∀ k, foot d R S k → w'.heap[k]? = w.heap[k]?) : At w' d R S where
  blk := h.blk.of (hk _ (.inl rfl))
  names := h.names.of fun b hb => hk _ (.inr (.inl hb))
  firm := h.firm.of fun b hb => hk _ (.inr (.inr (.inl hb)))
  files := h.files.of fun b hb => hk _ (.inr (.inr (.inr (.inl hb))))
  loose := own_of h.loose fun b hb => hk _ (.inr (.inr (.inr (.inr (.inl hb)))))
  fd n := (h.fd n).of fun r hr k hb => hk _ (.inr (.inr (.inr (.inr (.inr ⟨n, r, hr, hb⟩)))))
  ne1 := h.ne1
  ne2 := h.ne2
  ne3 := h.ne3
  ap := h.ap
  onn := h.onn

theorem At.lt {w : World} {d : Nat} {R : Rp} {S : AS} (h : At w d R S) : ∀ k, foot d R S k → k < w.heap.size := by
  intro k hk
  rcases hk with rfl | hk | hk | hk | hk | ⟨n, r, hr, hk⟩
  · exact h.blk.lt
  · exact h.names.lt k hk
  · exact h.firm.lt k hk
  · exact h.files.lt k hk
  · exact (h.loose.lt k hk).2
  · have := h.fd n
    rw [hr] at this
    obtain ⟨_, h2, h3⟩ := this
    rcases hk with rfl | hk
    · exact h2.lt
    · exact (h3.lt k hk).2

theorem At.fr {w w' : World} {d : Nat} {R : Rp} {S : AS} (h : At w d R S) {F : Nat → Prop} (hf : Fr F w w') (hd : ∀ k, F k → ¬ foot d R S k) : At w' d R S :=
  h.of fun k hk => hf.block k (h.lt k hk) fun hF => hd k hF hk
theorem At.keep {w w' : World} {d : Nat} {R : Rp} {S : AS} (h : At w d R S) (hf : Fr No w w') : At w' d R S := h.fr hf fun _ hF => hF.elim
theorem At.drewN {w : World} {d : Nat} {R : Rp} {S : AS} (h : At w d R S) (n : Nat) : At (w.drewN n) d R S := h.keep ((Fr.refl _ _).drewN n)
theorem At.below {w w' : World} {d : Nat} {R : Rp} {S : AS} (h : At w d R S) (hb : Below w.heap.size w w') : At w' d R S := h.keep (Fr.of_below hb)

/-- d's own block is none of the others. -/
theorem At.apart {w : World} {d : Nat} {R : Rp} {S : AS} (h : At w d R S) : R.nm ≠ some d ∧ R.fm ≠ some d ∧ R.fb ≠ some d ∧ R.lv.ownBlock ≠ some d ∧ ∀ n r, S.file n = some r → (R.rc n).1 ≠ d ∧ (R.rc n).2.ownBlock ≠ some d := by
  have hb := h.blk
  have mp : ∀ {k : TypeId} {E : Value → Option (DU × List MemPlace)} {m : Option Nat} {D : DU}, MapAt w Tryz.prog k E m D → m ≠ some d := by
    rintro k E m D hm rfl
    obtain ⟨es, c, he⟩ := owns_map (b := d) hm
    exact map_ne_blk he hb rfl
  refine ⟨mp h.names, mp h.firm, mp h.files, fun e => own_blk_ne h.loose e hb (by decide) rfl, fun n r hr => ?_⟩
  have hf := h.fd n
  rw [hr] at hf
  obtain ⟨_, h2, h3⟩ := hf
  exact ⟨h2.ne_ hb (by decide), fun e => own_blk_ne h3 e hb (by decide) rfl⟩

/-- d alone -/
def One (d k : Nat) : Prop := k = d
theorem Fr.set1 {d : Nat} {a w : World} (h : Fr (One d) a w) (i : Nat) (u : Value) : Fr (One d) a (w.setCell ⟨d, i, none⟩ u) := h.setCell (p := ⟨d, i, none⟩) (fun _ => rfl) u
theorem Fr.set0 (d : Nat) (w : World) (i : Nat) (u : Value) : Fr (One d) w (w.setCell ⟨d, i, none⟩ u) := (Fr.refl _ w).set1 i u

/-- Only d's own block has turned. -/
theorem At.own {w w' : World} {d : Nat} {R : Rp} {S S' : AS} (h : At w d R S) (hf : Fr (One d) w w') (hb : Blk w' d 109 (cellsOf S' R))
    (e1 : S'.names = S.names) (e2 : S'.firm = S.firm) (e3 : S'.loose = S.loose) (e4 : S'.file = S.file) (e5 : S'.on = true → ∃ b c, R.nm = some b ∧ R.fb = some c) : At w' d R S' := by
  obtain ⟨a1, a2, a3, a4, a5⟩ := h.apart
  have hk : ∀ k, foot d R S k → k ≠ d → w'.heap[k]? = w.heap[k]? := fun k hk hn => hf.block k (h.lt k hk) hn
  exact {
    blk := hb
    names := by rw [e1]; exact h.names.of fun b hb => hk _ (.inr (.inl hb)) (fun e => a1 (e ▸ hb))
    firm := by rw [e2]; exact h.firm.of fun b hb => hk _ (.inr (.inr (.inl hb))) (fun e => a2 (e ▸ hb))
    files := h.files.of fun b hb => hk _ (.inr (.inr (.inr (.inl hb)))) (fun e => a3 (e ▸ hb))
    loose := by rw [e3]; exact own_of h.loose fun b hb => hk _ (.inr (.inr (.inr (.inr (.inl hb))))) (fun e => a4 (e ▸ hb))
    fd := fun n => by
      rw [e4]
      exact (h.fd n).of fun r hr k hq => hk _ (.inr (.inr (.inr (.inr (.inr ⟨n, r, hr, hq⟩))))) (fun e => by
        rcases hq with hq | hq
        · exact (a5 n r hr).1 (hq ▸ e)
        · exact (a5 n r hr).2 (e ▸ hq))
    ne1 := h.ne1
    ne2 := h.ne2
    ne3 := h.ne3
    ap := by rw [e4]; exact h.ap
    onn := e5 }

/-- Where there is a file there is a table of them. -/
theorem At.fbs {w : World} {d : Nat} {R : Rp} {S : AS} (h : At w d R S) {n : Int} {r : FR} (hr : S.file n = some r) : ∃ c, R.fb = some c := by
  cases hb : R.fb with
  | some c => exact ⟨c, rfl⟩
  | none =>
    have hf := h.files
    rw [hb] at hf
    have hD : R.FD = .map [] := hf
    have hfd := h.fd n
    rw [hr] at hfd
    have := hfd.1 .nil
    rw [hD] at this
    cases this

theorem At.cells {w : World} {d : Nat} {R : Rp} {S : AS} (h : At w d R S) (i : Nat) : w.cell? ⟨d, i, none⟩ = (cellsOf S R)[i]? := h.blk.cell i

end Go.Proofs.YtikpojnmaiplnaaGreatDoor
/- What the disk's own fields do: armed, steps, room. -/
namespace Go.Proofs.YtikpojnmaiplnaaGreatDoor
open Go.RowKit Go.Maps
set_option linter.unusedVariables false

def AS.arm (S : AS) (n : Int) : AS := { S with armed := decide (0 ≤ n), left := max n 0 }

theorem cells_all {w : World} {d : Nat} {R : Rp} {S : AS} (h : At w d R S) :
    w.cell? ⟨d, 0, none⟩ = some (.int .i64 S.room) ∧ w.cell? ⟨d, 1, none⟩ = some (.bool S.on) ∧ w.cell? ⟨d, 2, none⟩ = some (.bool S.armed) ∧ w.cell? ⟨d, 3, none⟩ = some (.int .i64 S.left) ∧
    w.cell? ⟨d, 4, none⟩ = some (.int .i64 S.steps) ∧ w.cell? ⟨d, 5, none⟩ = some (.map R.nm) ∧ w.cell? ⟨d, 6, none⟩ = some (.map R.fm) ∧ w.cell? ⟨d, 7, none⟩ = some R.lv ∧ w.cell? ⟨d, 8, none⟩ = some (.map R.fb) ∧ w.cell? ⟨d, 9, none⟩ = some (.int .i64 S.last) :=
  ⟨h.cells 0, h.cells 1, h.cells 2, h.cells 3, h.cells 4, h.cells 5, h.cells 6, h.cells 7, h.cells 8, h.cells 9⟩

theorem arm_nil (n : Int) (w : World) : Calls Tryz.prog 20 #[.pointer none, .int .i64 n] w fun e w' => e = .returned (.tuple #[]) ∧ w = w' := by
  go_enter Tryz.func20, Tryz.ntmps20
  go_wp2
  exact bodyPost_ret (results_none rfl _ _ _) rfl ⟨rfl, rfl⟩

set_option maxHeartbeats 400000 in
theorem arm_any (d : Nat) (R : Rp) (S : AS) (n : Int) (w : World) (h : At w d R S) :
    Calls Tryz.prog 20 #[.pointer (some ⟨d, 0, none⟩), .int .i64 n] w fun e w' => e = .returned (.tuple #[]) ∧ At w' d R (S.arm n) ∧ Fr (One d) w w' := by
  obtain ⟨c0, c1, c2, c3, c4, c5, c6, c7, c8, c9⟩ := cells_all h
  have f2 := h.blk.frozen 2
  have f3 := h.blk.frozen 3
  go_enter Tryz.func20, Tryz.ntmps20
  go_wp2
  go_end0
  have hf : Fr (One d) w ((w.setCell ⟨d, 2, none⟩ (.bool (decide (0 ≤ n)))).setCell ⟨d, 3, none⟩ (.int .i64 (max n 0))) := (Fr.set0 d w 2 _).set1 3 _
  exact ⟨rfl, h.own hf ((h.blk.set_ 2 _).set_ 3 _) rfl rfl rfl rfl h.onn, hf⟩

def roomOf (n : Int) : Int := min (max n 0) 16777216
def AS.limit (S : AS) (n : Int) : AS := { S with room := roomOf n }

theorem limit_nil (n : Int) (w : World) : Calls Tryz.prog 25 #[.pointer none, .int .i64 n] w fun e w' => e = .returned (.tuple #[]) ∧ w = w' := by
  go_enter Tryz.func25, Tryz.ntmps25
  go_wp2
  exact bodyPost_ret (results_none rfl _ _ _) rfl ⟨rfl, rfl⟩

set_option maxHeartbeats 400000 in
theorem limit_any (d : Nat) (R : Rp) (S : AS) (n : Int) (w : World) (h : At w d R S) :
    Calls Tryz.prog 25 #[.pointer (some ⟨d, 0, none⟩), .int .i64 n] w fun e w' => e = .returned (.tuple #[]) ∧ At w' d R (S.limit n) ∧ Fr (One d) w w' := by
  have c0 := (cells_all h).1
  have f0 := h.blk.frozen 0
  go_enter Tryz.func25, Tryz.ntmps25
  go_wp2
  go_end0
  have hf : Fr (One d) w (w.setCell ⟨d, 0, none⟩ (.int .i64 (roomOf n))) := Fr.set0 d w 0 _
  exact ⟨rfl, h.own hf (h.blk.set_ 0 _) rfl rfl rfl rfl h.onn, hf⟩

theorem on_nil (w : World) : Calls Tryz.prog 60 #[.pointer none] w fun e w' => e = .returned (.bool false) ∧ w = w' := by
  go_enter Tryz.func60, Tryz.ntmps60
  go_wp2
  go_ret
  exact ⟨rfl, rfl⟩
theorem on_any (d : Nat) (R : Rp) (S : AS) (w : World) (h : At w d R S) :
    Calls Tryz.prog 60 #[.pointer (some ⟨d, 0, none⟩)] w fun e w' => e = .returned (.bool S.on) ∧ w = w' := by
  have c1 := (cells_all h).2.1
  go_enter Tryz.func60, Tryz.ntmps60
  go_wp2
  go_ret
  exact ⟨rfl, rfl⟩

theorem steps_nil (w : World) : Calls Tryz.prog 75 #[.pointer none] w fun e w' => e = .returned (.int .i64 0) ∧ w = w' := by
  go_enter Tryz.func75, Tryz.ntmps75
  go_wp2
  go_ret
  exact ⟨rfl, rfl⟩

set_option maxHeartbeats 400000 in
theorem load_any (d i : Nat) (n : Int) (w : World) (hc : w.cell? ⟨d, i, none⟩ = some (.int .i64 n)) :
    Calls Tryz.prog 132 #[.pointer (some ⟨d, i, none⟩)] w fun e w' => e = .returned (.int .i64 n) ∧ w = w' := by
  have hl := run_call_load (P := Tryz.prog) Tryz.func172 (by kernel_rfl) (by kernel_rfl) (by kernel_rfl) .i64 (by kernel_rfl) (w := w) (a := ⟨d, i, none⟩) (x := n) hc
  go_enter Tryz.func132, Tryz.ntmps132
  go_wp2
  go_ret
  exact ⟨rfl, rfl⟩

set_option maxHeartbeats 400000 in
theorem add_any (d i : Nat) (n : Int) (w : World) (hc : w.cell? ⟨d, i, none⟩ = some (.int .i64 n)) (hf : w.frozen? ⟨d, i, none⟩ = false) :
    Calls Tryz.prog 186 #[.pointer (some ⟨d, i, none⟩), .int .i64 1] w fun e w' => e = .returned (.int .i64 (wrap64 (n + 1))) ∧ w.setCell ⟨d, i, none⟩ (.int .i64 (wrap64 (n + 1))) = w' := by
  have hadd := run_call_add (P := Tryz.prog) Tryz.func212 (by kernel_rfl) (by kernel_rfl) (by kernel_rfl) .i64 (by kernel_rfl) (w := w) (a := ⟨d, i, none⟩) (x := n) (y := 1) (s := wrap64 (n + 1)) hc hf (by simp [go_sem]; exact IntWalk.i64_left _)
  go_enter Tryz.func186, Tryz.ntmps186
  go_wp2
  go_ret
  exact ⟨rfl, rfl⟩

theorem steps_any (d : Nat) (R : Rp) (S : AS) (w : World) (h : At w d R S) :
    Calls Tryz.prog 75 #[.pointer (some ⟨d, 0, none⟩)] w fun e w' => e = .returned (.int .i64 S.steps) ∧ w = w' := by
  have c4 := (cells_all h).2.2.2.2.1
  go_enter Tryz.func75, Tryz.ntmps75
  go_wp2_with (go_at_call 132; refine (load_any _ _ _ _ c4).mono ?_; rintro e w' ⟨rfl, rfl⟩)
  go_ret
  exact ⟨rfl, rfl⟩

/-- A step: is the power out? -/
def AS.step (S : AS) : AS :=
  if S.armed then (if 0 < S.left then { S with steps := wrap64 (S.steps + 1), left := S.left - 1 } else { S with steps := wrap64 (S.steps + 1), on := false, armed := false, left := 0 })
  else { S with steps := wrap64 (S.steps + 1) }
def AS.stepE (S : AS) : Int := if S.armed then (if 0 < S.left then 0 else 13) else 0

set_option maxHeartbeats 400000 in
theorem step_any (d : Nat) (R : Rp) (S : AS) (w : World) (h : At w d R S) (hl : S.left ≤ 9223372036854775807) :
    Calls Tryz.prog 167 #[.pointer (some ⟨d, 0, none⟩)] w fun e w' => e = .returned (.int .i64 S.stepE) ∧ At w' d R S.step ∧ Fr (One d) w w' := by
  obtain ⟨c0, c1, c2, c3, c4, c5, c6, c7, c8, c9⟩ := cells_all h
  have f1 := h.blk.frozen 1
  have f3 := h.blk.frozen 3
  have f4 := h.blk.frozen 4
  by_cases ha : S.armed = true
  · by_cases hp : 0 < S.left
    · rw [ha] at c2
      have eS : S.step = { S with steps := wrap64 (S.steps + 1), left := S.left - 1 } := by unfold AS.step; rw [if_pos ha, if_pos hp]
      have eE : S.stepE = 0 := by unfold AS.stepE; rw [if_pos ha, if_pos hp]
      rw [eS, eE]
      clear eS eE ha
      go_enter Tryz.func167, Tryz.ntmps167
      go_wp2_with (go_at_call 186; refine (add_any _ _ _ _ c4 f4).mono ?_; rintro e w' ⟨rfl, rfl⟩)
      go_ret
      have hf : Fr (One d) w ((w.setCell ⟨d, 4, none⟩ (.int .i64 (wrap64 (S.steps + 1)))).setCell ⟨d, 3, none⟩ (.int .i64 (S.left - 1))) := (Fr.set0 d w 4 _).set1 3 _
      exact ⟨rfl, h.own hf ((h.blk.set_ 4 _).set_ 3 _) rfl rfl rfl rfl h.onn, hf⟩
    · rw [ha] at c2
      have eS : S.step = { S with steps := wrap64 (S.steps + 1), on := false, armed := false, left := 0 } := by unfold AS.step; rw [if_pos ha, if_neg hp]
      have eE : S.stepE = 13 := by unfold AS.stepE; rw [if_pos ha, if_neg hp]
      rw [eS, eE]
      clear eS eE ha
      go_enter Tryz.func167, Tryz.ntmps167
      go_wp2_with (go_at_call 186; refine (add_any _ _ _ _ c4 f4).mono ?_; rintro e w' ⟨rfl, rfl⟩)
      have hf : Fr (One d) w ((w.setCell ⟨d, 4, none⟩ (.int .i64 (wrap64 (S.steps + 1)))).setCell ⟨d, 1, none⟩ (.bool false)) := (Fr.set0 d w 4 _).set1 1 _
      have h1 : At _ d R { S with steps := wrap64 (S.steps + 1), on := false } := h.own hf ((h.blk.set_ 4 _).set_ 1 _) rfl rfl rfl rfl (fun e => by cases e)
      refine (arm_any d R _ (-1) _ h1).mono ?_
      rintro e w' ⟨rfl, h2, hf2⟩
      go_wp2
      go_ret
      exact ⟨rfl, h2, hf.trans hf2 (fun _ _ hj => hj)⟩
  · have c2' : w.cell? ⟨d, 2, none⟩ = some (.bool false) := by rw [c2]; simp [ha]
    clear c2
    have eS : S.step = { S with steps := wrap64 (S.steps + 1) } := by unfold AS.step; rw [if_neg ha]
    have eE : S.stepE = 0 := by unfold AS.stepE; rw [if_neg ha]
    rw [eS, eE]
    clear eS eE ha
    go_enter Tryz.func167, Tryz.ntmps167
    go_wp2_with (go_at_call 186; refine (add_any _ _ _ _ c4 f4).mono ?_; rintro e w' ⟨rfl, rfl⟩)
    go_ret
    have hf : Fr (One d) w (w.setCell ⟨d, 4, none⟩ (.int .i64 (wrap64 (S.steps + 1)))) := Fr.set0 d w 4 _
    exact ⟨rfl, h.own hf (h.blk.set_ 4 _) rfl rfl rfl rfl h.onn, hf⟩

end Go.Proofs.YtikpojnmaiplnaaGreatDoor
/- The tables of names and of files, asked and written; find. -/
namespace Go.Proofs.YtikpojnmaiplnaaGreatDoor
open Go.RowKit Go.Maps
set_option linter.unusedVariables false

/-! ### names, as a plain function -/
def look (D : DU) (s : List UInt8) : Option Int :=
  match D.atKey (.string s) .nil with
  | .lit (.int .i64 n) => some n
  | _ => none

theorem isKey (s : List UInt8) : WideAt.IsKeyLit (.string s) := by simp [WideAt.IsKeyLit]
theorem isKeyI (n : Int) : WideAt.IsKeyLit (.int .i64 n) := by simp [WideAt.IsKeyLit]
theorem key_ne {s t : List UInt8} (h : s ≠ t) : (Lit.string s) ≠ .string t := by simpa using h
theorem keyI_ne {s t : Int} (h : s ≠ t) : (Lit.int .i64 s) ≠ .int .i64 t := by simpa using h

theorem look_empty (s : List UInt8) : look (.map []) s = none := rfl
theorem look_put_same {D : DU} (h : IsMap D) (s : List UInt8) (n : Int) : look (D.put (.string s) (.lit (.int .i64 n))) s = some n := by
  unfold look; rw [atKey_put_same h (isKey s)]
theorem look_put_other {D : DU} {s t : List UInt8} (h : t ≠ s) (d : DU) : look (D.put (.string s) d) t = look D t := by
  unfold look; rw [atKey_put_other (key_ne h)]
theorem look_del_same {D : DU} (s : List UInt8) : look (D.del (.string s)) s = none := by
  unfold look; rw [atKey_del_same]
theorem look_del_other {D : DU} {s t : List UInt8} (h : t ≠ s) : look (D.del (.string s)) t = look D t := by
  unfold look; rw [atKey_del_other (key_ne h)]

/-- All that the table holds are numbers. -/
def Ints (D : DU) : Prop := ∀ s, has D (.string s) = true → ∃ n, ∀ z, D.atKey (.string s) z = .lit (.int .i64 n)
theorem atKey_any {D : DU} {k : Lit} (h : has D k = true) (y z : DU) : D.atKey k y = D.atKey k z := by
  cases D with
  | map es =>
    rw [has_eq, List.any_eq_true] at h
    obtain ⟨p, hp, hs⟩ := h
    simp only [DataW.atKey]
    cases hf : es.find? (fun p => p.1.sameKey k) with
    | some q => rfl
    | none => rw [List.find?_eq_none] at hf; exact absurd hs (hf p hp)
  | _ => simp [has] at h
theorem key9 (l : List UInt8) (hl : l.length ≤ maxLen) : keyOf Tryz.prog 9 (.string ⟨l.toArray⟩) = some (.string l) := by
  have := WideMaps.keyOf_string_mk (P := Tryz.prog) (k := 9) Tryz.underlying9 (s := ⟨l.toArray⟩) (by simpa [ByteArray.size] using hl)
  simpa using this
theorem key3 (n : Int) (hn : (Lit.int .i64 n).wf = true) : keyOf Tryz.prog 3 (.int .i64 n) = some (.int .i64 n) := keyOf_int_mk Tryz.underlying3 hn

theorem owns_key {w : World} {b n : Nat} {D : DU} {P : Program} {k : TypeId} {R : Value → Option (DU × List MemPlace)} (h : w.ownsMap P k R b n D) {kl : Lit} (hh : has D kl = true) : ∃ key, keyOf P k key = some kl := by
  obtain ⟨es, clock, hb, F, hs, rfl⟩ := h
  rw [has_eq, List.any_eq_true] at hh
  obtain ⟨p, hp, hsm⟩ := hh
  have hp' := mem_sorted.1 hp
  obtain ⟨x, hx, rfl⟩ := List.mem_map.1 hp'
  obtain ⟨y, hy⟩ := F.reads x hx
  have h1 := WideElems.rd_key hy
  rw [WideElems.rg_of hy] at hsm
  refine ⟨x.key, ?_⟩
  rw [h1]
  by_cases e : y.1 = kl
  · rw [e]
  · rw [sameKey_ne e] at hsm; cases hsm

theorem owns_ints {w : World} {b n : Nat} {D : DU} (h : w.ownsMap Tryz.prog 9 (plainElem Tryz.prog 3) b n D) : Ints D := by
  intro s hs
  obtain ⟨key, hk⟩ := owns_key h hs
  obtain ⟨c, _, hat, _⟩ := h.lookup_int law9 Tryz.underlying100 Tryz.underlying3 (Tryz.zeroValue3 w) hk
  exact ⟨c, fun z => by rw [atKey_any hs z (.lit (.int .i64 0)), hat]⟩
theorem MapAt.ints {w : World} {m : Option Nat} {D : DU} (h : MapAt w Tryz.prog 9 (plainElem Tryz.prog 3) m D) : Ints D := by
  cases m with
  | none => rw [show D = .map [] from h]; intro s hs; simp [has] at hs
  | some b => exact owns_ints (b := b) h
theorem has_look {D : DU} (h : Ints D) (s : List UInt8) : has D (.string s) = (look D s).isSome := by
  cases hh : has D (.string s) with
  | true =>
    obtain ⟨n, hn⟩ := h s hh
    unfold look; rw [hn .nil]; rfl
  | false =>
    unfold look; rw [atKey_of_not_has hh]; rfl
theorem look_some {D : DU} (h : Ints D) {s : List UInt8} {n : Int} (hl : look D s = some n) (z : DU) : D.atKey (.string s) z = .lit (.int .i64 n) := by
  have hh : has D (.string s) = true := by rw [has_look h, hl]; rfl
  obtain ⟨m, hm⟩ := h s hh
  unfold look at hl
  rw [hm .nil] at hl
  cases hl
  exact hm z

/-! ### the operations -/
theorem run_look_some {w : World} {b n : Nat} {D : DU} (h : w.ownsMap Tryz.prog 9 (plainElem Tryz.prog 3) b n D) {l : List UInt8} (hl : l.length ≤ maxLen) {c : Int} (hc : look D l = some c) :
    (Instr.lookup 100 (.map (some b)) (.string ⟨l.toArray⟩) true).run Tryz.prog w = .ok (.tuple #[.int .i64 c, .bool true]) w := by
  have hi := owns_ints h
  obtain ⟨v, ps, hr, hv⟩ := h.look_ok law9 Tryz.underlying100 (Tryz.zeroValue3 w) (plainElem_int Tryz.underlying3 (by decide)) (key9 l hl)
  rw [look_some hi hc] at hv
  obtain ⟨c', rfl, hc', _⟩ := plainElem_int_inv Tryz.underlying3 hv
  have : c = c' := by simpa using congrArg Prod.fst hc'
  subst this
  rw [hr, has_look hi, hc]; rfl
theorem run_look_none {w : World} {b n : Nat} {D : DU} (h : w.ownsMap Tryz.prog 9 (plainElem Tryz.prog 3) b n D) {l : List UInt8} (hl : l.length ≤ maxLen) (hc : look D l = none) :
    (Instr.lookup 100 (.map (some b)) (.string ⟨l.toArray⟩) true).run Tryz.prog w = .ok (.tuple #[.int .i64 0, .bool false]) w := by
  have hi := owns_ints h
  have hh : has D (.string l) = false := by rw [has_look hi, hc]; rfl
  obtain ⟨v, ps, hr, hv⟩ := h.look_ok law9 Tryz.underlying100 (Tryz.zeroValue3 w) (plainElem_int Tryz.underlying3 (by decide)) (key9 l hl)
  rw [atKey_of_not_has hh] at hv
  obtain ⟨c', rfl, hc', _⟩ := plainElem_int_inv Tryz.underlying3 hv
  have : (0 : Int) = c' := by simpa using congrArg Prod.fst hc'
  subst this
  rw [hr, hh]
theorem run_look1_some {w : World} {b n : Nat} {D : DU} (h : w.ownsMap Tryz.prog 9 (plainElem Tryz.prog 3) b n D) {l : List UInt8} (hl : l.length ≤ maxLen) {c : Int} (hc : look D l = some c) :
    (Instr.lookup 100 (.map (some b)) (.string ⟨l.toArray⟩) false).run Tryz.prog w = .ok (.int .i64 c) w := by
  have hi := owns_ints h
  obtain ⟨c', hr, hat, _⟩ := h.lookup_int law9 Tryz.underlying100 Tryz.underlying3 (Tryz.zeroValue3 w) (key9 l hl)
  rw [look_some hi hc] at hat
  have : c = c' := by simpa using hat
  subst this
  exact hr
theorem run_file {w : World} {b n : Nat} {D : DU} (h : w.ownsMap Tryz.prog 3 ptrElem b n D) {c : Int} (hw : (Lit.int .i64 c).wf = true) {g : Nat} (hc : ∀ z, D.atKey (.int .i64 c) z = .lit (.int .i64 g)) :
    (Instr.lookup 101 (.map (some b)) (.int .i64 c) false).run Tryz.prog w = .ok (.pointer (some ⟨g, 0, none⟩)) w := by
  obtain ⟨v, ps, hr, hv⟩ := h.lookup law3 Tryz.underlying101 (Tryz.zeroValue117 w) (zd := .nil) (zp := []) rfl (key3 c hw)
  rw [hc] at hv
  rw [hr, ptrElem_inv hv]

section
variable {ops : Array Oper} {rest : List Oper} {o : Oper} {a : Act} {Q : Exit → Act → World → Prop} {w : World}
theorem wpList_run (hg : o.guard = none) (t : TypeId) (m x : Operand) (ok : Bool) (hop : o.op = Op.lookup t m x ok) (vm vx v : Value) (hm : a.eval m = vm) (hx : a.eval x = vx)
    (hr : (Instr.lookup t vm vx ok).run Tryz.prog w = .ok v w) (hK : wpList Tryz.prog ops Q rest (a.put o.dst v) w) : wpList Tryz.prog ops Q (o :: rest) a w := by
  refine wpList_plain hg fun K' hK' => ?_
  unfold Oper.wp
  simp [execOp, hop, hm, hx, hr, Result.andThen]
  exact hK' _ _ hK
end

/-! ### find -/
theorem wf64 {n : Int} (h0 : -9223372036854775808 ≤ n) (h1 : n ≤ 9223372036854775807) : (Lit.int .i64 n).wf = true := WalkArith.wf_i64 ⟨h0, h1⟩

theorem At.alloc {w : World} {d : Nat} {R : Rp} {S : AS} (h : At w d R S) (o : Obj) : At (w.alloc o) d R S := h.keep ((Fr.refl _ w).alloc o)

theorem check_l (d : Nat) (ad : Addr) (l : List UInt8) (on : Bool) (E : Int) (w : World) (hE : checkOf on [l] = E) (hl : l.length ≤ maxLen) (hon : w.cell? ⟨d, 1, none⟩ = some (.bool on)) (hc : w.cell? ad = some (.string ⟨l.toArray⟩)) :
    Calls Tryz.prog 165 #[.pointer (some ⟨d, 0, none⟩), .slice (some ad) 1 1] w fun e w' => e = .returned (.int .i64 E) ∧ w = w' := by
  refine (check_one d ad ⟨l.toArray⟩ w on hon (by simpa [ByteArray.size] using hl) hc).mono ?_
  rintro e w' ⟨he, hw⟩
  exact ⟨by rw [he, ← hE], hw⟩

/-- check, called with one name that lies in a new row: what find and Write do. -/
theorem check_new (d : Nat) (R : Rp) (S : AS) (l : List UInt8) (E : Int) (w : World) (h : At w d R S) (hE : checkOf S.on [l] = E) (hl : l.length ≤ maxLen) :
    Calls Tryz.prog 165 #[.pointer (some ⟨d, 0, none⟩), .slice (some ⟨w.heap.size, 0, none⟩) 1 1] (w.alloc (.cells #[.string ⟨l.toArray⟩] 9)) fun e w' => e = .returned (.int .i64 E) ∧ w.alloc (.cells #[.string ⟨l.toArray⟩] 9) = w' :=
  check_l d _ l S.on E _ hE hl (cells_all (h.alloc _)).2.1 (by simp)

set_option maxHeartbeats 400000 in
theorem find_bad (d : Nat) (R : Rp) (S : AS) (l : List UInt8) (E : Int) (w : World) (h : At w d R S) (hl : l.length ≤ maxLen) (hE : checkOf S.on [l] = E) (hb : E ≠ 0) :
    Calls Tryz.prog 131 #[.pointer (some ⟨d, 0, none⟩), .string ⟨l.toArray⟩] w fun e w' => e = .returned (.tuple #[.pointer none, .int .i64 E]) ∧ Fr No w w' := by
  have hne2 : (E != 0) = true := by simpa using hb
  have hcon := check_new d R S l E w h hE hl
  clear hE hb hl
  go_enter Tryz.func131, Tryz.ntmps131
  go_wp2_with fail
  refine hcon.mono ?_
  rintro e w' ⟨rfl, rfl⟩
  go_wp2
  go_ret2
  exact ⟨rfl, (Fr.refl _ _).alloc _⟩

set_option maxHeartbeats 400000 in
theorem find_none (d : Nat) (R : Rp) (S : AS) (l : List UInt8) (w : World) (h : At w d R S) (hl : l.length ≤ maxLen) (hE : checkOf S.on [l] = 0) (hn : look S.names l = none) :
    Calls Tryz.prog 131 #[.pointer (some ⟨d, 0, none⟩), .string ⟨l.toArray⟩] w fun e w' => e = .returned (.tuple #[.pointer none, .int .i64 11]) ∧ Fr No w w' := by
  have hcon := check_new d R S l 0 w h hE hl
  have hon : S.on = true := by
    cases ho : S.on
    · rw [ho] at hE; simp [checkOf] at hE
    · rfl
  obtain ⟨nb, fb, e1, e2⟩ := h.onn hon
  have ha := h.alloc (.cells #[.string ⟨l.toArray⟩] 9)
  have hnm := ha.names
  rw [e1] at hnm
  have hrun := run_look_none (b := nb) hnm hl hn
  have c5 := (cells_all ha).2.2.2.2.2.1
  rw [e1] at c5
  clear hE hl hn h ha hnm hon e1 e2
  go_enter Tryz.func131, Tryz.ntmps131
  go_wp2_with fail
  refine hcon.mono ?_
  rintro e w' ⟨rfl, rfl⟩
  go_wp2
  go_ret2
  exact ⟨rfl, (Fr.refl _ _).alloc _⟩

set_option maxHeartbeats 400000 in
theorem find_some (d : Nat) (R : Rp) (S : AS) (l : List UInt8) (n : Int) (r : FR) (w : World) (h : At w d R S) (hl : l.length ≤ maxLen) (hE : checkOf S.on [l] = 0) (hn : look S.names l = some n) (hr : S.file n = some r) (hw : (Lit.int .i64 n).wf = true) :
    Calls Tryz.prog 131 #[.pointer (some ⟨d, 0, none⟩), .string ⟨l.toArray⟩] w fun e w' => e = .returned (.tuple #[.pointer (some ⟨(R.rc n).1, 0, none⟩), .int .i64 0]) ∧ Fr No w w' := by
  have hcon := check_new d R S l 0 w h hE hl
  have hon : S.on = true := by
    cases ho : S.on
    · rw [ho] at hE; simp [checkOf] at hE
    · rfl
  obtain ⟨nb, fb, e1, e2⟩ := h.onn hon
  have ha := h.alloc (.cells #[.string ⟨l.toArray⟩] 9)
  have hnm := ha.names
  have hfl := ha.files
  rw [e1] at hnm
  rw [e2] at hfl
  have hrun := run_look_some (b := nb) hnm hl hn
  have hfd := ha.fd n
  rw [hr] at hfd
  have hrun2 := run_file (b := fb) hfl hw hfd.1
  have c5 := (cells_all ha).2.2.2.2.2.1
  have c8 := (cells_all ha).2.2.2.2.2.2.2.2.1
  rw [e1] at c5
  rw [e2] at c8
  clear hE hl hn h ha hnm hon e1 e2 hfl hfd hr hw
  go_enter Tryz.func131, Tryz.ntmps131
  go_wp2_with fail
  refine hcon.mono ?_
  rintro e w' ⟨rfl, rfl⟩
  go_wp2
  go_ret2
  exact ⟨rfl, (Fr.refl _ _).alloc _⟩

end Go.Proofs.YtikpojnmaiplnaaGreatDoor
/- Files' bytes: read, made firm; what follows from one file's turning. -/
namespace Go.Proofs.YtikpojnmaiplnaaGreatDoor
open Go.RowKit Go.Maps
set_option linter.unusedVariables false

theorem info5 : (Tryz.prog.info? 5).map (fun i => (i.zero, i.size, i.bytes)) = some (some (.int .u8 0), 1, 1) := by kernel_rfl

/-- The bytes of an owned row, as a text. -/
theorem run_text {w : World} {base : Nat} {v : Value} {l : List UInt8} (h : w.ownsRow base 5 1 v l.length (l.map byteV)) :
    (convert 65 9 v).run Tryz.prog w = .ok (.string ⟨l.toArray⟩) w := by
  rcases h.2 with ⟨rfl, hl⟩ | ⟨g, cap, cur, rfl, hb, hh, hnc, hcm, hs, ht⟩
  · have : l = [] := List.eq_nil_of_length_eq_zero hl
    subst this
    exact run_convert_bytes_nil w 65 5 Tryz.underlying65 Tryz.underlying5 0 0 9 Tryz.underlying9
  · have hc := h.cells (g := g) rfl
    have hcell : ∀ i, i < l.length → w.cell? ⟨g, 0 + i, none⟩ = some (.int .u8 ((l.map fun u => (u.toNat : Int)).getD i 0)) := by
      intro i hi
      have h1 := hc i (byteV l[i]) (by simp [List.getElem?_eq_getElem hi])
      have e : ((⟨g, 0, none⟩ : Addr).add i) = ⟨g, 0 + i, none⟩ := by unfold Addr.add; split <;> simp_all
      rw [e] at h1
      rw [h1]
      simp [byteV, List.getD, List.getElem?_eq_getElem hi]
    have h2 := run_convert_bytes_arg w 65 5 Tryz.underlying65 Tryz.underlying5 g 0 l.length cap (l.map fun u => (u.toNat : Int)) (List.length_map _) hcell 9 Tryz.underlying9
    refine h2.trans ?_
    have e2 : strOfNums (l.map fun u => (u.toNat : Int)) = ⟨l.toArray⟩ := by
      unfold strOfNums
      rw [List.map_map]
      have : ((fun n : Int => UInt8.ofNat n.toNat) ∘ fun u : UInt8 => (u.toNat : Int)) = id := by
        funext u; simp
      rw [this, List.map_id]
    rw [e2]

theorem len_row {w : World} {base : Nat} {v : Value} {n : Nat} {e : TypeId} {size : Nat} {xs : List Value} (h : w.ownsRow base e size v n xs) : ∃ A c, v = .slice A n c := by
  rcases h.2 with ⟨rfl, rfl⟩ | ⟨g, cap, cur, rfl, _⟩
  · exact ⟨_, _, rfl⟩
  · exact ⟨_, _, rfl⟩

/-- A disk, well made: what the document's words keep. -/
structure WF (S : AS) : Prop where
  left : 0 ≤ S.left ∧ S.left ≤ 9223372036854775807
  room : 0 ≤ S.room ∧ S.room ≤ 16777216
  last : 0 ≤ S.last ∧ S.last ≤ 4611686018427387904
  ref : ∀ l n, look S.names l = some n → ∃ r, S.file n = some r
  file : ∀ n r, S.file n = some r → 1 ≤ n ∧ n ≤ S.last ∧ r.firm ≤ r.bytes.length ∧ r.bytes.length ≤ 16777216

theorem WF.wf {S : AS} (h : WF S) {n : Int} {r : FR} (hr : S.file n = some r) : (Lit.int .i64 n).wf = true := by
  have h1 := h.file n r hr
  have h2 := h.last
  exact wf64 (by omega) (by omega)

/-- What a call leaves of a disk. -/
structure PR (d : Nat) (R : Rp) (S : AS) (w : World) (R' : Rp) (S' : AS) (w' : World) : Prop where
  at_ : At w' d R' S'
  fr : Fr (foot d R S) w w'
  foot : ∀ k, foot d R' S' k → foot d R S k ∨ w.heap.size ≤ k
def Post (d : Nat) (R : Rp) (S : AS) (w : World) (S' : AS) (w' : World) : Prop := ∃ R', PR d R S w R' S' w'
theorem PR.post {d : Nat} {R R' : Rp} {S S' : AS} {w w' : World} (h : PR d R S w R' S' w') : Post d R S w S' w' := ⟨R', h⟩
theorem PR.refl {d : Nat} {R : Rp} {S : AS} {w : World} (h : At w d R S) : PR d R S w R S w := ⟨h, Fr.refl _ _, fun k hk => .inl hk⟩
theorem PR.same {d : Nat} {R : Rp} {S : AS} {w w' : World} (h : At w d R S) (hf : Fr No w w') : PR d R S w R S w' := ⟨h.keep hf, hf.any, fun k hk => .inl hk⟩
theorem PR.own {d : Nat} {R : Rp} {S S' : AS} {w w' : World} (h : At w' d R S') (hf : Fr (One d) w w') (e : S'.file = S.file) : PR d R S w R S' w' :=
  ⟨h, hf.mono (fun k _ hk => .inl hk), fun k hk => by
    rcases hk with hk | hk | hk | hk | hk | ⟨n, r, hr, hk⟩
    · exact .inl (.inl hk)
    · exact .inl (.inr (.inl hk))
    · exact .inl (.inr (.inr (.inl hk)))
    · exact .inl (.inr (.inr (.inr (.inl hk))))
    · exact .inl (.inr (.inr (.inr (.inr (.inl hk)))))
    · exact .inl (.inr (.inr (.inr (.inr (.inr ⟨n, r, e ▸ hr, hk⟩)))))⟩
theorem PR.trans {d : Nat} {R R1 R2 : Rp} {S S1 S2 : AS} {w w1 w2 : World} (h : PR d R S w R1 S1 w1) (k : PR d R1 S1 w1 R2 S2 w2) : PR d R S w R2 S2 w2 := by
  obtain ⟨h1, f1, g1⟩ := h
  obtain ⟨h2, f2, g2⟩ := k
  refine ⟨h2, f1.trans f2 (fun j hj hf => (g1 j hf).resolve_right (by omega)), fun j hj => ?_⟩
  rcases g2 j hj with hj | hj
  · exact g1 j hj
  · exact .inr (by have := f1.size; omega)

/-! ### Read -/
set_option maxHeartbeats 400000 in
theorem read_bad (d : Nat) (R : Rp) (S : AS) (l : List UInt8) (E : Int) (w : World) (h : At w d R S) (hl : l.length ≤ maxLen) (hE : checkOf S.on [l] = E) (hb : E ≠ 0) :
    Calls Tryz.prog 73 #[.pointer (some ⟨d, 0, none⟩), .string ⟨l.toArray⟩] w fun e w' => e = .returned (.tuple #[.string ⟨[].toArray⟩, .int .i64 E]) ∧ Fr No w w' := by
  have hcon := find_bad d R S l E w h hl hE hb
  have hne2 : (E != 0) = true := by simpa using hb
  clear hE hb hl h
  go_enter Tryz.func73, Tryz.ntmps73
  go_wp2_with fail
  refine hcon.mono ?_
  rintro e w' ⟨rfl, hf⟩
  have HF := Lib.hid hf; clear hf
  go_wp2
  go_ret2
  exact ⟨rfl, HF.out⟩

set_option maxHeartbeats 400000 in
theorem read_none (d : Nat) (R : Rp) (S : AS) (l : List UInt8) (w : World) (h : At w d R S) (hl : l.length ≤ maxLen) (hE : checkOf S.on [l] = 0) (hn : look S.names l = none) :
    Calls Tryz.prog 73 #[.pointer (some ⟨d, 0, none⟩), .string ⟨l.toArray⟩] w fun e w' => e = .returned (.tuple #[.string ⟨[].toArray⟩, .int .i64 11]) ∧ Fr No w w' := by
  have hcon := find_none d R S l w h hl hE hn
  clear hE hn hl h
  go_enter Tryz.func73, Tryz.ntmps73
  go_wp2_with fail
  refine hcon.mono ?_
  rintro e w' ⟨rfl, hf⟩
  have HF := Lib.hid hf; clear hf
  go_wp2
  go_ret2
  exact ⟨rfl, HF.out⟩

set_option maxHeartbeats 400000 in
theorem read_some (d : Nat) (R : Rp) (S : AS) (l : List UInt8) (n : Int) (r : FR) (w : World) (h : At w d R S) (hW : WF S) (hl : l.length ≤ maxLen) (hE : checkOf S.on [l] = 0) (hn : look S.names l = some n) (hr : S.file n = some r) :
    Calls Tryz.prog 73 #[.pointer (some ⟨d, 0, none⟩), .string ⟨l.toArray⟩] w fun e w' => e = .returned (.tuple #[.string ⟨r.bytes.toArray⟩, .int .i64 0]) ∧ Fr No w w' := by
  have hcon := find_some d R S l n r w h hl hE hn hr (hW.wf hr)
  go_enter Tryz.func73, Tryz.ntmps73
  go_wp2_with fail
  refine hcon.mono ?_
  rintro e w' ⟨rfl, hf⟩
  have h1 := h.keep hf
  have hfd := h1.fd n
  rw [hr] at hfd
  obtain ⟨_, hb, ho⟩ := hfd
  have c0 := hb.cell 0
  have hcv := run_text ho
  have HF := Lib.hid hf
  have c0' : w'.cell? ⟨(R.rc n).1, 0, none⟩ = some (R.rc n).2 := c0
  clear hf h h1 hb ho c0 hE hn hr hW hl hcon
  go_wp2
  go_ret2
  exact ⟨rfl, HF.out⟩

end Go.Proofs.YtikpojnmaiplnaaGreatDoor
/- One file turns: its bytes, and which are firm. Sync, Cut, and what Write does to a file that is there. -/
namespace Go.Proofs.YtikpojnmaiplnaaGreatDoor
open Go.RowKit Go.Maps
set_option linter.unusedVariables false

def upd {α : Type} (f : Int → α) (n : Int) (x : α) (m : Int) : α := if m = n then x else f m
theorem upd_same {α : Type} (f : Int → α) (n : Int) (x : α) : upd f n x n = x := by simp [upd]
theorem upd_other {α : Type} (f : Int → α) {n m : Int} (x : α) (h : m ≠ n) : upd f n x m = f m := by simp [upd, h]

/-- The blocks of file n. -/
def fileB (R : Rp) (n : Int) (k : Nat) : Prop := k = (R.rc n).1 ∨ (R.rc n).2.ownBlock = some k

theorem At.other {w : World} {d : Nat} {R : Rp} {S : AS} (h : At w d R S) {n : Int} {r : FR} (hr : S.file n = some r) {k : Nat} (hk : fileB R n k) :
    k ≠ d ∧ R.nm ≠ some k ∧ R.fm ≠ some k ∧ R.fb ≠ some k ∧ R.lv.ownBlock ≠ some k ∧ ∀ m q, m ≠ n → S.file m = some q → k ≠ (R.rc m).1 ∧ (R.rc m).2.ownBlock ≠ some k := by
  have hf := h.fd n
  rw [hr] at hf
  obtain ⟨_, h2, h3⟩ := hf
  have hap := h.apart.2.2.2.2 n r hr
  have hcells : ∃ cs t fz, w.heap[k]? = some (.cells cs t fz) := by
    rcases hk with rfl | hk
    · exact ⟨_, _, _, h2⟩
    · obtain ⟨cur, hc⟩ := own_row h3 hk
      exact ⟨_, _, _, hc⟩
  have mp : ∀ {K : TypeId} {E : Value → Option (DU × List MemPlace)} {m : Option Nat} {D : DU}, MapAt w Tryz.prog K E m D → m ≠ some k := by
    rintro K E m D hm rfl
    obtain ⟨es, c, he⟩ := owns_map (b := k) hm
    obtain ⟨cs, t, fz, hc⟩ := hcells
    exact map_ne_blk he hc rfl
  refine ⟨?_, mp h.names, mp h.firm, mp h.files, fun e => ?_, fun m q hm hq => ?_⟩
  · rcases hk with rfl | hk
    · exact hap.1
    · intro e; subst e; exact hap.2 hk
  · rcases hk with rfl | hk
    · exact own_blk_ne h.loose e h2 (by decide) rfl
    · exact own_own_ne h.loose e h3 hk (by decide) rfl
  · have hf' := h.fd m
    rw [hq] at hf'
    obtain ⟨_, h2', h3'⟩ := hf'
    have ap := h.ap n m r q (Ne.symm hm) hr hq
    rcases hk with rfl | hk
    · exact ⟨ap.1, fun e => own_blk_ne h3' e h2 (by decide) rfl⟩
    · exact ⟨own_blk_ne h3 hk h2' (by decide), ap.2 k hk⟩

/-- File n has turned, and nothing else of the disk. -/
theorem At.file {w w' : World} {d : Nat} {R : Rp} {S : AS} (h : At w d R S) {n : Int} {r r' : FR} {v' : Value} (hr : S.file n = some r) (hf : Fr (fileB R n) w w')
    (hb : Blk w' (R.rc n).1 126 #[v', .int .i64 r'.firm]) (ho : w'.ownsRow 0 5 1 v' r'.bytes.length (r'.bytes.map byteV)) (hv : ∀ k, v'.ownBlock = some k → (R.rc n).2.ownBlock = some k ∨ w.heap.size ≤ k) :
    At w' d { R with rc := upd R.rc n ((R.rc n).1, v') } { S with file := upd S.file n (some r') } := by
  have same : ∀ k, k < w.heap.size → ¬ fileB R n k → w'.heap[k]? = w.heap[k]? := hf.block
  have lt := h.lt
  have oth := fun k (hk : fileB R n k) => h.other hr hk
  have hfd := h.fd n
  rw [hr] at hfd
  exact {
    blk := h.blk.of (same _ (lt _ (.inl rfl)) fun hk => (oth _ hk).1 rfl)
    names := h.names.of fun b hb => same _ (lt _ (.inr (.inl hb))) fun hk => (oth _ hk).2.1 hb
    firm := h.firm.of fun b hb => same _ (lt _ (.inr (.inr (.inl hb)))) fun hk => (oth _ hk).2.2.1 hb
    files := h.files.of fun b hb => same _ (lt _ (.inr (.inr (.inr (.inl hb))))) fun hk => (oth _ hk).2.2.2.1 hb
    loose := own_of h.loose fun b hb => same _ (lt _ (.inr (.inr (.inr (.inr (.inl hb)))))) fun hk => (oth _ hk).2.2.2.2.1 hb
    fd := fun m => by
      by_cases e : m = n
      · subst e
        show FileAt w' _ _ (upd S.file m (some r') m)
        rw [upd_same]
        refine ⟨fun z => ?_, ?_, ?_⟩
        · show R.FD.atKey _ z = .lit (.int .i64 (upd R.rc m ((R.rc m).1, v') m).1)
          rw [upd_same]; exact hfd.1 z
        · show Blk w' (upd R.rc m ((R.rc m).1, v') m).1 126 #[(upd R.rc m ((R.rc m).1, v') m).2, _]
          rw [upd_same]; exact hb
        · show w'.ownsRow 0 5 1 (upd R.rc m ((R.rc m).1, v') m).2 _ _
          rw [upd_same]; exact ho
      · show FileAt w' _ _ (upd S.file n (some r') m)
        rw [upd_other _ _ e]
        have hm := h.fd m
        cases hq : S.file m with
        | none => rw [hq] at hm; exact hm
        | some q =>
          rw [hq] at hm
          obtain ⟨h1, h2, h3⟩ := hm
          refine ⟨fun z => ?_, ?_, ?_⟩
          · show R.FD.atKey _ z = .lit (.int .i64 (upd R.rc n ((R.rc n).1, v') m).1)
            rw [upd_other _ _ e]; exact h1 z
          · show Blk w' (upd R.rc n ((R.rc n).1, v') m).1 126 #[(upd R.rc n ((R.rc n).1, v') m).2, _]
            rw [upd_other _ _ e]
            exact h2.of (same _ h2.lt fun hk => ((oth _ hk).2.2.2.2.2 m q e hq).1 rfl)
          · show w'.ownsRow 0 5 1 (upd R.rc n ((R.rc n).1, v') m).2 _ _
            rw [upd_other _ _ e]
            exact own_of h3 fun k hk => same k (h3.lt k hk).2 fun hf => ((oth _ hf).2.2.2.2.2 m q e hq).2 hk
    ne1 := h.ne1
    ne2 := h.ne2
    ne3 := h.ne3
    ap := fun m1 m2 q1 q2 hne h1 h2 => by
      show (upd R.rc n ((R.rc n).1, v') m1).1 ≠ (upd R.rc n ((R.rc n).1, v') m2).1 ∧ ∀ k, (upd R.rc n ((R.rc n).1, v') m1).2.ownBlock = some k → (upd R.rc n ((R.rc n).1, v') m2).2.ownBlock ≠ some k
      have h1' : upd S.file n (some r') m1 = some q1 := h1
      have h2' : upd S.file n (some r') m2 = some q2 := h2
      by_cases e1 : m1 = n
      · subst e1
        have e2 : m2 ≠ m1 := Ne.symm hne
        rw [upd_other _ _ e2] at h2'
        rw [upd_same, upd_other _ _ e2]
        have ap := h.ap m1 m2 r q2 hne hr h2'
        have hm := h.fd m2
        rw [h2'] at hm
        refine ⟨ap.1, fun k hk hk2 => ?_⟩
        rcases hv k hk with hk' | hk'
        · exact ap.2 k hk' hk2
        · have := (hm.2.2.lt k hk2).2; omega
      · rw [upd_other _ _ e1] at h1'
        rw [upd_other _ _ e1]
        by_cases e2 : m2 = n
        · subst e2
          rw [upd_same]
          have ap := h.ap m1 m2 q1 r hne h1' hr
          have hm := h.fd m1
          rw [h1'] at hm
          refine ⟨ap.1, fun k hk hk2 => ?_⟩
          rcases hv k hk2 with hk' | hk'
          · exact ap.2 k hk hk'
          · have := (hm.2.2.lt k hk).2; omega
        · rw [upd_other _ _ e2] at h2'
          rw [upd_other _ _ e2]
          exact h.ap m1 m2 q1 q2 hne h1' h2'
    onn := h.onn }

theorem PR.file {w w' : World} {d : Nat} {R : Rp} {S : AS} (h : At w d R S) {n : Int} {r r' : FR} {v' : Value} (hr : S.file n = some r) (hf : Fr (fileB R n) w w')
    (hb : Blk w' (R.rc n).1 126 #[v', .int .i64 r'.firm]) (ho : w'.ownsRow 0 5 1 v' r'.bytes.length (r'.bytes.map byteV)) (hv : ∀ k, v'.ownBlock = some k → (R.rc n).2.ownBlock = some k ∨ w.heap.size ≤ k) :
    PR d R S w { R with rc := upd R.rc n ((R.rc n).1, v') } { S with file := upd S.file n (some r') } w' := by
  refine ⟨h.file hr hf hb ho hv, hf.mono fun k _ hk => .inr (.inr (.inr (.inr (.inr ⟨n, r, hr, hk⟩)))), fun k hk => ?_⟩
  rcases hk with hk | hk | hk | hk | hk | ⟨m, q, hq, hk⟩
  · exact .inl (.inl hk)
  · exact .inl (.inr (.inl hk))
  · exact .inl (.inr (.inr (.inl hk)))
  · exact .inl (.inr (.inr (.inr (.inl hk))))
  · exact .inl (.inr (.inr (.inr (.inr (.inl hk)))))
  · have hq' : upd S.file n (some r') m = some q := hq
    have hk' : k = (upd R.rc n ((R.rc n).1, v') m).1 ∨ (upd R.rc n ((R.rc n).1, v') m).2.ownBlock = some k := hk
    by_cases e : m = n
    · subst e
      rw [upd_same] at hk'
      rcases hk' with hk' | hk'
      · exact .inl (.inr (.inr (.inr (.inr (.inr ⟨m, r, hr, .inl hk'⟩)))))
      · rcases hv k hk' with h1 | h1
        · exact .inl (.inr (.inr (.inr (.inr (.inr ⟨m, r, hr, .inr h1⟩)))))
        · exact .inr h1
    · rw [upd_other _ _ e] at hq' hk'
      exact .inl (.inr (.inr (.inr (.inr (.inr ⟨m, q, hq', hk'⟩)))))

end Go.Proofs.YtikpojnmaiplnaaGreatDoor
/- Sync, and Cut. -/
namespace Go.Proofs.YtikpojnmaiplnaaGreatDoor
open Go.RowKit Go.Maps
set_option linter.unusedVariables false

theorem step_same (S : AS) : S.step.names = S.names ∧ S.step.firm = S.firm ∧ S.step.loose = S.loose ∧ S.step.file = S.file ∧ S.step.room = S.room ∧ S.step.last = S.last := by
  unfold AS.step; split
  · split <;> exact ⟨rfl, rfl, rfl, rfl, rfl, rfl⟩
  · exact ⟨rfl, rfl, rfl, rfl, rfl, rfl⟩
theorem step_left {S : AS} (h : 0 ≤ S.left ∧ S.left ≤ 9223372036854775807) : 0 ≤ S.step.left ∧ S.step.left ≤ 9223372036854775807 := by
  unfold AS.step; split
  · split <;> simp <;> omega
  · exact h
theorem WF.step {S : AS} (h : WF S) : WF S.step := by
  obtain ⟨e1, e2, e3, e4, e5, e6⟩ := step_same S
  exact ⟨step_left h.left, by rw [e5]; exact h.room, by rw [e6]; exact h.last, by rw [e1, e4]; exact h.ref, by rw [e4, e6]; exact h.file⟩

/-- What Sync does where there is nothing against it. -/
def AS.synced (S : AS) (n : Int) (r : FR) : AS := { S with file := upd S.file n (some { bytes := r.bytes, firm := r.bytes.length }) }
def AS.sync (S : AS) (l : List UInt8) : AS × Int :=
  if checkOf S.on [l] = 0 then
    match look S.names l with
    | none => (S, 11)
    | some n =>
      match S.file n with
      | none => (S, 11)
      | some r => if S.stepE = 0 then (S.step.synced n r, 0) else (S.step, S.stepE)
  else (S, checkOf S.on [l])

theorem stepE_01 (S : AS) : S.stepE = 0 ∨ S.stepE = 13 := by
  unfold AS.stepE; split
  · split
    · exact .inl rfl
    · exact .inr rfl
  · exact .inl rfl

theorem row_len {v : Value} {w : World} {base : Nat} {l : List UInt8} (h : w.ownsRow base 5 1 v l.length (l.map byteV)) : ∃ A c, v = .slice A l.length c := len_row h

set_option maxHeartbeats 400000 in
theorem sync_err (d : Nat) (R : Rp) (S : AS) (l : List UInt8) (v : Option Addr) (E : Int) (w : World) (hE : E ≠ 0)
    (hfind : Calls Tryz.prog 131 #[.pointer (some ⟨d, 0, none⟩), .string ⟨l.toArray⟩] w fun e w' => e = .returned (.tuple #[.pointer v, .int .i64 E]) ∧ Fr No w w') :
    Calls Tryz.prog 112 #[.pointer (some ⟨d, 0, none⟩), .string ⟨l.toArray⟩] w fun e w' => e = .returned (.int .i64 E) ∧ Fr No w w' := by
  have hne2 : (E != 0) = true := by simpa using hE
  go_enter Tryz.func112, Tryz.ntmps112
  go_wp2_with fail
  refine hfind.mono ?_
  rintro e w' ⟨rfl, hf⟩
  have HF := Lib.hid hf; clear hf hfind
  go_wp2
  go_ret
  exact ⟨rfl, HF.out⟩

/-- find, then a step: where both go well. -/
theorem step_ok (d : Nat) (R : Rp) (S : AS) (w : World) (h : At w d R S) (hl : S.left ≤ 9223372036854775807) (E : Int) (hE : S.stepE = E) :
    Calls Tryz.prog 167 #[.pointer (some ⟨d, 0, none⟩)] w fun e w' => e = .returned (.int .i64 E) ∧ At w' d R S.step ∧ Fr (One d) w w' := hE ▸ step_any d R S w h hl

set_option maxHeartbeats 400000 in
theorem sync_out (d : Nat) (R : Rp) (S : AS) (l : List UInt8) (n : Int) (r : FR) (w : World) (h : At w d R S) (hW : WF S) (hl : l.length ≤ maxLen) (hE : checkOf S.on [l] = 0) (hn : look S.names l = some n) (hr : S.file n = some r) (he : S.stepE = 13) :
    Calls Tryz.prog 112 #[.pointer (some ⟨d, 0, none⟩), .string ⟨l.toArray⟩] w fun e w' => e = .returned (.int .i64 13) ∧ PR d R S w R S.step w' := by
  have hcon := find_some d R S l n r w h hl hE hn hr (hW.wf hr)
  have hst := fun w1 (h1 : At w1 d R S) => step_ok d R S w1 h1 hW.left.2 13 he
  have HST := Lib.hid hst
  clear hE hn hl hW he hst
  go_enter Tryz.func112, Tryz.ntmps112
  go_wp2_with fail
  refine hcon.mono ?_
  rintro e w1 ⟨rfl, hf⟩
  have P1 := PR.same h hf
  clear hcon h hf hr
  go_wp2_with fail
  refine (HST.out w1 P1.at_).mono ?_
  rintro e w2 ⟨rfl, h2, hf2⟩
  have P2 := P1.trans (PR.own h2 hf2 (step_same S).2.2.2.1)
  clear HST h2 hf2 P1
  go_wp2
  go_ret
  exact ⟨rfl, P2⟩

set_option maxHeartbeats 400000 in
theorem sync_ok (d : Nat) (R : Rp) (S : AS) (l : List UInt8) (n : Int) (r : FR) (w : World) (h : At w d R S) (hW : WF S) (hl : l.length ≤ maxLen) (hE : checkOf S.on [l] = 0) (hn : look S.names l = some n) (hr : S.file n = some r) (he : S.stepE = 0) :
    Calls Tryz.prog 112 #[.pointer (some ⟨d, 0, none⟩), .string ⟨l.toArray⟩] w fun e w' => e = .returned (.int .i64 0) ∧ Post d R S w (S.step.synced n r) w' := by
  have hcon := find_some d R S l n r w h hl hE hn hr (hW.wf hr)
  have hst := fun w1 (h1 : At w1 d R S) => step_ok d R S w1 h1 hW.left.2 0 he
  have HST := Lib.hid hst
  have hr2 : S.step.file n = some r := by rw [(step_same S).2.2.2.1]; exact hr
  have HR := Lib.hid hr2
  clear hE hn hl hW he hst hr2
  go_enter Tryz.func112, Tryz.ntmps112
  go_wp2_with fail
  refine hcon.mono ?_
  rintro e w1 ⟨rfl, hf⟩
  have P1 := PR.same h hf
  clear hcon h hf hr
  go_wp2_with fail
  refine (HST.out w1 P1.at_).mono ?_
  rintro e w2 ⟨rfl, h2, hf2⟩
  have P2 := P1.trans (PR.own h2 hf2 (step_same S).2.2.2.1)
  have hfd := h2.fd n
  rw [HR.out] at hfd
  obtain ⟨_, hb, ho⟩ := hfd
  obtain ⟨A, c, hv⟩ := row_len ho
  have c0 : w2.cell? ⟨(R.rc n).1, 0, none⟩ = some (R.rc n).2 := hb.cell 0
  rw [hv] at c0
  have f1 := hb.frozen 1
  have c1 : w2.cell? ⟨(R.rc n).1, 1, none⟩ = some (.int .i64 r.firm) := hb.cell 1
  have HB := Lib.hid hb
  have HO := Lib.hid ho
  clear HST h2 hf2 P1 hv hb ho
  go_wp2
  go_ret
  have hf3 : Fr (fileB R n) w2 (w2.setCell ⟨(R.rc n).1, 1, none⟩ (.int .i64 r.bytes.length)) := (Fr.refl _ _).setCell (p := ⟨(R.rc n).1, 1, none⟩) (fun _ => .inl rfl) _
  have ho3 : (w2.setCell ⟨(R.rc n).1, 1, none⟩ (.int .i64 r.bytes.length)).ownsRow 0 5 1 (R.rc n).2 r.bytes.length (r.bytes.map byteV) :=
    own_of HO.out fun k hk => Below.heap_setCell _ _ _ _ (own_blk_ne HO.out hk HB.out (by decide))
  exact ⟨rfl, (P2.trans (PR.file (r' := { bytes := r.bytes, firm := r.bytes.length }) P2.at_ HR.out hf3 (HB.out.set_ 1 _) ho3 fun k hk => .inl hk)).post⟩

theorem sync_any (d : Nat) (R : Rp) (S : AS) (l : List UInt8) (w : World) (h : At w d R S) (hW : WF S) (hl : l.length ≤ maxLen) :
    Calls Tryz.prog 112 #[.pointer (some ⟨d, 0, none⟩), .string ⟨l.toArray⟩] w fun e w' => e = .returned (.int .i64 (S.sync l).2) ∧ Post d R S w (S.sync l).1 w' := by
  unfold AS.sync
  by_cases hE : checkOf S.on [l] = 0
  · rw [if_pos hE]
    cases hn : look S.names l with
    | none =>
      refine (sync_err d R S l _ 11 w (by decide) (find_none d R S l w h hl hE hn)).mono ?_
      rintro e w' ⟨he, hf⟩
      exact ⟨he, (PR.same h hf).post⟩
    | some n =>
      obtain ⟨r, hr⟩ := hW.ref l n hn
      simp only [hr]
      rcases stepE_01 S with he | he
      · rw [if_pos he]
        exact sync_ok d R S l n r w h hW hl hE hn hr he
      · rw [if_neg (by rw [he]; decide), he]
        refine (sync_out d R S l n r w h hW hl hE hn hr he).mono ?_
        rintro e w' ⟨h1, h2⟩
        exact ⟨h1, h2.post⟩
  · rw [if_neg hE]
    refine (sync_err d R S l _ _ w hE (find_bad d R S l _ w h hl rfl hE)).mono ?_
    rintro e w' ⟨he, hf⟩
    exact ⟨he, (PR.same h hf).post⟩

end Go.Proofs.YtikpojnmaiplnaaGreatDoor
/- A change of names: made in a table, and kept in the list of loose ones. -/
namespace Go.Proofs.YtikpojnmaiplnaaGreatDoor
open Go.RowKit Go.Maps
set_option linter.unusedVariables false

/-- A change, made in a table of names. -/
def Ch.app (c : Ch) (D : DU) : DU :=
  if c.to = [] then D.del (.string c.frm) else (D.del (.string c.frm)).put (.string c.to) (.lit (.int .i64 c.file))

theorem mapTurned_one {w w' : World} {b : Nat} (h : w.mapTurned w' b) : Fr (One b) w w' :=
  (Fr.refl _ w).grown h.grown fun k hk _ => by cases hk; rfl

theorem turned_new {w w1 : World} {b : Nat} {cs : Array Value} {t : TypeId} (hb : b < w.heap.size) (h : (w.alloc (.cells cs t)).mapTurned w1 b) (i : Nat) : w1.cell? ⟨w.heap.size, i, none⟩ = cs[i]? := by
  have hx := h.grown.block w.heap.size (by simp) (by simp; omega)
  exact Blk.cell (t := t) ((hx.trans (heap_alloc_new w _) : Blk w1 w.heap.size t cs)) i

set_option maxRecDepth 100000 in
set_option maxHeartbeats 800000 in
theorem apply_gone (c : Ch) (b n : Nat) (D : DU) (w : World) (hown : w.ownsMap Tryz.prog 9 (plainElem Tryz.prog 3) b n D) (hf : c.frm.length ≤ maxLen) (ht : c.to = []) :
    Calls Tryz.prog 55 #[.agg #[.string ⟨c.frm.toArray⟩, .string ⟨c.to.toArray⟩, .int .i64 c.file], .map (some b)] w fun e w' => e = .returned (.tuple #[]) ∧ w'.ownsMap Tryz.prog 9 (plainElem Tryz.prog 3) b n (D.del (.string c.frm)) ∧ Fr (One b) w w' := by
  have hb := hown.lt
  have hkey := key9 c.frm hf
  rw [ht]
  clear ht hf
  go_enter Tryz.func55, Tryz.ntmps55
  have hoa := hown.alloc (.cells #[.string ⟨c.frm.toArray⟩, .string ⟨[].toArray⟩, .int .i64 c.file] 114)
  clear hown
  go_wp2_with (at_delete; refine wpList_delete_own _ rfl _ _ 100 9 rfl 3 law9 Tryz.underlying100 _ b n D rfl hoa _ _ rfl hkey ?_; intro w1 hown1 hturn1; have c1 := turned_new hb hturn1 1; have HT := Lib.hid hturn1; have HO := Lib.hid hown1; clear hturn1 hown1 hoa hkey)
  go_end0
  exact ⟨rfl, HO.out, ((Fr.refl _ w).alloc _).trans (mapTurned_one HT.out) fun _ _ hj => hj⟩

set_option maxRecDepth 100000 in
set_option maxHeartbeats 800000 in
theorem apply_put (c : Ch) (b n : Nat) (D : DU) (w : World) (hown : w.ownsMap Tryz.prog 9 (plainElem Tryz.prog 3) b n D) (hf : c.frm.length ≤ maxLen) (hl : c.to.length ≤ maxLen) (ht : c.to ≠ []) (hn : n < maxLen) (hw : (Lit.int .i64 c.file).wf = true) :
    Calls Tryz.prog 55 #[.agg #[.string ⟨c.frm.toArray⟩, .string ⟨c.to.toArray⟩, .int .i64 c.file], .map (some b)] w fun e w' => e = .returned (.tuple #[]) ∧ w'.ownsMap Tryz.prog 9 (plainElem Tryz.prog 3) b (n + 1) ((D.del (.string c.frm)).put (.string c.to) (.lit (.int .i64 c.file))) ∧ Fr (One b) w w' := by
  have hb := hown.lt
  have hkey := key9 c.frm hf
  have hkey2 := key9 c.to hl
  have hval : plainElem (H := Unit) Tryz.prog 3 (.int .i64 c.file) = some (.lit (.int .i64 c.file), []) := plainElem_int Tryz.underlying3 hw
  have HK := Lib.hid hkey2
  have HV := Lib.hid hval
  have hte : (c.to == []) = false := by simpa using ht
  clear ht hf hl hw hkey2 hval
  go_enter Tryz.func55, Tryz.ntmps55
  have hoa := hown.alloc (.cells #[.string ⟨c.frm.toArray⟩, .string ⟨c.to.toArray⟩, .int .i64 c.file] 114)
  clear hown
  go_wp2_with (first
    | (at_delete; refine wpList_delete_own _ rfl _ _ 100 9 rfl 3 law9 Tryz.underlying100 _ b n D rfl hoa _ _ rfl hkey ?_; intro w1 hown1 hturn1; have c1 := turned_new hb hturn1 1; have c2 := turned_new hb hturn1 2; have HT := Lib.hid hturn1; have HO := Lib.hid hown1; clear hturn1 hown1 hoa hkey)
    | (at_mapUpdate; refine wpList_mapUpdate_in _ rfl _ _ _ 100 rfl 9 3 law9 Tryz.underlying100 _ b n _ rfl HO.out hn _ _ _ rfl rfl HK.out _ _ HV.out ?_; intro w2 hown2 hturn2; have HT2 := Lib.hid hturn2; have HO2 := Lib.hid hown2; clear hturn2 hown2))
  go_end0
  exact ⟨rfl, HO2.out, (((Fr.refl _ w).alloc _).trans (mapTurned_one HT.out) fun _ _ hj => hj).trans (mapTurned_one HT2.out) fun _ _ hj => hj⟩

theorem apply_any (c : Ch) (b n : Nat) (D : DU) (w : World) (hown : w.ownsMap Tryz.prog 9 (plainElem Tryz.prog 3) b n D) (hf : c.frm.length ≤ maxLen) (hl : c.to.length ≤ maxLen) (hn : n < maxLen) (hw : (Lit.int .i64 c.file).wf = true) :
    Calls Tryz.prog 55 #[.agg #[.string ⟨c.frm.toArray⟩, .string ⟨c.to.toArray⟩, .int .i64 c.file], .map (some b)] w fun e w' => e = .returned (.tuple #[]) ∧ w'.ownsMap Tryz.prog 9 (plainElem Tryz.prog 3) b (Maps.size (c.app D)) (c.app D) ∧ Fr (One b) w w' := by
  by_cases ht : c.to = []
  · refine (apply_gone c b n D w hown hf ht).mono ?_
    rintro e w' ⟨he, ho, hfr⟩
    rw [show c.app D = D.del (.string c.frm) from by unfold Ch.app; rw [if_pos ht]]
    exact ⟨he, owns_tight ho, hfr⟩
  · refine (apply_put c b n D w hown hf hl ht hn hw).mono ?_
    rintro e w' ⟨he, ho, hfr⟩
    rw [show c.app D = (D.del (.string c.frm)).put (.string c.to) (.lit (.int .i64 c.file)) from by unfold Ch.app; rw [if_neg ht]]
    exact ⟨he, owns_tight ho, hfr⟩

/-! ### alter -/
/-- The table of names has turned, and nothing else. -/
theorem At.named {w w' : World} {d b : Nat} {R : Rp} {S : AS} (h : At w d R S) (hnm : R.nm = some b) {D : DU} (hf : Fr (One b) w w') (ho : w'.ownsMap Tryz.prog 9 (plainElem Tryz.prog 3) b (Maps.size D) D) :
    At w' d R { S with names := D } := by
  have lt := h.lt
  have ne : ∀ k, foot d R S k → k ≠ b → w'.heap[k]? = w.heap[k]? := fun k hk hn => hf.block k (lt k hk) hn
  have hb := owns_map (b := b) (by have := h.names; rw [hnm] at this; exact this)
  obtain ⟨es, cl, hb⟩ := hb
  have cne : ∀ {k : Nat} {cs : Array Value} {t : TypeId} {fz : Nat × Nat}, w.heap[k]? = some (.cells cs t fz) → k ≠ b := fun hc e => map_ne_blk hb hc e.symm
  exact {
    blk := h.blk.of (ne _ (.inl rfl) (cne h.blk))
    names := by rw [hnm]; exact ho
    firm := h.firm.of fun k hk => ne _ (.inr (.inr (.inl hk))) fun e => h.ne1 b hnm (e ▸ hk)
    files := h.files.of fun k hk => ne _ (.inr (.inr (.inr (.inl hk)))) fun e => h.ne2 b hnm (e ▸ hk)
    loose := own_of h.loose fun k hk => ne _ (.inr (.inr (.inr (.inr (.inl hk))))) (by obtain ⟨cur, hc⟩ := own_row h.loose hk; exact cne hc)
    fd := fun n => (h.fd n).of fun r hr k hk => ne _ (.inr (.inr (.inr (.inr (.inr ⟨n, r, hr, hk⟩))))) (by
      have hf := h.fd n
      rw [hr] at hf
      rcases hk with rfl | hk
      · exact cne hf.2.1
      · obtain ⟨cur, hc⟩ := own_row hf.2.2 hk; exact cne hc)
    ne1 := h.ne1
    ne2 := h.ne2
    ne3 := h.ne3
    ap := h.ap
    onn := h.onn }

/-- The list of loose changes has turned, and nothing else. -/
theorem At.listed {w w' : World} {d : Nat} {R : Rp} {S : AS} (h : At w d R S) {L : List Ch} {lv : Value} (hf : Fr (fun k => k = d ∨ R.lv.ownBlock = some k) w w')
    (hb : Blk w' d 109 (cellsOf S { R with lv := lv })) (ho : w'.ownsRow 0 114 3 lv L.length (L.flatMap Ch.cells)) : At w' d { R with lv := lv } { S with loose := L } := by
  have lt := h.lt
  obtain ⟨a1, a2, a3, a4, a5⟩ := h.apart
  have ne : ∀ k, foot d R S k → k ≠ d → R.lv.ownBlock ≠ some k → w'.heap[k]? = w.heap[k]? := fun k hk hn hm => hf.block k (lt k hk) (by rintro (e | e); exact hn e; exact hm e)
  have mp : ∀ {K : TypeId} {E : Value → Option (DU × List MemPlace)} {m : Option Nat} {D : DU} {k : Nat}, MapAt w Tryz.prog K E m D → m = some k → R.lv.ownBlock ≠ some k := by
    intro K E m D k hm hk e
    subst hk
    obtain ⟨es, c, he⟩ := owns_map (b := k) hm
    obtain ⟨cur, hc⟩ := own_row h.loose e
    exact map_ne_blk he hc rfl
  exact {
    blk := hb
    names := h.names.of fun b hb => ne _ (.inr (.inl hb)) (fun e => a1 (e ▸ hb)) (mp h.names hb)
    firm := h.firm.of fun b hb => ne _ (.inr (.inr (.inl hb))) (fun e => a2 (e ▸ hb)) (mp h.firm hb)
    files := h.files.of fun b hb => ne _ (.inr (.inr (.inr (.inl hb)))) (fun e => a3 (e ▸ hb)) (mp h.files hb)
    loose := ho
    fd := fun n => (h.fd n).of fun r hr k hk => ne _ (.inr (.inr (.inr (.inr (.inr ⟨n, r, hr, hk⟩)))))
      (fun e => by
        rcases hk with hk | hk
        · exact (a5 n r hr).1 (hk ▸ e)
        · exact (a5 n r hr).2 (e ▸ hk))
      (fun e => (h.other hr hk).2.2.2.2.1 e)
    ne1 := h.ne1
    ne2 := h.ne2
    ne3 := h.ne3
    ap := h.ap
    onn := h.onn }

def AS.altered (S : AS) (c : Ch) : AS := { S with names := c.app S.names, loose := S.loose ++ [c] }

theorem alter_end {w w1 w3 : World} {d b g cap : Nat} {R : Rp} {S : AS} {c : Ch} {o : Obj} (hnm : R.nm = some b) (hfr : Fr (One b) w w1) (h1 : At w1 d R { S with names := c.app S.names })
    (hg : ((w1.alloc o).drew).grownBy w3 R.lv.ownBlock)
    (ho3 : w3.ownsRow 0 114 3 (.slice (some ⟨g, 0, none⟩) (S.loose.length + 1) cap) (S.loose.length + 1) (S.loose.flatMap Ch.cells ++ [.string ⟨c.frm.toArray⟩, .string ⟨c.to.toArray⟩, .int .i64 c.file]))
    (hb3 : Blk w3 d 109 (cellsOf S R)) (hat : R.lv.ownBlock = some g ∨ g = w1.heap.size + 1) :
    Post d R S w (S.altered c) (w3.setCell ⟨d, 7, none⟩ (.slice (some ⟨g, 0, none⟩) (S.loose.length + 1) cap)) := by
  have hgd : g ≠ d := own_blk_ne ho3 rfl hb3 (by decide)
  have hf : Fr (fun k => k = d ∨ R.lv.ownBlock = some k) w1 (w3.setCell ⟨d, 7, none⟩ (.slice (some ⟨g, 0, none⟩) (S.loose.length + 1) cap)) :=
    ((((Fr.refl _ w1).alloc o).drew).grown hg (fun k hk _ => .inr hk)).setCell (p := ⟨d, 7, none⟩) (fun _ => .inl rfl) _
  have ho4 : (w3.setCell ⟨d, 7, none⟩ (.slice (some ⟨g, 0, none⟩) (S.loose.length + 1) cap)).ownsRow 0 114 3 (.slice (some ⟨g, 0, none⟩) (S.loose.length + 1) cap) (S.loose ++ [c]).length ((S.loose ++ [c]).flatMap Ch.cells) := by
    have := own_of ho3 (w' := w3.setCell ⟨d, 7, none⟩ (.slice (some ⟨g, 0, none⟩) (S.loose.length + 1) cap)) (fun k hk => Below.heap_setCell _ _ _ _ (by
      simp [Value.ownBlock] at hk; subst hk; exact hgd))
    rw [List.length_append, List.flatMap_append]
    simpa [Ch.cells] using this
  have h4 := h1.listed hf (hb3.set_ 7 _) ho4
  have hfr' : Fr (foot d R S) w w1 := hfr.mono fun k _ hk => .inr (.inl (by rw [hnm, show k = b from hk]))
  refine ⟨_, h4, hfr'.trans hf (fun k _ hk => ?_), fun k hk => ?_⟩
  · rcases hk with hk | hk
    · exact .inl hk
    · exact .inr (.inr (.inr (.inr (.inl hk))))
  · rcases hk with hk | hk | hk | hk | hk | hk
    · exact .inl (.inl hk)
    · exact .inl (.inr (.inl hk))
    · exact .inl (.inr (.inr (.inl hk)))
    · exact .inl (.inr (.inr (.inr (.inl hk))))
    · have e : g = k := by simpa [Value.ownBlock] using hk
      subst e
      rcases hat with hat | hat
      · exact .inl (.inr (.inr (.inr (.inr (.inl hat)))))
      · exact .inr (by have := hfr.size; omega)
    · exact .inl (.inr (.inr (.inr (.inr (.inr hk)))))

theorem info73 : (Tryz.prog.info? 114).map (fun i => (i.zero, i.size, i.bytes)) = some (some (.agg #[.string ⟨#[]⟩, .string ⟨#[]⟩, .int .i64 0]), 3, 40) := by kernel_rfl

set_option maxRecDepth 100000 in
set_option maxHeartbeats 800000 in
theorem alter_any (d : Nat) (R : Rp) (S : AS) (c : Ch) (b : Nat) (w : World) (h : At w d R S) (hnm : R.nm = some b) (hf : c.frm.length ≤ maxLen) (hl : c.to.length ≤ maxLen) (hn : Maps.size S.names < maxLen) (hw : (Lit.int .i64 c.file).wf = true) (hll : S.loose.length < 3000000000000) :
    Calls Tryz.prog 166 #[.pointer (some ⟨d, 0, none⟩), .string ⟨c.frm.toArray⟩, .string ⟨c.to.toArray⟩, .int .i64 c.file] w fun e w' => e = .returned (.tuple #[]) ∧ Post d R S w (S.altered c) w' := by
  generalize hcs : (#[.string ⟨c.frm.toArray⟩, .string ⟨c.to.toArray⟩, .int .i64 c.file] : Array Value) = cs at *
  obtain ⟨w0, hw0⟩ : ∃ w0, w.alloc (.cells cs 114) = w0 := ⟨_, rfl⟩
  have f0 : Fr No w w0 := by rw [← hw0]; exact (Fr.refl _ w).alloc _
  have h0 := h.keep f0
  have hbk : Blk w0 w.heap.size 114 cs := by rw [← hw0]; exact Blk.new w 114 cs
  have hbl : b < w.heap.size := by have := h.names.lt b hnm; exact this
  have n0 : w0.cell? ⟨w.heap.size, 0, none⟩ = some (.string ⟨c.frm.toArray⟩) := by rw [hbk.cell, ← hcs]; rfl
  have n1 : w0.cell? ⟨w.heap.size, 1, none⟩ = some (.string ⟨c.to.toArray⟩) := by rw [hbk.cell, ← hcs]; rfl
  have n2 : w0.cell? ⟨w.heap.size, 2, none⟩ = some (.int .i64 c.file) := by rw [hbk.cell, ← hcs]; rfl
  have c5 := (cells_all h0).2.2.2.2.2.1
  rw [hnm] at c5
  have hown := h0.names
  rw [hnm] at hown
  have happ := apply_any c b _ S.names _ (World.ownsMap.drew hown) hf hl hn hw
  have HA := Lib.hid happ
  have H0 := Lib.hid h0
  have HF0 := Lib.hid f0
  have HB := Lib.hid hbk
  subst hcs
  clear happ hown h hf hl hn hw h0 f0 hbk
  go_enter Tryz.func166, Tryz.ntmps166
  go_wp2_with fail
  clear hw0
  go_still_tail 5, (by kernel_rfl)
  change wpList _ _ _ _ _ (World.drew _)
  go_wp2_with fail
  refine HA.out.mono ?_
  rintro e w1 ⟨rfl, ho1, hf1⟩
  have hfr : Fr (One b) w w1 := (HF0.out.any.drew).trans hf1 fun _ _ hj => hj
  have h1 := H0.out.named hnm (w' := w1) (D := c.app S.names) ⟨hf1.os, hf1.tape, hf1.output, hf1.size, hf1.block⟩ ho1
  have hb1 : Blk w1 w.heap.size 114 #[.string ⟨c.frm.toArray⟩, .string ⟨c.to.toArray⟩, .int .i64 c.file] := HB.out.of (hf1.block _ HB.out.lt (by
    intro e
    have := hbl
    unfold One at e
    omega))
  have d7 := (cells_all h1).2.2.2.2.2.2.2.1
  have m0 := hb1.cell 0
  have m1 := hb1.cell 1
  have m2 := hb1.cell 2
  have fz := h1.blk.frozen 7
  have HFR := Lib.hid hfr
  have H1 := Lib.hid h1
  clear hfr hf1 ho1 h1 hb1 n0 n1 n2 c5 HA
  obtain ⟨i0, hi0, hz0, hz1, hz2⟩ := info_parts info73
  have hlo : w1.ownsRow 0 114 3 R.lv S.loose.length (S.loose.flatMap Ch.cells) := H1.out.loose
  have HL := Lib.hid hlo
  clear hlo
  have hq : ∀ (o : Obj) (w3 : World), ((w1.alloc o).drew).grownBy w3 R.lv.ownBlock → w3.cell? ⟨d, 7, none⟩ = some R.lv ∧ w3.frozen? ⟨d, 7, none⟩ = false ∧ Blk w3 d 109 (cellsOf S R) := by
    intro o w3 hg
    have hdl := H1.out.blk.lt
    have hb3 : Blk w3 d 109 (cellsOf S R) := H1.out.blk.of ((hg.block d (by simp; omega) (fun e => H1.out.apart.2.2.2.1 e.symm)).trans (Below.heap_alloc w1 o d hdl))
    exact ⟨hb3.cell 7, hb3.frozen 7, hb3⟩
  have HQ := Lib.hid hq
  clear hq
  have hdl1 : d < w1.heap.size := H1.out.blk.lt
  go_wp2_with fail
  go_region_law (first | (refine step_append_lies _ (by rfl) _ _ _ (by rfl) 0 114 i0 _ 3 40 Tryz.underlying107 hi0 hz0 hz1 hz2 rfl (by omega) R.lv _ _ (by rfl) ((HL.out.alloc _).drew) ⟨w1.heap.size, 0, none⟩ 1 1 [.string ⟨c.frm.toArray⟩, .string ⟨c.to.toArray⟩, .int .i64 c.file] (by rfl) (by rfl) (World.news_of_block (cs := #[.string ⟨c.frm.toArray⟩, .string ⟨c.to.toArray⟩, .int .i64 c.file]) (t := 114) (fr := (0, 0)) (heap_alloc_new w1 _)) (by simp [Value.oneCell']) (by omega) (by unfold maxLen; omega) (by omega) (by simp) (w1.heap.size + 1) (by simp) ?_; intro g cap w3 hown3 hgrow hat hlt; have q7 := (HQ.out _ _ hgrow).1; have qf := (HQ.out _ _ hgrow).2.1; have HB3 := Lib.hid (HQ.out _ _ hgrow).2.2; have HG := Lib.hid hgrow; have HO3 := Lib.hid hown3; have HAT := Lib.hid hat; clear hgrow hown3 hat))
  all_goals (go_wp2; go_end0)
  all_goals exact ⟨rfl, alter_end hnm HFR.out H1.out HG.out HO3.out HB3.out HAT.out⟩

end Go.Proofs.YtikpojnmaiplnaaGreatDoor
/- How many bytes the files have. -/
namespace Go.Proofs.YtikpojnmaiplnaaGreatDoor
open Go.RowKit Go.Maps
set_option linter.unusedVariables false

/-- How long the file is that an entry of a table of names stands for. -/
def flen (f : Int → Option FR) (p : Lit × DU) : Int :=
  match p.2 with
  | .lit (.int .i64 n) => match f n with | some r => r.bytes.length | none => 0
  | _ => 0
def usedOf (f : Int → Option FR) (D : DU) : Int :=
  match D with
  | .map es => (es.map (flen f)).sum
  | _ => 0
def leftSum (f : Int → Option FR) (D : DU) (left : Lit → Bool) : Int :=
  match D with
  | .map es => ((es.filter fun p => left p.1).map (flen f)).sum
  | _ => 0

theorem flen_nonneg (f : Int → Option FR) (p : Lit × DU) : 0 ≤ flen f p := by
  unfold flen; split
  · split <;> omega
  · omega
theorem sum_nonneg (f : Int → Option FR) : ∀ l : List (Lit × DU), 0 ≤ (l.map (flen f)).sum
  | [] => by simp
  | p :: l => by have := sum_nonneg f l; have := flen_nonneg f p; simp; omega
theorem sum_le {f : Int → Option FR} {M : Int} (h : ∀ n r, f n = some r → (r.bytes.length : Int) ≤ M) (hM : 0 ≤ M) : ∀ l : List (Lit × DU), (l.map (flen f)).sum ≤ l.length * M
  | [] => by simp
  | p :: l => by
    have h1 := sum_le h hM l
    have h2 : flen f p ≤ M := by
      unfold flen; split
      · split
        · rename_i hr; exact h _ _ hr
        · exact hM
      · exact hM
    simp only [List.map_cons, List.sum_cons, List.length_cons]
    have : ((l.length + 1 : Nat) : Int) * M = l.length * M + M := by push_cast; rw [Int.add_mul]; omega
    omega

theorem sum_take (f : Int → Option FR) (left : Lit → Bool) (kl : Lit) (hk : WideAt.IsKeyLit kl) (hl : left kl = true) : ∀ es : List (Lit × DU), es.Pairwise (fun p q => p.1 ≠ q.1) → ∀ p ∈ es, p.1 = kl →
    ((es.filter fun p => left p.1).map (flen f)).sum = flen f p + ((es.filter fun p => left p.1 && !p.1.sameKey kl).map (flen f)).sum
  | [], _, _, hp, _ => by cases hp
  | x :: es, hd, p, hp, he => by
    obtain ⟨h1, h2⟩ := List.pairwise_cons.1 hd
    by_cases hx : x.1 = kl
    · have hpx : p = x := by
        rcases List.mem_cons.1 hp with h | h
        · exact h
        · exact absurd (hx.trans he.symm) (h1 p h)
      subst hpx
      have hrest : es.filter (fun p => left p.1 && !p.1.sameKey kl) = es.filter fun p => left p.1 := by
        apply List.filter_congr
        intro q hq
        rw [sameKey_ne (a := q.1) (b := kl) (fun e => h1 q hq (he.trans e.symm))]
        simp
      rw [List.filter_cons_of_pos (by rw [he]; exact hl), List.filter_cons_of_neg (by rw [he, WideAt.sameKey_self hk]; simp), hrest]
      simp
    · have hp' : p ∈ es := by
        rcases List.mem_cons.1 hp with h | h
        · subst h; exact absurd he hx
        · exact h
      have ih := sum_take f left kl hk hl es h2 p hp' he
      by_cases hlx : left x.1 = true
      · rw [List.filter_cons_of_pos (by exact hlx), List.filter_cons_of_pos (by rw [hlx, sameKey_ne hx]; rfl)]
        simp only [List.map_cons, List.sum_cons]
        omega
      · rw [List.filter_cons_of_neg (by simpa using hlx), List.filter_cons_of_neg (by simp [hlx])]
        exact ih

theorem leftSum_step (f : Int → Option FR) {D : DU} (ht : Tidy D) (left : Lit → Bool) (kl : Lit) (hk : WideAt.IsKeyLit kl) (hl : left kl = true) {n : Int} (hat : ∀ z, D.atKey kl z = .lit (.int .i64 n)) {r : FR} (hr : f n = some r) :
    leftSum f D left = r.bytes.length + leftSum f D (fun z => left z && !z.sameKey kl) := by
  obtain ⟨es, rfl, hp⟩ := ht
  have hh := has_true_of_atKey hat
  rw [has_eq, List.any_eq_true] at hh
  obtain ⟨p, hpm, hs⟩ := hh
  have hpk : p.1 = kl := by
    by_cases e : p.1 = kl
    · exact e
    · rw [sameKey_ne e] at hs; cases hs
  have hv : p.2 = .lit (.int .i64 n) := by
    have h1 := hat .nil
    simp only [DataW.atKey] at h1
    cases hf : es.find? (fun p => p.1.sameKey kl) with
    | none => rw [List.find?_eq_none] at hf; exact absurd hs (hf p hpm)
    | some q =>
      rw [hf] at h1
      have hq := List.mem_of_find?_eq_some hf
      have hqs := List.find?_some hf
      have hqk : q.1 = kl := by
        by_cases e : q.1 = kl
        · exact e
        · rw [sameKey_ne e] at hqs; cases hqs
      have : p = q := by
        have hpw := hp
        by_cases e : p = q
        · exact e
        · exact absurd (hpk.trans hqk.symm) (by
            intro he
            rcases List.getElem_of_mem hpm with ⟨i, hi, rfl⟩
            rcases List.getElem_of_mem hq with ⟨j, hj, rfl⟩
            have hij : i ≠ j := fun h => e (by subst h; rfl)
            rcases Nat.lt_or_gt_of_ne hij with h | h
            · exact List.pairwise_iff_getElem.1 hpw i j hi hj h he
            · exact List.pairwise_iff_getElem.1 hpw j i hj hi h he.symm)
      rw [this]; exact h1
  have := sum_take f left kl hk hl es hp p hpm hpk
  unfold leftSum
  simp only
  rw [this]
  congr 1
  unfold flen
  rw [hv]
  simp only [hr]

theorem leftSum_start (f : Int → Option FR) {D : DU} (ht : Tidy D) (hk : ∀ es, D = .map es → ∀ p ∈ es, WideAt.IsKeyLit p.1) : leftSum f D (has D) = usedOf f D := by
  obtain ⟨es, rfl, hp⟩ := ht
  unfold leftSum usedOf
  simp only
  congr 2
  rw [List.filter_eq_self]
  intro p hpm
  rw [has_eq, List.any_eq_true]
  exact ⟨p, hpm, WideAt.sameKey_self (hk es rfl p hpm)⟩
theorem leftSum_end (f : Int → Option FR) (D : DU) {left : Lit → Bool} (h : ∀ k, left k = false) : leftSum f D left = 0 := by
  unfold leftSum
  cases D with
  | map es =>
    have : es.filter (fun p => left p.1) = [] := by rw [List.filter_eq_nil_iff]; intro p _; simp [h]
    simp only [this]; rfl
  | _ => rfl
theorem leftSum_nonneg (f : Int → Option FR) (D : DU) (left : Lit → Bool) : 0 ≤ leftSum f D left := by
  unfold leftSum
  cases D with
  | map es => exact sum_nonneg f _
  | _ => simp
theorem usedOf_le {f : Int → Option FR} {M : Int} (h : ∀ n r, f n = some r → (r.bytes.length : Int) ≤ M) (hM : 0 ≤ M) (D : DU) : usedOf f D ≤ Maps.size D * M := by
  unfold usedOf
  cases D with
  | map es => exact sum_le h hM es
  | _ => simp [Maps.size]


theorem used_nil (w : World) : Calls Tryz.prog 24 #[.pointer none] w fun e w' => e = .returned (.int .i64 0) ∧ w = w' := by
  go_enter Tryz.func24, Tryz.ntmps24
  go_wp2
  go_ret
  exact ⟨rfl, rfl⟩

theorem key_string {x : Value} {kl : Lit} (h : keyOf Tryz.prog 9 x = some kl) : ∃ s, kl = .string s := by
  obtain ⟨s, _, e, _⟩ := Maps.keyOf_str Tryz.underlying9 h
  exact ⟨s, e⟩

set_option maxRecDepth 100000 in
set_option maxHeartbeats 1000000 in
theorem used_any (d : Nat) (R : Rp) (S : AS) (b : Nat) (w : World) (h : At w d R S) (hW : WF S) (hnm : R.nm = some b) (hsz : Maps.size S.names ≤ 1000000) :
    Calls Tryz.prog 24 #[.pointer (some ⟨d, 0, none⟩)] w fun e w' => e = .returned (.int .i64 (usedOf S.file S.names)) ∧ Fr No w w' := by
  have c5 := (cells_all h).2.2.2.2.2.1
  rw [hnm] at c5
  have hown := h.names
  rw [hnm] at hown
  have hown' : w.ownsMap Tryz.prog 9 (plainElem Tryz.prog 3) b (Maps.size S.names) S.names := hown
  clear hown
  have hU : usedOf S.file S.names ≤ 16777216000000 := by
    have := usedOf_le (f := S.file) (M := 16777216) (fun n r hr => by have := (hW.file n r hr).2.2.2; omega) (by omega) S.names
    omega
  go_enter Tryz.func24, Tryz.ntmps24
  go_wp2_with (first
    | (at_range; refine wpList_range_own _ rfl _ 100 rfl 9 3 law9 Tryz.underlying100 (plainElem Tryz.prog 3) b _ _ rfl hown' ?_; intro w0 hrg0 hg0 hs0)
    | go_in)
  go_frame
  go_loopw [3] (fun u wr => ∃ (left : Lit → Bool) (cnt : Nat) (acc : Int), u = .int .i64 acc ∧ wr.ranges Tryz.prog 9 (plainElem Tryz.prog 3) b w.heap.size (Maps.size S.names) S.names left cnt ∧ Fr No w wr ∧ acc + leftSum S.file S.names left = usedOf S.file S.names ∧ 0 ≤ acc)
    (fun _ wr => wr.rangeLeft b w.heap.size)
  case atStart =>
    obtain ⟨es, he, hp, hk⟩ := hown'.canon law9
    exact ⟨_, _, 0, rfl, hrg0, (Fr.refl _ w).grown hg0 (fun k hk => by cases hk), by
      rw [leftSum_start S.file (hown'.tidy law9) (fun es' e' => by rw [he] at e'; cases e'; exact hk)]; omega, by omega⟩
  case round =>
    obtain ⟨left, cnt, acc, rfl, hrg, hfr, hacc, h0⟩ := hrel
    have HW := Lib.hid hown'
    have H := Lib.hid h
    have HWF := Lib.hid hW
    have HC := Lib.hid hacc
    have HF := Lib.hid hfr
    have HE := Lib.hid hnm
    clear hown' h hW hacc hfr hnm c5 hg0 hrg0
    go_wp2_with (first
      | (at_next; refine wpList_next_ranges _ rfl _ rfl 9 law9 (plainElem Tryz.prog 3) id (Value.int .i64) (fun key _ _ => ⟨key, rfl⟩) (fun v y hv => by obtain ⟨c, rfl, _⟩ := plainElem_int_inv Tryz.underlying3 hv; exact ⟨c, rfl⟩) b w.heap.size _ _ _ _ rfl hrg ?_ ?_)
      | go_in)
    · intro hc0 hl0
      go_wp2
      go_ret
      have hacc := HC.out
      rw [leftSum_end _ _ hl0] at hacc
      exact ⟨ret_int (by omega), HF.out⟩
    · intro x c kl yl yp w1 cnt1 hkey hlx hv hat hrg1 hlt hg1 hs1 hen
      have hfr1 : Fr No w w1 := HF.out.grown hg1 (fun k hk hlt => by cases hk; omega)
      have h1 := H.out.keep hfr1
      obtain ⟨c', ec, ey, hwc⟩ := plainElem_int_inv Tryz.underlying3 hv
      cases ec
      cases ey
      obtain ⟨sk, rfl⟩ := key_string hkey
      have hlk : look S.names sk = some c := by unfold look; rw [hat .nil]
      obtain ⟨r, hr⟩ := HWF.out.ref sk c hlk
      have hfd := h1.fd c
      rw [hr] at hfd
      obtain ⟨hfa, hfb, hfo⟩ := hfd
      obtain ⟨fb, hfbe⟩ := H.out.fbs hr
      have hfl := h1.files
      rw [hfbe] at hfl
      have hrun2 := run_file (b := fb) hfl hwc hfa
      have c5 := (cells_all h1).2.2.2.2.2.1
      have c8 := (cells_all h1).2.2.2.2.2.2.2.2.1
      rw [hfbe] at c8
      obtain ⟨A, cp, hav⟩ := row_len hfo
      have c0 : w1.cell? ⟨(R.rc c).1, 0, none⟩ = some (R.rc c).2 := hfb.cell 0
      rw [hav] at c0
      have hstep := leftSum_step S.file (H.out.names.tidy law9) left _ (isKey sk) hlx hat hr
      have hnn := leftSum_nonneg S.file S.names (fun z => left z && !z.sameKey (.string sk))
      have hbd : acc + (r.bytes.length : Int) ≤ 16777216000000 := by have := HC.out; omega
      have HS := Lib.hid hstep
      have HR1 := Lib.hid hrg1
      have HF1 := Lib.hid hfr1
      have HRG := Lib.hid hrg
      clear hstep hrg1 hfr1 hrg h1 hfa hfb hfo hfl hav hfbe hr hlk hv hat hkey hlx hg1 hs1 hwc hnn
      go_wp2
      go_roundw
      case rel => exact ⟨_, _, _, rfl, HR1.out, HF1.out, by have := HC.out; have := HS.out; omega, by omega⟩
      case measure => rw [HR1.out.left_eq, HRG.out.left_eq]; exact hlt

end Go.Proofs.YtikpojnmaiplnaaGreatDoor
/- Write. -/
namespace Go.Proofs.YtikpojnmaiplnaaGreatDoor
open Go.RowKit Go.Maps Go.Sort
set_option linter.unusedVariables false

theorem mixed : Tryz.prog.follows .mixedOrders = true := by kernel_rfl

theorem At.regrown {w : World} {d : Nat} {R : Rp} {S : AS} (h : At w d R S) (dd : Nat) (os : Array Obj) : At (grow (redrawn w dd) os) d R S := h.below (below_regrown w dd os)

theorem on_of {on : Bool} {ss : List (List UInt8)} (h : checkOf on ss = 0) : on = true := by
  cases on
  · simp [checkOf] at h
  · rfl

theorem run_look_any {w : World} {b n : Nat} {D : DU} (h : w.ownsMap Tryz.prog 9 (plainElem Tryz.prog 3) b n D) {l : List UInt8} (hl : l.length ≤ maxLen) {o : Option Int} (hc : look D l = o) :
    (Instr.lookup 100 (.map (some b)) (.string ⟨l.toArray⟩) true).run Tryz.prog w = .ok (.tuple #[.int .i64 (o.getD 0), .bool o.isSome]) w := by
  cases o with
  | none => exact run_look_none h hl hc
  | some c => exact run_look_some h hl hc

/-- append of a text to a file's bytes. -/
theorem run_app {w : World} {v : Value} {n : Nat} {xs : List Value} (h : w.ownsRow 0 5 1 v n xs) (l : List UInt8) (hb : n + l.length ≤ 140737488355328) (ty : TypeId) :
    ∃ v' w', (Builtin.append_ #[65, 9] ty #[v, .string ⟨l.toArray⟩]).run Tryz.prog w = .ok v' w' ∧ w'.ownsRow 0 5 1 v' (n + l.length) (xs ++ l.map byteV) ∧ w.grownBy w' v.ownBlock ∧ ∀ k, v'.ownBlock = some k → v.ownBlock = some k ∨ w.heap.size ≤ k := by
  obtain ⟨i0, hi, hz, hs, hby⟩ := info_parts info5
  have hsz : (⟨l.toArray⟩ : ByteArray).size = l.length := by simp [ByteArray.size]
  have hsc : Lib.strCells ⟨l.toArray⟩ = l.map byteV := by simp [Lib.strCells, byteV]
  obtain ⟨v', w', hr, ho, hg, hnil⟩ := Lib.run_append_own_string w 0 65 9 ty 5 i0 Tryz.underlying65 Tryz.underlying9 hi hz hs hby v n xs h ⟨l.toArray⟩ (by rw [hsz]; unfold maxLen; omega) (by rw [hsz]; exact hb) (Nat.zero_le _)
  rw [hsz, hsc] at ho
  refine ⟨v', w', hr, ho, hg, fun k hk => ?_⟩
  rw [hsz] at hnil
  rcases h.2 with ⟨rfl, rfl⟩ | ⟨g, cap, cur, rfl, hbg, hh, hnc, hcm, hcs, ht⟩
  · by_cases h0 : l.length = 0
    · rw [hnil.2 ⟨rfl, h0⟩] at hk; simp [Value.ownBlock] at hk
    · have hr2 := run_append_nil_string w 65 9 ty 5 i0 _ Tryz.underlying65 Tryz.underlying9 hi hz ⟨l.toArray⟩ (by rw [hsz]; omega) (by rw [hsz]; omega) (by rw [hsz, hby]; omega)
      rw [hr2] at hr
      injection hr with e1 e2
      subst e1
      simp [Value.ownBlock] at hk
      exact .inr (by omega)
  · by_cases hroom : n + l.length ≤ cap
    · have hr2 := Lib.run_append_room_string (P := Tryz.prog) w 65 9 ty 5 i0 Tryz.underlying65 Tryz.underlying9 hi hs g n cap cur hh ⟨l.toArray⟩ (by rw [hsz]; exact hroom) (by rw [hsz]; omega)
      rw [hr2] at hr
      injection hr with e1 e2
      subst e1
      exact .inl hk
    · have hcells := h.cells (g := g) rfl
      have hr2 := Lib.run_append_grow_string (P := Tryz.prog) w 65 9 ty 5 i0 _ Tryz.underlying65 Tryz.underlying9 hi hz ⟨g, 0, none⟩ n cap xs (by rw [hs]; exact h.1) hcells ⟨l.toArray⟩ (by rw [hsz]; omega) (by rw [hsz]; omega) (by rw [hsz, hby]; exact growslice_fits (by omega) (by omega))
      rw [hr2] at hr
      injection hr with e1 e2
      subst e1
      simp [Value.ownBlock] at hk
      exact .inr (by omega)

section
variable {ops : Array Oper} {rest : List Oper} {o : Oper} {a : Act} {Q : Exit → Act → World → Prop} {w : World}
theorem wpList_app (hgd : o.guard = none) (sl x : Operand) (ho : o.op = .call { callee := .builtin .append, args := #[sl, x], argTypes := #[65, 9] })
    (v : Value) (n : Nat) (xs : List Value) (l : List UInt8) (hs : a.eval sl = v) (hx : a.eval x = .string ⟨l.toArray⟩) (hown : w.ownsRow 0 5 1 v n xs) (hb : n + l.length ≤ 140737488355328)
    (h : ∀ A c w', w'.ownsRow 0 5 1 (.slice A (n + l.length) c) (n + l.length) (xs ++ l.map byteV) → w.grownBy w' v.ownBlock → (∀ k, (Value.slice A (n + l.length) c).ownBlock = some k → v.ownBlock = some k ∨ w.heap.size ≤ k) → wpList Tryz.prog ops Q rest (a.put o.dst (.slice A (n + l.length) c)) w') : wpList Tryz.prog ops Q (o :: rest) a w := by
  refine wpList_plain hgd fun K hK => ?_
  obtain ⟨v', w', hr, h2, h3, h4⟩ := run_app hown l hb o.type
  obtain ⟨A, c, rfl⟩ := len_row h2
  unfold Oper.wp execOp
  simp only [ho, resolve, invoke, builtin, Sem.run_bind, Sem.run_pure, Result.andThen_ok, List.map_toArray, List.map_cons, List.map_nil, hs, hx, hr]
  exact hK _ _ (h A c w' h2 h3 h4)
end

/-- What holds of a disk's used bytes. -/
theorem used_bounds {w : World} {d : Nat} {R : Rp} {S : AS} (h : At w d R S) (hW : WF S) (hsz : Maps.size S.names ≤ 1000000) : usedOf S.file S.names ≤ 16777216000000 ∧ 0 ≤ usedOf S.file S.names := by
  refine ⟨?_, ?_⟩
  · have := usedOf_le (f := S.file) (M := 16777216) (fun n r hr => by have := (hW.file n r hr).2.2.2; omega) (by omega) S.names
    omega
  · obtain ⟨es, he, _⟩ := h.names.tidy law9
    rw [he]; exact sum_nonneg _ _
theorem used_regrown {w : World} {d b : Nat} {R : Rp} {S : AS} (h : At w d R S) (hW : WF S) (e1 : R.nm = some b) (hsz : Maps.size S.names ≤ 1000000) (dd : Nat) (os : Array Obj) :
    Calls Tryz.prog 24 #[.pointer (some ⟨d, 0, none⟩)] (grow (redrawn w dd) os) fun e w'' => e = .returned (.int .i64 (usedOf S.file S.names)) ∧ ∃ p : Regrown, w'' = grow (redrawn w p.d) p.os :=
  Calls.regrown_of ((used_any d R S b (grow (redrawn w dd) os) (h.regrown dd os) hW e1 hsz).mono fun e w' ⟨he, hf⟩ => ⟨he, hf.below⟩)

set_option maxRecDepth 100000 in
set_option maxHeartbeats 1000000 in
theorem write_full1 (d : Nat) (R : Rp) (S : AS) (l : List UInt8) (o : Option Int) (data : ByteArray) (w : World) (h : At w d R S) (hW : WF S) (hl : l.length ≤ maxLen) (hE : checkOf S.on [l] = 0) (hn : look S.names l = o)
    (hsz : Maps.size S.names ≤ 1000000) (hd : data.size ≤ maxLen) (hfull : S.room < usedOf S.file S.names + data.size) :
    Calls Tryz.prog 110 #[.pointer (some ⟨d, 0, none⟩), .string ⟨l.toArray⟩, .string data] w fun e w' => e = .returned (.int .i64 12) ∧ Fr No w w' := by
  have hcon := check_new d R S l 0 w h hE hl
  have hon := on_of hE
  obtain ⟨nb, fb, e1, e2⟩ := h.onn hon
  obtain ⟨w1, hw1⟩ : ∃ w1, w.alloc (.cells #[.string ⟨l.toArray⟩] 9) = w1 := ⟨_, rfl⟩
  have f1 : Fr No w w1 := by rw [← hw1]; exact (Fr.refl _ w).alloc _
  rw [hw1] at hcon
  have h1 := h.keep f1
  have hnm := h1.names
  rw [e1] at hnm
  have hrun := run_look_any (b := nb) hnm hl hn
  have c5 := (cells_all h1).2.2.2.2.2.1
  rw [e1] at c5
  have hused := used_regrown h1 hW e1 hsz
  have HU := Lib.hid hused
  have c0 : ∀ dd os, (grow (redrawn w1 dd) os).cell? ⟨d, 0, none⟩ = some (.int .i64 S.room) := fun dd os => (cells_all (h1.regrown dd os)).1
  have hU := used_bounds h hW hsz
  obtain ⟨hU1, hU2⟩ := hU
  have hr := hW.room
  generalize hu : usedOf S.file S.names = U at *
  have hu' := Lib.hid hu
  unfold maxLen at hd
  have t1 : IntKind.i64.wrap (S.room - U) = S.room - U := IntWalk.i64_in _ (by omega)
  have t2 : decide (S.room - U < (data.size : Int)) = true := by simp; omega
  have HF := Lib.hid f1
  have HC := Lib.hid hcon
  clear hused hu hn hE h hW hon e1 e2 h1 hnm f1 hl hcon
  go_enter Tryz.func110, Tryz.ntmps110
  go_wp2_with fail
  refine HC.out.mono ?_
  rintro e w' ⟨rfl, rfl⟩
  go_wp2_with fail
  refine wp_region_quiet_below mixed (by kernel_rfl) ?_
  repeat (first | go_big_quiet_step (exact HU.out _ _) | quiet_step (exact HU.out _ _))
  refine wpQuiet_nil ?_
  rintro w2 ⟨p, rfl⟩
  go_wp2
  go_ret
  exact ⟨rfl, HF.out.trans (Fr.of_below (below_regrown w1 p.d p.os)) fun _ _ hj => hj⟩

end Go.Proofs.YtikpojnmaiplnaaGreatDoor
/- Rows of bytes that begin anywhere in a block of their own: appended to, read, cut. -/
namespace Go.Proofs.YtikpojnmaiplnaaGreatDoor
open Go.RowKit Go.Maps
set_option linter.unusedVariables false

theorem kinfo5 : (Tryz.prog.info? 5).map (fun i => (i.zero, i.size, i.bytes)) = some (some (.int .u8 0), 1, 1) := by kernel_rfl

/-- v is a row of bytes in a block of its own, and reads as l. -/
def RowB (w : World) (v : Value) (l : List UInt8) : Prop :=
  (v = .slice none 0 0 ∧ l = []) ∨
  ∃ g off cap cur, v = .slice (some ⟨g, off, none⟩) l.length cap ∧ w.heap[g]? = some (.cells cur 5 (0, 0)) ∧ l.length ≤ cap ∧ cap ≤ maxLen ∧ cur.size = off + cap ∧ (cur.toList.drop off).take l.length = l.map byteV

theorem RowB.nil (w : World) : RowB w (.slice none 0 0) [] := .inl ⟨rfl, rfl⟩

theorem RowB.of {w w' : World} {v : Value} {l : List UInt8} (h : RowB w v l) (hk : ∀ k, v.ownBlock = some k → w'.heap[k]? = w.heap[k]?) : RowB w' v l := by
  rcases h with h | ⟨g, off, cap, cur, rfl, hg, r⟩
  · exact .inl h
  · exact .inr ⟨g, off, cap, cur, rfl, (hk g rfl).trans hg, r⟩

theorem RowB.block {w : World} {v : Value} {l : List UInt8} (h : RowB w v l) {k : Nat} (hk : v.ownBlock = some k) : ∃ cur, w.heap[k]? = some (.cells cur 5 (0, 0)) := by
  rcases h with ⟨rfl, _⟩ | ⟨g, off, cap, cur, rfl, hg, r⟩
  · simp [Value.ownBlock] at hk
  · simp [Value.ownBlock] at hk; subst hk; exact ⟨cur, hg⟩

theorem RowB.lt {w : World} {v : Value} {l : List UInt8} (h : RowB w v l) {k : Nat} (hk : v.ownBlock = some k) : k < w.heap.size := by
  obtain ⟨cur, hc⟩ := h.block hk
  rcases Nat.lt_or_ge k w.heap.size with hlt | hge
  · exact hlt
  · rw [Array.getElem?_eq_none hge] at hc; cases hc

theorem RowB.len {w : World} {v : Value} {l : List UInt8} (h : RowB w v l) : ∃ A c, v = .slice A l.length c := by
  rcases h with ⟨rfl, rfl⟩ | ⟨g, off, cap, cur, rfl, _⟩
  · exact ⟨_, _, rfl⟩
  · exact ⟨_, _, rfl⟩

/-- len of it. -/
theorem RowB.run_len {w : World} {v : Value} {l : List UInt8} (h : RowB w v l) (ty : TypeId) : (Builtin.len_ #[65] ty #[v]).run Tryz.prog w = .ok (.int .i64 l.length) w := by
  obtain ⟨A, c, rfl⟩ := h.len
  simp [Builtin.len_, run_underlying Tryz.underlying65, goInt]

theorem strCells_eq (S : ByteArray) : Lib.strCells S = S.data.toList.map byteV := rfl

/-- append(v, S...). -/
theorem RowB.run_put' {w : World} {v : Value} {l : List UInt8} (h : RowB w v l) (S : ByteArray) (ty : TypeId) (hlen : l.length + S.size ≤ 140737488355328) :
    ∃ v' w', (Builtin.append_ #[65, 9] ty #[v, .string S]).run Tryz.prog w = .ok v' w' ∧ RowB w' v' (l ++ S.data.toList) ∧ w.grownBy w' v.ownBlock ∧ (∀ k, v'.ownBlock = some k → v.ownBlock = some k ∨ w.heap.size ≤ k) := by
  obtain ⟨i0, hi, hz0, hz1, hz2⟩ := info_parts kinfo5
  have hss : S.data.toList.length = S.size := by simp
  have hscl : (Lib.strCells S).length = S.size := Lib.strCells_length S
  rcases h with ⟨rfl, rfl⟩ | ⟨g, off, cap, cur, rfl, hg, hnc, hcm, hcs, htk⟩
  · obtain ⟨v', w', hr, ho, hgr, hn⟩ := Lib.run_append_own_string (P := Tryz.prog) w w.heap.size 65 9 ty 5 i0 Tryz.underlying65 Tryz.underlying9 hi hz0 hz1 hz2 (.slice none 0 0) 0 [] (World.ownsRow_nil w _ 5 1) S (by unfold maxLen; simp at hlen; omega) (by simp at hlen; omega) (Nat.le_refl _)
    rw [strCells_eq] at ho
    refine ⟨v', w', hr, ?_, hgr, fun k hk => .inr (ho.lt k hk).1⟩
    rcases ho.2 with ⟨rfl, h0⟩ | ⟨g, cap, cur, rfl, hb, hh, hnc, hcm, hs, ht⟩
    · have : S.data.toList = [] := List.eq_nil_of_length_eq_zero (by omega)
      rw [this]
      exact .inl ⟨rfl, rfl⟩
    · refine .inr ⟨g, 0, cap, cur, by simp, hh, by simpa using hnc, hcm, by omega, ?_⟩
      simpa using ht
  · by_cases hroom : l.length + S.size ≤ cap
    · have hf := Lib.run_firstCells_string (P := Tryz.prog) w 1 S
      have hst := run_storeCells_at Tryz.prog g (off + l.length) 5 (Lib.strCells S) 0 cur w hg (by omega) (Lib.strCells_oneCell _)
      simp only [Nat.add_zero, hscl] at hst
      have hr : (Builtin.append_ #[65, 9] ty #[.slice (some ⟨g, off, none⟩) l.length cap, .string S]).run Tryz.prog w = .ok (.slice (some ⟨g, off, none⟩) (l.length + S.size) cap) (w.setRow g (cur.toList.take (off + l.length) ++ Lib.strCells S ++ cur.toList.drop (off + l.length + S.size)).toArray) := by
        simp [Builtin.append_, run_underlying Tryz.underlying65, run_underlying Tryz.underlying9, sizeOf, typeInfo, hi, hz1, Builtin.lenOf, hroom, hf, Addr.add_lit, hst]
      refine ⟨_, _, hr, .inr ⟨g, off, cap, _, by simp, setRow_heap w g cur _ 5 _ hg, by simpa using hroom, hcm, ?_, ?_⟩, ⟨rfl, rfl, rfl, by simp, fun k _ hk => setRow_other w g k _ (fun e => hk (by simp [Value.ownBlock, e]))⟩, fun k hk => .inl hk⟩
      · simp [hscl]; omega
      · have hl1 : (cur.toList.take (off + l.length)).length = off + l.length := by simp; omega
        have hd : (cur.toList.take (off + l.length)).drop off = l.map byteV := by rw [← htk, List.drop_take, Nat.add_sub_cancel_left]
        simp only [List.append_assoc, List.length_append, List.map_append]
        rw [List.drop_append_of_le_length (by omega), hd, strCells_eq, ← List.append_assoc]
        exact List.take_left' (by simp)
    · have holds : ∀ j u, (l.map byteV)[j]? = some u → w.cell? ((⟨g, off, none⟩ : Addr).add j) = some u := by
        intro j u hu
        rw [Addr.add_lit, cell_of_row w g (off + j) cur 5 (0, 0) hg]
        rw [← htk, List.getElem?_take] at hu
        split at hu
        · simpa using hu
        · cases hu
      have hr := Lib.run_append_grow_string (P := Tryz.prog) w 65 9 ty 5 i0 (.int .u8 0) Tryz.underlying65 Tryz.underlying9 hi hz0 ⟨g, off, none⟩ l.length cap (l.map byteV) (by rw [hz1, List.length_map, Nat.mul_one]) holds S (by omega) (by omega) (by rw [hz2]; exact growslice_fits (by omega) (by omega))
      have hge := grownCap_ge w (l.length + S.size) cap 5
      have hcm' : grownCap w (l.length + S.size) cap 5 ≤ maxLen := grownCap_le_maxLen w (l.length + S.size) cap 5 (by unfold maxLen; omega)
      have hz1' : (Value.int IntKind.u8 0).cells.size = 1 := rfl
      refine ⟨_, _, hr, .inr ⟨w.heap.size, 0, _, _, by simp, heap_alloc_new w.drew _, by simpa using hge, hcm', ?_, ?_⟩, ⟨rfl, rfl, rfl, by simp, fun k hk _ => heap_alloc_old w.drew _ hk⟩, fun k hk => .inr ?_⟩
      · simp only [Array.size_append, List.size_toArray, size_zeroCells, hz1', hscl, List.length_map]
        omega
      · simp only [Array.toList_append, List.append_assoc, strCells_eq, List.drop_zero, List.length_append, List.map_append]
        rw [← List.append_assoc]
        exact List.take_left' (by simp)
      · simp [Value.ownBlock] at hk; omega
theorem RowB.run_put {w : World} {v : Value} {l : List UInt8} (h : RowB w v l) (s : List UInt8) (ty : TypeId) (hlen : l.length + s.length ≤ 140737488355328) :
    ∃ v' w', (Builtin.append_ #[65, 9] ty #[v, .string ⟨s.toArray⟩]).run Tryz.prog w = .ok v' w' ∧ RowB w' v' (l ++ s) ∧ w.grownBy w' v.ownBlock ∧ (∀ k, v'.ownBlock = some k → v.ownBlock = some k ∨ w.heap.size ≤ k) :=
  h.run_put' ⟨s.toArray⟩ ty (by simpa [ByteArray.size] using hlen)

/-- The bytes, as a text. -/
theorem RowB.run_text {w : World} {v : Value} {l : List UInt8} (h : RowB w v l) (k : Nat) (hk : k ≤ l.length) :
    ∃ v', (Instr.slice 65 v none (some (.int .i64 k)) none).run Tryz.prog w = .ok v' w ∧ (convert 65 9 v').run Tryz.prog w = .ok (.string ⟨(l.take k).toArray⟩) w := by
  obtain ⟨i0, hi, hz0, hz1, hz2⟩ := info_parts kinfo5
  have hel : Tryz.prog.underlying 65 = some (.slice (Tryz.prog.elem 65)) := by kernel_rfl
  have hsz : (sizeOf (Tryz.prog.elem 65)).run Tryz.prog w = .ok 1 w := by
    have e : Tryz.prog.elem 65 = 5 := by kernel_rfl
    rw [e]
    simp [sizeOf, typeInfo, hi, hz1]
  rcases h with ⟨rfl, rfl⟩ | ⟨g, off, cap, cur, rfl, hg, hnc, hcm, hcs, htk⟩
  · obtain rfl : k = 0 := by simpa using hk
    have hr := run_slice_h (P := Tryz.prog) w 65 none 0 0 hel .i64 (0 : Nat) (by simp) (by simp)
    rw [hsz] at hr
    refine ⟨_, hr, ?_⟩
    exact run_convert_bytes_nil w 65 5 Tryz.underlying65 Tryz.underlying5 0 0 9 Tryz.underlying9
  · have hr := run_slice_h (P := Tryz.prog) w 65 (some ⟨g, off, none⟩) l.length cap hel .i64 (k : Nat) (by simp) (by omega)
    rw [hsz] at hr
    refine ⟨_, hr, ?_⟩
    have ea : (if cap = 0 then (some ⟨g, off, none⟩ : Option Addr) else (some (⟨g, off, none⟩ : Addr)).map (·.add (0 * 1))) = some ⟨g, off, none⟩ := by
      split
      · rfl
      · simp [Addr.add_lit]
    simp only [sliced, ea, Int.toNat_natCast, Nat.sub_zero]
    have hcell : ∀ i, i < k → w.cell? ⟨g, off + i, none⟩ = some (.int .u8 (((l.take k).map fun u => (u.toNat : Int)).getD i 0)) := by
      intro i hi
      rw [cell_of_row w g (off + i) cur 5 (0, 0) hg]
      have h1 : (l.map byteV)[i]? = some (byteV l[i]) := by rw [List.getElem?_map, List.getElem?_eq_getElem (by omega)]; rfl
      rw [← htk, List.getElem?_take] at h1
      rw [if_pos (by omega), List.getElem?_drop] at h1
      rw [← Array.getElem?_toList, h1]
      simp [byteV, List.getD, hi, List.getElem?_eq_getElem (show i < l.length by omega)]
    have h2 := run_convert_bytes_arg w 65 5 Tryz.underlying65 Tryz.underlying5 g off k cap ((l.take k).map fun u => (u.toNat : Int)) (by simp; omega) hcell 9 Tryz.underlying9
    refine h2.trans ?_
    have e2 : strOfNums ((l.take k).map fun u => (u.toNat : Int)) = ⟨(l.take k).toArray⟩ := by
      unfold strOfNums
      rw [List.map_map]
      have : ((fun n : Int => UInt8.ofNat n.toNat) ∘ fun u : UInt8 => (u.toNat : Int)) = id := by
        funext u; simp
      rw [this, List.map_id]
    rw [e2]

/-- What is left behind the first k; where none is left it is of no account. -/
theorem RowB.run_rest {w : World} {v : Value} {l : List UInt8} (h : RowB w v l) (k : Nat) (hk : k ≤ l.length) :
    ∃ A c, (Instr.slice 65 v (some (.int .i64 k)) none none).run Tryz.prog w = .ok (.slice A (l.length - k) c) w ∧ (k < l.length → RowB w (.slice A (l.length - k) c) (l.drop k) ∧ (Value.slice A (l.length - k) c).ownBlock = v.ownBlock) := by
  obtain ⟨i0, hi, hz0, hz1, hz2⟩ := info_parts kinfo5
  have hel : Tryz.prog.underlying 65 = some (.slice (Tryz.prog.elem 65)) := by kernel_rfl
  have hsz : (sizeOf (Tryz.prog.elem 65)).run Tryz.prog w = .ok 1 w := by
    have e : Tryz.prog.elem 65 = 5 := by kernel_rfl
    rw [e]
    simp [sizeOf, typeInfo, hi, hz1]
  rcases h with ⟨rfl, rfl⟩ | ⟨g, off, cap, cur, rfl, hg, hnc, hcm, hcs, htk⟩
  · obtain rfl : k = 0 := by simpa using hk
    have hr := run_slice_l (P := Tryz.prog) w 65 none 0 0 hel .i64 (0 : Nat) (by simp) (by simp)
    rw [hsz] at hr
    exact ⟨_, _, hr, fun hlt => by simp at hlt⟩
  · have hr := run_slice_l (P := Tryz.prog) w 65 (some ⟨g, off, none⟩) l.length cap hel .i64 (k : Nat) (by simp) (by omega)
    rw [hsz] at hr
    refine ⟨_, _, hr, fun hlt => ?_⟩
    have ea : (if cap = (k : Int).toNat then (some ⟨g, off, none⟩ : Option Addr) else (some (⟨g, off, none⟩ : Addr)).map (·.add ((k : Int).toNat * 1))) = some ⟨g, off + k, none⟩ := by
      rw [if_neg (by simp; omega)]
      simp [Addr.add_lit]
    rw [ea]
    refine ⟨.inr ⟨g, off + k, cap - k, cur, by simp, hg, by simp; omega, by omega, by omega, ?_⟩, rfl⟩
    rw [List.length_drop, ← List.drop_drop, List.map_drop, ← htk, List.drop_take]

end Go.Proofs.YtikpojnmaiplnaaGreatDoor
/- The check of a text, plain: step by step, half a byte at once, and that one turned byte turns it. Numbers as bytes. -/
namespace Go.Proofs.YtikpojnmaiplnaaGreatDoor

/-! ### the check -/
theorem xor_lcomm (a b c : Nat) : a ^^^ (b ^^^ c) = b ^^^ (a ^^^ c) := by rw [← Nat.xor_assoc, Nat.xor_comm a b, Nat.xor_assoc]
theorem xor_eq_zero {a b : Nat} (h : a ^^^ b = 0) : a = b := by
  have e : a = a ^^^ b ^^^ b := by rw [Nat.xor_assoc, Nat.xor_self, Nat.xor_zero]
  rw [e, h, Nat.zero_xor]
def poly : Nat := 3988292384
def stp (c : Nat) : Nat := c / 2 ^^^ (c % 2) * poly
def stn : Nat → Nat → Nat
  | 0, c => c
  | n + 1, c => stn n (stp c)
def feed (c b : Nat) : Nat := stn 8 (c ^^^ b)
def runc (c : Nat) (l : List UInt8) : Nat := l.foldl (fun c b => feed c b.toNat) c
def crc (l : List UInt8) : Nat := runc 4294967295 l ^^^ 4294967295

theorem stp_lt {c : Nat} (h : c < 2 ^ 32) : stp c < 2 ^ 32 := by
  unfold stp poly
  exact Nat.xor_lt_two_pow (by omega) (by have : c % 2 < 2 := Nat.mod_lt _ (by decide); omega)
theorem stn_lt {n : Nat} : ∀ {c : Nat}, c < 2 ^ 32 → stn n c < 2 ^ 32 := by
  induction n with
  | zero => intro c h; exact h
  | succ n ih => intro c h; exact ih (stp_lt h)
theorem stp_xor (a b : Nat) : stp (a ^^^ b) = stp a ^^^ stp b := by
  have hd : (a ^^^ b) / 2 = a / 2 ^^^ b / 2 := Nat.xor_div_two
  have hm : (a ^^^ b) % 2 = a % 2 ^^^ b % 2 := by simpa using @Nat.xor_mod_two_pow a b 1
  unfold stp
  rw [hd, hm]
  have ha : a % 2 = 0 ∨ a % 2 = 1 := by omega
  have hb : b % 2 = 0 ∨ b % 2 = 1 := by omega
  rcases ha with ha | ha <;> rcases hb with hb | hb <;> rw [ha, hb]
  · simp
  · simp [Nat.xor_assoc]
  · simp
    rw [Nat.xor_assoc, Nat.xor_comm (b / 2) poly, ← Nat.xor_assoc]
  · simp
    rw [Nat.xor_assoc, xor_lcomm poly, Nat.xor_self, Nat.xor_zero]
theorem stn_xor (n : Nat) : ∀ a b : Nat, stn n (a ^^^ b) = stn n a ^^^ stn n b := by
  induction n with
  | zero => intro a b; rfl
  | succ n ih => intro a b; show stn n (stp (a ^^^ b)) = _; rw [stp_xor, ih]; rfl
theorem stp_even (h : Nat) : stp (2 * h) = h := by
  unfold stp
  rw [show 2 * h / 2 = h by omega, show 2 * h % 2 = 0 by omega]; simp
theorem stn4_hi (h : Nat) : stn 4 (16 * h) = h := by
  show stp (stp (stp (stp (16 * h)))) = h
  rw [show 16 * h = 2 * (8 * h) by omega, stp_even, show 8 * h = 2 * (4 * h) by omega, stp_even, show 4 * h = 2 * (2 * h) by omega, stp_even, stp_even]
theorem split16 (c : Nat) : c = 16 * (c / 16) ^^^ c % 16 := by
  have hd := @Nat.xor_div_two_pow (16 * (c / 16)) (c % 16) 4
  have hm := @Nat.xor_mod_two_pow (16 * (c / 16)) (c % 16) 4
  rw [show (16 * (c / 16)) / 2 ^ 4 = c / 16 by omega, show (c % 16) / 2 ^ 4 = 0 by omega, Nat.xor_zero] at hd
  rw [show (16 * (c / 16)) % 2 ^ 4 = 0 by omega, show (c % 16) % 2 ^ 4 = c % 16 by omega, Nat.zero_xor] at hm
  omega
theorem stn4 (c : Nat) : stn 4 c = c / 16 ^^^ stn 4 (c % 16) := by
  conv => lhs; rw [split16 c]
  rw [stn_xor, stn4_hi]
theorem stn8 (c : Nat) : stn 8 c = stn 4 (stn 4 c) := rfl
theorem stn_succ (n c : Nat) : stn (n + 1) c = stn n (stp c) := rfl
theorem stn_last (n : Nat) : ∀ c : Nat, stn (n + 1) c = stp (stn n c) := by
  induction n with
  | zero => intro c; rfl
  | succ n ih => intro c; rw [stn_succ, ih]; rfl
theorem feed_lt {c b : Nat} (hc : c < 2 ^ 32) (hb : b < 256) : feed c b < 2 ^ 32 := stn_lt (Nat.xor_lt_two_pow hc (by omega))
theorem runc_lt : ∀ (l : List UInt8) {c : Nat}, c < 2 ^ 32 → runc c l < 2 ^ 32 := by
  intro l
  induction l with
  | nil => intro c h; exact h
  | cons b l ih => intro c h; exact ih (feed_lt h b.toNat_lt)
theorem crc_lt (l : List UInt8) : crc l < 2 ^ 32 := Nat.xor_lt_two_pow (runc_lt l (by decide)) (by decide)
theorem runc_snoc (c : Nat) (l : List UInt8) (b : UInt8) : runc c (l ++ [b]) = feed (runc c l) b.toNat := by simp [runc]
theorem runc_append (c : Nat) (l m : List UInt8) : runc c (l ++ m) = runc (runc c l) m := by simp [runc]

/-! a step is one to one -/
theorem stp_zero {c : Nat} (h : c < 2 ^ 32) (h0 : stp c = 0) : c = 0 := by
  unfold stp at h0
  have hm : c % 2 = 0 ∨ c % 2 = 1 := by omega
  rcases hm with hm | hm
  · rw [hm, Nat.zero_mul, Nat.xor_zero] at h0; omega
  · rw [hm, Nat.one_mul] at h0
    exfalso
    have e : c / 2 = poly := xor_eq_zero h0
    unfold poly at e; omega
theorem stn_zero {n : Nat} : ∀ {c : Nat}, c < 2 ^ 32 → stn n c = 0 → c = 0 := by
  induction n with
  | zero => intro c _ h; exact h
  | succ n ih => intro c h h0; exact stp_zero h (ih (stp_lt h) h0)
theorem stn_inj {n a b : Nat} (ha : a < 2 ^ 32) (hb : b < 2 ^ 32) (h : stn n a = stn n b) : a = b := by
  have : stn n (a ^^^ b) = 0 := by rw [stn_xor, h, Nat.xor_self]
  exact xor_eq_zero (stn_zero (Nat.xor_lt_two_pow ha hb) this)
theorem xor_right_inj {a b c : Nat} (h : a ^^^ c = b ^^^ c) : a = b := by
  have := congrArg (· ^^^ c) h
  simpa [Nat.xor_assoc] using this
theorem xor_left_inj {a b c : Nat} (h : c ^^^ a = c ^^^ b) : a = b := by
  rw [Nat.xor_comm c a, Nat.xor_comm c b] at h; exact xor_right_inj h
theorem feed_inj {a b : Nat} (c : UInt8) (ha : a < 2 ^ 32) (hb : b < 2 ^ 32) (h : feed a c.toNat = feed b c.toNat) : a = b :=
  xor_right_inj (stn_inj (Nat.xor_lt_two_pow ha (Nat.lt_trans c.toNat_lt (by decide))) (Nat.xor_lt_two_pow hb (Nat.lt_trans c.toNat_lt (by decide))) h)
theorem feed_byte {a : Nat} (c d : UInt8) (ha : a < 2 ^ 32) (h : feed a c.toNat = feed a d.toNat) : c = d :=
  UInt8.toNat_inj.1 (xor_left_inj (stn_inj (Nat.xor_lt_two_pow ha (Nat.lt_trans c.toNat_lt (by decide))) (Nat.xor_lt_two_pow ha (Nat.lt_trans d.toNat_lt (by decide))) h))
theorem runc_inj : ∀ (l : List UInt8) {a b : Nat}, a < 2 ^ 32 → b < 2 ^ 32 → runc a l = runc b l → a = b := by
  intro l
  induction l with
  | nil => intro a b _ _ h; exact h
  | cons c l ih => intro a b ha hb h; exact feed_inj c ha hb (ih (feed_lt ha c.toNat_lt) (feed_lt hb c.toNat_lt) h)
/-- A text of which one byte was turned has another check. -/
theorem crc_turned (l m : List UInt8) (c d : UInt8) (hne : c ≠ d) : crc (l ++ c :: m) ≠ crc (l ++ d :: m) := by
  intro h
  have h1 := xor_right_inj h
  rw [runc_append, runc_append] at h1
  have hl := runc_lt l (c := 4294967295) (by decide)
  exact hne (feed_byte c d hl (runc_inj m (feed_lt hl c.toNat_lt) (feed_lt hl d.toNat_lt) h1))

/-! ### numbers as bytes, the lowest first -/
/-- k bytes of n. -/
def low (n : Nat) : Nat → List UInt8
  | 0 => []
  | k + 1 => UInt8.ofNat (n % 256) :: low (n / 256) k
/-- the number whose bytes these are -/
def num : List UInt8 → Nat
  | [] => 0
  | b :: l => b.toNat + 256 * num l
theorem low_len (k : Nat) : ∀ n, (low n k).length = k := by
  induction k with
  | zero => intro n; rfl
  | succ k ih => intro n; simp [low, ih]
theorem num_low (k : Nat) : ∀ n, num (low n k) = n % 256 ^ k := by
  induction k with
  | zero => intro n; simp [low, num, Nat.mod_one]
  | succ k ih =>
    intro n
    have e : (UInt8.ofNat (n % 256)).toNat = n % 256 := by simp
    rw [low, num, ih, e, Nat.pow_succ, Nat.mul_comm (256 ^ k) 256, Nat.mod_mul]
theorem num_low_of {k n : Nat} (h : n < 256 ^ k) : num (low n k) = n := by rw [num_low, Nat.mod_eq_of_lt h]
theorem num_lt : ∀ l : List UInt8, num l < 256 ^ l.length := by
  intro l
  induction l with
  | nil => simp [num]
  | cons b l ih =>
    have := b.toNat_lt
    simp only [num, List.length_cons, Nat.pow_succ]
    omega
theorem low_num : ∀ l : List UInt8, low (num l) l.length = l := by
  intro l
  induction l with
  | nil => rfl
  | cons b l ih =>
    have hb := b.toNat_lt
    simp only [num, List.length_cons, low]
    rw [show (b.toNat + 256 * num l) % 256 = b.toNat by omega, show (b.toNat + 256 * num l) / 256 = num l by omega, ih]
    simp
theorem num_append (l m : List UInt8) : num (l ++ m) = num l + 256 ^ l.length * num m := by
  induction l with
  | nil => simp [num]
  | cons b l ih =>
    simp only [List.cons_append, num, ih, List.length_cons, Nat.pow_succ]
    rw [Nat.mul_add, ← Nat.mul_assoc, Nat.mul_comm 256 (256 ^ l.length)]
    omega
theorem low_snoc (k : Nat) : ∀ n, low n (k + 1) = low n k ++ [UInt8.ofNat (n / 256 ^ k % 256)] := by
  induction k with
  | zero => intro n; simp [low]
  | succ k ih =>
    intro n
    rw [low, ih, low]
    simp [Nat.pow_succ, Nat.div_div_eq_div_mul, Nat.mul_comm]
theorem low_get (k : Nat) : ∀ (n i : Nat), i < k → (low n k)[i]? = some (UInt8.ofNat (n / 256 ^ i % 256)) := by
  induction k with
  | zero => intro n i h; omega
  | succ k ih =>
    intro n i h
    cases i with
    | zero => simp [low]
    | succ i =>
      rw [low, List.getElem?_cons_succ, ih _ _ (by omega)]
      simp [Nat.pow_succ, Nat.div_div_eq_div_mul, Nat.mul_comm]
end Go.Proofs.YtikpojnmaiplnaaGreatDoor
/- The document's own check, walked. -/
namespace Go.Proofs.YtikpojnmaiplnaaGreatDoor
open Go.RowKit Go.Maps
set_option linter.unusedVariables false

def u32V (n : Nat) : Value := .int .u32 (n : Int)
theorem ret_u32 {a b : Int} (h : a = b) : Ending.returned (.int .u32 a) = Ending.returned (.int .u32 b) := by rw [h]

/-- What a walk needs of one step: its own spellings, all numbers opaque. -/
theorem step_facts (x : Nat) (hx : x < 2 ^ 32) : ∃ y z : Nat, ((x : Int) / 2 = (y : Int)) ∧ bits .xor .u32 (y : Int) 3988292384 = (z : Int) ∧ ((bits .and .u32 (x : Int) 1 = 0 ∧ stp x = y) ∨ (bits .and .u32 (x : Int) 1 = 1 ∧ stp x = z)) := by
  refine ⟨x / 2, (x / 2) ^^^ 3988292384, by omega, u32_xor_nat (x / 2) 3988292384 (by omega) (by decide), ?_⟩
  have ha : bits .and .u32 (x : Int) 1 = ((x &&& 1 : Nat) : Int) := u32_and_nat x 1 (by omega) (by omega)
  rw [Nat.and_one_is_mod] at ha
  have hm : x % 2 = 0 ∨ x % 2 = 1 := by omega
  rcases hm with hm | hm
  · exact .inl ⟨by rw [ha, hm]; rfl, by unfold stp; rw [hm]; simp⟩
  · exact .inr ⟨by rw [ha, hm]; rfl, by unfold stp; rw [hm, Nat.one_mul]; rfl⟩
theorem xor_fact (a b : Nat) (ha : a < 2 ^ 32) (hb : b < 2 ^ 32) : ∃ z : Nat, z = a ^^^ b ∧ bits .xor .u32 (a : Int) (b : Int) = (z : Int) := ⟨_, rfl, u32_xor_nat _ _ (by omega) (by omega)⟩

theorem xor_ones (a : Nat) (ha : a < 2 ^ 32) : ∃ z : Nat, z = a ^^^ 4294967295 ∧ bits .xor .u32 (a : Int) 4294967295 = (z : Int) := ⟨_, rfl, u32_xor_nat a 4294967295 (by omega) (by decide)⟩

set_option maxHeartbeats 1000000 in
/-- The document's Sum. -/
theorem rsum_any (s : ByteArray) (w : World) (hs : s.size ≤ maxLen) :
    Calls Tryz.prog 76 #[.string s] w fun e w' => e = .returned (.int .u32 (crc s.data.toList : Nat)) ∧ w = w' := by
  unfold maxLen at hs
  go_enter Tryz.func76, Tryz.ntmps76
  go_wp2
  go_loop [3, 4] (fun c i => ∃ k : Nat, k ≤ s.size ∧ i = .int .i64 k ∧ c = .int .u32 (runc 4294967295 (s.data.toList.take k) : Nat)) (fun _ i => s.size - (intOf i).toNat)
  case atStart => exact ⟨0, Nat.zero_le _, rfl, rfl⟩
  case round =>
    obtain ⟨k, hk, rfl, rfl⟩ := hrel
    have hc := runc_lt (s.data.toList.take k) (c := 4294967295) (by decide)
    by_cases hlt : k < s.size
    · have hts : s.data.toList.take (k + 1) = s.data.toList.take k ++ [s[k]] := by rw [List.take_succ_eq_append_getElem (by simpa using hlt)]; rfl
      have hb : s[k].toNat < 256 := s[k].toNat_lt
      have hv : runc 4294967295 (s.data.toList.take (k + 1)) = stn 8 (runc 4294967295 (s.data.toList.take k) ^^^ s[k].toNat) := by rw [hts, runc_snoc]; rfl
      have HV := Lib.hid hv
      clear hv hts
      generalize runc 4294967295 (s.data.toList.take k) = c at *
      obtain ⟨x, hx, hxx⟩ := xor_fact c s[k].toNat hc (by omega)
      have hxl : x < 2 ^ 32 := by rw [hx]; exact Nat.xor_lt_two_pow hc (by omega)
      have HX := Lib.hid hx
      clear hx
      go_wp2
      go_loop [3, 5] (fun c i => ∃ j : Nat, j ≤ 8 ∧ i = .int .i64 j ∧ c = .int .u32 (stn j x : Nat)) (fun _ i => 8 - (intOf i).toNat)
      case atStart => exact ⟨0, Nat.zero_le _, rfl, rfl⟩
      case round =>
        obtain ⟨j, hj, rfl, rfl⟩ := hrel
        by_cases hl : j < 8
        · have hst := stn_last j x
          have HS := Lib.hid hst
          have hcl : stn j x < 2 ^ 32 := stn_lt hxl
          clear hst
          generalize stn j x = q at *
          obtain ⟨y, z, h1, h2, h3⟩ := step_facts q hcl
          rcases h3 with ⟨h3, h4⟩ | ⟨h3, h4⟩
          · have H4 := Lib.hid h4
            clear h4
            go_wp2
            go_round
            case rel => exact ⟨j + 1, by omega, by go_num, by rw [HS.out, H4.out]⟩
            case measure => simp [intOf]; omega
          · have H4 := Lib.hid h4
            clear h4
            go_wp2
            go_round
            case rel => exact ⟨j + 1, by omega, by go_num, by rw [HS.out, H4.out]⟩
            case measure => simp [intOf]; omega
        · obtain rfl : j = 8 := by omega
          go_wp2
          go_round
          case rel => exact ⟨k + 1, by omega, by go_num, by rw [HV.out, HX.out]⟩
          case measure => simp [intOf]; omega
    · obtain ⟨z, hz, hzz⟩ := xor_ones _ hc
      have hz' : z = crc s.data.toList := by rw [hz]; unfold crc; rw [List.take_of_length_le (by simp; omega)]
      have HZ := Lib.hid hz'
      clear hz' hz
      generalize runc 4294967295 (s.data.toList.take k) = c at *
      go_wp2
      go_ret
      exact ⟨ret_u32 (by rw [HZ.out]), rfl⟩
end Go.Proofs.YtikpojnmaiplnaaGreatDoor
/- A table's rows are made, once. -/
namespace Go.Proofs.YtikpojnmaiplnaaGreatDoor
open Go.RowKit Go.Maps
set_option linter.unusedVariables false

/-! ### the rows -/
/-- the rows of which k were made -/
def rowsTo (k : Nat) : List Value := (List.range 16).map fun j => u32V (if j < k then stn 4 j else 0)
def tabC (a b c : Value) (k : Nat) : Array Value := (a :: b :: c :: rowsTo k).toArray
theorem tabC_zero (a b c : Value) : tabC a b c 0 = (a :: b :: c :: List.replicate 16 (u32V 0)).toArray := rfl
theorem tabC_set (a b c : Value) (k : Nat) (hk : k < 16) : (tabC a b c k).setIfInBounds (3 + k) (u32V (stn 4 k)) = tabC a b c (k + 1) := by
  have : k = 0 ∨ k = 1 ∨ k = 2 ∨ k = 3 ∨ k = 4 ∨ k = 5 ∨ k = 6 ∨ k = 7 ∨ k = 8 ∨ k = 9 ∨ k = 10 ∨ k = 11 ∨ k = 12 ∨ k = 13 ∨ k = 14 ∨ k = 15 := by omega
  rcases this with rfl | rfl | rfl | rfl | rfl | rfl | rfl | rfl | rfl | rfl | rfl | rfl | rfl | rfl | rfl | rfl <;> rfl
theorem tabC_get (a b c : Value) (i : Nat) (hi : i < 16) : (tabC a b c 16)[3 + i]? = some (u32V (stn 4 i)) := by
  have : i = 0 ∨ i = 1 ∨ i = 2 ∨ i = 3 ∨ i = 4 ∨ i = 5 ∨ i = 6 ∨ i = 7 ∨ i = 8 ∨ i = 9 ∨ i = 10 ∨ i = 11 ∨ i = 12 ∨ i = 13 ∨ i = 14 ∨ i = 15 := by omega
  rcases this with rfl | rfl | rfl | rfl | rfl | rfl | rfl | rfl | rfl | rfl | rfl | rfl | rfl | rfl | rfl | rfl <;> rfl
theorem tabC_some (a b c : Value) (k i : Nat) (hi : i < 16) : ∃ v, (tabC a b c k)[3 + i]? = some v := by
  refine ⟨(tabC a b c k)[3 + i]'?_, Array.getElem?_eq_getElem _⟩
  simp [tabC, rowsTo]; omega
theorem Blk.frozen' {w : World} {g : Nat} {t : TypeId} {cs : Array Value} (h : Blk w g t cs) : ∀ i, w.frozen? ⟨g, i, none⟩ = false := h.frozen

theorem idx36 (k : IntKind) (w : World) (g off i : Nat) (hi : i < 16) : (Instr.indexAt 220 (.pointer (some ⟨g, off, none⟩)) (.int k (i : Int))).run Tryz.prog w = .ok (.pointer (some ⟨g, off + i, none⟩)) w := by
  have hs : (sizeOf (Tryz.prog.elem 220)).run Tryz.prog w = .ok 1 w := by simp [go_sem]
  have hp : Tryz.prog.underlying 220 = some (.array (Tryz.prog.arrayLen 220) (Tryz.prog.elem 220)) := by kernel_rfl
  have hl : Tryz.prog.arrayLen 220 = 16 := by kernel_rfl
  rw [run_indexAt_array w 220 _ _ _ hp, hl, if_pos (by omega), hs]
  simp [Result.andThen, Addr.add_lit]

/-- A walk's fill: what becomes of the table. -/
def Filled (g : Nat) (a b c : Value) (w : World) (e : Ending) (w' : World) : Prop := e = .returned (.tuple #[]) ∧ Blk w' g 222 (tabC a b c 16) ∧ Fr (One g) w w'

set_option maxRecDepth 100000 in
set_option maxHeartbeats 1000000 in
theorem fill_any (g : Nat) (a b c : Value) (w : World) (h : Blk w g 222 (tabC a b c 0)) :
    Calls Tryz.prog 199 #[.pointer (some ⟨g, 0, none⟩)] w (Filled g a b c w) := by
  go_enter Tryz.func199, Tryz.ntmps199
  go_wp2
  go_loopw [5] (fun i wr => ∃ k : Nat, k ≤ 16 ∧ i = .int .i64 k ∧ Blk wr g 222 (tabC a b c k) ∧ Fr (One g) w wr) (fun i _ => 16 - (intOf i).toNat)
  case atStart => exact ⟨0, by omega, rfl, h, Fr.refl _ _⟩
  case round =>
    obtain ⟨k, hk, rfl, hb, hf⟩ := hrel
    have HF := Lib.hid hf
    clear hf
    by_cases hlt : k < 16
    · have wr : IntKind.u32.wrap (k : Int) = (k : Int) := by rw [IntKind.wrap_u32']; omega
      go_wp2
      go_loop [3, 10] (fun c i => ∃ j : Nat, j ≤ 4 ∧ i = .int .i64 j ∧ c = .int .u32 (stn j k : Nat)) (fun _ i => 4 - (intOf i).toNat)
      case atStart => exact ⟨0, Nat.zero_le _, rfl, rfl⟩
      case round =>
        obtain ⟨j, hj, rfl, rfl⟩ := hrel
        by_cases hl : j < 4
        · have hst := stn_last j k
          have HS := Lib.hid hst
          have hcl : stn j k < 2 ^ 32 := stn_lt (by omega)
          clear hst
          generalize stn j k = q at *
          obtain ⟨y, z, h1, h2, h3⟩ := step_facts q hcl
          rcases h3 with ⟨h3, h4⟩ | ⟨h3, h4⟩
          · have H4 := Lib.hid h4
            clear h4
            go_wp2
            go_round
            case rel => exact ⟨j + 1, by omega, by go_num, by rw [HS.out, H4.out]⟩
            case measure => simp [intOf]; omega
          · have H4 := Lib.hid h4
            clear h4
            go_wp2
            go_round
            case rel => exact ⟨j + 1, by omega, by go_num, by rw [HS.out, H4.out]⟩
            case measure => simp [intOf]; omega
        · obtain rfl : j = 4 := by omega
          have hidx := fun w' => idx36 .i64 w' g 3 k hlt
          obtain ⟨v, hv⟩ := tabC_some a b c k k hlt
          have hcell : _ = some v := (hb.cell (3 + k)).trans hv
          have hfz := hb.frozen (3 + k)
          have HB := Lib.hid (hb.set_ (3 + k) (u32V (stn 4 k)))
          clear hb hv
          go_wp2
          go_roundw
          case rel => exact ⟨k + 1, by omega, by go_num, by have := HB.out; rw [tabC_set a b c k hlt] at this; exact this, HF.out.set1 _ _⟩
          case measure => simp [intOf]; omega
    · obtain rfl : k = 16 := by omega
      go_wp2
      refine bodyPost_ret (results_none rfl _ _ _) rfl ?_
      exact ⟨rfl, hb, HF.out⟩
end Go.Proofs.YtikpojnmaiplnaaGreatDoor
/- sync.Once, and the landed check. -/
namespace Go.Proofs.YtikpojnmaiplnaaGreatDoor
open Go.RowKit Go.Maps
set_option linter.unusedVariables false

/-! ### the parts of sync.Once -/
theorem disable (w : World) : (callFunc 238 #[]).run Tryz.prog w = .ok (.value (.tuple #[])) w := run_call_mark0 Tryz.func238 (by kernel_rfl) (by kernel_rfl) (by kernel_rfl) .disable (by kernel_rfl) w
theorem enable (w : World) : (callFunc 240 #[]).run Tryz.prog w = .ok (.value (.tuple #[])) w := run_call_mark0 Tryz.func240 (by kernel_rfl) (by kernel_rfl) (by kernel_rfl) .enable (by kernel_rfl) w
theorem acquire (a : Addr) (w : World) : (callFunc 241 #[.pointer (some a)]).run Tryz.prog w = .ok (.value (.tuple #[])) w := run_call_marked Tryz.func241 (by kernel_rfl) (by kernel_rfl) (by kernel_rfl) .acquire (by kernel_rfl) a w
theorem releaseMerge (a : Addr) (w : World) : (callFunc 243 #[.pointer (some a)]).run Tryz.prog w = .ok (.value (.tuple #[])) w := run_call_marked Tryz.func243 (by kernel_rfl) (by kernel_rfl) (by kernel_rfl) .releaseMerge (by kernel_rfl) a w

theorem store_deferred (a : Addr) (x : Value) (u : FrameMode) (w : World) (hc : w.cell? a = some x) (hz : w.frozen? a = false) :
    CallsD Tryz.prog 232 #[.pointer (some a), .bool true] u w fun e u' w' => u' = u ∧ (e = .returned (.tuple #[]) ∧ w' = w.drew.setCell a (.int .u32 1)) := by
  have hc' : w.drew.cell? a = some x := by go_simp
  have hz' : w.drew.frozen? a = false := by go_simp
  have hst := run_call_store (P := Tryz.prog) Tryz.func236 (by kernel_rfl) (by kernel_rfl) (by kernel_rfl) (by kernel_rfl) (k := .u32) (y := 1) hc' hz'
  go_enter_d Tryz.func232, Tryz.ntmps232
  go_wp2
  go_region_calls
  all_goals (go_end0; exact ⟨rfl, rfl⟩)

set_option maxRecDepth 100000 in
set_option maxHeartbeats 1600000 in
theorem unlock_in (a : Addr) (w : World) (hc : w.cell? a = some (.int .i32 1)) (hz : w.frozen? a = false) :
    Calls Tryz.prog 235 #[.pointer (some a)] w fun e w' => e = .returned (.tuple #[]) ∧ w' = w.setCell a (.int .i32 0) := by
  have hd := disable
  have he := enable
  have hr := releaseMerge
  have hadd := run_call_add (P := Tryz.prog) Tryz.func244 (by kernel_rfl) (by kernel_rfl) (by kernel_rfl) .i32 (by kernel_rfl) (y := -1) (s := 0) hc hz (by simp [go_sem]; rfl)
  have hcv := run_convert_to_unsafe (P := Tryz.prog) (src := 281) (dst := 203) Tryz.underlying281 Tryz.underlying203 (by kernel_rfl) hc
  go_enter Tryz.func235, Tryz.ntmps235
  go_wp2
  first | go_end0 | (simp only [Exit.inBlock, Exit.then]; refine bodyPost_ret (results_none rfl _ _ _) rfl ?_) | refine bodyPost_ret (results_none rfl _ _ _) rfl ?_
  all_goals try go_wp2
  all_goals try go_end0
  all_goals exact ⟨rfl, rfl⟩

set_option maxRecDepth 100000 in
set_option maxHeartbeats 1600000 in
theorem lock_in (a : Addr) (w : World) (hc : w.cell? a = some (.int .i32 0)) (hz : w.frozen? a = false) :
    Calls Tryz.prog 234 #[.pointer (some a)] w fun e w' => e = .returned (.tuple #[]) ∧ w' = w.setCell a (.int .i32 1) := by
  have hd := disable
  have he := enable
  have ha := acquire
  have hcas := run_call_cas_hit (P := Tryz.prog) Tryz.func239 (by kernel_rfl) (by kernel_rfl) (by kernel_rfl) .i32 (by kernel_rfl) (y := 1) hc hz
  have hc' : (w.setCell a (.int .i32 1)).cell? a = some (.int .i32 1) := World.cell?_setCell_same w a _ hc
  have hcv := run_convert_to_unsafe (P := Tryz.prog) (src := 281) (dst := 203) Tryz.underlying281 Tryz.underlying203 (by kernel_rfl) hc'
  go_enter Tryz.func234, Tryz.ntmps234
  go_wp2
  first | go_end0 | (simp only [Exit.inBlock, Exit.then]; refine bodyPost_ret (results_none rfl _ _ _) rfl ?_) | refine bodyPost_ret (results_none rfl _ _ _) rfl ?_
  all_goals try go_wp2
  all_goals try go_end0
  all_goals exact ⟨rfl, rfl⟩
theorem lock_free (b o : Nat) (w : World) (hc : w.cell? ⟨b, o, none⟩ = some (.int .i32 0)) (hz : w.frozen? ⟨b, o, none⟩ = false) :
    Calls Tryz.prog 230 #[.pointer (some ⟨b, o, none⟩)] w fun e w' => e = .returned (.tuple #[]) ∧ w' = w.setCell ⟨b, o, none⟩ (.int .i32 1) := by
  have hl := Lib.hid (lock_in ⟨b, o, none⟩ w hc hz)
  clear hc hz
  go_enter Tryz.func230, Tryz.ntmps230
  go_wp2_with (go_at_call 234; refine hl.out.mono ?_; rintro e w' ⟨rfl, rfl⟩)
  go_end0
  exact ⟨rfl, rfl⟩
theorem unlock_deferred (b o : Nat) (u : FrameMode) (w : World) (hc : w.cell? ⟨b, o, none⟩ = some (.int .i32 1)) (hz : w.frozen? ⟨b, o, none⟩ = false) :
    CallsD Tryz.prog 231 #[.pointer (some ⟨b, o, none⟩)] u w fun e u' w' => u' = u ∧ (e = .returned (.tuple #[]) ∧ w' = w.setCell ⟨b, o, none⟩ (.int .i32 0)) := by
  have hl := Lib.hid (unlock_in ⟨b, o, none⟩ w hc hz)
  clear hc hz
  go_enter_d Tryz.func231, Tryz.ntmps231
  go_wp2_with (go_at_call 235; refine hl.out.mono ?_; rintro e w' ⟨rfl, rfl⟩)
  go_end0
  exact ⟨rfl, rfl⟩

theorem kload_any (b o : Nat) (d : Int) (w : World) (h0 : w.cell? ⟨b, o, none⟩ = some (.int .u32 d)) :
    Calls Tryz.prog 219 #[.pointer (some ⟨b, o, none⟩)] w fun e w' => e = .returned (.bool (d != 0)) ∧ w = w' := by
  have hl := run_call_load (P := Tryz.prog) Tryz.func229 (by kernel_rfl) (by kernel_rfl) (by kernel_rfl) .u32 (by kernel_rfl) h0
  go_enter Tryz.func219, Tryz.ntmps219
  go_wp2
  go_ret
  exact ⟨rfl, rfl⟩
theorem load_0 (b o : Nat) (w : World) (h0 : w.cell? ⟨b, o, none⟩ = some (.int .u32 0)) :
    Calls Tryz.prog 219 #[.pointer (some ⟨b, o, none⟩)] w fun e w' => e = .returned (.bool false) ∧ w = w' := kload_any b o 0 w h0
theorem load_1 (b o : Nat) (w : World) (h0 : w.cell? ⟨b, o, none⟩ = some (.int .u32 1)) :
    Calls Tryz.prog 219 #[.pointer (some ⟨b, o, none⟩)] w fun e w' => e = .returned (.bool true) ∧ w = w' := kload_any b o 1 w h0

def fresh : Array Value := tabC (.int .u32 0) (.int .i32 0) (.int .u32 0) 0
def made : Array Value := tabC (.int .u32 1) (.int .i32 0) (.int .u32 0) 16
def Made (g : Nat) (w : World) (e : Ending) (w' : World) : Prop := e = .returned (.tuple #[]) ∧ Blk w' g 222 made ∧ Fr (One g) w w'

set_option maxRecDepth 100000 in
set_option maxHeartbeats 1600000 in
theorem slow_any (g : Nat) (w : World) (h : Blk w g 222 fresh) :
    Calls Tryz.prog 220 #[.pointer (some ⟨g, 0, none⟩), .func (.func 199) #[.pointer (some ⟨g, 0, none⟩)] #[]] w (Made g w) := by
  have c1 : w.cell? ⟨g, 1, none⟩ = some (.int .i32 0) := h.cell 1
  have f1 := h.frozen 1
  obtain ⟨w1, hw1⟩ : ∃ w1, w.setCell ⟨g, 1, none⟩ (.int .i32 1) = w1 := ⟨_, rfl⟩
  have hb1 : Blk w1 g 222 (tabC (.int .u32 0) (.int .i32 1) (.int .u32 0) 0) := by rw [← hw1]; exact h.set_ 1 _
  have hf1 : Fr (One g) w w1 := by rw [← hw1]; exact Fr.set0 g w 1 _
  have c0 : w1.cell? ⟨g, 0, none⟩ = some (.int .u32 0) := hb1.cell 0
  have HL : Hid (Calls Tryz.prog 230 #[.pointer (some ⟨g, 1, none⟩)] w fun e w' => e = .returned (.tuple #[]) ∧ w' = w1) := Lib.hid (by rw [← hw1]; exact lock_free g 1 w c1 f1)
  have HF := Lib.hid (fill_any g (.int .u32 0) (.int .i32 1) (.int .u32 0) w1 hb1)
  have H0 := Lib.hid (load_0 g 0 w1 c0)
  have HR := Lib.hid hf1
  have hnot : ∀ (x : Bool) (w : World), (Op.unary .not (.bool x)).run Tryz.prog w = .ok (.bool (!x)) w := fun _ _ => rfl
  clear hw1 hb1 hf1 c0 c1 f1 h
  go_enter_defers Tryz.func220, Tryz.ntmps220
  go_wp2_with (first | (go_at_call 230; refine HL.out.mono ?_; rintro e w' ⟨rfl, rfl⟩) | (go_at_call 219; refine H0.out.mono ?_; rintro e w' ⟨rfl, rfl⟩) | (go_at_call 199; refine HF.out.mono ?_; rintro e w' ⟨rfl, hb2, hf2⟩))
  go_wp2
  have d0 : w'.cell? ⟨g, 0, none⟩ = some (.int .u32 0) := hb2.cell 0
  have hfz := hb2.frozen 0
  refine leaves_cons (f := 232) (args := #[.pointer (some ⟨g, 0, none⟩), .bool true]) (by simp) (by simp [go_sem]) ?_
  refine (store_deferred ⟨g, 0, none⟩ (.int .u32 0) .returning _ d0 hfz).mono ?_
  rintro e u' w'' ⟨rfl, rfl, rfl⟩
  have hb3 : Blk (w'.drew.setCell ⟨g, 0, none⟩ (.int .u32 1)) g 222 (tabC (.int .u32 1) (.int .i32 1) (.int .u32 0) 16) := Blk.set_ (w := w'.drew) hb2 0 _
  have hf3 : Fr (One g) w (w'.drew.setCell ⟨g, 0, none⟩ (.int .u32 1)) := ((HR.out.trans hf2 fun _ _ h => h).drew).set1 0 _
  obtain ⟨w3, hw3⟩ : ∃ w3, w'.drew.setCell ⟨g, 0, none⟩ (.int .u32 1) = w3 := ⟨_, rfl⟩
  rw [hw3] at hb3 hf3 ⊢
  have d1 : w3.cell? ⟨g, 1, none⟩ = some (.int .i32 1) := hb3.cell 1
  refine leaves_cons (f := 231) (args := #[.pointer (some ⟨g, 1, none⟩)]) (by simp [settle]) (by simp [go_sem]) ?_
  refine (unlock_deferred g 1 _ _ d1 (hb3.frozen 1)).mono ?_
  rintro e u' w'' ⟨rfl, rfl, rfl⟩
  have hm : Made g w (.returned (.tuple #[])) (w3.setCell ⟨g, 1, none⟩ (.int .i32 0)) := ⟨rfl, hb3.set_ 1 _, hf3.set1 1 _⟩
  simp [Leaves, settle, results, Tryz.results220]
  exact hm
set_option maxHeartbeats 1600000 in
/-- '(*sync.Once).Do' of the table's fill, not yet done. -/
theorem do_first (g : Nat) (w : World) (h : Blk w g 222 fresh) :
    Calls Tryz.prog 198 #[.pointer (some ⟨g, 0, none⟩), .func (.func 199) #[.pointer (some ⟨g, 0, none⟩)] #[]] w (Made g w) := by
  have H0 := Lib.hid (load_0 g 0 w (h.cell 0))
  have HS := Lib.hid (slow_any g w h)
  have hnot : ∀ (x : Bool) (w : World), (Op.unary .not (.bool x)).run Tryz.prog w = .ok (.bool (!x)) w := fun _ _ => rfl
  clear h
  go_enter Tryz.func198, Tryz.ntmps198
  go_wp2_with (first | (go_at_call 219; refine H0.out.mono ?_; rintro e w' ⟨rfl, rfl⟩) | (go_at_call 220; refine HS.out.mono ?_; rintro e w' ⟨rfl, hb, hf⟩))
  go_end0
  exact ⟨rfl, hb, hf⟩
/-- Done already. -/
theorem do_done (g : Nat) (fv : Value) (w : World) (h : Blk w g 222 made) :
    Calls Tryz.prog 198 #[.pointer (some ⟨g, 0, none⟩), fv] w (Made g w) := by
  have H0 := Lib.hid (load_1 g 0 w (h.cell 0))
  have hnot : ∀ (x : Bool) (w : World), (Op.unary .not (.bool x)).run Tryz.prog w = .ok (.bool (!x)) w := fun _ _ => rfl
  have H := Lib.hid h
  clear h
  go_enter Tryz.func198, Tryz.ntmps198
  go_wp2_with (go_at_call 219; refine H0.out.mono ?_; rintro e w' ⟨rfl, rfl⟩)
  go_end0
  exact ⟨rfl, H.out, Fr.refl _ _⟩

/-! ### the landed check -/
/-- A table: not made, or made. -/
def TabAt (w : World) (g : Nat) : Prop := Blk w g 222 fresh ∨ Blk w g 222 made
theorem do_any (g : Nat) (w : World) (h : TabAt w g) :
    Calls Tryz.prog 198 #[.pointer (some ⟨g, 0, none⟩), .func (.func 199) #[.pointer (some ⟨g, 0, none⟩)] #[]] w (Made g w) := by
  rcases h with h | h
  · exact do_first g w h
  · exact do_done g _ w h
def Summed (g : Nat) (l : List UInt8) (w : World) (e : Ending) (w' : World) : Prop := e = .returned (.int .u32 (crc l : Nat)) ∧ Blk w' g 222 made ∧ Fr (One g) w w'
theorem tsum_nil (s : ByteArray) (w : World) : Calls Tryz.prog 179 #[.pointer none, .string s] w fun e w' => e = .returned (.int .u32 0) ∧ w = w' := by
  go_enter Tryz.func179, Tryz.ntmps179
  go_wp2
  go_ret
  exact ⟨rfl, rfl⟩

/-- Half a byte's step. -/
theorem half_facts (x : Nat) (hx : x < 2 ^ 32) : ∃ y i z : Nat, i < 16 ∧ i = x % 16 ∧ ((x : Int) / 16 = (y : Int)) ∧ ((x : Int) % 16 = (i : Int)) ∧ bits .xor .u32 (y : Int) (stn 4 i : Nat) = (z : Int) ∧ stn 4 x = z ∧ z < 2 ^ 32 := by
  refine ⟨x / 16, x % 16, x / 16 ^^^ stn 4 (x % 16), by omega, rfl, by omega, by omega, u32_xor_nat _ _ (by omega) (stn_lt (by omega)), stn4 x, ?_⟩
  rw [← stn4]; exact stn_lt hx
theorem not_ones (a : Nat) (ha : a < 2 ^ 32) : ∃ z : Nat, z = a ^^^ 4294967295 ∧ bits .xor .u32 4294967295 (a : Int) = (z : Int) := ⟨_, rfl, by rw [Nat.xor_comm]; exact u32_xor_nat 4294967295 a (by decide) (by omega)⟩

set_option maxRecDepth 100000 in
set_option maxHeartbeats 2000000 in
theorem tsum_any (g : Nat) (s : ByteArray) (w : World) (hs : s.size ≤ maxLen) (h : TabAt w g) :
    Calls Tryz.prog 179 #[.pointer (some ⟨g, 0, none⟩), .string s] w (Summed g s.data.toList w) := by
  unfold maxLen at hs
  have HD := Lib.hid (do_any g w h)
  have hmf : ∀ (fn : Fn) (first cap : Array Value) (w : World), (Instr.makeFunc fn first cap).run Tryz.prog w = .ok (.func fn first cap) w := fun _ _ _ _ => rfl
  clear h
  go_enter Tryz.func179, Tryz.ntmps179
  go_wp2_with (go_at_call 198; refine HD.out.mono ?_; rintro e w' ⟨rfl, hb, hf⟩)
  have hrow : ∀ i, i < 16 → w'.cell? ⟨g, 3 + i, none⟩ = some (.int .u32 (stn 4 i : Nat)) := fun i hi => (hb.cell (3 + i)).trans (tabC_get _ _ _ i hi)
  have HROW := Lib.hid hrow
  have HB := Lib.hid hb
  have HF := Lib.hid hf
  clear hrow hb hf HD
  go_wp2
  go_loop [5, 17] (fun c i => ∃ k : Nat, k ≤ s.size ∧ i = .int .i64 k ∧ c = .int .u32 (runc 4294967295 (s.data.toList.take k) : Nat)) (fun _ i => s.size - (intOf i).toNat)
  case atStart => exact ⟨0, Nat.zero_le _, rfl, rfl⟩
  case round =>
    obtain ⟨k, hk, rfl, rfl⟩ := hrel
    have hc := runc_lt (s.data.toList.take k) (c := 4294967295) (by decide)
    by_cases hlt : k < s.size
    · have hts : s.data.toList.take (k + 1) = s.data.toList.take k ++ [s[k]] := by rw [List.take_succ_eq_append_getElem (by simpa using hlt)]; rfl
      have hbt : s[k].toNat < 256 := s[k].toNat_lt
      have hv : runc 4294967295 (s.data.toList.take (k + 1)) = stn 4 (stn 4 (runc 4294967295 (s.data.toList.take k) ^^^ s[k].toNat)) := by rw [hts, runc_snoc]; rfl
      have HV := Lib.hid hv
      clear hv hts
      generalize runc 4294967295 (s.data.toList.take k) = c at *
      obtain ⟨x, hx, hxx⟩ := xor_fact c s[k].toNat hc (by omega)
      have hxl : x < 2 ^ 32 := by rw [hx]; exact Nat.xor_lt_two_pow hc (by omega)
      obtain ⟨y1, i1, z1, hi1, he1, ha1, hb1, hc1, hd1, hl1⟩ := half_facts x hxl
      obtain ⟨y2, i2, z2, hi2, he2, ha2, hb2, hc2, hd2, hl2⟩ := half_facts z1 hl1
      have HZ : Hid (runc 4294967295 (s.data.toList.take (k + 1)) = z2) := Lib.hid (by rw [HV.out, ← hx, hd1, hd2])
      have hr1 := HROW.out i1 hi1
      have hr2 := HROW.out i2 hi2
      have hx1 := fun w' => idx36 .u32 w' g 3 i1 hi1
      have hx2 := fun w' => idx36 .u32 w' g 3 i2 hi2
      clear hx hd1 hd2 HV he1 he2
      generalize stn 4 i1 = t1 at *
      generalize stn 4 i2 = t2 at *
      go_wp2
      go_round
      case rel => exact ⟨k + 1, by omega, by go_num, by rw [HZ.out]⟩
      case measure => simp [intOf]; omega
    · obtain ⟨z, hz, hzz⟩ := not_ones _ hc
      have hz' : z = crc s.data.toList := by rw [hz]; unfold crc; rw [List.take_of_length_le (by simp; omega)]
      have HZ := Lib.hid hz'
      have hmax : IntKind.u32.max = 4294967295 := by decide
      clear hz' hz
      generalize runc 4294967295 (s.data.toList.take k) = c at *
      go_wp2
      go_ret
      exact ⟨ret_u32 (by rw [HZ.out]), HB.out, HF.out⟩
end Go.Proofs.YtikpojnmaiplnaaGreatDoor
/- Bytes in memory: one more, one turned, as a text; numbers as bytes and back; the landed Sum. -/
namespace Go.Proofs.YtikpojnmaiplnaaGreatDoor
open Go.RowKit Go.Maps
set_option linter.unusedVariables false

theorem RowB.run_add {w : World} {v : Value} {l : List UInt8} (h : RowB w v l) (x : UInt8) (ty : TypeId) (a : Addr) (c : Nat) (hx : w.cell? a = some (byteV x)) (hlen : l.length + 1 ≤ 1000000000000) :
    ∃ v' w', (Builtin.append_ #[65, 65] ty #[v, .slice (some a) 1 c]).run Tryz.prog w = .ok v' w' ∧ RowB w' v' (l ++ [x]) ∧ w.grownBy w' v.ownBlock ∧ (∀ k, v'.ownBlock = some k → v.ownBlock = some k ∨ k = w.heap.size) := by
  obtain ⟨i0, hi, hz0, hz1, hz2⟩ := info_parts kinfo5
  have hnews : ∀ j u, [byteV x][j]? = some u → w.cell? (a.add j) = some u := by
    intro j u hj
    match j, hj with
    | 0, hj =>
      simp at hj; subst hj
      obtain ⟨b, o, m⟩ := a
      cases m with
      | none => simpa [Addr.add] using hx
      | some m => simpa [Addr.add] using hx
  rcases h with ⟨rfl, rfl⟩ | ⟨g, off, cap, cur, rfl, hg, hnc, hcm, hcs, htk⟩
  · obtain ⟨v', w', hr, ho, hgr, hnn, hat⟩ := run_append_own_at (P := Tryz.prog) w w.heap.size 65 ty 5 i0 (.int .u8 0) 1 1 Tryz.underlying65 hi hz0 hz1 hz2 rfl (by omega) (.slice none 0 0) 0 [] (World.ownsRow_nil w _ 5 1) a 1 c [byteV x] rfl hnews (by simp [Value.oneCell', byteV]) (by unfold maxLen; omega) (by omega) (Nat.le_refl _)
    refine ⟨v', w', hr, ?_, hgr, fun k hk => ?_⟩
    · rcases ho.2 with ⟨rfl, h0⟩ | ⟨g, cap, cur, rfl, hb, hh, hnc, hcm, hs, ht⟩
      · omega
      · exact .inr ⟨g, 0, cap, cur, by simp, hh, by simpa using hnc, hcm, by omega, by simpa using ht⟩
    · rcases hat with hat | hat
      · exact .inl (hat ▸ hk)
      · rw [hk] at hat; exact .inr (by simpa using hat)
  · by_cases hroom : l.length + 1 ≤ cap
    · have hf := run_firstCells_some (P := Tryz.prog) w 1 1 a 1 c [byteV x] rfl hnews
      have hst := run_storeCells_at Tryz.prog g (off + l.length) 5 [byteV x] 0 cur w hg (by simp; omega) (by simp [Value.oneCell', byteV])
      simp only [Nat.add_zero, List.length_cons, List.length_nil, Nat.zero_add] at hst
      have hr : (Builtin.append_ #[65, 65] ty #[.slice (some ⟨g, off, none⟩) l.length cap, .slice (some a) 1 c]).run Tryz.prog w = .ok (.slice (some ⟨g, off, none⟩) (l.length + 1) cap) (w.setRow g (cur.toList.take (off + l.length) ++ [byteV x] ++ cur.toList.drop (off + l.length + 1)).toArray) := by
        simp [Builtin.append_, run_underlying Tryz.underlying65, sizeOf, typeInfo, hi, hz1, Builtin.lenOf, hroom, hf, Addr.add_lit, hst]
      refine ⟨_, _, hr, .inr ⟨g, off, cap, _, by simp, setRow_heap w g cur _ 5 _ hg, by simpa using hroom, hcm, ?_, ?_⟩, ⟨rfl, rfl, rfl, by simp, fun k _ hk => setRow_other w g k _ (fun e => hk (by simp [Value.ownBlock, e]))⟩, fun k hk => .inl hk⟩
      · simp; omega
      · have hl1 : (cur.toList.take (off + l.length)).length = off + l.length := by simp; omega
        have hd : (cur.toList.take (off + l.length)).drop off = l.map byteV := by rw [← htk, List.drop_take, Nat.add_sub_cancel_left]
        simp only [List.append_assoc, List.length_append, List.map_append]
        rw [List.drop_append_of_le_length (by omega), hd, ← List.append_assoc]
        exact List.take_left' (by simp)
    · have holds : ∀ j u, (l.map byteV)[j]? = some u → w.cell? ((⟨g, off, none⟩ : Addr).add j) = some u := by
        intro j u hu
        rw [Addr.add_lit, cell_of_row w g (off + j) cur 5 (0, 0) hg]
        rw [← htk, List.getElem?_take] at hu
        split at hu
        · simpa using hu
        · cases hu
      have hr := run_append_grow (P := Tryz.prog) w 65 ty 5 i0 (.int .u8 0) Tryz.underlying65 hi hz0 ⟨g, off, none⟩ l.length cap (l.map byteV) (by rw [hz1, List.length_map, Nat.mul_one]) holds a 1 c [byteV x] (by rw [hz1]; rfl) hnews (by omega) (by omega) (by rw [hz2]; exact growslice_fits (by omega) (by omega))
      have hge := grownCap_ge w (l.length + 1) cap 5
      have hcm' : grownCap w (l.length + 1) cap 5 ≤ maxLen := grownCap_le_maxLen w (l.length + 1) cap 5 (by unfold maxLen; omega)
      have hz1' : (Value.int IntKind.u8 0).cells.size = 1 := rfl
      refine ⟨_, _, hr, .inr ⟨w.heap.size, 0, _, _, by simp, heap_alloc_new w.drew _, by simpa using hge, hcm', ?_, ?_⟩, ⟨rfl, rfl, rfl, by simp, fun k hk _ => heap_alloc_old w.drew _ hk⟩, fun k hk => .inr ?_⟩
      · simp only [Array.size_append, List.size_toArray, size_zeroCells, hz1', List.length_map, List.length_cons, List.length_nil]
        omega
      · simp only [Array.toList_append, List.append_assoc, List.drop_zero, List.length_append, List.map_append]
        rw [← List.append_assoc]
        exact List.take_left' (by simp)
      · simpa [Value.ownBlock, eq_comm] using hk
/-- The row as a text. -/
theorem RowB.run_conv {w : World} {v : Value} {l : List UInt8} (h : RowB w v l) : (convert 65 9 v).run Tryz.prog w = .ok (.string ⟨l.toArray⟩) w := by
  rcases h with ⟨rfl, rfl⟩ | ⟨g, off, cap, cur, rfl, hg, hnc, hcm, hcs, htk⟩
  · exact run_convert_bytes_nil w 65 5 Tryz.underlying65 Tryz.underlying5 0 0 9 Tryz.underlying9
  · have hcell : ∀ i, i < l.length → w.cell? ⟨g, off + i, none⟩ = some (.int .u8 ((l.map fun u => (u.toNat : Int)).getD i 0)) := by
      intro i hi
      rw [cell_of_row w g (off + i) cur 5 (0, 0) hg]
      have h1 : (l.map byteV)[i]? = some (byteV l[i]) := by rw [List.getElem?_map, List.getElem?_eq_getElem (by omega)]; rfl
      rw [← htk, List.getElem?_take] at h1
      rw [if_pos (by omega), List.getElem?_drop] at h1
      rw [← Array.getElem?_toList, h1]
      simp [byteV, List.getD, hi]
    have h2 := run_convert_bytes_arg w 65 5 Tryz.underlying65 Tryz.underlying5 g off l.length cap (l.map fun u => (u.toNat : Int)) (by simp) hcell 9 Tryz.underlying9
    refine h2.trans ?_
    have e2 : strOfNums (l.map fun u => (u.toNat : Int)) = ⟨l.toArray⟩ := by
      unfold strOfNums
      rw [List.map_map]
      have : ((fun n : Int => UInt8.ofNat n.toNat) ∘ fun u : UInt8 => (u.toNat : Int)) = id := by
        funext u; simp
      rw [this, List.map_id]
    rw [e2]

/-! ### numbers as bytes -/
theorem byte_fact (n j : Nat) : byteV (UInt8.ofNat (n / 256 ^ j % 256)) = .int .u8 ((n : Int) / 2 ^ (8 * j) % 256) := by
  unfold byteV
  congr 1
  rw [show (256 : Nat) ^ j = 2 ^ (8 * j) by rw [Nat.pow_mul]]
  simp

theorem low_set (n j k : Nat) (h : j < k) (hk : k ≤ 8) : ((low n j ++ List.replicate (k - j) 0).map byteV).toArray.setIfInBounds j (byteV (UInt8.ofNat (n / 256 ^ j % 256))) = ((low n (j + 1) ++ List.replicate (k - (j + 1)) 0).map byteV).toArray := by
  obtain ⟨r, hr⟩ : ∃ r, k - j = r + 1 := ⟨k - j - 1, by omega⟩
  have hr' : k - (j + 1) = r := by omega
  rw [hr, hr', low_snoc, List.replicate_succ]
  apply Array.ext'
  have hl := low_len j n
  simp [hl]

def Low (n k : Nat) (w : World) (e : Ending) (w' : World) : Prop := e = .returned (.string ⟨(low n k).toArray⟩) ∧ Below w.heap.size w w'

set_option maxRecDepth 100000 in
set_option maxHeartbeats 1000000 in
theorem low_any (n k : Nat) (w : World) (hn : n < 2 ^ 64) (hk : k ≤ 8) :
    Calls Tryz.prog 137 #[.int .u64 (n : Int), .int .i64 (k : Int)] w (Low n k w) := by
  have hmk := run_make_row' (P := Tryz.prog) 65 5 (.int .u8 0) 1 Tryz.underlying65 kinfo5 rfl .i64 .i64 k (by omega) (by omega) w
  obtain ⟨w1, hw1⟩ : ∃ w1, w.alloc (.cells (madeCells #[.int .u8 0] k) 5) = w1 := ⟨_, rfl⟩
  obtain ⟨g, hg⟩ : ∃ g, w.heap.size = g := ⟨_, rfl⟩
  have hb : Blk w1 g 5 ((low n 0 ++ List.replicate (k - 0) 0).map byteV).toArray := by
    rw [← hw1, ← hg]
    have e : ((low n 0 ++ List.replicate (k - 0) 0).map byteV).toArray = madeCells #[.int .u8 0] k := by
      apply Array.ext'
      rw [toList_madeCells_one]
      simp [low, byteV]
    rw [e]; exact Blk.new w 5 _
  have hf : Fr (One g) w w1 := by rw [← hw1]; exact (Fr.refl _ w).alloc _
  have hgs : ∀ j, One g j → w.heap.size ≤ j := by rintro j rfl; omega
  rw [hw1, hg] at hmk
  have HG := Lib.hid hgs
  have HGG := Lib.hid hg
  have HF := Lib.hid hf
  clear hw1 hg hf hgs
  go_enter Tryz.func137, Tryz.ntmps137
  go_wp2
  go_loopw [11] (fun i wr => ∃ j : Nat, j ≤ k ∧ i = .int .i64 j ∧ Blk wr g 5 ((low n j ++ List.replicate (k - j) 0).map byteV).toArray ∧ Fr (One g) w wr) (fun i _ => k - (intOf i).toNat)
  case atStart => exact ⟨0, by omega, rfl, hb, HF.out⟩
  case round =>
    obtain ⟨j, hj, rfl, hbr, hfr⟩ := hrel
    have HFR := Lib.hid hfr
    clear hfr
    by_cases hlt : j < k
    · have h3 := byte_fact n j
      have hcell : ∃ v, wr.cell? ⟨g, j, none⟩ = some v := by
        rw [hbr.cell j]
        exact ⟨_, Array.getElem?_eq_getElem (by simp [low_len]; omega)⟩
      obtain ⟨v, hv⟩ := hcell
      have hfz := hbr.frozen j
      have HB := Lib.hid (hbr.set_ j (.int .u8 ((n : Int) / 2 ^ (8 * j) % 256)))
      have H3 := Lib.hid h3
      clear hbr h3 hb
      go_wp2
      go_roundw
      case rel => exact ⟨j + 1, by omega, by go_num, by have := HB.out; rw [← H3.out, low_set n j k hlt hk, H3.out] at this; exact this, HFR.out.set1 _ _⟩
      case measure => simp [intOf]; omega
    · obtain rfl : j = k := by omega
      have hrow : RowB wr (.slice (some ⟨g, 0, none⟩) j j) (low n j) := by
        refine .inr ⟨g, 0, j, _, by rw [low_len], hbr, by rw [low_len]; omega, by unfold maxLen; omega, by simp [low_len], ?_⟩
        simp only [Nat.sub_self, List.replicate_zero, List.append_nil, List.drop_zero, low_len]
        exact List.take_of_length_le (by simp [low_len])
      have hcv := hrow.run_conv
      have HB := Lib.hid hbr
      clear hbr hrow hb
      go_wp2
      go_ret
      exact ⟨rfl, HFR.out.below_of (Nat.le_refl _) HG.out⟩


theorem ret_u64 {a b : Int} (h : a = b) : Ending.returned (.int .u64 a) = Ending.returned (.int .u64 b) := by rw [h]
/-! ### bytes as numbers -/
theorem get_snoc (s : ByteArray) (k : Nat) (h : k < s.size) : s.data.toList.take (k + 1) = s.data.toList.take k ++ [s[k]] := by
  rw [List.take_succ_eq_append_getElem (by simpa using h)]; rfl
theorem num_snoc (l : List UInt8) (b : UInt8) : num (l ++ [b]) = num l + 256 ^ l.length * b.toNat := by
  rw [num_append]; simp [num]
theorem num_lt64 {l : List UInt8} (h : l.length ≤ 8) : num l < 2 ^ 64 := by
  have h1 := num_lt l
  have h2 : 256 ^ l.length ≤ 256 ^ 8 := Nat.pow_le_pow_right (by decide) h
  omega
theorem or_fact (s : ByteArray) (k : Nat) (hk : k < s.size) (hs : s.size ≤ 8) :
    ∃ m : Nat, IntKind.u64.wrap ((s[k].toNat : Int) * 2 ^ (8 * k)) = (m : Int) ∧ bits .or .u64 (num (s.data.toList.take k) : Nat) (m : Int) = (num (s.data.toList.take (k + 1)) : Nat) := by
  have hb : s[k].toNat < 256 := s[k].toNat_lt
  have hlen : (s.data.toList.take k).length = k := by simp; omega
  have hn := num_lt (s.data.toList.take k)
  rw [hlen, show (256 : Nat) ^ k = 2 ^ (8 * k) by rw [Nat.pow_mul]] at hn
  have hsn : num (s.data.toList.take (k + 1)) = num (s.data.toList.take k) + 2 ^ (8 * k) * s[k].toNat := by
    rw [get_snoc s k hk, num_snoc, hlen, show (256 : Nat) ^ k = 2 ^ (8 * k) by rw [Nat.pow_mul]]
  have hl64 : num (s.data.toList.take (k + 1)) < 2 ^ 64 := num_lt64 (by simp; omega)
  refine ⟨2 ^ (8 * k) * s[k].toNat, ?_, ?_⟩
  · rw [IntKind.wrap_u64]
    have e : ((s[k].toNat : Int) * 2 ^ (8 * k)) = ((2 ^ (8 * k) * s[k].toNat : Nat) : Int) := by simp [Int.mul_comm]
    rw [e]
    omega
  · rw [bits_or_u64_nat _ _ (by omega) (by omega), hsn, Nat.or_comm, ← Nat.two_pow_add_eq_or_of_lt hn, Nat.add_comm]

set_option maxHeartbeats 1000000 in
theorem number_any (s : ByteArray) (w : World) (hs : s.size ≤ 8) :
    Calls Tryz.prog 92 #[.string s] w fun e w' => e = .returned (.int .u64 (num s.data.toList : Nat)) ∧ w = w' := by
  go_enter Tryz.func92, Tryz.ntmps92
  go_wp2
  go_loop [3, 7] (fun n i => ∃ k : Nat, k ≤ s.size ∧ i = .int .i64 k ∧ n = .int .u64 (num (s.data.toList.take k) : Nat)) (fun _ i => s.size - (intOf i).toNat)
  case atStart => exact ⟨0, Nat.zero_le _, rfl, rfl⟩
  case round =>
    obtain ⟨k, hk, rfl, rfl⟩ := hrel
    by_cases hlt : k < s.size
    · have hb : s[k].toNat < 256 := s[k].toNat_lt
      obtain ⟨m, h1, h2⟩ := or_fact s k hlt hs
      have H1 : Hid (bits .or .u64 (num (s.data.toList.take k) : Nat) (IntKind.u64.wrap ((s[k].toNat : Int) * 2 ^ (8 * k))) = (num (s.data.toList.take (k + 1)) : Nat)) := Lib.hid (by rw [h1, h2])
      clear h1 h2
      generalize num (s.data.toList.take k) = c at *
      go_wp2
      go_round
      case rel => exact ⟨k + 1, by omega, by go_num, by rw [H1.out]⟩
      case measure => simp [intOf]; omega
    · have hz : num (s.data.toList.take k) = num s.data.toList := by rw [List.take_of_length_le (by simp; omega)]
      have HZ := Lib.hid hz
      clear hz
      generalize num (s.data.toList.take k) = c at *
      go_wp2
      go_ret
      exact ⟨ret_u64 (by rw [HZ.out]), rfl⟩

theorem num_cons (b : UInt8) (l : List UInt8) : num (b :: l) = b.toNat + 256 * num l := rfl
theorem drop_step (s : ByteArray) (k : Nat) (h : k < s.size) : s.data.toList.drop k = s[k] :: s.data.toList.drop (k + 1) := by
  rw [List.drop_eq_getElem_cons (by simpa using h)]; rfl

set_option maxHeartbeats 1000000 in
theorem of_any (s : ByteArray) (w : World) (hs : s.size ≤ 8) :
    Calls Tryz.prog 97 #[.string s] w fun e w' => e = .returned (.int .u64 (num s.data.toList : Nat)) ∧ w = w' := by
  go_enter Tryz.func97, Tryz.ntmps97
  go_wp2
  go_loop [3, 4] (fun n i => ∃ k : Nat, k ≤ s.size ∧ i = .int .i64 ((k : Int) - 1) ∧ n = .int .u64 (num (s.data.toList.drop k) : Nat)) (fun _ i => (intOf i + 1).toNat)
  case atStart => exact ⟨s.size, Nat.le_refl _, rfl, by rw [List.drop_of_length_le (by simp)]; rfl⟩
  case round =>
    obtain ⟨k, hk, rfl, rfl⟩ := hrel
    by_cases hlt : 0 < k
    · obtain ⟨j, rfl⟩ : ∃ j, k = j + 1 := ⟨k - 1, by omega⟩
      have e1 : (((j + 1 : Nat) : Int) - 1) = (j : Int) := by omega
      have hb : s[j].toNat < 256 := s[j].toNat_lt
      have hn : num (s.data.toList.drop (j + 1)) < 256 ^ 7 := by
        have h1 := num_lt (s.data.toList.drop (j + 1))
        have h2 : 256 ^ (s.data.toList.drop (j + 1)).length ≤ 256 ^ 7 := Nat.pow_le_pow_right (by decide) (by simp; omega)
        omega
      have hj : num (s.data.toList.drop j) = s[j].toNat + 256 * num (s.data.toList.drop (j + 1)) := by rw [drop_step s j (by omega), num_cons]
      obtain ⟨p, hp⟩ : ∃ p : Nat, IntKind.u64.wrap ((num (s.data.toList.drop (j + 1)) : Nat) * 256 : Int) = (p : Int) ∧ p = 256 * num (s.data.toList.drop (j + 1)) := ⟨_, by rw [IntKind.wrap_u64]; omega, rfl⟩
      have hq : IntKind.u64.wrap ((p : Int) + (s[j].toNat : Int)) = ((num (s.data.toList.drop j) : Nat) : Int) := by rw [hj, IntKind.wrap_u64]; omega
      have hp1 := hp.1
      have HQ := Lib.hid hq
      rw [e1]
      clear hp hn e1 hj hq
      generalize num (s.data.toList.drop (j + 1)) = c at *
      go_wp2
      go_round
      case rel => exact ⟨j, by omega, by go_num, by rw [HQ.out]⟩
      case measure => simp [intOf]
    · obtain rfl : k = 0 := by omega
      have HZ : Hid (num (s.data.toList.drop 0) = num s.data.toList) := Lib.hid (by rw [List.drop_zero])
      rw [show (((0 : Nat) : Int) - 1) = -1 from rfl]
      generalize num (s.data.toList.drop 0) = c at *
      go_wp2
      go_ret
      exact ⟨ret_u64 (by rw [HZ.out]), rfl⟩
end Go.Proofs.YtikpojnmaiplnaaGreatDoor
