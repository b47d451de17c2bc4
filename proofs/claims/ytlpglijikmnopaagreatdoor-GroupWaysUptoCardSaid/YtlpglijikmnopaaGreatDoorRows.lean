/-
  NARROWER THAN 'FOR EVERY INPUT', by the rows' own cells (each row's printed sentence says how): GroupWays: loops, laid · GroupRows: loops, laid · GroupKeys: laid · GroupLess: laid · GroupBoth: laid · GroupFilters: loops, laid · GroupRefines: laid.
  DERIVED. THE GIVEN ROWS OF THIS SEAT. 7 by the template 'for every input the law returns true; each argument reads behind the call as it read before'; 0 by the template 'total and deterministic' (their statements: YtlpglijikmnopaaGreatDoorTotals.lean).
  GIVEN WITH THE SEED: the statements are not yours to turn. If you find one false, say at which input.
  Laid BY PROGRAM, IN A SANDBOX (cutbox-rows.mjs): the forced cells as the released guide's own fill.sh prints them over the translation 8af4f247b9ec48f0… (all of the seat's roots in one cut). By AI agents, Wed Nov 11 2026. No macro, syntax, notation, axiom, sorry.
-/
import Derived.Test.YtlpglijikmnopaaGreatDoorChecked
import GoSem.Claim
import GoSem.ClaimJoined
import GoSem.ClaimMapViews
import Derived.JoinedTies
import Derived.KernelRfl
namespace Go.Proofs.YtlpglijikmnopaaGreatDoor
/- THE CELL 'sum', in the pinned program and in every row, IS THE sha256 OF THE DUMP (.gsa) THAT YtlpglijikmnopaaGreatDoorProg.lean LOADS. Nothing in Lean hashes anything: it is a label: what it is worth is what the hold of that sum in a sandbox is worth. -/
noncomputable def Tryz.pinned : Pinned := { name := "ytlpglijikmnopaagreatdoor", sum := "8af4f247b9ec48f05ddedd23667df85f3e3a9c1e30b8d57a0362f655c043dccf", checked := Tryz.checked }
namespace Rows
def none {H : Type} : Left H := { results := [], args := [] }

/- WHAT THE LISTED PACKAGE-LEVEL VARIABLES READ AS WHEN THE CALL BEGINS. Each datum BY PROGRAM (the guide's laid-datum.mjs) off the statement by which the dump's own 'gosem.cut.vars' lays the variable. In a bare row this is a premise. The card (YtlpglijikmnopaaGreatDoorCards.lean) ties it to the program's text. -/
def laid_math_bits_deBruijn32tab {H : Type} : DataW H := .agg [.lit (.int .u8 0), .lit (.int .u8 1), .lit (.int .u8 28), .lit (.int .u8 2), .lit (.int .u8 29), .lit (.int .u8 14), .lit (.int .u8 24), .lit (.int .u8 3), .lit (.int .u8 30), .lit (.int .u8 22), .lit (.int .u8 20), .lit (.int .u8 15), .lit (.int .u8 25), .lit (.int .u8 17), .lit (.int .u8 4), .lit (.int .u8 8), .lit (.int .u8 31), .lit (.int .u8 27), .lit (.int .u8 13), .lit (.int .u8 23), .lit (.int .u8 21), .lit (.int .u8 19), .lit (.int .u8 16), .lit (.int .u8 7), .lit (.int .u8 26), .lit (.int .u8 12), .lit (.int .u8 18), .lit (.int .u8 6), .lit (.int .u8 11), .lit (.int .u8 5), .lit (.int .u8 10), .lit (.int .u8 9)]
def laid_math_bits_deBruijn64tab {H : Type} : DataW H := .agg [.lit (.int .u8 0), .lit (.int .u8 1), .lit (.int .u8 56), .lit (.int .u8 2), .lit (.int .u8 57), .lit (.int .u8 49), .lit (.int .u8 28), .lit (.int .u8 3), .lit (.int .u8 61), .lit (.int .u8 58), .lit (.int .u8 42), .lit (.int .u8 50), .lit (.int .u8 38), .lit (.int .u8 29), .lit (.int .u8 17), .lit (.int .u8 4), .lit (.int .u8 62), .lit (.int .u8 47), .lit (.int .u8 59), .lit (.int .u8 36), .lit (.int .u8 45), .lit (.int .u8 43), .lit (.int .u8 51), .lit (.int .u8 22), .lit (.int .u8 53), .lit (.int .u8 39), .lit (.int .u8 33), .lit (.int .u8 30), .lit (.int .u8 24), .lit (.int .u8 18), .lit (.int .u8 12), .lit (.int .u8 5), .lit (.int .u8 63), .lit (.int .u8 55), .lit (.int .u8 48), .lit (.int .u8 27), .lit (.int .u8 60), .lit (.int .u8 41), .lit (.int .u8 37), .lit (.int .u8 16), .lit (.int .u8 46), .lit (.int .u8 35), .lit (.int .u8 44), .lit (.int .u8 21), .lit (.int .u8 52), .lit (.int .u8 32), .lit (.int .u8 23), .lit (.int .u8 11), .lit (.int .u8 54), .lit (.int .u8 26), .lit (.int .u8 40), .lit (.int .u8 15), .lit (.int .u8 34), .lit (.int .u8 20), .lit (.int .u8 31), .lit (.int .u8 10), .lit (.int .u8 25), .lit (.int .u8 14), .lit (.int .u8 19), .lit (.int .u8 9), .lit (.int .u8 13), .lit (.int .u8 8), .lit (.int .u8 7), .lit (.int .u8 6)]
def laid_internal_strconv_uint64pow10 {H : Type} : DataW H := .agg [.lit (.int .u64 1), .lit (.int .u64 10), .lit (.int .u64 100), .lit (.int .u64 1000), .lit (.int .u64 10000), .lit (.int .u64 100000), .lit (.int .u64 1000000), .lit (.int .u64 10000000), .lit (.int .u64 100000000), .lit (.int .u64 1000000000), .lit (.int .u64 10000000000), .lit (.int .u64 100000000000), .lit (.int .u64 1000000000000), .lit (.int .u64 10000000000000), .lit (.int .u64 100000000000000), .lit (.int .u64 1000000000000000), .lit (.int .u64 10000000000000000), .lit (.int .u64 100000000000000000), .lit (.int .u64 1000000000000000000), .lit (.int .u64 10000000000000000000)]

/-- 'caissonlaw14.GroupWays': WHATEVER THE INPUT: true; the input reads as it did. -/
def groupWaysSpec : ChangeSpec := { name := "groupWays", fn := fun _ => fun
  | [d1, d2] => { results := [.lit (.bool true)], args := [d1, d2] }
  | _ => none }
def groupWaysRow : OpenClaim := { program := "ytlpglijikmnopaagreatdoor", sum := "8af4f247b9ec48f05ddedd23667df85f3e3a9c1e30b8d57a0362f655c043dccf", func := "caisson/caissonlaw14.GroupWays", spec := "groupWays", inPlace := ["math/bits.Add64"], unfollowed := true, recurses := true, named := ["internal/strconv.uint64pow10", "math/bits.deBruijn32tab", "math/bits.deBruijn64tab"], loops := true, apart := false, laid := [("math/bits.deBruijn32tab", laid_math_bits_deBruijn32tab), ("math/bits.deBruijn64tab", laid_math_bits_deBruijn64tab), ("internal/strconv.uint64pow10", laid_internal_strconv_uint64pow10)] }
def GroupWaysSaid : Prop := groupWaysRow.holds Tryz.pinned (OpenSpec.ofChange groupWaysSpec)

/-- ITS FALSE NEIGHBOUR: 'it returns false'. Refute it at one input. -/
def groupWaysWrong : ChangeSpec := { name := "groupWays", fn := fun _ => fun
  | [d1, d2] => { results := [.lit (.bool false)], args := [d1, d2] }
  | _ => none }
def GroupWaysWrongFalsely : Prop := groupWaysRow.holds Tryz.pinned (OpenSpec.ofChange groupWaysWrong)

/-- 'caissonlaw14.GroupRows': WHATEVER THE INPUT: true; the input reads as it did. -/
def groupRowsSpec : ChangeSpec := { name := "groupRows", fn := fun _ => fun
  | [d1, d2, d3] => { results := [.lit (.bool true)], args := [d1, d2, d3] }
  | _ => none }
def groupRowsRow : OpenClaim := { program := "ytlpglijikmnopaagreatdoor", sum := "8af4f247b9ec48f05ddedd23667df85f3e3a9c1e30b8d57a0362f655c043dccf", func := "caisson/caissonlaw14.GroupRows", spec := "groupRows", inPlace := ["math/bits.Add64"], unfollowed := true, recurses := true, named := ["internal/strconv.uint64pow10", "math/bits.deBruijn32tab", "math/bits.deBruijn64tab"], loops := true, apart := false, laid := [("math/bits.deBruijn32tab", laid_math_bits_deBruijn32tab), ("math/bits.deBruijn64tab", laid_math_bits_deBruijn64tab), ("internal/strconv.uint64pow10", laid_internal_strconv_uint64pow10)] }
def GroupRowsSaid : Prop := groupRowsRow.holds Tryz.pinned (OpenSpec.ofChange groupRowsSpec)

/-- ITS FALSE NEIGHBOUR: 'it returns false'. Refute it at one input. -/
def groupRowsWrong : ChangeSpec := { name := "groupRows", fn := fun _ => fun
  | [d1, d2, d3] => { results := [.lit (.bool false)], args := [d1, d2, d3] }
  | _ => none }
def GroupRowsWrongFalsely : Prop := groupRowsRow.holds Tryz.pinned (OpenSpec.ofChange groupRowsWrong)

/-- 'caissonlaw14.GroupKeys': WHATEVER THE INPUT: true; the input reads as it did. -/
def groupKeysSpec : ChangeSpec := { name := "groupKeys", fn := fun _ => fun
  | [d1, d2] => { results := [.lit (.bool true)], args := [d1, d2] }
  | _ => none }
def groupKeysRow : OpenClaim := { program := "ytlpglijikmnopaagreatdoor", sum := "8af4f247b9ec48f05ddedd23667df85f3e3a9c1e30b8d57a0362f655c043dccf", func := "caisson/caissonlaw14.GroupKeys", spec := "groupKeys", inPlace := ["math/bits.Add64"], unfollowed := true, recurses := true, named := ["internal/strconv.uint64pow10", "math/bits.deBruijn32tab", "math/bits.deBruijn64tab"], apart := false, laid := [("math/bits.deBruijn32tab", laid_math_bits_deBruijn32tab), ("math/bits.deBruijn64tab", laid_math_bits_deBruijn64tab), ("internal/strconv.uint64pow10", laid_internal_strconv_uint64pow10)] }
def GroupKeysSaid : Prop := groupKeysRow.holds Tryz.pinned (OpenSpec.ofChange groupKeysSpec)

/-- ITS FALSE NEIGHBOUR: 'it returns false'. Refute it at one input. -/
def groupKeysWrong : ChangeSpec := { name := "groupKeys", fn := fun _ => fun
  | [d1, d2] => { results := [.lit (.bool false)], args := [d1, d2] }
  | _ => none }
def GroupKeysWrongFalsely : Prop := groupKeysRow.holds Tryz.pinned (OpenSpec.ofChange groupKeysWrong)

/-- 'caissonlaw14.GroupLess': WHATEVER THE INPUT: true; the input reads as it did. -/
def groupLessSpec : ChangeSpec := { name := "groupLess", fn := fun _ => fun
  | [d1, d2, d3] => { results := [.lit (.bool true)], args := [d1, d2, d3] }
  | _ => none }
def groupLessRow : OpenClaim := { program := "ytlpglijikmnopaagreatdoor", sum := "8af4f247b9ec48f05ddedd23667df85f3e3a9c1e30b8d57a0362f655c043dccf", func := "caisson/caissonlaw14.GroupLess", spec := "groupLess", inPlace := ["math/bits.Add64"], unfollowed := true, recurses := true, named := ["internal/strconv.uint64pow10", "math/bits.deBruijn32tab", "math/bits.deBruijn64tab"], apart := false, laid := [("math/bits.deBruijn32tab", laid_math_bits_deBruijn32tab), ("math/bits.deBruijn64tab", laid_math_bits_deBruijn64tab), ("internal/strconv.uint64pow10", laid_internal_strconv_uint64pow10)] }
def GroupLessSaid : Prop := groupLessRow.holds Tryz.pinned (OpenSpec.ofChange groupLessSpec)

/-- ITS FALSE NEIGHBOUR: 'it returns false'. Refute it at one input. -/
def groupLessWrong : ChangeSpec := { name := "groupLess", fn := fun _ => fun
  | [d1, d2, d3] => { results := [.lit (.bool false)], args := [d1, d2, d3] }
  | _ => none }
def GroupLessWrongFalsely : Prop := groupLessRow.holds Tryz.pinned (OpenSpec.ofChange groupLessWrong)

/-- 'caissonlaw14.GroupBoth': WHATEVER THE INPUT: true; the input reads as it did. -/
def groupBothSpec : ChangeSpec := { name := "groupBoth", fn := fun _ => fun
  | [d1, d2, d3] => { results := [.lit (.bool true)], args := [d1, d2, d3] }
  | _ => none }
def groupBothRow : OpenClaim := { program := "ytlpglijikmnopaagreatdoor", sum := "8af4f247b9ec48f05ddedd23667df85f3e3a9c1e30b8d57a0362f655c043dccf", func := "caisson/caissonlaw14.GroupBoth", spec := "groupBoth", inPlace := ["math/bits.Add64"], unfollowed := true, recurses := true, named := ["internal/strconv.uint64pow10", "math/bits.deBruijn32tab", "math/bits.deBruijn64tab"], apart := false, laid := [("math/bits.deBruijn32tab", laid_math_bits_deBruijn32tab), ("math/bits.deBruijn64tab", laid_math_bits_deBruijn64tab), ("internal/strconv.uint64pow10", laid_internal_strconv_uint64pow10)] }
def GroupBothSaid : Prop := groupBothRow.holds Tryz.pinned (OpenSpec.ofChange groupBothSpec)

/-- ITS FALSE NEIGHBOUR: 'it returns false'. Refute it at one input. -/
def groupBothWrong : ChangeSpec := { name := "groupBoth", fn := fun _ => fun
  | [d1, d2, d3] => { results := [.lit (.bool false)], args := [d1, d2, d3] }
  | _ => none }
def GroupBothWrongFalsely : Prop := groupBothRow.holds Tryz.pinned (OpenSpec.ofChange groupBothWrong)

/-- 'caissonlaw14.GroupFilters': WHATEVER THE INPUT: true; the input reads as it did. -/
def groupFiltersSpec : ChangeSpec := { name := "groupFilters", fn := fun _ => fun
  | [d1, d2, d3] => { results := [.lit (.bool true)], args := [d1, d2, d3] }
  | _ => none }
def groupFiltersRow : OpenClaim := { program := "ytlpglijikmnopaagreatdoor", sum := "8af4f247b9ec48f05ddedd23667df85f3e3a9c1e30b8d57a0362f655c043dccf", func := "caisson/caissonlaw14.GroupFilters", spec := "groupFilters", inPlace := ["math/bits.Add64"], unfollowed := true, recurses := true, named := ["internal/strconv.uint64pow10", "math/bits.deBruijn32tab", "math/bits.deBruijn64tab"], loops := true, apart := false, laid := [("math/bits.deBruijn32tab", laid_math_bits_deBruijn32tab), ("math/bits.deBruijn64tab", laid_math_bits_deBruijn64tab), ("internal/strconv.uint64pow10", laid_internal_strconv_uint64pow10)] }
def GroupFiltersSaid : Prop := groupFiltersRow.holds Tryz.pinned (OpenSpec.ofChange groupFiltersSpec)

/-- ITS FALSE NEIGHBOUR: 'it returns false'. Refute it at one input. -/
def groupFiltersWrong : ChangeSpec := { name := "groupFilters", fn := fun _ => fun
  | [d1, d2, d3] => { results := [.lit (.bool false)], args := [d1, d2, d3] }
  | _ => none }
def GroupFiltersWrongFalsely : Prop := groupFiltersRow.holds Tryz.pinned (OpenSpec.ofChange groupFiltersWrong)

/-- 'caissonlaw14.GroupRefines': WHATEVER THE INPUT: true; the input reads as it did. -/
def groupRefinesSpec : ChangeSpec := { name := "groupRefines", fn := fun _ => fun
  | [d1, d2, d3] => { results := [.lit (.bool true)], args := [d1, d2, d3] }
  | _ => none }
def groupRefinesRow : OpenClaim := { program := "ytlpglijikmnopaagreatdoor", sum := "8af4f247b9ec48f05ddedd23667df85f3e3a9c1e30b8d57a0362f655c043dccf", func := "caisson/caissonlaw14.GroupRefines", spec := "groupRefines", inPlace := ["math/bits.Add64"], unfollowed := true, recurses := true, named := ["internal/strconv.uint64pow10", "math/bits.deBruijn32tab", "math/bits.deBruijn64tab"], apart := false, laid := [("math/bits.deBruijn32tab", laid_math_bits_deBruijn32tab), ("math/bits.deBruijn64tab", laid_math_bits_deBruijn64tab), ("internal/strconv.uint64pow10", laid_internal_strconv_uint64pow10)] }
def GroupRefinesSaid : Prop := groupRefinesRow.holds Tryz.pinned (OpenSpec.ofChange groupRefinesSpec)

/-- ITS FALSE NEIGHBOUR: 'it returns false'. Refute it at one input. -/
def groupRefinesWrong : ChangeSpec := { name := "groupRefines", fn := fun _ => fun
  | [d1, d2, d3] => { results := [.lit (.bool false)], args := [d1, d2, d3] }
  | _ => none }
def GroupRefinesWrongFalsely : Prop := groupRefinesRow.holds Tryz.pinned (OpenSpec.ofChange groupRefinesWrong)

/- THE SECOND FORM. 'bulk': how many values and letters a reading holds, each counted each time it is reached (what is shared counts as often as it is met; a slice's spare places count too). A statement '..UptoSaid' is the law's where the arguments, and the package variables that the reading takes, are together of bulk at most 1048576: NARROWER than '..Said'. Prove '..Said' where nothing that the law and all that it calls make is longer than what came in: it says more and counts as full. Else prove '..UptoSaid'. A law counts once. -/
mutual
def uptoBulk {H : Type} : DataW H → Nat
  | .lit (.string bytes) => bytes.length + 1
  | .lit _ => 1
  | .nil => 1
  | .ptr d => uptoBulk d + 1
  | .slice elems spare => uptoBulkAll elems + uptoBulkAll spare + 1
  | .agg parts => uptoBulkAll parts + 1
  | .iface _ d => uptoBulk d + 1
  | .map entries => uptoBulkEntries entries + 1
  | .held _ => 1
def uptoBulkAll {H : Type} : List (DataW H) → Nat
  | [] => 0
  | d :: r => uptoBulk d + uptoBulkAll r
def uptoBulkEntries {H : Type} : List (Lit × DataW H) → Nat
  | [] => 0
  | x :: r => uptoBulkEntry x + uptoBulkEntries r
def uptoBulkEntry {H : Type} : Lit × DataW H → Nat
  | (.string bytes, d) => bytes.length + uptoBulk d + 1
  | (_, d) => uptoBulk d + 1
 end
def uptoSmall : (H : Type) → List (DataW H) → Bool := fun _ ds => decide (uptoBulkAll ds ≤ 1048576)
def OpenSpec.upto (s : _root_.Go.ChangeSpec) : _root_.Go.OpenSpec := { _root_.Go.OpenSpec.ofChange s with cond := some uptoSmall }

/-- 'caissonlaw14.GroupWays', WHERE WHAT IT READS IS OF BULK AT MOST 1048576: true; the input reads as it did. -/
def groupWaysUptoRow : OpenClaim := { program := "ytlpglijikmnopaagreatdoor", sum := "8af4f247b9ec48f05ddedd23667df85f3e3a9c1e30b8d57a0362f655c043dccf", func := "caisson/caissonlaw14.GroupWays", spec := "groupWays", inPlace := ["math/bits.Add64"], unfollowed := true, recurses := true, named := ["internal/strconv.uint64pow10", "math/bits.deBruijn32tab", "math/bits.deBruijn64tab"], loops := true, apart := false, laid := [("math/bits.deBruijn32tab", laid_math_bits_deBruijn32tab), ("math/bits.deBruijn64tab", laid_math_bits_deBruijn64tab), ("internal/strconv.uint64pow10", laid_internal_strconv_uint64pow10)], narrowed := true }
def GroupWaysUptoSaid : Prop := groupWaysUptoRow.holds Tryz.pinned (OpenSpec.upto groupWaysSpec)

/-- 'caissonlaw14.GroupRows', WHERE WHAT IT READS IS OF BULK AT MOST 1048576: true; the input reads as it did. -/
def groupRowsUptoRow : OpenClaim := { program := "ytlpglijikmnopaagreatdoor", sum := "8af4f247b9ec48f05ddedd23667df85f3e3a9c1e30b8d57a0362f655c043dccf", func := "caisson/caissonlaw14.GroupRows", spec := "groupRows", inPlace := ["math/bits.Add64"], unfollowed := true, recurses := true, named := ["internal/strconv.uint64pow10", "math/bits.deBruijn32tab", "math/bits.deBruijn64tab"], loops := true, apart := false, laid := [("math/bits.deBruijn32tab", laid_math_bits_deBruijn32tab), ("math/bits.deBruijn64tab", laid_math_bits_deBruijn64tab), ("internal/strconv.uint64pow10", laid_internal_strconv_uint64pow10)], narrowed := true }
def GroupRowsUptoSaid : Prop := groupRowsUptoRow.holds Tryz.pinned (OpenSpec.upto groupRowsSpec)

/-- 'caissonlaw14.GroupKeys', WHERE WHAT IT READS IS OF BULK AT MOST 1048576: true; the input reads as it did. -/
def groupKeysUptoRow : OpenClaim := { program := "ytlpglijikmnopaagreatdoor", sum := "8af4f247b9ec48f05ddedd23667df85f3e3a9c1e30b8d57a0362f655c043dccf", func := "caisson/caissonlaw14.GroupKeys", spec := "groupKeys", inPlace := ["math/bits.Add64"], unfollowed := true, recurses := true, named := ["internal/strconv.uint64pow10", "math/bits.deBruijn32tab", "math/bits.deBruijn64tab"], apart := false, laid := [("math/bits.deBruijn32tab", laid_math_bits_deBruijn32tab), ("math/bits.deBruijn64tab", laid_math_bits_deBruijn64tab), ("internal/strconv.uint64pow10", laid_internal_strconv_uint64pow10)], narrowed := true }
def GroupKeysUptoSaid : Prop := groupKeysUptoRow.holds Tryz.pinned (OpenSpec.upto groupKeysSpec)

/-- 'caissonlaw14.GroupLess', WHERE WHAT IT READS IS OF BULK AT MOST 1048576: true; the input reads as it did. -/
def groupLessUptoRow : OpenClaim := { program := "ytlpglijikmnopaagreatdoor", sum := "8af4f247b9ec48f05ddedd23667df85f3e3a9c1e30b8d57a0362f655c043dccf", func := "caisson/caissonlaw14.GroupLess", spec := "groupLess", inPlace := ["math/bits.Add64"], unfollowed := true, recurses := true, named := ["internal/strconv.uint64pow10", "math/bits.deBruijn32tab", "math/bits.deBruijn64tab"], apart := false, laid := [("math/bits.deBruijn32tab", laid_math_bits_deBruijn32tab), ("math/bits.deBruijn64tab", laid_math_bits_deBruijn64tab), ("internal/strconv.uint64pow10", laid_internal_strconv_uint64pow10)], narrowed := true }
def GroupLessUptoSaid : Prop := groupLessUptoRow.holds Tryz.pinned (OpenSpec.upto groupLessSpec)

/-- 'caissonlaw14.GroupBoth', WHERE WHAT IT READS IS OF BULK AT MOST 1048576: true; the input reads as it did. -/
def groupBothUptoRow : OpenClaim := { program := "ytlpglijikmnopaagreatdoor", sum := "8af4f247b9ec48f05ddedd23667df85f3e3a9c1e30b8d57a0362f655c043dccf", func := "caisson/caissonlaw14.GroupBoth", spec := "groupBoth", inPlace := ["math/bits.Add64"], unfollowed := true, recurses := true, named := ["internal/strconv.uint64pow10", "math/bits.deBruijn32tab", "math/bits.deBruijn64tab"], apart := false, laid := [("math/bits.deBruijn32tab", laid_math_bits_deBruijn32tab), ("math/bits.deBruijn64tab", laid_math_bits_deBruijn64tab), ("internal/strconv.uint64pow10", laid_internal_strconv_uint64pow10)], narrowed := true }
def GroupBothUptoSaid : Prop := groupBothUptoRow.holds Tryz.pinned (OpenSpec.upto groupBothSpec)

/-- 'caissonlaw14.GroupFilters', WHERE WHAT IT READS IS OF BULK AT MOST 1048576: true; the input reads as it did. -/
def groupFiltersUptoRow : OpenClaim := { program := "ytlpglijikmnopaagreatdoor", sum := "8af4f247b9ec48f05ddedd23667df85f3e3a9c1e30b8d57a0362f655c043dccf", func := "caisson/caissonlaw14.GroupFilters", spec := "groupFilters", inPlace := ["math/bits.Add64"], unfollowed := true, recurses := true, named := ["internal/strconv.uint64pow10", "math/bits.deBruijn32tab", "math/bits.deBruijn64tab"], loops := true, apart := false, laid := [("math/bits.deBruijn32tab", laid_math_bits_deBruijn32tab), ("math/bits.deBruijn64tab", laid_math_bits_deBruijn64tab), ("internal/strconv.uint64pow10", laid_internal_strconv_uint64pow10)], narrowed := true }
def GroupFiltersUptoSaid : Prop := groupFiltersUptoRow.holds Tryz.pinned (OpenSpec.upto groupFiltersSpec)

/-- 'caissonlaw14.GroupRefines', WHERE WHAT IT READS IS OF BULK AT MOST 1048576: true; the input reads as it did. -/
def groupRefinesUptoRow : OpenClaim := { program := "ytlpglijikmnopaagreatdoor", sum := "8af4f247b9ec48f05ddedd23667df85f3e3a9c1e30b8d57a0362f655c043dccf", func := "caisson/caissonlaw14.GroupRefines", spec := "groupRefines", inPlace := ["math/bits.Add64"], unfollowed := true, recurses := true, named := ["internal/strconv.uint64pow10", "math/bits.deBruijn32tab", "math/bits.deBruijn64tab"], apart := false, laid := [("math/bits.deBruijn32tab", laid_math_bits_deBruijn32tab), ("math/bits.deBruijn64tab", laid_math_bits_deBruijn64tab), ("internal/strconv.uint64pow10", laid_internal_strconv_uint64pow10)], narrowed := true }
def GroupRefinesUptoSaid : Prop := groupRefinesUptoRow.holds Tryz.pinned (OpenSpec.upto groupRefinesSpec)

end Rows
end Go.Proofs.YtlpglijikmnopaaGreatDoor
