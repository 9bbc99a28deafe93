/-
  NARROWER THAN 'FOR EVERY INPUT', by the rows' own cells (each row's printed sentence says how): WeighOrders: laid · WeighSame: laid · WeighStrong: laid · WeighBack: laid · WeighNil: laid · WeighNames: laid.
  DERIVED. THE GIVEN ROWS OF THIS SEAT. 6 by the template 'for every input the law returns true; each argument reads behind the call as it read before'; 0 by the template 'total and deterministic' (their statements: YtfhpgmlfgjfknaaGreatDoorTotals.lean).
  GIVEN WITH THE SEED: the statements are not yours to turn. If you find one false, say at which input.
  Laid BY PROGRAM, IN A SANDBOX (cutbox-rows.mjs): the forced cells as the released guide's own fill.sh prints them over the translation 935b154ef5b79ea0… (all of the seat's roots in one cut). By AI agents, Wed Nov 11 2026. No macro, syntax, notation, axiom, sorry.
-/
import Derived.Test.YtfhpgmlfgjfknaaGreatDoorChecked
import GoSem.PinnedTables
import GoSem.Claim
import GoSem.ClaimJoined
import GoSem.ClaimMapViews
import Derived.JoinedTies
import Derived.KernelRfl
namespace Go.Proofs.YtfhpgmlfgjfknaaGreatDoor
/- THE CELL 'sum', in the pinned program and in every row, IS THE sha256 OF THE DUMP (.gsa) THAT YtfhpgmlfgjfknaaGreatDoorProg.lean LOADS. Nothing in Lean hashes anything: it is a label: what it is worth is what the hold of that sum in a sandbox is worth. -/
noncomputable def Tryz.pinned : Pinned := { name := "ytfhpgmlfgjfknaagreatdoor", sum := "935b154ef5b79ea0ac822a706a1513f74c077323a248e6b7f54a2a222ab929fd", checked := Tryz.checked }
namespace Rows
def none {H : Type} : Left H := { results := [], args := [] }

/- WHAT THE LISTED PACKAGE-LEVEL VARIABLES READ AS WHEN THE CALL BEGINS. Each datum BY PROGRAM (the guide's laid-datum.mjs) off the statement by which the dump's own 'gosem.cut.vars' lays the variable. In a bare row this is a premise. The card (YtfhpgmlfgjfknaaGreatDoorCards.lean) ties it to the program's text. -/
def laid_unicode_utf8_acceptRanges {H : Type} : DataW H := .agg [.agg [.lit (.int .u8 128), .lit (.int .u8 191)], .agg [.lit (.int .u8 160), .lit (.int .u8 191)], .agg [.lit (.int .u8 128), .lit (.int .u8 159)], .agg [.lit (.int .u8 144), .lit (.int .u8 191)], .agg [.lit (.int .u8 128), .lit (.int .u8 143)], .agg [.lit (.int .u8 0), .lit (.int .u8 0)], .agg [.lit (.int .u8 0), .lit (.int .u8 0)], .agg [.lit (.int .u8 0), .lit (.int .u8 0)], .agg [.lit (.int .u8 0), .lit (.int .u8 0)], .agg [.lit (.int .u8 0), .lit (.int .u8 0)], .agg [.lit (.int .u8 0), .lit (.int .u8 0)], .agg [.lit (.int .u8 0), .lit (.int .u8 0)], .agg [.lit (.int .u8 0), .lit (.int .u8 0)], .agg [.lit (.int .u8 0), .lit (.int .u8 0)], .agg [.lit (.int .u8 0), .lit (.int .u8 0)], .agg [.lit (.int .u8 0), .lit (.int .u8 0)]]
def laid_dovetail_utf_rows {H : Type} : DataW H := .agg [.agg [.lit (.int .u8 0), .lit (.int .u8 127), .lit (.int .u8 0), .lit (.int .u8 0), .lit (.int .i64 1), .lit (.int .i64 0), .lit (.int .i64 127)], .agg [.lit (.int .u8 194), .lit (.int .u8 223), .lit (.int .u8 128), .lit (.int .u8 191), .lit (.int .i64 2), .lit (.int .i64 128), .lit (.int .i64 2047)], .agg [.lit (.int .u8 224), .lit (.int .u8 224), .lit (.int .u8 160), .lit (.int .u8 191), .lit (.int .i64 3), .lit (.int .i64 2048), .lit (.int .i64 4095)], .agg [.lit (.int .u8 225), .lit (.int .u8 236), .lit (.int .u8 128), .lit (.int .u8 191), .lit (.int .i64 3), .lit (.int .i64 4096), .lit (.int .i64 53247)], .agg [.lit (.int .u8 237), .lit (.int .u8 237), .lit (.int .u8 128), .lit (.int .u8 159), .lit (.int .i64 3), .lit (.int .i64 53248), .lit (.int .i64 55295)], .agg [.lit (.int .u8 238), .lit (.int .u8 239), .lit (.int .u8 128), .lit (.int .u8 191), .lit (.int .i64 3), .lit (.int .i64 57344), .lit (.int .i64 65535)], .agg [.lit (.int .u8 240), .lit (.int .u8 240), .lit (.int .u8 144), .lit (.int .u8 191), .lit (.int .i64 4), .lit (.int .i64 65536), .lit (.int .i64 262143)], .agg [.lit (.int .u8 241), .lit (.int .u8 243), .lit (.int .u8 128), .lit (.int .u8 191), .lit (.int .i64 4), .lit (.int .i64 262144), .lit (.int .i64 1048575)], .agg [.lit (.int .u8 244), .lit (.int .u8 244), .lit (.int .u8 128), .lit (.int .u8 143), .lit (.int .i64 4), .lit (.int .i64 1048576), .lit (.int .i64 1114111)]]
def laid_dovetail_utf_heads {H : Type} : DataW H := .agg [.lit (.int .u8 0), .lit (.int .u8 0), .lit (.int .u8 192), .lit (.int .u8 224), .lit (.int .u8 240)]
/-- One of Go's own tables, pinned by name: the form's constant. -/
def laid_unicode_utf8_first : DataW Unit := Go.Pinned.utf8First
def laid_math_bits_deBruijn32tab {H : Type} : DataW H := .agg [.lit (.int .u8 0), .lit (.int .u8 1), .lit (.int .u8 28), .lit (.int .u8 2), .lit (.int .u8 29), .lit (.int .u8 14), .lit (.int .u8 24), .lit (.int .u8 3), .lit (.int .u8 30), .lit (.int .u8 22), .lit (.int .u8 20), .lit (.int .u8 15), .lit (.int .u8 25), .lit (.int .u8 17), .lit (.int .u8 4), .lit (.int .u8 8), .lit (.int .u8 31), .lit (.int .u8 27), .lit (.int .u8 13), .lit (.int .u8 23), .lit (.int .u8 21), .lit (.int .u8 19), .lit (.int .u8 16), .lit (.int .u8 7), .lit (.int .u8 26), .lit (.int .u8 12), .lit (.int .u8 18), .lit (.int .u8 6), .lit (.int .u8 11), .lit (.int .u8 5), .lit (.int .u8 10), .lit (.int .u8 9)]
def laid_math_bits_deBruijn64tab {H : Type} : DataW H := .agg [.lit (.int .u8 0), .lit (.int .u8 1), .lit (.int .u8 56), .lit (.int .u8 2), .lit (.int .u8 57), .lit (.int .u8 49), .lit (.int .u8 28), .lit (.int .u8 3), .lit (.int .u8 61), .lit (.int .u8 58), .lit (.int .u8 42), .lit (.int .u8 50), .lit (.int .u8 38), .lit (.int .u8 29), .lit (.int .u8 17), .lit (.int .u8 4), .lit (.int .u8 62), .lit (.int .u8 47), .lit (.int .u8 59), .lit (.int .u8 36), .lit (.int .u8 45), .lit (.int .u8 43), .lit (.int .u8 51), .lit (.int .u8 22), .lit (.int .u8 53), .lit (.int .u8 39), .lit (.int .u8 33), .lit (.int .u8 30), .lit (.int .u8 24), .lit (.int .u8 18), .lit (.int .u8 12), .lit (.int .u8 5), .lit (.int .u8 63), .lit (.int .u8 55), .lit (.int .u8 48), .lit (.int .u8 27), .lit (.int .u8 60), .lit (.int .u8 41), .lit (.int .u8 37), .lit (.int .u8 16), .lit (.int .u8 46), .lit (.int .u8 35), .lit (.int .u8 44), .lit (.int .u8 21), .lit (.int .u8 52), .lit (.int .u8 32), .lit (.int .u8 23), .lit (.int .u8 11), .lit (.int .u8 54), .lit (.int .u8 26), .lit (.int .u8 40), .lit (.int .u8 15), .lit (.int .u8 34), .lit (.int .u8 20), .lit (.int .u8 31), .lit (.int .u8 10), .lit (.int .u8 25), .lit (.int .u8 14), .lit (.int .u8 19), .lit (.int .u8 9), .lit (.int .u8 13), .lit (.int .u8 8), .lit (.int .u8 7), .lit (.int .u8 6)]
def laid_internal_strconv_uint64pow10 {H : Type} : DataW H := .agg [.lit (.int .u64 1), .lit (.int .u64 10), .lit (.int .u64 100), .lit (.int .u64 1000), .lit (.int .u64 10000), .lit (.int .u64 100000), .lit (.int .u64 1000000), .lit (.int .u64 10000000), .lit (.int .u64 100000000), .lit (.int .u64 1000000000), .lit (.int .u64 10000000000), .lit (.int .u64 100000000000), .lit (.int .u64 1000000000000), .lit (.int .u64 10000000000000), .lit (.int .u64 100000000000000), .lit (.int .u64 1000000000000000), .lit (.int .u64 10000000000000000), .lit (.int .u64 100000000000000000), .lit (.int .u64 1000000000000000000), .lit (.int .u64 10000000000000000000)]
/-- One of Go's own tables, pinned by name: the form's constant. -/
def laid_unicode_CaseRanges : DataW Unit := Go.Pinned.caseRanges

/-- 'dovetaillaw08.WeighOrders': WHATEVER THE INPUT: true; the input reads as it did. -/
def weighOrdersSpec : ChangeSpec := { name := "weighOrders", fn := fun _ => fun
  | [d1, d2] => { results := [.lit (.bool true)], args := [d1, d2] }
  | _ => none }
def weighOrdersRow : OpenClaim := { program := "ytfhpgmlfgjfknaagreatdoor", sum := "935b154ef5b79ea0ac822a706a1513f74c077323a248e6b7f54a2a222ab929fd", func := "dovetail/dovetaillaw08.WeighOrders", spec := "weighOrders", inPlace := ["internal/bytealg.CountString", "internal/bytealg.IndexByteString", "internal/bytealg.IndexString"], unfollowed := true, recurses := true, named := ["unicode/utf8.first", "unicode/utf8.acceptRanges", "internal/bytealg.MaxLen", "dovetail/utf.rows", "dovetail/utf.heads"], plainKeys := false, apart := false, laid := [("unicode/utf8.acceptRanges", laid_unicode_utf8_acceptRanges), ("dovetail/utf.rows", laid_dovetail_utf_rows), ("dovetail/utf.heads", laid_dovetail_utf_heads), ("unicode/utf8.first", laid_unicode_utf8_first)] }
def WeighOrdersSaid : Prop := weighOrdersRow.holds Tryz.pinned (OpenSpec.ofChange weighOrdersSpec)

/-- ITS FALSE NEIGHBOUR: 'it returns false'. Refute it at one input. -/
def weighOrdersWrong : ChangeSpec := { name := "weighOrders", fn := fun _ => fun
  | [d1, d2] => { results := [.lit (.bool false)], args := [d1, d2] }
  | _ => none }
def WeighOrdersWrongFalsely : Prop := weighOrdersRow.holds Tryz.pinned (OpenSpec.ofChange weighOrdersWrong)

/-- 'dovetaillaw08.WeighSame': WHATEVER THE INPUT: true; the input reads as it did. -/
def weighSameSpec : ChangeSpec := { name := "weighSame", fn := fun _ => fun
  | [d1, d2] => { results := [.lit (.bool true)], args := [d1, d2] }
  | _ => none }
def weighSameRow : OpenClaim := { program := "ytfhpgmlfgjfknaagreatdoor", sum := "935b154ef5b79ea0ac822a706a1513f74c077323a248e6b7f54a2a222ab929fd", func := "dovetail/dovetaillaw08.WeighSame", spec := "weighSame", inPlace := ["internal/bytealg.CountString", "internal/bytealg.IndexByteString", "internal/bytealg.IndexString"], unfollowed := true, recurses := true, named := ["unicode/utf8.first", "unicode/utf8.acceptRanges", "internal/bytealg.MaxLen", "dovetail/utf.rows", "dovetail/utf.heads"], plainKeys := false, apart := false, laid := [("unicode/utf8.acceptRanges", laid_unicode_utf8_acceptRanges), ("dovetail/utf.rows", laid_dovetail_utf_rows), ("dovetail/utf.heads", laid_dovetail_utf_heads), ("unicode/utf8.first", laid_unicode_utf8_first)] }
def WeighSameSaid : Prop := weighSameRow.holds Tryz.pinned (OpenSpec.ofChange weighSameSpec)

/-- ITS FALSE NEIGHBOUR: 'it returns false'. Refute it at one input. -/
def weighSameWrong : ChangeSpec := { name := "weighSame", fn := fun _ => fun
  | [d1, d2] => { results := [.lit (.bool false)], args := [d1, d2] }
  | _ => none }
def WeighSameWrongFalsely : Prop := weighSameRow.holds Tryz.pinned (OpenSpec.ofChange weighSameWrong)

/-- 'dovetaillaw08.WeighStrong': WHATEVER THE INPUT: true; the input reads as it did. -/
def weighStrongSpec : ChangeSpec := { name := "weighStrong", fn := fun _ => fun
  | [d1, d2] => { results := [.lit (.bool true)], args := [d1, d2] }
  | _ => none }
def weighStrongRow : OpenClaim := { program := "ytfhpgmlfgjfknaagreatdoor", sum := "935b154ef5b79ea0ac822a706a1513f74c077323a248e6b7f54a2a222ab929fd", func := "dovetail/dovetaillaw08.WeighStrong", spec := "weighStrong", inPlace := ["internal/bytealg.CountString", "internal/bytealg.IndexByteString", "internal/bytealg.IndexString"], unfollowed := true, recurses := true, named := ["unicode/utf8.first", "unicode/utf8.acceptRanges", "internal/bytealg.MaxLen", "dovetail/utf.rows", "dovetail/utf.heads"], plainKeys := false, apart := false, laid := [("unicode/utf8.acceptRanges", laid_unicode_utf8_acceptRanges), ("dovetail/utf.rows", laid_dovetail_utf_rows), ("dovetail/utf.heads", laid_dovetail_utf_heads), ("unicode/utf8.first", laid_unicode_utf8_first)] }
def WeighStrongSaid : Prop := weighStrongRow.holds Tryz.pinned (OpenSpec.ofChange weighStrongSpec)

/-- ITS FALSE NEIGHBOUR: 'it returns false'. Refute it at one input. -/
def weighStrongWrong : ChangeSpec := { name := "weighStrong", fn := fun _ => fun
  | [d1, d2] => { results := [.lit (.bool false)], args := [d1, d2] }
  | _ => none }
def WeighStrongWrongFalsely : Prop := weighStrongRow.holds Tryz.pinned (OpenSpec.ofChange weighStrongWrong)

/-- 'dovetaillaw08.WeighBack': WHATEVER THE INPUT: true; the input reads as it did. -/
def weighBackSpec : ChangeSpec := { name := "weighBack", fn := fun _ => fun
  | [d1, d2] => { results := [.lit (.bool true)], args := [d1, d2] }
  | _ => none }
def weighBackRow : OpenClaim := { program := "ytfhpgmlfgjfknaagreatdoor", sum := "935b154ef5b79ea0ac822a706a1513f74c077323a248e6b7f54a2a222ab929fd", func := "dovetail/dovetaillaw08.WeighBack", spec := "weighBack", inPlace := ["internal/bytealg.CountString", "internal/bytealg.IndexByteString", "internal/bytealg.IndexString", "internal/abi.NoEscape", "internal/bytealg.MakeNoZero"], unfollowed := true, recurses := true, named := ["unicode/utf8.first", "unicode/utf8.acceptRanges", "internal/bytealg.MaxLen", "dovetail/utf.rows", "dovetail/utf.heads", "internal/strconv.uint64pow10", "math/bits.deBruijn32tab", "math/bits.deBruijn64tab", "unicode.CaseRanges"], plainKeys := false, apart := false, laid := [("math/bits.deBruijn32tab", laid_math_bits_deBruijn32tab), ("math/bits.deBruijn64tab", laid_math_bits_deBruijn64tab), ("internal/strconv.uint64pow10", laid_internal_strconv_uint64pow10), ("unicode/utf8.acceptRanges", laid_unicode_utf8_acceptRanges), ("dovetail/utf.rows", laid_dovetail_utf_rows), ("dovetail/utf.heads", laid_dovetail_utf_heads), ("unicode.CaseRanges", laid_unicode_CaseRanges), ("unicode/utf8.first", laid_unicode_utf8_first)] }
def WeighBackSaid : Prop := weighBackRow.holds Tryz.pinned (OpenSpec.ofChange weighBackSpec)

/-- ITS FALSE NEIGHBOUR: 'it returns false'. Refute it at one input. -/
def weighBackWrong : ChangeSpec := { name := "weighBack", fn := fun _ => fun
  | [d1, d2] => { results := [.lit (.bool false)], args := [d1, d2] }
  | _ => none }
def WeighBackWrongFalsely : Prop := weighBackRow.holds Tryz.pinned (OpenSpec.ofChange weighBackWrong)

/-- 'dovetaillaw08.WeighNil': WHATEVER THE INPUT: true; the input reads as it did. -/
def weighNilSpec : ChangeSpec := { name := "weighNil", fn := fun _ => fun
  | [d1, d2, d3] => { results := [.lit (.bool true)], args := [d1, d2, d3] }
  | _ => none }
def weighNilRow : OpenClaim := { program := "ytfhpgmlfgjfknaagreatdoor", sum := "935b154ef5b79ea0ac822a706a1513f74c077323a248e6b7f54a2a222ab929fd", func := "dovetail/dovetaillaw08.WeighNil", spec := "weighNil", inPlace := ["internal/abi.NoEscape", "internal/bytealg.MakeNoZero", "internal/bytealg.CountString", "internal/bytealg.IndexByteString", "internal/bytealg.IndexString"], unfollowed := true, recurses := true, named := ["dovetail/utf.rows", "dovetail/utf.heads", "internal/strconv.uint64pow10", "math/bits.deBruijn32tab", "math/bits.deBruijn64tab", "unicode/utf8.first", "unicode/utf8.acceptRanges", "unicode.CaseRanges", "internal/bytealg.MaxLen"], plainKeys := false, apart := false, laid := [("math/bits.deBruijn32tab", laid_math_bits_deBruijn32tab), ("math/bits.deBruijn64tab", laid_math_bits_deBruijn64tab), ("internal/strconv.uint64pow10", laid_internal_strconv_uint64pow10), ("unicode/utf8.acceptRanges", laid_unicode_utf8_acceptRanges), ("dovetail/utf.rows", laid_dovetail_utf_rows), ("dovetail/utf.heads", laid_dovetail_utf_heads), ("unicode.CaseRanges", laid_unicode_CaseRanges), ("unicode/utf8.first", laid_unicode_utf8_first)] }
def WeighNilSaid : Prop := weighNilRow.holds Tryz.pinned (OpenSpec.ofChange weighNilSpec)

/-- ITS FALSE NEIGHBOUR: 'it returns false'. Refute it at one input. -/
def weighNilWrong : ChangeSpec := { name := "weighNil", fn := fun _ => fun
  | [d1, d2, d3] => { results := [.lit (.bool false)], args := [d1, d2, d3] }
  | _ => none }
def WeighNilWrongFalsely : Prop := weighNilRow.holds Tryz.pinned (OpenSpec.ofChange weighNilWrong)

/-- 'dovetaillaw08.WeighNames': WHATEVER THE INPUT: true; the input reads as it did. -/
def weighNamesSpec : ChangeSpec := { name := "weighNames", fn := fun _ => fun
  | [] => { results := [.lit (.bool true)], args := [] }
  | _ => none }
def weighNamesRow : OpenClaim := { program := "ytfhpgmlfgjfknaagreatdoor", sum := "935b154ef5b79ea0ac822a706a1513f74c077323a248e6b7f54a2a222ab929fd", func := "dovetail/dovetaillaw08.WeighNames", spec := "weighNames", inPlace := ["internal/bytealg.CountString", "internal/bytealg.IndexByteString", "internal/bytealg.IndexString"], unfollowed := true, recurses := true, named := ["unicode/utf8.first", "unicode/utf8.acceptRanges", "internal/bytealg.MaxLen", "dovetail/utf.rows", "dovetail/utf.heads"], plainKeys := false, apart := false, laid := [("unicode/utf8.acceptRanges", laid_unicode_utf8_acceptRanges), ("dovetail/utf.rows", laid_dovetail_utf_rows), ("dovetail/utf.heads", laid_dovetail_utf_heads), ("unicode/utf8.first", laid_unicode_utf8_first)] }
def WeighNamesSaid : Prop := weighNamesRow.holds Tryz.pinned (OpenSpec.ofChange weighNamesSpec)

/-- ITS FALSE NEIGHBOUR: 'it returns false'. Refute it at one input. -/
def weighNamesWrong : ChangeSpec := { name := "weighNames", fn := fun _ => fun
  | [] => { results := [.lit (.bool false)], args := [] }
  | _ => none }
def WeighNamesWrongFalsely : Prop := weighNamesRow.holds Tryz.pinned (OpenSpec.ofChange weighNamesWrong)

/- THE SECOND FORM. 'bulk': how many values and letters a reading holds, each counted each time it is reached (what is shared counts as often as it is met; a slice's spare places count too). A statement '..UptoSaid' is the law's where the arguments, and the package variables that the reading takes, are together of bulk at most 1048576: NARROWER than '..Said'. Prove '..Said' where nothing that the law and all that it calls make is longer than what came in: it says more and counts as full. Else prove '..UptoSaid'. A law counts once. -/
mutual
def uptoBulk {H : Type} : DataW H → Nat
  | .lit (.string bytes) => bytes.length + 1
  | .lit _ => 1
  | .nil => 1
  | .ptr d => uptoBulk d + 1
  | .slice elems spare => uptoBulkAll elems + uptoBulkAll spare + 1
  | .agg parts => uptoBulkAll parts + 1
  | .iface _ d => uptoBulk d + 1
  | .map entries => uptoBulkEntries entries + 1
  | .held _ => 1
def uptoBulkAll {H : Type} : List (DataW H) → Nat
  | [] => 0
  | d :: r => uptoBulk d + uptoBulkAll r
def uptoBulkEntries {H : Type} : List (Lit × DataW H) → Nat
  | [] => 0
  | x :: r => uptoBulkEntry x + uptoBulkEntries r
def uptoBulkEntry {H : Type} : Lit × DataW H → Nat
  | (.string bytes, d) => bytes.length + uptoBulk d + 1
  | (_, d) => uptoBulk d + 1
 end
def uptoSmall : (H : Type) → List (DataW H) → Bool := fun _ ds => decide (uptoBulkAll ds ≤ 1048576)
def OpenSpec.upto (s : _root_.Go.ChangeSpec) : _root_.Go.OpenSpec := { _root_.Go.OpenSpec.ofChange s with cond := some uptoSmall }

/-- 'dovetaillaw08.WeighOrders', WHERE WHAT IT READS IS OF BULK AT MOST 1048576: true; the input reads as it did. -/
def weighOrdersUptoRow : OpenClaim := { program := "ytfhpgmlfgjfknaagreatdoor", sum := "935b154ef5b79ea0ac822a706a1513f74c077323a248e6b7f54a2a222ab929fd", func := "dovetail/dovetaillaw08.WeighOrders", spec := "weighOrders", inPlace := ["internal/bytealg.CountString", "internal/bytealg.IndexByteString", "internal/bytealg.IndexString"], unfollowed := true, recurses := true, named := ["unicode/utf8.first", "unicode/utf8.acceptRanges", "internal/bytealg.MaxLen", "dovetail/utf.rows", "dovetail/utf.heads"], plainKeys := false, apart := false, laid := [("unicode/utf8.acceptRanges", laid_unicode_utf8_acceptRanges), ("dovetail/utf.rows", laid_dovetail_utf_rows), ("dovetail/utf.heads", laid_dovetail_utf_heads), ("unicode/utf8.first", laid_unicode_utf8_first)], narrowed := true }
def WeighOrdersUptoSaid : Prop := weighOrdersUptoRow.holds Tryz.pinned (OpenSpec.upto weighOrdersSpec)

/-- 'dovetaillaw08.WeighSame', WHERE WHAT IT READS IS OF BULK AT MOST 1048576: true; the input reads as it did. -/
def weighSameUptoRow : OpenClaim := { program := "ytfhpgmlfgjfknaagreatdoor", sum := "935b154ef5b79ea0ac822a706a1513f74c077323a248e6b7f54a2a222ab929fd", func := "dovetail/dovetaillaw08.WeighSame", spec := "weighSame", inPlace := ["internal/bytealg.CountString", "internal/bytealg.IndexByteString", "internal/bytealg.IndexString"], unfollowed := true, recurses := true, named := ["unicode/utf8.first", "unicode/utf8.acceptRanges", "internal/bytealg.MaxLen", "dovetail/utf.rows", "dovetail/utf.heads"], plainKeys := false, apart := false, laid := [("unicode/utf8.acceptRanges", laid_unicode_utf8_acceptRanges), ("dovetail/utf.rows", laid_dovetail_utf_rows), ("dovetail/utf.heads", laid_dovetail_utf_heads), ("unicode/utf8.first", laid_unicode_utf8_first)], narrowed := true }
def WeighSameUptoSaid : Prop := weighSameUptoRow.holds Tryz.pinned (OpenSpec.upto weighSameSpec)

/-- 'dovetaillaw08.WeighStrong', WHERE WHAT IT READS IS OF BULK AT MOST 1048576: true; the input reads as it did. -/
def weighStrongUptoRow : OpenClaim := { program := "ytfhpgmlfgjfknaagreatdoor", sum := "935b154ef5b79ea0ac822a706a1513f74c077323a248e6b7f54a2a222ab929fd", func := "dovetail/dovetaillaw08.WeighStrong", spec := "weighStrong", inPlace := ["internal/bytealg.CountString", "internal/bytealg.IndexByteString", "internal/bytealg.IndexString"], unfollowed := true, recurses := true, named := ["unicode/utf8.first", "unicode/utf8.acceptRanges", "internal/bytealg.MaxLen", "dovetail/utf.rows", "dovetail/utf.heads"], plainKeys := false, apart := false, laid := [("unicode/utf8.acceptRanges", laid_unicode_utf8_acceptRanges), ("dovetail/utf.rows", laid_dovetail_utf_rows), ("dovetail/utf.heads", laid_dovetail_utf_heads), ("unicode/utf8.first", laid_unicode_utf8_first)], narrowed := true }
def WeighStrongUptoSaid : Prop := weighStrongUptoRow.holds Tryz.pinned (OpenSpec.upto weighStrongSpec)

/-- 'dovetaillaw08.WeighBack', WHERE WHAT IT READS IS OF BULK AT MOST 1048576: true; the input reads as it did. -/
def weighBackUptoRow : OpenClaim := { program := "ytfhpgmlfgjfknaagreatdoor", sum := "935b154ef5b79ea0ac822a706a1513f74c077323a248e6b7f54a2a222ab929fd", func := "dovetail/dovetaillaw08.WeighBack", spec := "weighBack", inPlace := ["internal/bytealg.CountString", "internal/bytealg.IndexByteString", "internal/bytealg.IndexString", "internal/abi.NoEscape", "internal/bytealg.MakeNoZero"], unfollowed := true, recurses := true, named := ["unicode/utf8.first", "unicode/utf8.acceptRanges", "internal/bytealg.MaxLen", "dovetail/utf.rows", "dovetail/utf.heads", "internal/strconv.uint64pow10", "math/bits.deBruijn32tab", "math/bits.deBruijn64tab", "unicode.CaseRanges"], plainKeys := false, apart := false, laid := [("math/bits.deBruijn32tab", laid_math_bits_deBruijn32tab), ("math/bits.deBruijn64tab", laid_math_bits_deBruijn64tab), ("internal/strconv.uint64pow10", laid_internal_strconv_uint64pow10), ("unicode/utf8.acceptRanges", laid_unicode_utf8_acceptRanges), ("dovetail/utf.rows", laid_dovetail_utf_rows), ("dovetail/utf.heads", laid_dovetail_utf_heads), ("unicode.CaseRanges", laid_unicode_CaseRanges), ("unicode/utf8.first", laid_unicode_utf8_first)], narrowed := true }
def WeighBackUptoSaid : Prop := weighBackUptoRow.holds Tryz.pinned (OpenSpec.upto weighBackSpec)

/-- 'dovetaillaw08.WeighNil', WHERE WHAT IT READS IS OF BULK AT MOST 1048576: true; the input reads as it did. -/
def weighNilUptoRow : OpenClaim := { program := "ytfhpgmlfgjfknaagreatdoor", sum := "935b154ef5b79ea0ac822a706a1513f74c077323a248e6b7f54a2a222ab929fd", func := "dovetail/dovetaillaw08.WeighNil", spec := "weighNil", inPlace := ["internal/abi.NoEscape", "internal/bytealg.MakeNoZero", "internal/bytealg.CountString", "internal/bytealg.IndexByteString", "internal/bytealg.IndexString"], unfollowed := true, recurses := true, named := ["dovetail/utf.rows", "dovetail/utf.heads", "internal/strconv.uint64pow10", "math/bits.deBruijn32tab", "math/bits.deBruijn64tab", "unicode/utf8.first", "unicode/utf8.acceptRanges", "unicode.CaseRanges", "internal/bytealg.MaxLen"], plainKeys := false, apart := false, laid := [("math/bits.deBruijn32tab", laid_math_bits_deBruijn32tab), ("math/bits.deBruijn64tab", laid_math_bits_deBruijn64tab), ("internal/strconv.uint64pow10", laid_internal_strconv_uint64pow10), ("unicode/utf8.acceptRanges", laid_unicode_utf8_acceptRanges), ("dovetail/utf.rows", laid_dovetail_utf_rows), ("dovetail/utf.heads", laid_dovetail_utf_heads), ("unicode.CaseRanges", laid_unicode_CaseRanges), ("unicode/utf8.first", laid_unicode_utf8_first)], narrowed := true }
def WeighNilUptoSaid : Prop := weighNilUptoRow.holds Tryz.pinned (OpenSpec.upto weighNilSpec)

/-- 'dovetaillaw08.WeighNames', WHERE WHAT IT READS IS OF BULK AT MOST 1048576: true; the input reads as it did. -/
def weighNamesUptoRow : OpenClaim := { program := "ytfhpgmlfgjfknaagreatdoor", sum := "935b154ef5b79ea0ac822a706a1513f74c077323a248e6b7f54a2a222ab929fd", func := "dovetail/dovetaillaw08.WeighNames", spec := "weighNames", inPlace := ["internal/bytealg.CountString", "internal/bytealg.IndexByteString", "internal/bytealg.IndexString"], unfollowed := true, recurses := true, named := ["unicode/utf8.first", "unicode/utf8.acceptRanges", "internal/bytealg.MaxLen", "dovetail/utf.rows", "dovetail/utf.heads"], plainKeys := false, apart := false, laid := [("unicode/utf8.acceptRanges", laid_unicode_utf8_acceptRanges), ("dovetail/utf.rows", laid_dovetail_utf_rows), ("dovetail/utf.heads", laid_dovetail_utf_heads), ("unicode/utf8.first", laid_unicode_utf8_first)], narrowed := true }
def WeighNamesUptoSaid : Prop := weighNamesUptoRow.holds Tryz.pinned (OpenSpec.upto weighNamesSpec)

end Rows
end Go.Proofs.YtfhpgmlfgjfknaaGreatDoor
