/-
  NARROWER THAN 'FOR EVERY INPUT', by the rows' own cells (each row's printed sentence says how): UtfNames: laid · UtfExact: laid · UtfBack: laid · UtfOrder: laid · UtfJoined: laid.
  DERIVED. THE GIVEN ROWS OF THIS SEAT. 5 by the template 'for every input the law returns true; each argument reads behind the call as it read before'; 0 by the template 'total and deterministic' (their statements: YtjlgmoakdaeinaaDoorTotals.lean).
  GIVEN WITH THE SEED: the statements are not yours to turn. If you find one false, say at which input.
  Laid BY PROGRAM, IN A SANDBOX (cutbox-rows.mjs): the forced cells as the released guide's own fill.sh prints them over the translation c3faf1db6fde9462… (all of the seat's roots in one cut). By AI agents, Wed Nov 11 2026. No macro, syntax, notation, axiom, sorry.
-/
import Derived.Test.YtjlgmoakdaeinaaDoorChecked
import GoSem.Claim
import GoSem.ClaimJoined
import GoSem.ClaimMapViews
import Derived.JoinedTies
import Derived.KernelRfl
namespace Go.Proofs.YtjlgmoakdaeinaaDoor
/- THE CELL 'sum', in the pinned program and in every row, IS THE sha256 OF THE DUMP (.gsa) THAT YtjlgmoakdaeinaaDoorProg.lean LOADS. Nothing in Lean hashes anything: it is a label: what it is worth is what the hold of that sum in a sandbox is worth. -/
noncomputable def Tryd.pinned : Pinned := { name := "ytjlgmoakdaeinaadoor", sum := "c3faf1db6fde9462d5228599d0f606de94344e4abd28780e0a1a74dce59e13d3", checked := Tryd.checked }
namespace Rows
def none {H : Type} : Left H := { results := [], args := [] }

/- WHAT THE LISTED PACKAGE-LEVEL VARIABLES READ AS WHEN THE CALL BEGINS. Each datum BY PROGRAM (the guide's laid-datum.mjs) off the statement by which the dump's own 'gosem.cut.vars' lays the variable. In a bare row this is a premise. The card (YtjlgmoakdaeinaaDoorCards.lean) ties it to the program's text. -/
def laid_dovetail_utf_rows {H : Type} : DataW H := .agg [.agg [.lit (.int .u8 0), .lit (.int .u8 127), .lit (.int .u8 0), .lit (.int .u8 0), .lit (.int .i64 1), .lit (.int .i64 0), .lit (.int .i64 127)], .agg [.lit (.int .u8 194), .lit (.int .u8 223), .lit (.int .u8 128), .lit (.int .u8 191), .lit (.int .i64 2), .lit (.int .i64 128), .lit (.int .i64 2047)], .agg [.lit (.int .u8 224), .lit (.int .u8 224), .lit (.int .u8 160), .lit (.int .u8 191), .lit (.int .i64 3), .lit (.int .i64 2048), .lit (.int .i64 4095)], .agg [.lit (.int .u8 225), .lit (.int .u8 236), .lit (.int .u8 128), .lit (.int .u8 191), .lit (.int .i64 3), .lit (.int .i64 4096), .lit (.int .i64 53247)], .agg [.lit (.int .u8 237), .lit (.int .u8 237), .lit (.int .u8 128), .lit (.int .u8 159), .lit (.int .i64 3), .lit (.int .i64 53248), .lit (.int .i64 55295)], .agg [.lit (.int .u8 238), .lit (.int .u8 239), .lit (.int .u8 128), .lit (.int .u8 191), .lit (.int .i64 3), .lit (.int .i64 57344), .lit (.int .i64 65535)], .agg [.lit (.int .u8 240), .lit (.int .u8 240), .lit (.int .u8 144), .lit (.int .u8 191), .lit (.int .i64 4), .lit (.int .i64 65536), .lit (.int .i64 262143)], .agg [.lit (.int .u8 241), .lit (.int .u8 243), .lit (.int .u8 128), .lit (.int .u8 191), .lit (.int .i64 4), .lit (.int .i64 262144), .lit (.int .i64 1048575)], .agg [.lit (.int .u8 244), .lit (.int .u8 244), .lit (.int .u8 128), .lit (.int .u8 143), .lit (.int .i64 4), .lit (.int .i64 1048576), .lit (.int .i64 1114111)]]
def laid_dovetail_utf_heads {H : Type} : DataW H := .agg [.lit (.int .u8 0), .lit (.int .u8 0), .lit (.int .u8 192), .lit (.int .u8 224), .lit (.int .u8 240)]

/-- 'dovetaillaw03.UtfNames': WHATEVER THE INPUT: true; the input reads as it did. -/
def utfNamesSpec : ChangeSpec := { name := "utfNames", fn := fun _ => fun
  | [] => { results := [.lit (.bool true)], args := [] }
  | _ => none }
def utfNamesRow : OpenClaim := { program := "ytjlgmoakdaeinaadoor", sum := "c3faf1db6fde9462d5228599d0f606de94344e4abd28780e0a1a74dce59e13d3", func := "dovetail/dovetaillaw03.UtfNames", spec := "utfNames", unfollowed := true, recurses := true, named := ["dovetail/utf.rows", "dovetail/utf.heads"], apart := false, laid := [("dovetail/utf.rows", laid_dovetail_utf_rows), ("dovetail/utf.heads", laid_dovetail_utf_heads)] }
def UtfNamesSaid : Prop := utfNamesRow.holds Tryd.pinned (OpenSpec.ofChange utfNamesSpec)

/-- ITS FALSE NEIGHBOUR: 'it returns false'. Refute it at one input. -/
def utfNamesWrong : ChangeSpec := { name := "utfNames", fn := fun _ => fun
  | [] => { results := [.lit (.bool false)], args := [] }
  | _ => none }
def UtfNamesWrongFalsely : Prop := utfNamesRow.holds Tryd.pinned (OpenSpec.ofChange utfNamesWrong)

/-- 'dovetaillaw03.UtfExact': WHATEVER THE INPUT: true; the input reads as it did. -/
def utfExactSpec : ChangeSpec := { name := "utfExact", fn := fun _ => fun
  | [d] => { results := [.lit (.bool true)], args := [d] }
  | _ => none }
def utfExactRow : OpenClaim := { program := "ytjlgmoakdaeinaadoor", sum := "c3faf1db6fde9462d5228599d0f606de94344e4abd28780e0a1a74dce59e13d3", func := "dovetail/dovetaillaw03.UtfExact", spec := "utfExact", unfollowed := true, recurses := true, named := ["dovetail/utf.rows", "dovetail/utf.heads"], apart := false, laid := [("dovetail/utf.rows", laid_dovetail_utf_rows), ("dovetail/utf.heads", laid_dovetail_utf_heads)] }
def UtfExactSaid : Prop := utfExactRow.holds Tryd.pinned (OpenSpec.ofChange utfExactSpec)

/-- ITS FALSE NEIGHBOUR: 'it returns false'. Refute it at one input. -/
def utfExactWrong : ChangeSpec := { name := "utfExact", fn := fun _ => fun
  | [d] => { results := [.lit (.bool false)], args := [d] }
  | _ => none }
def UtfExactWrongFalsely : Prop := utfExactRow.holds Tryd.pinned (OpenSpec.ofChange utfExactWrong)

/-- 'dovetaillaw03.UtfBack': WHATEVER THE INPUT: true; the input reads as it did. -/
def utfBackSpec : ChangeSpec := { name := "utfBack", fn := fun _ => fun
  | [d1, d2] => { results := [.lit (.bool true)], args := [d1, d2] }
  | _ => none }
def utfBackRow : OpenClaim := { program := "ytjlgmoakdaeinaadoor", sum := "c3faf1db6fde9462d5228599d0f606de94344e4abd28780e0a1a74dce59e13d3", func := "dovetail/dovetaillaw03.UtfBack", spec := "utfBack", unfollowed := true, recurses := true, named := ["dovetail/utf.rows", "dovetail/utf.heads"], apart := false, laid := [("dovetail/utf.rows", laid_dovetail_utf_rows), ("dovetail/utf.heads", laid_dovetail_utf_heads)] }
def UtfBackSaid : Prop := utfBackRow.holds Tryd.pinned (OpenSpec.ofChange utfBackSpec)

/-- ITS FALSE NEIGHBOUR: 'it returns false'. Refute it at one input. -/
def utfBackWrong : ChangeSpec := { name := "utfBack", fn := fun _ => fun
  | [d1, d2] => { results := [.lit (.bool false)], args := [d1, d2] }
  | _ => none }
def UtfBackWrongFalsely : Prop := utfBackRow.holds Tryd.pinned (OpenSpec.ofChange utfBackWrong)

/-- 'dovetaillaw03.UtfOrder': WHATEVER THE INPUT: true; the input reads as it did. -/
def utfOrderSpec : ChangeSpec := { name := "utfOrder", fn := fun _ => fun
  | [d1, d2] => { results := [.lit (.bool true)], args := [d1, d2] }
  | _ => none }
def utfOrderRow : OpenClaim := { program := "ytjlgmoakdaeinaadoor", sum := "c3faf1db6fde9462d5228599d0f606de94344e4abd28780e0a1a74dce59e13d3", func := "dovetail/dovetaillaw03.UtfOrder", spec := "utfOrder", unfollowed := true, recurses := true, named := ["dovetail/utf.rows", "dovetail/utf.heads"], apart := false, laid := [("dovetail/utf.rows", laid_dovetail_utf_rows), ("dovetail/utf.heads", laid_dovetail_utf_heads)] }
def UtfOrderSaid : Prop := utfOrderRow.holds Tryd.pinned (OpenSpec.ofChange utfOrderSpec)

/-- ITS FALSE NEIGHBOUR: 'it returns false'. Refute it at one input. -/
def utfOrderWrong : ChangeSpec := { name := "utfOrder", fn := fun _ => fun
  | [d1, d2] => { results := [.lit (.bool false)], args := [d1, d2] }
  | _ => none }
def UtfOrderWrongFalsely : Prop := utfOrderRow.holds Tryd.pinned (OpenSpec.ofChange utfOrderWrong)

/-- 'dovetaillaw03.UtfJoined': WHATEVER THE INPUT: true; the input reads as it did. -/
def utfJoinedSpec : ChangeSpec := { name := "utfJoined", fn := fun _ => fun
  | [d1, d2] => { results := [.lit (.bool true)], args := [d1, d2] }
  | _ => none }
def utfJoinedRow : OpenClaim := { program := "ytjlgmoakdaeinaadoor", sum := "c3faf1db6fde9462d5228599d0f606de94344e4abd28780e0a1a74dce59e13d3", func := "dovetail/dovetaillaw03.UtfJoined", spec := "utfJoined", unfollowed := true, recurses := true, named := ["dovetail/utf.rows", "dovetail/utf.heads"], apart := false, laid := [("dovetail/utf.rows", laid_dovetail_utf_rows), ("dovetail/utf.heads", laid_dovetail_utf_heads)] }
def UtfJoinedSaid : Prop := utfJoinedRow.holds Tryd.pinned (OpenSpec.ofChange utfJoinedSpec)

/-- ITS FALSE NEIGHBOUR: 'it returns false'. Refute it at one input. -/
def utfJoinedWrong : ChangeSpec := { name := "utfJoined", fn := fun _ => fun
  | [d1, d2] => { results := [.lit (.bool false)], args := [d1, d2] }
  | _ => none }
def UtfJoinedWrongFalsely : Prop := utfJoinedRow.holds Tryd.pinned (OpenSpec.ofChange utfJoinedWrong)

/- THE SECOND FORM. 'bulk': how many values and letters a reading holds, each counted each time it is reached (what is shared counts as often as it is met; a slice's spare places count too). A statement '..UptoSaid' is the law's where the arguments, and the package variables that the reading takes, are together of bulk at most 1048576: NARROWER than '..Said'. Prove '..Said' where nothing that the law and all that it calls make is longer than what came in: it says more and counts as full. Else prove '..UptoSaid'. A law counts once. -/
mutual
def uptoBulk {H : Type} : DataW H → Nat
  | .lit (.string bytes) => bytes.length + 1
  | .lit _ => 1
  | .nil => 1
  | .ptr d => uptoBulk d + 1
  | .slice elems spare => uptoBulkAll elems + uptoBulkAll spare + 1
  | .agg parts => uptoBulkAll parts + 1
  | .iface _ d => uptoBulk d + 1
  | .map entries => uptoBulkEntries entries + 1
  | .held _ => 1
def uptoBulkAll {H : Type} : List (DataW H) → Nat
  | [] => 0
  | d :: r => uptoBulk d + uptoBulkAll r
def uptoBulkEntries {H : Type} : List (Lit × DataW H) → Nat
  | [] => 0
  | x :: r => uptoBulkEntry x + uptoBulkEntries r
def uptoBulkEntry {H : Type} : Lit × DataW H → Nat
  | (.string bytes, d) => bytes.length + uptoBulk d + 1
  | (_, d) => uptoBulk d + 1
 end
def uptoSmall : (H : Type) → List (DataW H) → Bool := fun _ ds => decide (uptoBulkAll ds ≤ 1048576)
def OpenSpec.upto (s : _root_.Go.ChangeSpec) : _root_.Go.OpenSpec := { _root_.Go.OpenSpec.ofChange s with cond := some uptoSmall }

/-- 'dovetaillaw03.UtfNames', WHERE WHAT IT READS IS OF BULK AT MOST 1048576: true; the input reads as it did. -/
def utfNamesUptoRow : OpenClaim := { program := "ytjlgmoakdaeinaadoor", sum := "c3faf1db6fde9462d5228599d0f606de94344e4abd28780e0a1a74dce59e13d3", func := "dovetail/dovetaillaw03.UtfNames", spec := "utfNames", unfollowed := true, recurses := true, named := ["dovetail/utf.rows", "dovetail/utf.heads"], apart := false, laid := [("dovetail/utf.rows", laid_dovetail_utf_rows), ("dovetail/utf.heads", laid_dovetail_utf_heads)], narrowed := true }
def UtfNamesUptoSaid : Prop := utfNamesUptoRow.holds Tryd.pinned (OpenSpec.upto utfNamesSpec)

/-- 'dovetaillaw03.UtfExact', WHERE WHAT IT READS IS OF BULK AT MOST 1048576: true; the input reads as it did. -/
def utfExactUptoRow : OpenClaim := { program := "ytjlgmoakdaeinaadoor", sum := "c3faf1db6fde9462d5228599d0f606de94344e4abd28780e0a1a74dce59e13d3", func := "dovetail/dovetaillaw03.UtfExact", spec := "utfExact", unfollowed := true, recurses := true, named := ["dovetail/utf.rows", "dovetail/utf.heads"], apart := false, laid := [("dovetail/utf.rows", laid_dovetail_utf_rows), ("dovetail/utf.heads", laid_dovetail_utf_heads)], narrowed := true }
def UtfExactUptoSaid : Prop := utfExactUptoRow.holds Tryd.pinned (OpenSpec.upto utfExactSpec)

/-- 'dovetaillaw03.UtfBack', WHERE WHAT IT READS IS OF BULK AT MOST 1048576: true; the input reads as it did. -/
def utfBackUptoRow : OpenClaim := { program := "ytjlgmoakdaeinaadoor", sum := "c3faf1db6fde9462d5228599d0f606de94344e4abd28780e0a1a74dce59e13d3", func := "dovetail/dovetaillaw03.UtfBack", spec := "utfBack", unfollowed := true, recurses := true, named := ["dovetail/utf.rows", "dovetail/utf.heads"], apart := false, laid := [("dovetail/utf.rows", laid_dovetail_utf_rows), ("dovetail/utf.heads", laid_dovetail_utf_heads)], narrowed := true }
def UtfBackUptoSaid : Prop := utfBackUptoRow.holds Tryd.pinned (OpenSpec.upto utfBackSpec)

/-- 'dovetaillaw03.UtfOrder', WHERE WHAT IT READS IS OF BULK AT MOST 1048576: true; the input reads as it did. -/
def utfOrderUptoRow : OpenClaim := { program := "ytjlgmoakdaeinaadoor", sum := "c3faf1db6fde9462d5228599d0f606de94344e4abd28780e0a1a74dce59e13d3", func := "dovetail/dovetaillaw03.UtfOrder", spec := "utfOrder", unfollowed := true, recurses := true, named := ["dovetail/utf.rows", "dovetail/utf.heads"], apart := false, laid := [("dovetail/utf.rows", laid_dovetail_utf_rows), ("dovetail/utf.heads", laid_dovetail_utf_heads)], narrowed := true }
def UtfOrderUptoSaid : Prop := utfOrderUptoRow.holds Tryd.pinned (OpenSpec.upto utfOrderSpec)

/-- 'dovetaillaw03.UtfJoined', WHERE WHAT IT READS IS OF BULK AT MOST 1048576: true; the input reads as it did. -/
def utfJoinedUptoRow : OpenClaim := { program := "ytjlgmoakdaeinaadoor", sum := "c3faf1db6fde9462d5228599d0f606de94344e4abd28780e0a1a74dce59e13d3", func := "dovetail/dovetaillaw03.UtfJoined", spec := "utfJoined", unfollowed := true, recurses := true, named := ["dovetail/utf.rows", "dovetail/utf.heads"], apart := false, laid := [("dovetail/utf.rows", laid_dovetail_utf_rows), ("dovetail/utf.heads", laid_dovetail_utf_heads)], narrowed := true }
def UtfJoinedUptoSaid : Prop := utfJoinedUptoRow.holds Tryd.pinned (OpenSpec.upto utfJoinedSpec)

end Rows
end Go.Proofs.YtjlgmoakdaeinaaDoor
