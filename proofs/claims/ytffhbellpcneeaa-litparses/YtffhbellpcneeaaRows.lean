/-
  NARROWER THAN 'FOR EVERY INPUT', by the rows' own cells (each row's printed sentence says how): LitPrints: loops · LitBack: loops.
  DERIVED. THE GIVEN ROWS OF THIS SEAT. 4 by the template 'for every input the law returns true; each argument reads behind the call as it read before'; 0 by the template 'total and deterministic' (their statements: YtffhbellpcneeaaTotals.lean).
  GIVEN WITH THE SEED: the statements are not yours to turn. If you find one false, say at which input.
  Laid BY PROGRAM, IN A SANDBOX (cutbox-rows.mjs): the forced cells as the released guide's own fill.sh prints them over the translation 33a77c335fa48a85… (all of the seat's roots in one cut). By AI agents, Wed Nov 11 2026. No macro, syntax, notation, axiom, sorry.
-/
import Derived.Test.YtffhbellpcneeaaChecked
import GoSem.Claim
import GoSem.ClaimJoined
import GoSem.ClaimMapViews
import Derived.JoinedTies
import Derived.KernelRfl
namespace Go.Proofs.Ytffhbellpcneeaa
/- THE CELL 'sum', in the pinned program and in every row, IS THE sha256 OF THE DUMP (.gsa) THAT YtffhbellpcneeaaProg.lean LOADS. Nothing in Lean hashes anything: it is a label: what it is worth is what the hold of that sum in a sandbox is worth. -/
noncomputable def Try.pinned : Pinned := { name := "ytffhbellpcneeaa", sum := "33a77c335fa48a85930ebcaa59cf14fa25bc3902f17544349759765d01a7881a", checked := Try.checked }
namespace Rows
def none {H : Type} : Left H := { results := [], args := [] }

/-- 'dovetaillaw10.LitPrints': WHATEVER THE INPUT: true; the input reads as it did. -/
def litPrintsSpec : ChangeSpec := { name := "litPrints", fn := fun _ => fun
  | [d] => { results := [.lit (.bool true)], args := [d] }
  | _ => none }
def litPrintsRow : OpenClaim := { program := "ytffhbellpcneeaa", sum := "33a77c335fa48a85930ebcaa59cf14fa25bc3902f17544349759765d01a7881a", func := "dovetail/dovetaillaw10.LitPrints", spec := "litPrints", inPlace := ["internal/bytealg.IndexByteString"], unfollowed := true, recurses := true, loops := true, apart := false }
def LitPrintsSaid : Prop := litPrintsRow.holds Try.pinned (OpenSpec.ofChange litPrintsSpec)

/-- ITS FALSE NEIGHBOUR: 'it returns false'. Refute it at one input. -/
def litPrintsWrong : ChangeSpec := { name := "litPrints", fn := fun _ => fun
  | [d] => { results := [.lit (.bool false)], args := [d] }
  | _ => none }
def LitPrintsWrongFalsely : Prop := litPrintsRow.holds Try.pinned (OpenSpec.ofChange litPrintsWrong)

/-- 'dovetaillaw10.LitParses': WHATEVER THE INPUT: true; the input reads as it did. -/
def litParsesSpec : ChangeSpec := { name := "litParses", fn := fun _ => fun
  | [d1, d2] => { results := [.lit (.bool true)], args := [d1, d2] }
  | _ => none }
def litParsesRow : OpenClaim := { program := "ytffhbellpcneeaa", sum := "33a77c335fa48a85930ebcaa59cf14fa25bc3902f17544349759765d01a7881a", func := "dovetail/dovetaillaw10.LitParses", spec := "litParses", inPlace := ["internal/bytealg.IndexByteString"], unfollowed := true, recurses := true, apart := false }
def LitParsesSaid : Prop := litParsesRow.holds Try.pinned (OpenSpec.ofChange litParsesSpec)

/-- ITS FALSE NEIGHBOUR: 'it returns false'. Refute it at one input. -/
def litParsesWrong : ChangeSpec := { name := "litParses", fn := fun _ => fun
  | [d1, d2] => { results := [.lit (.bool false)], args := [d1, d2] }
  | _ => none }
def LitParsesWrongFalsely : Prop := litParsesRow.holds Try.pinned (OpenSpec.ofChange litParsesWrong)

/-- 'dovetaillaw10.LitBack': WHATEVER THE INPUT: true; the input reads as it did. -/
def litBackSpec : ChangeSpec := { name := "litBack", fn := fun _ => fun
  | [d1, d2, d3] => { results := [.lit (.bool true)], args := [d1, d2, d3] }
  | _ => none }
def litBackRow : OpenClaim := { program := "ytffhbellpcneeaa", sum := "33a77c335fa48a85930ebcaa59cf14fa25bc3902f17544349759765d01a7881a", func := "dovetail/dovetaillaw10.LitBack", spec := "litBack", inPlace := ["internal/bytealg.IndexByteString"], unfollowed := true, recurses := true, loops := true, apart := false }
def LitBackSaid : Prop := litBackRow.holds Try.pinned (OpenSpec.ofChange litBackSpec)

/-- ITS FALSE NEIGHBOUR: 'it returns false'. Refute it at one input. -/
def litBackWrong : ChangeSpec := { name := "litBack", fn := fun _ => fun
  | [d1, d2, d3] => { results := [.lit (.bool false)], args := [d1, d2, d3] }
  | _ => none }
def LitBackWrongFalsely : Prop := litBackRow.holds Try.pinned (OpenSpec.ofChange litBackWrong)

/-- 'dovetaillaw10.LitBehind': WHATEVER THE INPUT: true; the input reads as it did. -/
def litBehindSpec : ChangeSpec := { name := "litBehind", fn := fun _ => fun
  | [d1, d2] => { results := [.lit (.bool true)], args := [d1, d2] }
  | _ => none }
def litBehindRow : OpenClaim := { program := "ytffhbellpcneeaa", sum := "33a77c335fa48a85930ebcaa59cf14fa25bc3902f17544349759765d01a7881a", func := "dovetail/dovetaillaw10.LitBehind", spec := "litBehind", inPlace := ["internal/bytealg.IndexByteString"], unfollowed := true, recurses := true, apart := false }
def LitBehindSaid : Prop := litBehindRow.holds Try.pinned (OpenSpec.ofChange litBehindSpec)

/-- ITS FALSE NEIGHBOUR: 'it returns false'. Refute it at one input. -/
def litBehindWrong : ChangeSpec := { name := "litBehind", fn := fun _ => fun
  | [d1, d2] => { results := [.lit (.bool false)], args := [d1, d2] }
  | _ => none }
def LitBehindWrongFalsely : Prop := litBehindRow.holds Try.pinned (OpenSpec.ofChange litBehindWrong)

/- THE SECOND FORM. 'bulk': how many values and letters a reading holds, each counted each time it is reached (what is shared counts as often as it is met; a slice's spare places count too). A statement '..UptoSaid' is the law's where the arguments, and the package variables that the reading takes, are together of bulk at most 1048576: NARROWER than '..Said'. Prove '..Said' where nothing that the law and all that it calls make is longer than what came in: it says more and counts as full. Else prove '..UptoSaid'. A law counts once. -/
mutual
def uptoBulk {H : Type} : DataW H → Nat
  | .lit (.string bytes) => bytes.length + 1
  | .lit _ => 1
  | .nil => 1
  | .ptr d => uptoBulk d + 1
  | .slice elems spare => uptoBulkAll elems + uptoBulkAll spare + 1
  | .agg parts => uptoBulkAll parts + 1
  | .iface _ d => uptoBulk d + 1
  | .map entries => uptoBulkEntries entries + 1
  | .held _ => 1
def uptoBulkAll {H : Type} : List (DataW H) → Nat
  | [] => 0
  | d :: r => uptoBulk d + uptoBulkAll r
def uptoBulkEntries {H : Type} : List (Lit × DataW H) → Nat
  | [] => 0
  | x :: r => uptoBulkEntry x + uptoBulkEntries r
def uptoBulkEntry {H : Type} : Lit × DataW H → Nat
  | (.string bytes, d) => bytes.length + uptoBulk d + 1
  | (_, d) => uptoBulk d + 1
 end
def uptoSmall : (H : Type) → List (DataW H) → Bool := fun _ ds => decide (uptoBulkAll ds ≤ 1048576)
def OpenSpec.upto (s : _root_.Go.ChangeSpec) : _root_.Go.OpenSpec := { _root_.Go.OpenSpec.ofChange s with cond := some uptoSmall }

/-- 'dovetaillaw10.LitPrints', WHERE WHAT IT READS IS OF BULK AT MOST 1048576: true; the input reads as it did. -/
def litPrintsUptoRow : OpenClaim := { program := "ytffhbellpcneeaa", sum := "33a77c335fa48a85930ebcaa59cf14fa25bc3902f17544349759765d01a7881a", func := "dovetail/dovetaillaw10.LitPrints", spec := "litPrints", inPlace := ["internal/bytealg.IndexByteString"], unfollowed := true, recurses := true, loops := true, apart := false, narrowed := true }
def LitPrintsUptoSaid : Prop := litPrintsUptoRow.holds Try.pinned (OpenSpec.upto litPrintsSpec)

/-- 'dovetaillaw10.LitParses', WHERE WHAT IT READS IS OF BULK AT MOST 1048576: true; the input reads as it did. -/
def litParsesUptoRow : OpenClaim := { program := "ytffhbellpcneeaa", sum := "33a77c335fa48a85930ebcaa59cf14fa25bc3902f17544349759765d01a7881a", func := "dovetail/dovetaillaw10.LitParses", spec := "litParses", inPlace := ["internal/bytealg.IndexByteString"], unfollowed := true, recurses := true, apart := false, narrowed := true }
def LitParsesUptoSaid : Prop := litParsesUptoRow.holds Try.pinned (OpenSpec.upto litParsesSpec)

/-- 'dovetaillaw10.LitBack', WHERE WHAT IT READS IS OF BULK AT MOST 1048576: true; the input reads as it did. -/
def litBackUptoRow : OpenClaim := { program := "ytffhbellpcneeaa", sum := "33a77c335fa48a85930ebcaa59cf14fa25bc3902f17544349759765d01a7881a", func := "dovetail/dovetaillaw10.LitBack", spec := "litBack", inPlace := ["internal/bytealg.IndexByteString"], unfollowed := true, recurses := true, loops := true, apart := false, narrowed := true }
def LitBackUptoSaid : Prop := litBackUptoRow.holds Try.pinned (OpenSpec.upto litBackSpec)

/-- 'dovetaillaw10.LitBehind', WHERE WHAT IT READS IS OF BULK AT MOST 1048576: true; the input reads as it did. -/
def litBehindUptoRow : OpenClaim := { program := "ytffhbellpcneeaa", sum := "33a77c335fa48a85930ebcaa59cf14fa25bc3902f17544349759765d01a7881a", func := "dovetail/dovetaillaw10.LitBehind", spec := "litBehind", inPlace := ["internal/bytealg.IndexByteString"], unfollowed := true, recurses := true, apart := false, narrowed := true }
def LitBehindUptoSaid : Prop := litBehindUptoRow.holds Try.pinned (OpenSpec.upto litBehindSpec)

end Rows
end Go.Proofs.Ytffhbellpcneeaa
