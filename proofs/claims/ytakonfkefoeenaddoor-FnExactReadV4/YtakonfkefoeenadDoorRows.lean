/-
  NARROWER THAN 'FOR EVERY INPUT', by the rows' own cells (each row's printed sentence says how): FnExactReadV4: laid · FnExactReadType: laid.
  DERIVED. THE GIVEN ROWS OF THIS SEAT. 2 by the template 'for every input the law returns true; each argument reads behind the call as it read before'; 0 by the template 'total and deterministic' (their statements: YtakonfkefoeenadDoorTotals.lean).
  GIVEN WITH THE SEED: the statements are not yours to turn. If you find one false, say at which input.
  Laid BY PROGRAM, IN A SANDBOX (cutbox-rows.mjs): the forced cells as the released guide's own fill.sh prints them over the translation 3d57b2a239d9f169… (all of the seat's roots in one cut). By AI agents, Wed Nov 11 2026. No macro, syntax, notation, axiom, sorry.
-/
import Derived.Test.YtakonfkefoeenadDoorChecked
import GoSem.PinnedTables
import GoSem.Claim
import GoSem.ClaimJoined
import GoSem.ClaimMapViews
import Derived.JoinedTies
import Derived.KernelRfl
namespace Go.Proofs.YtakonfkefoeenadDoor
/- THE CELL 'sum', in the pinned program and in every row, IS THE sha256 OF THE DUMP (.gsa) THAT YtakonfkefoeenadDoorProg.lean LOADS. Nothing in Lean hashes anything: it is a label: what it is worth is what the hold of that sum in a sandbox is worth. -/
noncomputable def Tryd.pinned : Pinned := { name := "ytakonfkefoeenaddoor", sum := "3d57b2a239d9f169cf48a631e2e7977ef002c76fa12b436ae6e2be24cbf4b26a", checked := Tryd.checked }
namespace Rows
def none {H : Type} : Left H := { results := [], args := [] }

/- WHAT THE LISTED PACKAGE-LEVEL VARIABLES READ AS WHEN THE CALL BEGINS. Each datum BY PROGRAM (the guide's laid-datum.mjs) off the statement by which the dump's own 'gosem.cut.vars' lays the variable. In a bare row this is a premise. The card (YtakonfkefoeenadDoorCards.lean) ties it to the program's text. -/
def laid_unicode_utf8_acceptRanges {H : Type} : DataW H := .agg [.agg [.lit (.int .u8 128), .lit (.int .u8 191)], .agg [.lit (.int .u8 160), .lit (.int .u8 191)], .agg [.lit (.int .u8 128), .lit (.int .u8 159)], .agg [.lit (.int .u8 144), .lit (.int .u8 191)], .agg [.lit (.int .u8 128), .lit (.int .u8 143)], .agg [.lit (.int .u8 0), .lit (.int .u8 0)], .agg [.lit (.int .u8 0), .lit (.int .u8 0)], .agg [.lit (.int .u8 0), .lit (.int .u8 0)], .agg [.lit (.int .u8 0), .lit (.int .u8 0)], .agg [.lit (.int .u8 0), .lit (.int .u8 0)], .agg [.lit (.int .u8 0), .lit (.int .u8 0)], .agg [.lit (.int .u8 0), .lit (.int .u8 0)], .agg [.lit (.int .u8 0), .lit (.int .u8 0)], .agg [.lit (.int .u8 0), .lit (.int .u8 0)], .agg [.lit (.int .u8 0), .lit (.int .u8 0)], .agg [.lit (.int .u8 0), .lit (.int .u8 0)]]
/-- One of Go's own tables, pinned by name: the form's constant. -/
def laid_unicode_utf8_first : DataW Unit := Go.Pinned.utf8First
def laid_loop_example_s01858_impl_mnemonics {H : Type} : DataW H := .agg [.agg [.lit (.string [65]), .lit (.int .i64 1)], .agg [.lit (.string [78, 83]), .lit (.int .i64 2)], .agg [.lit (.string [67, 78, 65, 77, 69]), .lit (.int .i64 5)], .agg [.lit (.string [83, 79, 65]), .lit (.int .i64 6)], .agg [.lit (.string [80, 84, 82]), .lit (.int .i64 12)], .agg [.lit (.string [72, 73, 78, 70, 79]), .lit (.int .i64 13)], .agg [.lit (.string [77, 88]), .lit (.int .i64 15)], .agg [.lit (.string [84, 88, 84]), .lit (.int .i64 16)], .agg [.lit (.string [65, 65, 65, 65]), .lit (.int .i64 28)], .agg [.lit (.string [83, 82, 86]), .lit (.int .i64 33)], .agg [.lit (.string [78, 65, 80, 84, 82]), .lit (.int .i64 35)], .agg [.lit (.string [68, 78, 65, 77, 69]), .lit (.int .i64 39)], .agg [.lit (.string [79, 80, 84]), .lit (.int .i64 41)], .agg [.lit (.string [78, 83, 69, 67]), .lit (.int .i64 47)], .agg [.lit (.string [84, 83, 73, 71]), .lit (.int .i64 250)], .agg [.lit (.string [73, 88, 70, 82]), .lit (.int .i64 251)], .agg [.lit (.string [65, 88, 70, 82]), .lit (.int .i64 252)], .agg [.lit (.string [65, 78, 89]), .lit (.int .i64 255)], .agg [.lit (.string [67, 65, 65]), .lit (.int .i64 257)]]

/-- 'laws.FnExactReadV4': WHATEVER THE INPUT: true; the input reads as it did. -/
def fnExactReadV4Spec : ChangeSpec := { name := "fnExactReadV4", fn := fun _ => fun
  | [d] => { results := [.lit (.bool true)], args := [d] }
  | _ => none }
def fnExactReadV4Row : OpenClaim := { program := "ytakonfkefoeenaddoor", sum := "3d57b2a239d9f169cf48a631e2e7977ef002c76fa12b436ae6e2be24cbf4b26a", func := "loop.example/s01858/laws.FnExactReadV4", spec := "fnExactReadV4", inPlace := ["internal/bytealg.CountString", "internal/bytealg.IndexByteString", "internal/bytealg.IndexString"], recurses := true, named := ["unicode/utf8.first", "unicode/utf8.acceptRanges", "internal/bytealg.MaxLen"], apart := false, laid := [("unicode/utf8.acceptRanges", laid_unicode_utf8_acceptRanges), ("unicode/utf8.first", laid_unicode_utf8_first)] }
def FnExactReadV4Said : Prop := fnExactReadV4Row.holds Tryd.pinned (OpenSpec.ofChange fnExactReadV4Spec)

/-- ITS FALSE NEIGHBOUR: 'it returns false'. Refute it at one input. -/
def fnExactReadV4Wrong : ChangeSpec := { name := "fnExactReadV4", fn := fun _ => fun
  | [d] => { results := [.lit (.bool false)], args := [d] }
  | _ => none }
def FnExactReadV4WrongFalsely : Prop := fnExactReadV4Row.holds Tryd.pinned (OpenSpec.ofChange fnExactReadV4Wrong)

/-- 'laws.FnExactReadType': WHATEVER THE INPUT: true; the input reads as it did. -/
def fnExactReadTypeSpec : ChangeSpec := { name := "fnExactReadType", vars := ["loop.example/s01858/impl.mnemonics"], fn := fun _ => fun
  | [d, g1] => { results := [.lit (.bool true)], args := [d], vars := [g1] }
  | _ => none }
def fnExactReadTypeRow : OpenClaim := { program := "ytakonfkefoeenaddoor", sum := "3d57b2a239d9f169cf48a631e2e7977ef002c76fa12b436ae6e2be24cbf4b26a", func := "loop.example/s01858/laws.FnExactReadType", spec := "fnExactReadType", named := ["loop.example/s01858/impl.mnemonics"], apart := false, laid := [("loop.example/s01858/impl.mnemonics", laid_loop_example_s01858_impl_mnemonics)] }
def FnExactReadTypeSaid : Prop := fnExactReadTypeRow.holds Tryd.pinned (OpenSpec.ofChange fnExactReadTypeSpec)

/-- ITS FALSE NEIGHBOUR: 'it returns false'. Refute it at one input. -/
def fnExactReadTypeWrong : ChangeSpec := { name := "fnExactReadType", vars := ["loop.example/s01858/impl.mnemonics"], fn := fun _ => fun
  | [d, g1] => { results := [.lit (.bool false)], args := [d], vars := [g1] }
  | _ => none }
def FnExactReadTypeWrongFalsely : Prop := fnExactReadTypeRow.holds Tryd.pinned (OpenSpec.ofChange fnExactReadTypeWrong)

/- THE SECOND FORM. 'bulk': how many values and letters a reading holds, each counted each time it is reached (what is shared counts as often as it is met; a slice's spare places count too). A statement '..UptoSaid' is the law's where the arguments, and the package variables that the reading takes, are together of bulk at most 1048576: NARROWER than '..Said'. Prove '..Said' where nothing that the law and all that it calls make is longer than what came in: it says more and counts as full. Else prove '..UptoSaid'. A law counts once. -/
mutual
def uptoBulk {H : Type} : DataW H → Nat
  | .lit (.string bytes) => bytes.length + 1
  | .lit _ => 1
  | .nil => 1
  | .ptr d => uptoBulk d + 1
  | .slice elems spare => uptoBulkAll elems + uptoBulkAll spare + 1
  | .agg parts => uptoBulkAll parts + 1
  | .iface _ d => uptoBulk d + 1
  | .map entries => uptoBulkEntries entries + 1
  | .held _ => 1
def uptoBulkAll {H : Type} : List (DataW H) → Nat
  | [] => 0
  | d :: r => uptoBulk d + uptoBulkAll r
def uptoBulkEntries {H : Type} : List (Lit × DataW H) → Nat
  | [] => 0
  | x :: r => uptoBulkEntry x + uptoBulkEntries r
def uptoBulkEntry {H : Type} : Lit × DataW H → Nat
  | (.string bytes, d) => bytes.length + uptoBulk d + 1
  | (_, d) => uptoBulk d + 1
 end
def uptoSmall : (H : Type) → List (DataW H) → Bool := fun _ ds => decide (uptoBulkAll ds ≤ 1048576)
def OpenSpec.upto (s : _root_.Go.ChangeSpec) : _root_.Go.OpenSpec := { _root_.Go.OpenSpec.ofChange s with cond := some uptoSmall }

/-- 'laws.FnExactReadV4', WHERE WHAT IT READS IS OF BULK AT MOST 1048576: true; the input reads as it did. -/
def fnExactReadV4UptoRow : OpenClaim := { program := "ytakonfkefoeenaddoor", sum := "3d57b2a239d9f169cf48a631e2e7977ef002c76fa12b436ae6e2be24cbf4b26a", func := "loop.example/s01858/laws.FnExactReadV4", spec := "fnExactReadV4", inPlace := ["internal/bytealg.CountString", "internal/bytealg.IndexByteString", "internal/bytealg.IndexString"], recurses := true, named := ["unicode/utf8.first", "unicode/utf8.acceptRanges", "internal/bytealg.MaxLen"], apart := false, laid := [("unicode/utf8.acceptRanges", laid_unicode_utf8_acceptRanges), ("unicode/utf8.first", laid_unicode_utf8_first)], narrowed := true }
def FnExactReadV4UptoSaid : Prop := fnExactReadV4UptoRow.holds Tryd.pinned (OpenSpec.upto fnExactReadV4Spec)

/-- 'laws.FnExactReadType', WHERE WHAT IT READS IS OF BULK AT MOST 1048576: true; the input reads as it did. -/
def fnExactReadTypeUptoRow : OpenClaim := { program := "ytakonfkefoeenaddoor", sum := "3d57b2a239d9f169cf48a631e2e7977ef002c76fa12b436ae6e2be24cbf4b26a", func := "loop.example/s01858/laws.FnExactReadType", spec := "fnExactReadType", named := ["loop.example/s01858/impl.mnemonics"], apart := false, laid := [("loop.example/s01858/impl.mnemonics", laid_loop_example_s01858_impl_mnemonics)], narrowed := true }
def FnExactReadTypeUptoSaid : Prop := fnExactReadTypeUptoRow.holds Tryd.pinned (OpenSpec.upto fnExactReadTypeSpec)

end Rows
end Go.Proofs.YtakonfkefoeenadDoor
