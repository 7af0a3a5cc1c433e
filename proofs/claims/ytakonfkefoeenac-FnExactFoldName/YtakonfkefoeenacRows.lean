/-
  No cell of these rows narrows 'for every input' (looked for: loops, veiled, ifaces, maps, wideKeys, modest, calm, conditions, laid).
  DERIVED. THE GIVEN ROWS OF THIS SEAT. 5 by the template 'for every input the law returns true; each argument reads behind the call as it read before'; 0 by the template 'total and deterministic' (their statements: YtakonfkefoeenacTotals.lean).
  GIVEN WITH THE SEED: the statements are not yours to turn. If you find one false, say at which input.
  Laid BY PROGRAM, IN A SANDBOX (cutbox-rows.mjs): the forced cells as the released guide's own fill.sh prints them over the translation d89ae76c62fdcf01… (all of the seat's roots in one cut). By AI agents, Wed Nov 11 2026. No macro, syntax, notation, axiom, sorry.
-/
import Derived.Test.YtakonfkefoeenacChecked
import GoSem.Claim
import GoSem.ClaimJoined
import GoSem.ClaimMapViews
import Derived.JoinedTies
import Derived.KernelRfl
namespace Go.Proofs.Ytakonfkefoeenac
/- THE CELL 'sum', in the pinned program and in every row, IS THE sha256 OF THE DUMP (.gsa) THAT YtakonfkefoeenacProg.lean LOADS. Nothing in Lean hashes anything: it is a label: what it is worth is what the hold of that sum in a sandbox is worth. -/
noncomputable def Try.pinned : Pinned := { name := "ytakonfkefoeenac", sum := "d89ae76c62fdcf01f22413e278b04b343d3e48146000f50db413c1ebe37af178", checked := Try.checked }
namespace Rows
def none {H : Type} : Left H := { results := [], args := [] }

/-- 'laws.FnExactMapTypes': WHATEVER THE INPUT: true; the input reads as it did. -/
def fnExactMapTypesSpec : ChangeSpec := { name := "fnExactMapTypes", fn := fun _ => fun
  | [d] => { results := [.lit (.bool true)], args := [d] }
  | _ => none }
def fnExactMapTypesRow : OpenClaim := { program := "ytakonfkefoeenac", sum := "d89ae76c62fdcf01f22413e278b04b343d3e48146000f50db413c1ebe37af178", func := "loop.example/s01858/laws.FnExactMapTypes", spec := "fnExactMapTypes", apart := false }
def FnExactMapTypesSaid : Prop := fnExactMapTypesRow.holds Try.pinned (OpenSpec.ofChange fnExactMapTypesSpec)

/-- ITS FALSE NEIGHBOUR: 'it returns false'. Refute it at one input. -/
def fnExactMapTypesWrong : ChangeSpec := { name := "fnExactMapTypes", fn := fun _ => fun
  | [d] => { results := [.lit (.bool false)], args := [d] }
  | _ => none }
def FnExactMapTypesWrongFalsely : Prop := fnExactMapTypesRow.holds Try.pinned (OpenSpec.ofChange fnExactMapTypesWrong)

/-- 'laws.FnExactLabels': WHATEVER THE INPUT: true; the input reads as it did. -/
def fnExactLabelsSpec : ChangeSpec := { name := "fnExactLabels", fn := fun _ => fun
  | [d] => { results := [.lit (.bool true)], args := [d] }
  | _ => none }
def fnExactLabelsRow : OpenClaim := { program := "ytakonfkefoeenac", sum := "d89ae76c62fdcf01f22413e278b04b343d3e48146000f50db413c1ebe37af178", func := "loop.example/s01858/laws.FnExactLabels", spec := "fnExactLabels", apart := false }
def FnExactLabelsSaid : Prop := fnExactLabelsRow.holds Try.pinned (OpenSpec.ofChange fnExactLabelsSpec)

/-- ITS FALSE NEIGHBOUR: 'it returns false'. Refute it at one input. -/
def fnExactLabelsWrong : ChangeSpec := { name := "fnExactLabels", fn := fun _ => fun
  | [d] => { results := [.lit (.bool false)], args := [d] }
  | _ => none }
def FnExactLabelsWrongFalsely : Prop := fnExactLabelsRow.holds Try.pinned (OpenSpec.ofChange fnExactLabelsWrong)

/-- 'laws.FnExactFoldName': WHATEVER THE INPUT: true; the input reads as it did. -/
def fnExactFoldNameSpec : ChangeSpec := { name := "fnExactFoldName", fn := fun _ => fun
  | [d] => { results := [.lit (.bool true)], args := [d] }
  | _ => none }
def fnExactFoldNameRow : OpenClaim := { program := "ytakonfkefoeenac", sum := "d89ae76c62fdcf01f22413e278b04b343d3e48146000f50db413c1ebe37af178", func := "loop.example/s01858/laws.FnExactFoldName", spec := "fnExactFoldName", apart := false }
def FnExactFoldNameSaid : Prop := fnExactFoldNameRow.holds Try.pinned (OpenSpec.ofChange fnExactFoldNameSpec)

/-- ITS FALSE NEIGHBOUR: 'it returns false'. Refute it at one input. -/
def fnExactFoldNameWrong : ChangeSpec := { name := "fnExactFoldName", fn := fun _ => fun
  | [d] => { results := [.lit (.bool false)], args := [d] }
  | _ => none }
def FnExactFoldNameWrongFalsely : Prop := fnExactFoldNameRow.holds Try.pinned (OpenSpec.ofChange fnExactFoldNameWrong)

/-- 'laws.FnExactCompareNames': WHATEVER THE INPUT: true; the input reads as it did. -/
def fnExactCompareNamesSpec : ChangeSpec := { name := "fnExactCompareNames", fn := fun _ => fun
  | [d1, d2] => { results := [.lit (.bool true)], args := [d1, d2] }
  | _ => none }
def fnExactCompareNamesRow : OpenClaim := { program := "ytakonfkefoeenac", sum := "d89ae76c62fdcf01f22413e278b04b343d3e48146000f50db413c1ebe37af178", func := "loop.example/s01858/laws.FnExactCompareNames", spec := "fnExactCompareNames", apart := false }
def FnExactCompareNamesSaid : Prop := fnExactCompareNamesRow.holds Try.pinned (OpenSpec.ofChange fnExactCompareNamesSpec)

/-- ITS FALSE NEIGHBOUR: 'it returns false'. Refute it at one input. -/
def fnExactCompareNamesWrong : ChangeSpec := { name := "fnExactCompareNames", fn := fun _ => fun
  | [d1, d2] => { results := [.lit (.bool false)], args := [d1, d2] }
  | _ => none }
def FnExactCompareNamesWrongFalsely : Prop := fnExactCompareNamesRow.holds Try.pinned (OpenSpec.ofChange fnExactCompareNamesWrong)

/-- 'laws.FnExactReadTTL': WHATEVER THE INPUT: true; the input reads as it did. -/
def fnExactReadTTLSpec : ChangeSpec := { name := "fnExactReadTTL", fn := fun _ => fun
  | [d] => { results := [.lit (.bool true)], args := [d] }
  | _ => none }
def fnExactReadTTLRow : OpenClaim := { program := "ytakonfkefoeenac", sum := "d89ae76c62fdcf01f22413e278b04b343d3e48146000f50db413c1ebe37af178", func := "loop.example/s01858/laws.FnExactReadTTL", spec := "fnExactReadTTL", apart := false }
def FnExactReadTTLSaid : Prop := fnExactReadTTLRow.holds Try.pinned (OpenSpec.ofChange fnExactReadTTLSpec)

/-- ITS FALSE NEIGHBOUR: 'it returns false'. Refute it at one input. -/
def fnExactReadTTLWrong : ChangeSpec := { name := "fnExactReadTTL", fn := fun _ => fun
  | [d] => { results := [.lit (.bool false)], args := [d] }
  | _ => none }
def FnExactReadTTLWrongFalsely : Prop := fnExactReadTTLRow.holds Try.pinned (OpenSpec.ofChange fnExactReadTTLWrong)

/- THE SECOND FORM. 'bulk': how many values and letters a reading holds, each counted each time it is reached (what is shared counts as often as it is met; a slice's spare places count too). A statement '..UptoSaid' is the law's where the arguments, and the package variables that the reading takes, are together of bulk at most 1048576: NARROWER than '..Said'. Prove '..Said' where nothing that the law and all that it calls make is longer than what came in: it says more and counts as full. Else prove '..UptoSaid'. A law counts once. -/
mutual
def uptoBulk {H : Type} : DataW H → Nat
  | .lit (.string bytes) => bytes.length + 1
  | .lit _ => 1
  | .nil => 1
  | .ptr d => uptoBulk d + 1
  | .slice elems spare => uptoBulkAll elems + uptoBulkAll spare + 1
  | .agg parts => uptoBulkAll parts + 1
  | .iface _ d => uptoBulk d + 1
  | .map entries => uptoBulkEntries entries + 1
  | .held _ => 1
def uptoBulkAll {H : Type} : List (DataW H) → Nat
  | [] => 0
  | d :: r => uptoBulk d + uptoBulkAll r
def uptoBulkEntries {H : Type} : List (Lit × DataW H) → Nat
  | [] => 0
  | x :: r => uptoBulkEntry x + uptoBulkEntries r
def uptoBulkEntry {H : Type} : Lit × DataW H → Nat
  | (.string bytes, d) => bytes.length + uptoBulk d + 1
  | (_, d) => uptoBulk d + 1
 end
def uptoSmall : (H : Type) → List (DataW H) → Bool := fun _ ds => decide (uptoBulkAll ds ≤ 1048576)
def OpenSpec.upto (s : _root_.Go.ChangeSpec) : _root_.Go.OpenSpec := { _root_.Go.OpenSpec.ofChange s with cond := some uptoSmall }

/-- 'laws.FnExactMapTypes', WHERE WHAT IT READS IS OF BULK AT MOST 1048576: true; the input reads as it did. -/
def fnExactMapTypesUptoRow : OpenClaim := { program := "ytakonfkefoeenac", sum := "d89ae76c62fdcf01f22413e278b04b343d3e48146000f50db413c1ebe37af178", func := "loop.example/s01858/laws.FnExactMapTypes", spec := "fnExactMapTypes", apart := false, narrowed := true }
def FnExactMapTypesUptoSaid : Prop := fnExactMapTypesUptoRow.holds Try.pinned (OpenSpec.upto fnExactMapTypesSpec)

/-- 'laws.FnExactLabels', WHERE WHAT IT READS IS OF BULK AT MOST 1048576: true; the input reads as it did. -/
def fnExactLabelsUptoRow : OpenClaim := { program := "ytakonfkefoeenac", sum := "d89ae76c62fdcf01f22413e278b04b343d3e48146000f50db413c1ebe37af178", func := "loop.example/s01858/laws.FnExactLabels", spec := "fnExactLabels", apart := false, narrowed := true }
def FnExactLabelsUptoSaid : Prop := fnExactLabelsUptoRow.holds Try.pinned (OpenSpec.upto fnExactLabelsSpec)

/-- 'laws.FnExactFoldName', WHERE WHAT IT READS IS OF BULK AT MOST 1048576: true; the input reads as it did. -/
def fnExactFoldNameUptoRow : OpenClaim := { program := "ytakonfkefoeenac", sum := "d89ae76c62fdcf01f22413e278b04b343d3e48146000f50db413c1ebe37af178", func := "loop.example/s01858/laws.FnExactFoldName", spec := "fnExactFoldName", apart := false, narrowed := true }
def FnExactFoldNameUptoSaid : Prop := fnExactFoldNameUptoRow.holds Try.pinned (OpenSpec.upto fnExactFoldNameSpec)

/-- 'laws.FnExactCompareNames', WHERE WHAT IT READS IS OF BULK AT MOST 1048576: true; the input reads as it did. -/
def fnExactCompareNamesUptoRow : OpenClaim := { program := "ytakonfkefoeenac", sum := "d89ae76c62fdcf01f22413e278b04b343d3e48146000f50db413c1ebe37af178", func := "loop.example/s01858/laws.FnExactCompareNames", spec := "fnExactCompareNames", apart := false, narrowed := true }
def FnExactCompareNamesUptoSaid : Prop := fnExactCompareNamesUptoRow.holds Try.pinned (OpenSpec.upto fnExactCompareNamesSpec)

/-- 'laws.FnExactReadTTL', WHERE WHAT IT READS IS OF BULK AT MOST 1048576: true; the input reads as it did. -/
def fnExactReadTTLUptoRow : OpenClaim := { program := "ytakonfkefoeenac", sum := "d89ae76c62fdcf01f22413e278b04b343d3e48146000f50db413c1ebe37af178", func := "loop.example/s01858/laws.FnExactReadTTL", spec := "fnExactReadTTL", apart := false, narrowed := true }
def FnExactReadTTLUptoSaid : Prop := fnExactReadTTLUptoRow.holds Try.pinned (OpenSpec.upto fnExactReadTTLSpec)

end Rows
end Go.Proofs.Ytakonfkefoeenac
