/-
  No cell of these rows narrows 'for every input' (looked for: loops, veiled, ifaces, maps, wideKeys, modest, calm, conditions, laid).
  DERIVED. THE GIVEN ROWS OF THIS SEAT. 4 by the template 'for every input the law returns true; each argument reads behind the call as it read before'; 0 by the template 'total and deterministic' (their statements: YtakonfkefoeenagTotals.lean).
  GIVEN WITH THE SEED: the statements are not yours to turn. If you find one false, say at which input.
  Laid BY PROGRAM, IN A SANDBOX (cutbox-rows.mjs): the forced cells as the released guide's own fill.sh prints them over the translation 63efb5121fbcd0e6… (all of the seat's roots in one cut). By AI agents, Wed Nov 11 2026. No macro, syntax, notation, axiom, sorry.
-/
import Derived.Test.YtakonfkefoeenagChecked
import GoSem.Claim
import GoSem.ClaimJoined
import GoSem.ClaimMapViews
import Derived.JoinedTies
import Derived.KernelRfl
namespace Go.Proofs.Ytakonfkefoeenag
/- THE CELL 'sum', in the pinned program and in every row, IS THE sha256 OF THE DUMP (.gsa) THAT YtakonfkefoeenagProg.lean LOADS. Nothing in Lean hashes anything: it is a label: what it is worth is what the hold of that sum in a sandbox is worth. -/
noncomputable def Try.pinned : Pinned := { name := "ytakonfkefoeenag", sum := "63efb5121fbcd0e6f4997b3d5a7f5ce864aa435766f4087ac0d38a58a148717e", checked := Try.checked }
namespace Rows
def none {H : Type} : Left H := { results := [], args := [] }

/-- 'laws.FnExactFoldData': WHATEVER THE INPUT: true; the input reads as it did. -/
def fnExactFoldDataSpec : ChangeSpec := { name := "fnExactFoldData", fn := fun _ => fun
  | [d1, d2] => { results := [.lit (.bool true)], args := [d1, d2] }
  | _ => none }
def fnExactFoldDataRow : OpenClaim := { program := "ytakonfkefoeenag", sum := "63efb5121fbcd0e6f4997b3d5a7f5ce864aa435766f4087ac0d38a58a148717e", func := "loop.example/s01858/laws.FnExactFoldData", spec := "fnExactFoldData", unfollowed := true, recurses := true, apart := false }
def FnExactFoldDataSaid : Prop := fnExactFoldDataRow.holds Try.pinned (OpenSpec.ofChange fnExactFoldDataSpec)

/-- ITS FALSE NEIGHBOUR: 'it returns false'. Refute it at one input. -/
def fnExactFoldDataWrong : ChangeSpec := { name := "fnExactFoldData", fn := fun _ => fun
  | [d1, d2] => { results := [.lit (.bool false)], args := [d1, d2] }
  | _ => none }
def FnExactFoldDataWrongFalsely : Prop := fnExactFoldDataRow.holds Try.pinned (OpenSpec.ofChange fnExactFoldDataWrong)

/-- 'laws.FnTail': WHATEVER THE INPUT: true; the input reads as it did. -/
def fnTailSpec : ChangeSpec := { name := "fnTail", fn := fun _ => fun
  | [d] => { results := [.lit (.bool true)], args := [d] }
  | _ => none }
def fnTailRow : OpenClaim := { program := "ytakonfkefoeenag", sum := "63efb5121fbcd0e6f4997b3d5a7f5ce864aa435766f4087ac0d38a58a148717e", func := "loop.example/s01858/laws.FnTail", spec := "fnTail", apart := false }
def FnTailSaid : Prop := fnTailRow.holds Try.pinned (OpenSpec.ofChange fnTailSpec)

/-- ITS FALSE NEIGHBOUR: 'it returns false'. Refute it at one input. -/
def fnTailWrong : ChangeSpec := { name := "fnTail", fn := fun _ => fun
  | [d] => { results := [.lit (.bool false)], args := [d] }
  | _ => none }
def FnTailWrongFalsely : Prop := fnTailRow.holds Try.pinned (OpenSpec.ofChange fnTailWrong)

/-- 'laws.FnExactCompareData': WHATEVER THE INPUT: true; the input reads as it did. -/
def fnExactCompareDataSpec : ChangeSpec := { name := "fnExactCompareData", fn := fun _ => fun
  | [d1, d2, d3] => { results := [.lit (.bool true)], args := [d1, d2, d3] }
  | _ => none }
def fnExactCompareDataRow : OpenClaim := { program := "ytakonfkefoeenag", sum := "63efb5121fbcd0e6f4997b3d5a7f5ce864aa435766f4087ac0d38a58a148717e", func := "loop.example/s01858/laws.FnExactCompareData", spec := "fnExactCompareData", inPlace := ["internal/bytealg.abigen_runtime_cmpstring"], unfollowed := true, recurses := true, apart := false }
def FnExactCompareDataSaid : Prop := fnExactCompareDataRow.holds Try.pinned (OpenSpec.ofChange fnExactCompareDataSpec)

/-- ITS FALSE NEIGHBOUR: 'it returns false'. Refute it at one input. -/
def fnExactCompareDataWrong : ChangeSpec := { name := "fnExactCompareData", fn := fun _ => fun
  | [d1, d2, d3] => { results := [.lit (.bool false)], args := [d1, d2, d3] }
  | _ => none }
def FnExactCompareDataWrongFalsely : Prop := fnExactCompareDataRow.holds Try.pinned (OpenSpec.ofChange fnExactCompareDataWrong)

/-- 'laws.FnExactReadEdns': WHATEVER THE INPUT: true; the input reads as it did. -/
def fnExactReadEdnsSpec : ChangeSpec := { name := "fnExactReadEdns", fn := fun _ => fun
  | [d] => { results := [.lit (.bool true)], args := [d] }
  | _ => none }
def fnExactReadEdnsRow : OpenClaim := { program := "ytakonfkefoeenag", sum := "63efb5121fbcd0e6f4997b3d5a7f5ce864aa435766f4087ac0d38a58a148717e", func := "loop.example/s01858/laws.FnExactReadEdns", spec := "fnExactReadEdns", apart := false }
def FnExactReadEdnsSaid : Prop := fnExactReadEdnsRow.holds Try.pinned (OpenSpec.ofChange fnExactReadEdnsSpec)

/-- ITS FALSE NEIGHBOUR: 'it returns false'. Refute it at one input. -/
def fnExactReadEdnsWrong : ChangeSpec := { name := "fnExactReadEdns", fn := fun _ => fun
  | [d] => { results := [.lit (.bool false)], args := [d] }
  | _ => none }
def FnExactReadEdnsWrongFalsely : Prop := fnExactReadEdnsRow.holds Try.pinned (OpenSpec.ofChange fnExactReadEdnsWrong)

/- THE SECOND FORM. 'bulk': how many values and letters a reading holds, each counted each time it is reached (what is shared counts as often as it is met; a slice's spare places count too). A statement '..UptoSaid' is the law's where the arguments, and the package variables that the reading takes, are together of bulk at most 1048576: NARROWER than '..Said'. Prove '..Said' where nothing that the law and all that it calls make is longer than what came in: it says more and counts as full. Else prove '..UptoSaid'. A law counts once. -/
mutual
def uptoBulk {H : Type} : DataW H → Nat
  | .lit (.string bytes) => bytes.length + 1
  | .lit _ => 1
  | .nil => 1
  | .ptr d => uptoBulk d + 1
  | .slice elems spare => uptoBulkAll elems + uptoBulkAll spare + 1
  | .agg parts => uptoBulkAll parts + 1
  | .iface _ d => uptoBulk d + 1
  | .map entries => uptoBulkEntries entries + 1
  | .held _ => 1
def uptoBulkAll {H : Type} : List (DataW H) → Nat
  | [] => 0
  | d :: r => uptoBulk d + uptoBulkAll r
def uptoBulkEntries {H : Type} : List (Lit × DataW H) → Nat
  | [] => 0
  | x :: r => uptoBulkEntry x + uptoBulkEntries r
def uptoBulkEntry {H : Type} : Lit × DataW H → Nat
  | (.string bytes, d) => bytes.length + uptoBulk d + 1
  | (_, d) => uptoBulk d + 1
 end
def uptoSmall : (H : Type) → List (DataW H) → Bool := fun _ ds => decide (uptoBulkAll ds ≤ 1048576)
def OpenSpec.upto (s : _root_.Go.ChangeSpec) : _root_.Go.OpenSpec := { _root_.Go.OpenSpec.ofChange s with cond := some uptoSmall }

/-- 'laws.FnExactFoldData', WHERE WHAT IT READS IS OF BULK AT MOST 1048576: true; the input reads as it did. -/
def fnExactFoldDataUptoRow : OpenClaim := { program := "ytakonfkefoeenag", sum := "63efb5121fbcd0e6f4997b3d5a7f5ce864aa435766f4087ac0d38a58a148717e", func := "loop.example/s01858/laws.FnExactFoldData", spec := "fnExactFoldData", unfollowed := true, recurses := true, apart := false, narrowed := true }
def FnExactFoldDataUptoSaid : Prop := fnExactFoldDataUptoRow.holds Try.pinned (OpenSpec.upto fnExactFoldDataSpec)

/-- 'laws.FnTail', WHERE WHAT IT READS IS OF BULK AT MOST 1048576: true; the input reads as it did. -/
def fnTailUptoRow : OpenClaim := { program := "ytakonfkefoeenag", sum := "63efb5121fbcd0e6f4997b3d5a7f5ce864aa435766f4087ac0d38a58a148717e", func := "loop.example/s01858/laws.FnTail", spec := "fnTail", apart := false, narrowed := true }
def FnTailUptoSaid : Prop := fnTailUptoRow.holds Try.pinned (OpenSpec.upto fnTailSpec)

/-- 'laws.FnExactCompareData', WHERE WHAT IT READS IS OF BULK AT MOST 1048576: true; the input reads as it did. -/
def fnExactCompareDataUptoRow : OpenClaim := { program := "ytakonfkefoeenag", sum := "63efb5121fbcd0e6f4997b3d5a7f5ce864aa435766f4087ac0d38a58a148717e", func := "loop.example/s01858/laws.FnExactCompareData", spec := "fnExactCompareData", inPlace := ["internal/bytealg.abigen_runtime_cmpstring"], unfollowed := true, recurses := true, apart := false, narrowed := true }
def FnExactCompareDataUptoSaid : Prop := fnExactCompareDataUptoRow.holds Try.pinned (OpenSpec.upto fnExactCompareDataSpec)

/-- 'laws.FnExactReadEdns', WHERE WHAT IT READS IS OF BULK AT MOST 1048576: true; the input reads as it did. -/
def fnExactReadEdnsUptoRow : OpenClaim := { program := "ytakonfkefoeenag", sum := "63efb5121fbcd0e6f4997b3d5a7f5ce864aa435766f4087ac0d38a58a148717e", func := "loop.example/s01858/laws.FnExactReadEdns", spec := "fnExactReadEdns", apart := false, narrowed := true }
def FnExactReadEdnsUptoSaid : Prop := fnExactReadEdnsUptoRow.holds Try.pinned (OpenSpec.upto fnExactReadEdnsSpec)

end Rows
end Go.Proofs.Ytakonfkefoeenag
