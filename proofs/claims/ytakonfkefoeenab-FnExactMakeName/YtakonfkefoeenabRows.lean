/-
  No cell of these rows narrows 'for every input' (looked for: loops, veiled, ifaces, maps, wideKeys, modest, calm, conditions, laid).
  DERIVED. THE GIVEN ROWS OF THIS SEAT. 5 by the template 'for every input the law returns true; each argument reads behind the call as it read before'; 0 by the template 'total and deterministic' (their statements: YtakonfkefoeenabTotals.lean).
  GIVEN WITH THE SEED: the statements are not yours to turn. If you find one false, say at which input.
  Laid BY PROGRAM, IN A SANDBOX (cutbox-rows.mjs): the forced cells as the released guide's own fill.sh prints them over the translation 75197fc7ae388913… (all of the seat's roots in one cut). By AI agents, Wed Nov 11 2026. No macro, syntax, notation, axiom, sorry.
-/
import Derived.Test.YtakonfkefoeenabChecked
import GoSem.Claim
import GoSem.ClaimJoined
import GoSem.ClaimMapViews
import Derived.JoinedTies
import Derived.KernelRfl
namespace Go.Proofs.Ytakonfkefoeenab
/- THE CELL 'sum', in the pinned program and in every row, IS THE sha256 OF THE DUMP (.gsa) THAT YtakonfkefoeenabProg.lean LOADS. Nothing in Lean hashes anything: it is a label: what it is worth is what the hold of that sum in a sandbox is worth. -/
noncomputable def Try.pinned : Pinned := { name := "ytakonfkefoeenab", sum := "75197fc7ae38891378129a748e4d7c34c31c832f1c94fb35f0dac2cf3439014d", checked := Try.checked }
namespace Rows
def none {H : Type} : Left H := { results := [], args := [] }

/-- 'laws.FnExactAncestor': WHATEVER THE INPUT: true; the input reads as it did. -/
def fnExactAncestorSpec : ChangeSpec := { name := "fnExactAncestor", fn := fun _ => fun
  | [d1, d2] => { results := [.lit (.bool true)], args := [d1, d2] }
  | _ => none }
def fnExactAncestorRow : OpenClaim := { program := "ytakonfkefoeenab", sum := "75197fc7ae38891378129a748e4d7c34c31c832f1c94fb35f0dac2cf3439014d", func := "loop.example/s01858/laws.FnExactAncestor", spec := "fnExactAncestor", apart := false }
def FnExactAncestorSaid : Prop := fnExactAncestorRow.holds Try.pinned (OpenSpec.ofChange fnExactAncestorSpec)

/-- ITS FALSE NEIGHBOUR: 'it returns false'. Refute it at one input. -/
def fnExactAncestorWrong : ChangeSpec := { name := "fnExactAncestor", fn := fun _ => fun
  | [d1, d2] => { results := [.lit (.bool false)], args := [d1, d2] }
  | _ => none }
def FnExactAncestorWrongFalsely : Prop := fnExactAncestorRow.holds Try.pinned (OpenSpec.ofChange fnExactAncestorWrong)

/-- 'laws.FnExactShowName': WHATEVER THE INPUT: true; the input reads as it did. -/
def fnExactShowNameSpec : ChangeSpec := { name := "fnExactShowName", fn := fun _ => fun
  | [d] => { results := [.lit (.bool true)], args := [d] }
  | _ => none }
def fnExactShowNameRow : OpenClaim := { program := "ytakonfkefoeenab", sum := "75197fc7ae38891378129a748e4d7c34c31c832f1c94fb35f0dac2cf3439014d", func := "loop.example/s01858/laws.FnExactShowName", spec := "fnExactShowName", inPlace := ["internal/bytealg.IndexByteString"], apart := false }
def FnExactShowNameSaid : Prop := fnExactShowNameRow.holds Try.pinned (OpenSpec.ofChange fnExactShowNameSpec)

/-- ITS FALSE NEIGHBOUR: 'it returns false'. Refute it at one input. -/
def fnExactShowNameWrong : ChangeSpec := { name := "fnExactShowName", fn := fun _ => fun
  | [d] => { results := [.lit (.bool false)], args := [d] }
  | _ => none }
def FnExactShowNameWrongFalsely : Prop := fnExactShowNameRow.holds Try.pinned (OpenSpec.ofChange fnExactShowNameWrong)

/-- 'laws.FnExactReadText': WHATEVER THE INPUT: true; the input reads as it did. -/
def fnExactReadTextSpec : ChangeSpec := { name := "fnExactReadText", fn := fun _ => fun
  | [d] => { results := [.lit (.bool true)], args := [d] }
  | _ => none }
def fnExactReadTextRow : OpenClaim := { program := "ytakonfkefoeenab", sum := "75197fc7ae38891378129a748e4d7c34c31c832f1c94fb35f0dac2cf3439014d", func := "loop.example/s01858/laws.FnExactReadText", spec := "fnExactReadText", apart := false }
def FnExactReadTextSaid : Prop := fnExactReadTextRow.holds Try.pinned (OpenSpec.ofChange fnExactReadTextSpec)

/-- ITS FALSE NEIGHBOUR: 'it returns false'. Refute it at one input. -/
def fnExactReadTextWrong : ChangeSpec := { name := "fnExactReadText", fn := fun _ => fun
  | [d] => { results := [.lit (.bool false)], args := [d] }
  | _ => none }
def FnExactReadTextWrongFalsely : Prop := fnExactReadTextRow.holds Try.pinned (OpenSpec.ofChange fnExactReadTextWrong)

/-- 'laws.FnExactDecodeName': WHATEVER THE INPUT: true; the input reads as it did. -/
def fnExactDecodeNameSpec : ChangeSpec := { name := "fnExactDecodeName", fn := fun _ => fun
  | [d1, d2] => { results := [.lit (.bool true)], args := [d1, d2] }
  | _ => none }
def fnExactDecodeNameRow : OpenClaim := { program := "ytakonfkefoeenab", sum := "75197fc7ae38891378129a748e4d7c34c31c832f1c94fb35f0dac2cf3439014d", func := "loop.example/s01858/laws.FnExactDecodeName", spec := "fnExactDecodeName", unfollowed := true, recurses := true, apart := false }
def FnExactDecodeNameSaid : Prop := fnExactDecodeNameRow.holds Try.pinned (OpenSpec.ofChange fnExactDecodeNameSpec)

/-- ITS FALSE NEIGHBOUR: 'it returns false'. Refute it at one input. -/
def fnExactDecodeNameWrong : ChangeSpec := { name := "fnExactDecodeName", fn := fun _ => fun
  | [d1, d2] => { results := [.lit (.bool false)], args := [d1, d2] }
  | _ => none }
def FnExactDecodeNameWrongFalsely : Prop := fnExactDecodeNameRow.holds Try.pinned (OpenSpec.ofChange fnExactDecodeNameWrong)

/-- 'laws.FnExactMakeName': WHATEVER THE INPUT: true; the input reads as it did. -/
def fnExactMakeNameSpec : ChangeSpec := { name := "fnExactMakeName", fn := fun _ => fun
  | [d] => { results := [.lit (.bool true)], args := [d] }
  | _ => none }
def fnExactMakeNameRow : OpenClaim := { program := "ytakonfkefoeenab", sum := "75197fc7ae38891378129a748e4d7c34c31c832f1c94fb35f0dac2cf3439014d", func := "loop.example/s01858/laws.FnExactMakeName", spec := "fnExactMakeName", apart := false }
def FnExactMakeNameSaid : Prop := fnExactMakeNameRow.holds Try.pinned (OpenSpec.ofChange fnExactMakeNameSpec)

/-- ITS FALSE NEIGHBOUR: 'it returns false'. Refute it at one input. -/
def fnExactMakeNameWrong : ChangeSpec := { name := "fnExactMakeName", fn := fun _ => fun
  | [d] => { results := [.lit (.bool false)], args := [d] }
  | _ => none }
def FnExactMakeNameWrongFalsely : Prop := fnExactMakeNameRow.holds Try.pinned (OpenSpec.ofChange fnExactMakeNameWrong)

/- THE SECOND FORM. 'bulk': how many values and letters a reading holds, each counted each time it is reached (what is shared counts as often as it is met; a slice's spare places count too). A statement '..UptoSaid' is the law's where the arguments, and the package variables that the reading takes, are together of bulk at most 1048576: NARROWER than '..Said'. Prove '..Said' where nothing that the law and all that it calls make is longer than what came in: it says more and counts as full. Else prove '..UptoSaid'. A law counts once. -/
mutual
def uptoBulk {H : Type} : DataW H → Nat
  | .lit (.string bytes) => bytes.length + 1
  | .lit _ => 1
  | .nil => 1
  | .ptr d => uptoBulk d + 1
  | .slice elems spare => uptoBulkAll elems + uptoBulkAll spare + 1
  | .agg parts => uptoBulkAll parts + 1
  | .iface _ d => uptoBulk d + 1
  | .map entries => uptoBulkEntries entries + 1
  | .held _ => 1
def uptoBulkAll {H : Type} : List (DataW H) → Nat
  | [] => 0
  | d :: r => uptoBulk d + uptoBulkAll r
def uptoBulkEntries {H : Type} : List (Lit × DataW H) → Nat
  | [] => 0
  | x :: r => uptoBulkEntry x + uptoBulkEntries r
def uptoBulkEntry {H : Type} : Lit × DataW H → Nat
  | (.string bytes, d) => bytes.length + uptoBulk d + 1
  | (_, d) => uptoBulk d + 1
 end
def uptoSmall : (H : Type) → List (DataW H) → Bool := fun _ ds => decide (uptoBulkAll ds ≤ 1048576)
def OpenSpec.upto (s : _root_.Go.ChangeSpec) : _root_.Go.OpenSpec := { _root_.Go.OpenSpec.ofChange s with cond := some uptoSmall }

/-- 'laws.FnExactAncestor', WHERE WHAT IT READS IS OF BULK AT MOST 1048576: true; the input reads as it did. -/
def fnExactAncestorUptoRow : OpenClaim := { program := "ytakonfkefoeenab", sum := "75197fc7ae38891378129a748e4d7c34c31c832f1c94fb35f0dac2cf3439014d", func := "loop.example/s01858/laws.FnExactAncestor", spec := "fnExactAncestor", apart := false, narrowed := true }
def FnExactAncestorUptoSaid : Prop := fnExactAncestorUptoRow.holds Try.pinned (OpenSpec.upto fnExactAncestorSpec)

/-- 'laws.FnExactShowName', WHERE WHAT IT READS IS OF BULK AT MOST 1048576: true; the input reads as it did. -/
def fnExactShowNameUptoRow : OpenClaim := { program := "ytakonfkefoeenab", sum := "75197fc7ae38891378129a748e4d7c34c31c832f1c94fb35f0dac2cf3439014d", func := "loop.example/s01858/laws.FnExactShowName", spec := "fnExactShowName", inPlace := ["internal/bytealg.IndexByteString"], apart := false, narrowed := true }
def FnExactShowNameUptoSaid : Prop := fnExactShowNameUptoRow.holds Try.pinned (OpenSpec.upto fnExactShowNameSpec)

/-- 'laws.FnExactReadText', WHERE WHAT IT READS IS OF BULK AT MOST 1048576: true; the input reads as it did. -/
def fnExactReadTextUptoRow : OpenClaim := { program := "ytakonfkefoeenab", sum := "75197fc7ae38891378129a748e4d7c34c31c832f1c94fb35f0dac2cf3439014d", func := "loop.example/s01858/laws.FnExactReadText", spec := "fnExactReadText", apart := false, narrowed := true }
def FnExactReadTextUptoSaid : Prop := fnExactReadTextUptoRow.holds Try.pinned (OpenSpec.upto fnExactReadTextSpec)

/-- 'laws.FnExactDecodeName', WHERE WHAT IT READS IS OF BULK AT MOST 1048576: true; the input reads as it did. -/
def fnExactDecodeNameUptoRow : OpenClaim := { program := "ytakonfkefoeenab", sum := "75197fc7ae38891378129a748e4d7c34c31c832f1c94fb35f0dac2cf3439014d", func := "loop.example/s01858/laws.FnExactDecodeName", spec := "fnExactDecodeName", unfollowed := true, recurses := true, apart := false, narrowed := true }
def FnExactDecodeNameUptoSaid : Prop := fnExactDecodeNameUptoRow.holds Try.pinned (OpenSpec.upto fnExactDecodeNameSpec)

/-- 'laws.FnExactMakeName', WHERE WHAT IT READS IS OF BULK AT MOST 1048576: true; the input reads as it did. -/
def fnExactMakeNameUptoRow : OpenClaim := { program := "ytakonfkefoeenab", sum := "75197fc7ae38891378129a748e4d7c34c31c832f1c94fb35f0dac2cf3439014d", func := "loop.example/s01858/laws.FnExactMakeName", spec := "fnExactMakeName", apart := false, narrowed := true }
def FnExactMakeNameUptoSaid : Prop := fnExactMakeNameUptoRow.holds Try.pinned (OpenSpec.upto fnExactMakeNameSpec)

end Rows
end Go.Proofs.Ytakonfkefoeenab
