/-
  No cell of these rows narrows 'for every input' (looked for: loops, veiled, ifaces, maps, wideKeys, modest, calm, conditions, laid).
  DERIVED. THE GIVEN ROWS OF THIS SEAT. 5 by the template 'for every input the law returns true; each argument reads behind the call as it read before'; 0 by the template 'total and deterministic' (their statements: YtakonfkefoeenafTotals.lean).
  GIVEN WITH THE SEED: the statements are not yours to turn. If you find one false, say at which input.
  Laid BY PROGRAM, IN A SANDBOX (cutbox-rows.mjs): the forced cells as the released guide's own fill.sh prints them over the translation baf4d525f17c8120… (all of the seat's roots in one cut). By AI agents, Wed Nov 11 2026. No macro, syntax, notation, axiom, sorry.
-/
import Derived.Test.YtakonfkefoeenafChecked
import GoSem.Claim
import GoSem.ClaimJoined
import GoSem.ClaimMapViews
import Derived.JoinedTies
import Derived.KernelRfl
namespace Go.Proofs.Ytakonfkefoeenaf
/- THE CELL 'sum', in the pinned program and in every row, IS THE sha256 OF THE DUMP (.gsa) THAT YtakonfkefoeenafProg.lean LOADS. Nothing in Lean hashes anything: it is a label: what it is worth is what the hold of that sum in a sandbox is worth. -/
noncomputable def Try.pinned : Pinned := { name := "ytakonfkefoeenaf", sum := "baf4d525f17c81209994b72987e7aabb3ff4ab4d9a2eacb577229383b3a8c7fe", checked := Try.checked }
namespace Rows
def none {H : Type} : Left H := { results := [], args := [] }

/-- 'laws.FnExactSerial': WHATEVER THE INPUT: true; the input reads as it did. -/
def fnExactSerialSpec : ChangeSpec := { name := "fnExactSerial", fn := fun _ => fun
  | [d] => { results := [.lit (.bool true)], args := [d] }
  | _ => none }
def fnExactSerialRow : OpenClaim := { program := "ytakonfkefoeenaf", sum := "baf4d525f17c81209994b72987e7aabb3ff4ab4d9a2eacb577229383b3a8c7fe", func := "loop.example/s01858/laws.FnExactSerial", spec := "fnExactSerial", unfollowed := true, recurses := true, apart := false }
def FnExactSerialSaid : Prop := fnExactSerialRow.holds Try.pinned (OpenSpec.ofChange fnExactSerialSpec)

/-- ITS FALSE NEIGHBOUR: 'it returns false'. Refute it at one input. -/
def fnExactSerialWrong : ChangeSpec := { name := "fnExactSerial", fn := fun _ => fun
  | [d] => { results := [.lit (.bool false)], args := [d] }
  | _ => none }
def FnExactSerialWrongFalsely : Prop := fnExactSerialRow.holds Try.pinned (OpenSpec.ofChange fnExactSerialWrong)

/-- 'laws.FnExactWithSerial': WHATEVER THE INPUT: true; the input reads as it did. -/
def fnExactWithSerialSpec : ChangeSpec := { name := "fnExactWithSerial", fn := fun _ => fun
  | [d1, d2] => { results := [.lit (.bool true)], args := [d1, d2] }
  | _ => none }
def fnExactWithSerialRow : OpenClaim := { program := "ytakonfkefoeenaf", sum := "baf4d525f17c81209994b72987e7aabb3ff4ab4d9a2eacb577229383b3a8c7fe", func := "loop.example/s01858/laws.FnExactWithSerial", spec := "fnExactWithSerial", unfollowed := true, recurses := true, apart := false }
def FnExactWithSerialSaid : Prop := fnExactWithSerialRow.holds Try.pinned (OpenSpec.ofChange fnExactWithSerialSpec)

/-- ITS FALSE NEIGHBOUR: 'it returns false'. Refute it at one input. -/
def fnExactWithSerialWrong : ChangeSpec := { name := "fnExactWithSerial", fn := fun _ => fun
  | [d1, d2] => { results := [.lit (.bool false)], args := [d1, d2] }
  | _ => none }
def FnExactWithSerialWrongFalsely : Prop := fnExactWithSerialRow.holds Try.pinned (OpenSpec.ofChange fnExactWithSerialWrong)

/-- 'laws.FnNameText': WHATEVER THE INPUT: true; the input reads as it did. -/
def fnNameTextSpec : ChangeSpec := { name := "fnNameText", fn := fun _ => fun
  | [d1, d2] => { results := [.lit (.bool true)], args := [d1, d2] }
  | _ => none }
def fnNameTextRow : OpenClaim := { program := "ytakonfkefoeenaf", sum := "baf4d525f17c81209994b72987e7aabb3ff4ab4d9a2eacb577229383b3a8c7fe", func := "loop.example/s01858/laws.FnNameText", spec := "fnNameText", inPlace := ["internal/bytealg.IndexByteString"], apart := false }
def FnNameTextSaid : Prop := fnNameTextRow.holds Try.pinned (OpenSpec.ofChange fnNameTextSpec)

/-- ITS FALSE NEIGHBOUR: 'it returns false'. Refute it at one input. -/
def fnNameTextWrong : ChangeSpec := { name := "fnNameText", fn := fun _ => fun
  | [d1, d2] => { results := [.lit (.bool false)], args := [d1, d2] }
  | _ => none }
def FnNameTextWrongFalsely : Prop := fnNameTextRow.holds Try.pinned (OpenSpec.ofChange fnNameTextWrong)

/-- 'laws.FnExactDataNames': WHATEVER THE INPUT: true; the input reads as it did. -/
def fnExactDataNamesSpec : ChangeSpec := { name := "fnExactDataNames", fn := fun _ => fun
  | [d1, d2] => { results := [.lit (.bool true)], args := [d1, d2] }
  | _ => none }
def fnExactDataNamesRow : OpenClaim := { program := "ytakonfkefoeenaf", sum := "baf4d525f17c81209994b72987e7aabb3ff4ab4d9a2eacb577229383b3a8c7fe", func := "loop.example/s01858/laws.FnExactDataNames", spec := "fnExactDataNames", unfollowed := true, recurses := true, apart := false }
def FnExactDataNamesSaid : Prop := fnExactDataNamesRow.holds Try.pinned (OpenSpec.ofChange fnExactDataNamesSpec)

/-- ITS FALSE NEIGHBOUR: 'it returns false'. Refute it at one input. -/
def fnExactDataNamesWrong : ChangeSpec := { name := "fnExactDataNames", fn := fun _ => fun
  | [d1, d2] => { results := [.lit (.bool false)], args := [d1, d2] }
  | _ => none }
def FnExactDataNamesWrongFalsely : Prop := fnExactDataNamesRow.holds Try.pinned (OpenSpec.ofChange fnExactDataNamesWrong)

/-- 'laws.FnNameOrder': WHATEVER THE INPUT: true; the input reads as it did. -/
def fnNameOrderSpec : ChangeSpec := { name := "fnNameOrder", fn := fun _ => fun
  | [d1, d2] => { results := [.lit (.bool true)], args := [d1, d2] }
  | _ => none }
def fnNameOrderRow : OpenClaim := { program := "ytakonfkefoeenaf", sum := "baf4d525f17c81209994b72987e7aabb3ff4ab4d9a2eacb577229383b3a8c7fe", func := "loop.example/s01858/laws.FnNameOrder", spec := "fnNameOrder", apart := false }
def FnNameOrderSaid : Prop := fnNameOrderRow.holds Try.pinned (OpenSpec.ofChange fnNameOrderSpec)

/-- ITS FALSE NEIGHBOUR: 'it returns false'. Refute it at one input. -/
def fnNameOrderWrong : ChangeSpec := { name := "fnNameOrder", fn := fun _ => fun
  | [d1, d2] => { results := [.lit (.bool false)], args := [d1, d2] }
  | _ => none }
def FnNameOrderWrongFalsely : Prop := fnNameOrderRow.holds Try.pinned (OpenSpec.ofChange fnNameOrderWrong)

/- THE SECOND FORM. 'bulk': how many values and letters a reading holds, each counted each time it is reached (what is shared counts as often as it is met; a slice's spare places count too). A statement '..UptoSaid' is the law's where the arguments, and the package variables that the reading takes, are together of bulk at most 1048576: NARROWER than '..Said'. Prove '..Said' where nothing that the law and all that it calls make is longer than what came in: it says more and counts as full. Else prove '..UptoSaid'. A law counts once. -/
mutual
def uptoBulk {H : Type} : DataW H → Nat
  | .lit (.string bytes) => bytes.length + 1
  | .lit _ => 1
  | .nil => 1
  | .ptr d => uptoBulk d + 1
  | .slice elems spare => uptoBulkAll elems + uptoBulkAll spare + 1
  | .agg parts => uptoBulkAll parts + 1
  | .iface _ d => uptoBulk d + 1
  | .map entries => uptoBulkEntries entries + 1
  | .held _ => 1
def uptoBulkAll {H : Type} : List (DataW H) → Nat
  | [] => 0
  | d :: r => uptoBulk d + uptoBulkAll r
def uptoBulkEntries {H : Type} : List (Lit × DataW H) → Nat
  | [] => 0
  | x :: r => uptoBulkEntry x + uptoBulkEntries r
def uptoBulkEntry {H : Type} : Lit × DataW H → Nat
  | (.string bytes, d) => bytes.length + uptoBulk d + 1
  | (_, d) => uptoBulk d + 1
 end
def uptoSmall : (H : Type) → List (DataW H) → Bool := fun _ ds => decide (uptoBulkAll ds ≤ 1048576)
def OpenSpec.upto (s : _root_.Go.ChangeSpec) : _root_.Go.OpenSpec := { _root_.Go.OpenSpec.ofChange s with cond := some uptoSmall }

/-- 'laws.FnExactSerial', WHERE WHAT IT READS IS OF BULK AT MOST 1048576: true; the input reads as it did. -/
def fnExactSerialUptoRow : OpenClaim := { program := "ytakonfkefoeenaf", sum := "baf4d525f17c81209994b72987e7aabb3ff4ab4d9a2eacb577229383b3a8c7fe", func := "loop.example/s01858/laws.FnExactSerial", spec := "fnExactSerial", unfollowed := true, recurses := true, apart := false, narrowed := true }
def FnExactSerialUptoSaid : Prop := fnExactSerialUptoRow.holds Try.pinned (OpenSpec.upto fnExactSerialSpec)

/-- 'laws.FnExactWithSerial', WHERE WHAT IT READS IS OF BULK AT MOST 1048576: true; the input reads as it did. -/
def fnExactWithSerialUptoRow : OpenClaim := { program := "ytakonfkefoeenaf", sum := "baf4d525f17c81209994b72987e7aabb3ff4ab4d9a2eacb577229383b3a8c7fe", func := "loop.example/s01858/laws.FnExactWithSerial", spec := "fnExactWithSerial", unfollowed := true, recurses := true, apart := false, narrowed := true }
def FnExactWithSerialUptoSaid : Prop := fnExactWithSerialUptoRow.holds Try.pinned (OpenSpec.upto fnExactWithSerialSpec)

/-- 'laws.FnNameText', WHERE WHAT IT READS IS OF BULK AT MOST 1048576: true; the input reads as it did. -/
def fnNameTextUptoRow : OpenClaim := { program := "ytakonfkefoeenaf", sum := "baf4d525f17c81209994b72987e7aabb3ff4ab4d9a2eacb577229383b3a8c7fe", func := "loop.example/s01858/laws.FnNameText", spec := "fnNameText", inPlace := ["internal/bytealg.IndexByteString"], apart := false, narrowed := true }
def FnNameTextUptoSaid : Prop := fnNameTextUptoRow.holds Try.pinned (OpenSpec.upto fnNameTextSpec)

/-- 'laws.FnExactDataNames', WHERE WHAT IT READS IS OF BULK AT MOST 1048576: true; the input reads as it did. -/
def fnExactDataNamesUptoRow : OpenClaim := { program := "ytakonfkefoeenaf", sum := "baf4d525f17c81209994b72987e7aabb3ff4ab4d9a2eacb577229383b3a8c7fe", func := "loop.example/s01858/laws.FnExactDataNames", spec := "fnExactDataNames", unfollowed := true, recurses := true, apart := false, narrowed := true }
def FnExactDataNamesUptoSaid : Prop := fnExactDataNamesUptoRow.holds Try.pinned (OpenSpec.upto fnExactDataNamesSpec)

/-- 'laws.FnNameOrder', WHERE WHAT IT READS IS OF BULK AT MOST 1048576: true; the input reads as it did. -/
def fnNameOrderUptoRow : OpenClaim := { program := "ytakonfkefoeenaf", sum := "baf4d525f17c81209994b72987e7aabb3ff4ab4d9a2eacb577229383b3a8c7fe", func := "loop.example/s01858/laws.FnNameOrder", spec := "fnNameOrder", apart := false, narrowed := true }
def FnNameOrderUptoSaid : Prop := fnNameOrderUptoRow.holds Try.pinned (OpenSpec.upto fnNameOrderSpec)

end Rows
end Go.Proofs.Ytakonfkefoeenaf
