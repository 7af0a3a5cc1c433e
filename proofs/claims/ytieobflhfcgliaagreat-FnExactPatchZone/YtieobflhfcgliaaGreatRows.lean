/-
  No cell of these rows narrows 'for every input' (looked for: loops, veiled, ifaces, maps, wideKeys, modest, calm, conditions, laid).
  DERIVED. THE GIVEN ROWS OF THIS SEAT. 2 by the template 'for every input the law returns true; each argument reads behind the call as it read before'; 0 by the template 'total and deterministic' (their statements: YtieobflhfcgliaaGreatTotals.lean).
  GIVEN WITH THE SEED: the statements are not yours to turn. If you find one false, say at which input.
  Laid BY PROGRAM, IN A SANDBOX (cutbox-rows.mjs): the forced cells as the released guide's own fill.sh prints them over the translation a26ddc2f8209a15e… (all of the seat's roots in one cut). By AI agents, Wed Nov 11 2026. No macro, syntax, notation, axiom, sorry.
-/
import Derived.Test.YtieobflhfcgliaaGreatChecked
import GoSem.Claim
import GoSem.ClaimJoined
import GoSem.ClaimMapViews
import Derived.JoinedTies
import Derived.KernelRfl
namespace Go.Proofs.YtieobflhfcgliaaGreat
/- THE CELL 'sum', in the pinned program and in every row, IS THE sha256 OF THE DUMP (.gsa) THAT YtieobflhfcgliaaGreatProg.lean LOADS. Nothing in Lean hashes anything: it is a label: what it is worth is what the hold of that sum in a sandbox is worth. -/
noncomputable def Tryz.pinned : Pinned := { name := "ytieobflhfcgliaagreat", sum := "a26ddc2f8209a15e9d1af28b418b713687864e0ed30b71f8adef7257c9a2a1c8", checked := Tryz.checked }
namespace Rows
def none {H : Type} : Left H := { results := [], args := [] }

/-- 'laws.FnExactDiffZones': WHATEVER THE INPUT: true; the input reads as it did. -/
def fnExactDiffZonesSpec : ChangeSpec := { name := "fnExactDiffZones", fn := fun _ => fun
  | [d1, d2] => { results := [.lit (.bool true)], args := [d1, d2] }
  | _ => none }
def fnExactDiffZonesRow : OpenClaim := { program := "ytieobflhfcgliaagreat", sum := "a26ddc2f8209a15e9d1af28b418b713687864e0ed30b71f8adef7257c9a2a1c8", func := "loop.example/s01858/laws.FnExactDiffZones", spec := "fnExactDiffZones", inPlace := ["slices.overlaps[loop.example/s01858/impl.row[loop.example/s01858/impl.labelList, *loop.example/s01858/impl.treeOwner]]", "internal/bytealg.abigen_runtime_cmpstring", "slices.overlaps[loop.example/s01858/impl.row[int64, *loop.example/s01858/impl.treeSet]]", "slices.overlaps[loop.example/s01858/impl.row[string, string]]"], unfollowed := true, recurses := true, plainKeys := false, apart := false }
def FnExactDiffZonesSaid : Prop := fnExactDiffZonesRow.holds Tryz.pinned (OpenSpec.ofChange fnExactDiffZonesSpec)

/-- ITS FALSE NEIGHBOUR: 'it returns false'. Refute it at one input. -/
def fnExactDiffZonesWrong : ChangeSpec := { name := "fnExactDiffZones", fn := fun _ => fun
  | [d1, d2] => { results := [.lit (.bool false)], args := [d1, d2] }
  | _ => none }
def FnExactDiffZonesWrongFalsely : Prop := fnExactDiffZonesRow.holds Tryz.pinned (OpenSpec.ofChange fnExactDiffZonesWrong)

/-- 'laws.FnExactPatchZone': WHATEVER THE INPUT: true; the input reads as it did. -/
def fnExactPatchZoneSpec : ChangeSpec := { name := "fnExactPatchZone", fn := fun _ => fun
  | [d1, d2] => { results := [.lit (.bool true)], args := [d1, d2] }
  | _ => none }
def fnExactPatchZoneRow : OpenClaim := { program := "ytieobflhfcgliaagreat", sum := "a26ddc2f8209a15e9d1af28b418b713687864e0ed30b71f8adef7257c9a2a1c8", func := "loop.example/s01858/laws.FnExactPatchZone", spec := "fnExactPatchZone", inPlace := ["slices.overlaps[loop.example/s01858/impl.row[loop.example/s01858/impl.labelList, *loop.example/s01858/impl.treeOwner]]", "internal/bytealg.abigen_runtime_cmpstring", "slices.overlaps[loop.example/s01858/impl.row[int64, *loop.example/s01858/impl.treeSet]]", "slices.overlaps[loop.example/s01858/impl.row[string, string]]"], unfollowed := true, recurses := true, plainKeys := false, apart := false }
def FnExactPatchZoneSaid : Prop := fnExactPatchZoneRow.holds Tryz.pinned (OpenSpec.ofChange fnExactPatchZoneSpec)

/-- ITS FALSE NEIGHBOUR: 'it returns false'. Refute it at one input. -/
def fnExactPatchZoneWrong : ChangeSpec := { name := "fnExactPatchZone", fn := fun _ => fun
  | [d1, d2] => { results := [.lit (.bool false)], args := [d1, d2] }
  | _ => none }
def FnExactPatchZoneWrongFalsely : Prop := fnExactPatchZoneRow.holds Tryz.pinned (OpenSpec.ofChange fnExactPatchZoneWrong)

/- THE SECOND FORM. 'bulk': how many values and letters a reading holds, each counted each time it is reached (what is shared counts as often as it is met; a slice's spare places count too). A statement '..UptoSaid' is the law's where the arguments, and the package variables that the reading takes, are together of bulk at most 1048576: NARROWER than '..Said'. Prove '..Said' where nothing that the law and all that it calls make is longer than what came in: it says more and counts as full. Else prove '..UptoSaid'. A law counts once. -/
mutual
def uptoBulk {H : Type} : DataW H → Nat
  | .lit (.string bytes) => bytes.length + 1
  | .lit _ => 1
  | .nil => 1
  | .ptr d => uptoBulk d + 1
  | .slice elems spare => uptoBulkAll elems + uptoBulkAll spare + 1
  | .agg parts => uptoBulkAll parts + 1
  | .iface _ d => uptoBulk d + 1
  | .map entries => uptoBulkEntries entries + 1
  | .held _ => 1
def uptoBulkAll {H : Type} : List (DataW H) → Nat
  | [] => 0
  | d :: r => uptoBulk d + uptoBulkAll r
def uptoBulkEntries {H : Type} : List (Lit × DataW H) → Nat
  | [] => 0
  | x :: r => uptoBulkEntry x + uptoBulkEntries r
def uptoBulkEntry {H : Type} : Lit × DataW H → Nat
  | (.string bytes, d) => bytes.length + uptoBulk d + 1
  | (_, d) => uptoBulk d + 1
 end
def uptoSmall : (H : Type) → List (DataW H) → Bool := fun _ ds => decide (uptoBulkAll ds ≤ 1048576)
def OpenSpec.upto (s : _root_.Go.ChangeSpec) : _root_.Go.OpenSpec := { _root_.Go.OpenSpec.ofChange s with cond := some uptoSmall }

/-- 'laws.FnExactDiffZones', WHERE WHAT IT READS IS OF BULK AT MOST 1048576: true; the input reads as it did. -/
def fnExactDiffZonesUptoRow : OpenClaim := { program := "ytieobflhfcgliaagreat", sum := "a26ddc2f8209a15e9d1af28b418b713687864e0ed30b71f8adef7257c9a2a1c8", func := "loop.example/s01858/laws.FnExactDiffZones", spec := "fnExactDiffZones", inPlace := ["slices.overlaps[loop.example/s01858/impl.row[loop.example/s01858/impl.labelList, *loop.example/s01858/impl.treeOwner]]", "internal/bytealg.abigen_runtime_cmpstring", "slices.overlaps[loop.example/s01858/impl.row[int64, *loop.example/s01858/impl.treeSet]]", "slices.overlaps[loop.example/s01858/impl.row[string, string]]"], unfollowed := true, recurses := true, plainKeys := false, apart := false, narrowed := true }
def FnExactDiffZonesUptoSaid : Prop := fnExactDiffZonesUptoRow.holds Tryz.pinned (OpenSpec.upto fnExactDiffZonesSpec)

/-- 'laws.FnExactPatchZone', WHERE WHAT IT READS IS OF BULK AT MOST 1048576: true; the input reads as it did. -/
def fnExactPatchZoneUptoRow : OpenClaim := { program := "ytieobflhfcgliaagreat", sum := "a26ddc2f8209a15e9d1af28b418b713687864e0ed30b71f8adef7257c9a2a1c8", func := "loop.example/s01858/laws.FnExactPatchZone", spec := "fnExactPatchZone", inPlace := ["slices.overlaps[loop.example/s01858/impl.row[loop.example/s01858/impl.labelList, *loop.example/s01858/impl.treeOwner]]", "internal/bytealg.abigen_runtime_cmpstring", "slices.overlaps[loop.example/s01858/impl.row[int64, *loop.example/s01858/impl.treeSet]]", "slices.overlaps[loop.example/s01858/impl.row[string, string]]"], unfollowed := true, recurses := true, plainKeys := false, apart := false, narrowed := true }
def FnExactPatchZoneUptoSaid : Prop := fnExactPatchZoneUptoRow.holds Tryz.pinned (OpenSpec.upto fnExactPatchZoneSpec)

end Rows
end Go.Proofs.YtieobflhfcgliaaGreat
