/-
  No cell of these rows narrows 'for every input' (looked for: loops, veiled, ifaces, maps, wideKeys, modest, calm, conditions, laid).
  DERIVED. THE GIVEN ROWS OF THIS SEAT. 4 by the template 'for every input the law returns true; each argument reads behind the call as it read before'; 0 by the template 'total and deterministic' (their statements: YtnpegoclghfmpaaGreatTotals.lean).
  GIVEN WITH THE SEED: the statements are not yours to turn. If you find one false, say at which input.
  Laid BY PROGRAM, IN A SANDBOX (cutbox-rows.mjs): the forced cells as the released guide's own fill.sh prints them over the translation 4c715ab1d128de8f… (all of the seat's roots in one cut). By AI agents, Wed Nov 11 2026. No macro, syntax, notation, axiom, sorry.
-/
import Derived.Test.YtnpegoclghfmpaaGreatChecked
import GoSem.Claim
import GoSem.ClaimJoined
import GoSem.ClaimMapViews
import Derived.JoinedTies
import Derived.KernelRfl
namespace Go.Proofs.YtnpegoclghfmpaaGreat
/- THE CELL 'sum', in the pinned program and in every row, IS THE sha256 OF THE DUMP (.gsa) THAT YtnpegoclghfmpaaGreatProg.lean LOADS. Nothing in Lean hashes anything: it is a label: what it is worth is what the hold of that sum in a sandbox is worth. -/
noncomputable def Tryz.pinned : Pinned := { name := "ytnpegoclghfmpaagreat", sum := "4c715ab1d128de8fcb4352278da335dea17596802dfb3f48a126303ae4c7e934", checked := Tryz.checked }
namespace Rows
def none {H : Type} : Left H := { results := [], args := [] }

/-- 'laws.FnExactCheckZone': WHATEVER THE INPUT: true; the input reads as it did. -/
def fnExactCheckZoneSpec : ChangeSpec := { name := "fnExactCheckZone", fn := fun _ => fun
  | [d] => { results := [.lit (.bool true)], args := [d] }
  | _ => none }
def fnExactCheckZoneRow : OpenClaim := { program := "ytnpegoclghfmpaagreat", sum := "4c715ab1d128de8fcb4352278da335dea17596802dfb3f48a126303ae4c7e934", func := "loop.example/s01858/laws.FnExactCheckZone", spec := "fnExactCheckZone", inPlace := ["slices.overlaps[loop.example/s01858/impl.row[loop.example/s01858/impl.labelList, *loop.example/s01858/impl.treeOwner]]", "internal/bytealg.abigen_runtime_cmpstring", "slices.overlaps[loop.example/s01858/impl.row[int64, *loop.example/s01858/impl.treeSet]]", "slices.overlaps[loop.example/s01858/impl.row[string, string]]"], unfollowed := true, recurses := true, apart := false }
def FnExactCheckZoneSaid : Prop := fnExactCheckZoneRow.holds Tryz.pinned (OpenSpec.ofChange fnExactCheckZoneSpec)

/-- ITS FALSE NEIGHBOUR: 'it returns false'. Refute it at one input. -/
def fnExactCheckZoneWrong : ChangeSpec := { name := "fnExactCheckZone", fn := fun _ => fun
  | [d] => { results := [.lit (.bool false)], args := [d] }
  | _ => none }
def FnExactCheckZoneWrongFalsely : Prop := fnExactCheckZoneRow.holds Tryz.pinned (OpenSpec.ofChange fnExactCheckZoneWrong)

/-- 'laws.FnExactFindSet': WHATEVER THE INPUT: true; the input reads as it did. -/
def fnExactFindSetSpec : ChangeSpec := { name := "fnExactFindSet", fn := fun _ => fun
  | [d1, d2, d3] => { results := [.lit (.bool true)], args := [d1, d2, d3] }
  | _ => none }
def fnExactFindSetRow : OpenClaim := { program := "ytnpegoclghfmpaagreat", sum := "4c715ab1d128de8fcb4352278da335dea17596802dfb3f48a126303ae4c7e934", func := "loop.example/s01858/laws.FnExactFindSet", spec := "fnExactFindSet", inPlace := ["slices.overlaps[loop.example/s01858/impl.row[loop.example/s01858/impl.labelList, *loop.example/s01858/impl.treeOwner]]", "internal/bytealg.abigen_runtime_cmpstring", "slices.overlaps[loop.example/s01858/impl.row[int64, *loop.example/s01858/impl.treeSet]]", "slices.overlaps[loop.example/s01858/impl.row[string, string]]"], unfollowed := true, recurses := true, apart := false }
def FnExactFindSetSaid : Prop := fnExactFindSetRow.holds Tryz.pinned (OpenSpec.ofChange fnExactFindSetSpec)

/-- ITS FALSE NEIGHBOUR: 'it returns false'. Refute it at one input. -/
def fnExactFindSetWrong : ChangeSpec := { name := "fnExactFindSet", fn := fun _ => fun
  | [d1, d2, d3] => { results := [.lit (.bool false)], args := [d1, d2, d3] }
  | _ => none }
def FnExactFindSetWrongFalsely : Prop := fnExactFindSetRow.holds Tryz.pinned (OpenSpec.ofChange fnExactFindSetWrong)

/-- 'laws.FnExactZoneNames': WHATEVER THE INPUT: true; the input reads as it did. -/
def fnExactZoneNamesSpec : ChangeSpec := { name := "fnExactZoneNames", fn := fun _ => fun
  | [d] => { results := [.lit (.bool true)], args := [d] }
  | _ => none }
def fnExactZoneNamesRow : OpenClaim := { program := "ytnpegoclghfmpaagreat", sum := "4c715ab1d128de8fcb4352278da335dea17596802dfb3f48a126303ae4c7e934", func := "loop.example/s01858/laws.FnExactZoneNames", spec := "fnExactZoneNames", inPlace := ["slices.overlaps[loop.example/s01858/impl.row[loop.example/s01858/impl.labelList, *loop.example/s01858/impl.treeOwner]]", "internal/bytealg.abigen_runtime_cmpstring", "slices.overlaps[loop.example/s01858/impl.row[int64, *loop.example/s01858/impl.treeSet]]", "slices.overlaps[loop.example/s01858/impl.row[string, string]]"], unfollowed := true, recurses := true, apart := false }
def FnExactZoneNamesSaid : Prop := fnExactZoneNamesRow.holds Tryz.pinned (OpenSpec.ofChange fnExactZoneNamesSpec)

/-- ITS FALSE NEIGHBOUR: 'it returns false'. Refute it at one input. -/
def fnExactZoneNamesWrong : ChangeSpec := { name := "fnExactZoneNames", fn := fun _ => fun
  | [d] => { results := [.lit (.bool false)], args := [d] }
  | _ => none }
def FnExactZoneNamesWrongFalsely : Prop := fnExactZoneNamesRow.holds Tryz.pinned (OpenSpec.ofChange fnExactZoneNamesWrong)

/-- 'laws.FnExactFindNode': WHATEVER THE INPUT: true; the input reads as it did. -/
def fnExactFindNodeSpec : ChangeSpec := { name := "fnExactFindNode", fn := fun _ => fun
  | [d1, d2] => { results := [.lit (.bool true)], args := [d1, d2] }
  | _ => none }
def fnExactFindNodeRow : OpenClaim := { program := "ytnpegoclghfmpaagreat", sum := "4c715ab1d128de8fcb4352278da335dea17596802dfb3f48a126303ae4c7e934", func := "loop.example/s01858/laws.FnExactFindNode", spec := "fnExactFindNode", inPlace := ["slices.overlaps[loop.example/s01858/impl.row[loop.example/s01858/impl.labelList, *loop.example/s01858/impl.treeOwner]]", "internal/bytealg.abigen_runtime_cmpstring", "slices.overlaps[loop.example/s01858/impl.row[int64, *loop.example/s01858/impl.treeSet]]", "slices.overlaps[loop.example/s01858/impl.row[string, string]]"], unfollowed := true, recurses := true, apart := false }
def FnExactFindNodeSaid : Prop := fnExactFindNodeRow.holds Tryz.pinned (OpenSpec.ofChange fnExactFindNodeSpec)

/-- ITS FALSE NEIGHBOUR: 'it returns false'. Refute it at one input. -/
def fnExactFindNodeWrong : ChangeSpec := { name := "fnExactFindNode", fn := fun _ => fun
  | [d1, d2] => { results := [.lit (.bool false)], args := [d1, d2] }
  | _ => none }
def FnExactFindNodeWrongFalsely : Prop := fnExactFindNodeRow.holds Tryz.pinned (OpenSpec.ofChange fnExactFindNodeWrong)

/- THE SECOND FORM. 'bulk': how many values and letters a reading holds, each counted each time it is reached (what is shared counts as often as it is met; a slice's spare places count too). A statement '..UptoSaid' is the law's where the arguments, and the package variables that the reading takes, are together of bulk at most 1048576: NARROWER than '..Said'. Prove '..Said' where nothing that the law and all that it calls make is longer than what came in: it says more and counts as full. Else prove '..UptoSaid'. A law counts once. -/
mutual
def uptoBulk {H : Type} : DataW H → Nat
  | .lit (.string bytes) => bytes.length + 1
  | .lit _ => 1
  | .nil => 1
  | .ptr d => uptoBulk d + 1
  | .slice elems spare => uptoBulkAll elems + uptoBulkAll spare + 1
  | .agg parts => uptoBulkAll parts + 1
  | .iface _ d => uptoBulk d + 1
  | .map entries => uptoBulkEntries entries + 1
  | .held _ => 1
def uptoBulkAll {H : Type} : List (DataW H) → Nat
  | [] => 0
  | d :: r => uptoBulk d + uptoBulkAll r
def uptoBulkEntries {H : Type} : List (Lit × DataW H) → Nat
  | [] => 0
  | x :: r => uptoBulkEntry x + uptoBulkEntries r
def uptoBulkEntry {H : Type} : Lit × DataW H → Nat
  | (.string bytes, d) => bytes.length + uptoBulk d + 1
  | (_, d) => uptoBulk d + 1
 end
def uptoSmall : (H : Type) → List (DataW H) → Bool := fun _ ds => decide (uptoBulkAll ds ≤ 1048576)
def OpenSpec.upto (s : _root_.Go.ChangeSpec) : _root_.Go.OpenSpec := { _root_.Go.OpenSpec.ofChange s with cond := some uptoSmall }

/-- 'laws.FnExactCheckZone', WHERE WHAT IT READS IS OF BULK AT MOST 1048576: true; the input reads as it did. -/
def fnExactCheckZoneUptoRow : OpenClaim := { program := "ytnpegoclghfmpaagreat", sum := "4c715ab1d128de8fcb4352278da335dea17596802dfb3f48a126303ae4c7e934", func := "loop.example/s01858/laws.FnExactCheckZone", spec := "fnExactCheckZone", inPlace := ["slices.overlaps[loop.example/s01858/impl.row[loop.example/s01858/impl.labelList, *loop.example/s01858/impl.treeOwner]]", "internal/bytealg.abigen_runtime_cmpstring", "slices.overlaps[loop.example/s01858/impl.row[int64, *loop.example/s01858/impl.treeSet]]", "slices.overlaps[loop.example/s01858/impl.row[string, string]]"], unfollowed := true, recurses := true, apart := false, narrowed := true }
def FnExactCheckZoneUptoSaid : Prop := fnExactCheckZoneUptoRow.holds Tryz.pinned (OpenSpec.upto fnExactCheckZoneSpec)

/-- 'laws.FnExactFindSet', WHERE WHAT IT READS IS OF BULK AT MOST 1048576: true; the input reads as it did. -/
def fnExactFindSetUptoRow : OpenClaim := { program := "ytnpegoclghfmpaagreat", sum := "4c715ab1d128de8fcb4352278da335dea17596802dfb3f48a126303ae4c7e934", func := "loop.example/s01858/laws.FnExactFindSet", spec := "fnExactFindSet", inPlace := ["slices.overlaps[loop.example/s01858/impl.row[loop.example/s01858/impl.labelList, *loop.example/s01858/impl.treeOwner]]", "internal/bytealg.abigen_runtime_cmpstring", "slices.overlaps[loop.example/s01858/impl.row[int64, *loop.example/s01858/impl.treeSet]]", "slices.overlaps[loop.example/s01858/impl.row[string, string]]"], unfollowed := true, recurses := true, apart := false, narrowed := true }
def FnExactFindSetUptoSaid : Prop := fnExactFindSetUptoRow.holds Tryz.pinned (OpenSpec.upto fnExactFindSetSpec)

/-- 'laws.FnExactZoneNames', WHERE WHAT IT READS IS OF BULK AT MOST 1048576: true; the input reads as it did. -/
def fnExactZoneNamesUptoRow : OpenClaim := { program := "ytnpegoclghfmpaagreat", sum := "4c715ab1d128de8fcb4352278da335dea17596802dfb3f48a126303ae4c7e934", func := "loop.example/s01858/laws.FnExactZoneNames", spec := "fnExactZoneNames", inPlace := ["slices.overlaps[loop.example/s01858/impl.row[loop.example/s01858/impl.labelList, *loop.example/s01858/impl.treeOwner]]", "internal/bytealg.abigen_runtime_cmpstring", "slices.overlaps[loop.example/s01858/impl.row[int64, *loop.example/s01858/impl.treeSet]]", "slices.overlaps[loop.example/s01858/impl.row[string, string]]"], unfollowed := true, recurses := true, apart := false, narrowed := true }
def FnExactZoneNamesUptoSaid : Prop := fnExactZoneNamesUptoRow.holds Tryz.pinned (OpenSpec.upto fnExactZoneNamesSpec)

/-- 'laws.FnExactFindNode', WHERE WHAT IT READS IS OF BULK AT MOST 1048576: true; the input reads as it did. -/
def fnExactFindNodeUptoRow : OpenClaim := { program := "ytnpegoclghfmpaagreat", sum := "4c715ab1d128de8fcb4352278da335dea17596802dfb3f48a126303ae4c7e934", func := "loop.example/s01858/laws.FnExactFindNode", spec := "fnExactFindNode", inPlace := ["slices.overlaps[loop.example/s01858/impl.row[loop.example/s01858/impl.labelList, *loop.example/s01858/impl.treeOwner]]", "internal/bytealg.abigen_runtime_cmpstring", "slices.overlaps[loop.example/s01858/impl.row[int64, *loop.example/s01858/impl.treeSet]]", "slices.overlaps[loop.example/s01858/impl.row[string, string]]"], unfollowed := true, recurses := true, apart := false, narrowed := true }
def FnExactFindNodeUptoSaid : Prop := fnExactFindNodeUptoRow.holds Tryz.pinned (OpenSpec.upto fnExactFindNodeSpec)

end Rows
end Go.Proofs.YtnpegoclghfmpaaGreat
