/-
  DERIVED. GIVEN WITH THE SEED: THE CARDS: each row of YtddabafaejahbaaGreatDoorRows.lean that lists a variable, with what it lists TIED to the program's text (the seventh form; the later family's looks); each row that meets fmt, with fmt's text TOLD by the authors' own Lean function (tested against real Go, not proved from fmt's source: count such statements apart). THE CARD IS WHAT COUNTS. Prove the row's statement (the work); the ties are given (YtddabafaejahbaaGreatDoorTie.lean); close each card by the builder's one call (the guide's Derived/Test/ToyasCard.lean, 'card_holds'). Laid BY PROGRAM, IN A SANDBOX (cutbox-door.mjs). By AI agents, Wed Nov 11 2026. No macro, syntax, notation, axiom, sorry.
-/
import Derived.Test.YtddabafaejahbaaGreatDoorRows
import GoSem.ClaimSeven
namespace Go.Proofs.YtddabafaejahbaaGreatDoor
namespace Rows

/-- THE TIED CARD OF 'laws.FnExactReadData'. -/
def fnExactReadDataCard : Claim7 := { stood := { row := fnExactReadDataRow, standIns := [], harness := (true, "207dec3b670cd9a10ade2c97afc5b8f6089a86d9af38cfb6bc1968383f0838a0"), looks := true }, kinds := [], alts := [], laidByText := true, laidKinds := [.data, .data, .data, .data, .data, .pinned], laidTests := true, laidLooks := .later }
def FnExactReadDataCardSaid : Prop := Claim7.holds Tryz.pinned (.plain (OpenSpec.ofChange fnExactReadDataSpec)) fnExactReadDataCard

/-- THE TIED CARD OF 'laws.FnExactReadMaster'. -/
def fnExactReadMasterCard : Claim7 := { stood := { row := fnExactReadMasterRow, standIns := [], harness := (true, "207dec3b670cd9a10ade2c97afc5b8f6089a86d9af38cfb6bc1968383f0838a0"), looks := true }, kinds := [], alts := [], laidByText := true, laidKinds := [.data, .data, .data, .data, .handle, .data, .pinned], laidTests := true, laidLooks := .later }
def FnExactReadMasterCardSaid : Prop := Claim7.holds Tryz.pinned (.plain (OpenSpec.ofChange fnExactReadMasterSpec)) fnExactReadMasterCard

/-- THE SECOND FORM's CARD OF 'laws.FnExactReadData'. -/
def fnExactReadDataUptoCard : Claim7 := { stood := { row := fnExactReadDataUptoRow, standIns := [], harness := (true, "207dec3b670cd9a10ade2c97afc5b8f6089a86d9af38cfb6bc1968383f0838a0"), looks := true }, kinds := [], alts := [], laidByText := true, laidKinds := [.data, .data, .data, .data, .data, .pinned], laidTests := true, laidLooks := .later }
def FnExactReadDataUptoCardSaid : Prop := Claim7.holds Tryz.pinned (.plain (OpenSpec.upto fnExactReadDataSpec)) fnExactReadDataUptoCard

/-- THE SECOND FORM's CARD OF 'laws.FnExactReadMaster'. -/
def fnExactReadMasterUptoCard : Claim7 := { stood := { row := fnExactReadMasterUptoRow, standIns := [], harness := (true, "207dec3b670cd9a10ade2c97afc5b8f6089a86d9af38cfb6bc1968383f0838a0"), looks := true }, kinds := [], alts := [], laidByText := true, laidKinds := [.data, .data, .data, .data, .handle, .data, .pinned], laidTests := true, laidLooks := .later }
def FnExactReadMasterUptoCardSaid : Prop := Claim7.holds Tryz.pinned (.plain (OpenSpec.upto fnExactReadMasterSpec)) fnExactReadMasterUptoCard
end Rows
end Go.Proofs.YtddabafaejahbaaGreatDoor
