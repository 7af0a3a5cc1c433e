/-
  DERIVED. GIVEN WITH THE SEED: THE CARDS: each row of YtechmpdfbpehiaaGreatDoorRows.lean that lists a variable, with what it lists TIED to the program's text (the seventh form; the later family's looks); each row that meets fmt, with fmt's text TOLD by the authors' own Lean function (tested against real Go, not proved from fmt's source: count such statements apart). THE CARD IS WHAT COUNTS. Prove the row's statement (the work); the ties are given (YtechmpdfbpehiaaGreatDoorTie.lean); close each card by the builder's one call (the guide's Derived/Test/ToyasCard.lean, 'card_holds'). Laid BY PROGRAM, IN A SANDBOX (cutbox-door.mjs). By AI agents, Wed Nov 11 2026. No macro, syntax, notation, axiom, sorry.
-/
import Derived.Test.YtechmpdfbpehiaaGreatDoorRows
import GoSem.ClaimSeven
namespace Go.Proofs.YtechmpdfbpehiaaGreatDoor
namespace Rows

/-- THE TIED CARD OF 'laws.FnExactShowMaster'. -/
def fnExactShowMasterCard : Claim7 := { stood := { row := fnExactShowMasterRow, standIns := [], harness := (true, "26c11d6506d884cbdbfc31ed8f738d3e346d1ad7bb76d56f97aab19221b01b93"), looks := true }, kinds := [], alts := [], laidByText := true, laidKinds := [.data, .data, .data, .data, .data, .pinned], laidTests := true, laidLooks := .later }
def FnExactShowMasterCardSaid : Prop := Claim7.holds Tryz.pinned (.plain (OpenSpec.ofChange fnExactShowMasterSpec)) fnExactShowMasterCard

/-- THE SECOND FORM's CARD OF 'laws.FnExactShowMaster'. -/
def fnExactShowMasterUptoCard : Claim7 := { stood := { row := fnExactShowMasterUptoRow, standIns := [], harness := (true, "26c11d6506d884cbdbfc31ed8f738d3e346d1ad7bb76d56f97aab19221b01b93"), looks := true }, kinds := [], alts := [], laidByText := true, laidKinds := [.data, .data, .data, .data, .data, .pinned], laidTests := true, laidLooks := .later }
def FnExactShowMasterUptoCardSaid : Prop := Claim7.holds Tryz.pinned (.plain (OpenSpec.upto fnExactShowMasterSpec)) fnExactShowMasterUptoCard
end Rows
end Go.Proofs.YtechmpdfbpehiaaGreatDoor
