/-
  DERIVED. GIVEN WITH THE SEED: THE CARDS: each row of YtephbegencpllaaGreatDoorRows.lean that lists a variable, with what it lists TIED to the program's text (the seventh form; the later family's looks); each row that meets fmt, with fmt's text TOLD by the authors' own Lean function (tested against real Go, not proved from fmt's source: count such statements apart). THE CARD IS WHAT COUNTS. Prove the row's statement (the work); the ties are given (YtephbegencpllaaGreatDoorTie.lean); close each card by the builder's one call (the guide's Derived/Test/ToyasCard.lean, 'card_holds'). Laid BY PROGRAM, IN A SANDBOX (cutbox-door.mjs). By AI agents, Wed Nov 11 2026. No macro, syntax, notation, axiom, sorry.
-/
import Derived.Test.YtephbegencpllaaGreatDoorRows
import GoSem.ClaimSeven
namespace Go.Proofs.YtephbegencpllaaGreatDoor
namespace Rows

/-- THE TIED CARD OF 'laws.FnExactShowData'. -/
def fnExactShowDataCard : Claim7 := { stood := { row := fnExactShowDataRow, standIns := [], harness := (true, "27c41e1de7d5edd05e0420bd76de5a9e5c2292eba9030fb07b7eba4831ef5d17"), looks := true }, kinds := [], alts := [], laidByText := true, laidKinds := [.data, .data, .data, .data, .data, .pinned], laidTests := true, laidLooks := .later }
def FnExactShowDataCardSaid : Prop := Claim7.holds Tryz.pinned (.plain (OpenSpec.ofChange fnExactShowDataSpec)) fnExactShowDataCard

/-- THE SECOND FORM's CARD OF 'laws.FnExactShowData'. -/
def fnExactShowDataUptoCard : Claim7 := { stood := { row := fnExactShowDataUptoRow, standIns := [], harness := (true, "27c41e1de7d5edd05e0420bd76de5a9e5c2292eba9030fb07b7eba4831ef5d17"), looks := true }, kinds := [], alts := [], laidByText := true, laidKinds := [.data, .data, .data, .data, .data, .pinned], laidTests := true, laidLooks := .later }
def FnExactShowDataUptoCardSaid : Prop := Claim7.holds Tryz.pinned (.plain (OpenSpec.upto fnExactShowDataSpec)) fnExactShowDataUptoCard
end Rows
end Go.Proofs.YtephbegencpllaaGreatDoor
