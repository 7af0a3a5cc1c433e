/-
  DERIVED. GIVEN WITH THE SEED: THE CARDS: each row of YtakonfkefoeenadDoorRows.lean that lists a variable, with what it lists TIED to the program's text (the seventh form; the later family's looks); each row that meets fmt, with fmt's text TOLD by the authors' own Lean function (tested against real Go, not proved from fmt's source: count such statements apart). THE CARD IS WHAT COUNTS. Prove the row's statement (the work); the ties are given (YtakonfkefoeenadDoorTie.lean); close each card by the builder's one call (the guide's Derived/Test/ToyasCard.lean, 'card_holds'). Laid BY PROGRAM, IN A SANDBOX (cutbox-door.mjs). By AI agents, Wed Nov 11 2026. No macro, syntax, notation, axiom, sorry.
-/
import Derived.Test.YtakonfkefoeenadDoorRows
import GoSem.ClaimSeven
namespace Go.Proofs.YtakonfkefoeenadDoor
namespace Rows

/-- THE TIED CARD OF 'laws.FnExactReadV4'. -/
def fnExactReadV4Card : Claim7 := { stood := { row := fnExactReadV4Row, standIns := [], harness := (true, "d4d77baa12e8ff776c8b122d32647ce1cd23ddf88d9b2d9cc1dbe34eab550341"), looks := false }, kinds := [], alts := [], laidByText := true, laidKinds := [.data, .pinned], laidTests := true, laidLooks := .later }
def FnExactReadV4CardSaid : Prop := Claim7.holds Tryd.pinned (.plain (OpenSpec.ofChange fnExactReadV4Spec)) fnExactReadV4Card

/-- THE TIED CARD OF 'laws.FnExactReadType'. -/
def fnExactReadTypeCard : Claim7 := { stood := { row := fnExactReadTypeRow, standIns := [], harness := (true, "d4d77baa12e8ff776c8b122d32647ce1cd23ddf88d9b2d9cc1dbe34eab550341"), looks := false }, kinds := [], alts := [], laidByText := true, laidKinds := [.data], laidTests := true, laidLooks := .later }
def FnExactReadTypeCardSaid : Prop := Claim7.holds Tryd.pinned (.plain (OpenSpec.ofChange fnExactReadTypeSpec)) fnExactReadTypeCard

/-- THE SECOND FORM's CARD OF 'laws.FnExactReadV4'. -/
def fnExactReadV4UptoCard : Claim7 := { stood := { row := fnExactReadV4UptoRow, standIns := [], harness := (true, "d4d77baa12e8ff776c8b122d32647ce1cd23ddf88d9b2d9cc1dbe34eab550341"), looks := false }, kinds := [], alts := [], laidByText := true, laidKinds := [.data, .pinned], laidTests := true, laidLooks := .later }
def FnExactReadV4UptoCardSaid : Prop := Claim7.holds Tryd.pinned (.plain (OpenSpec.upto fnExactReadV4Spec)) fnExactReadV4UptoCard

/-- THE SECOND FORM's CARD OF 'laws.FnExactReadType'. -/
def fnExactReadTypeUptoCard : Claim7 := { stood := { row := fnExactReadTypeUptoRow, standIns := [], harness := (true, "d4d77baa12e8ff776c8b122d32647ce1cd23ddf88d9b2d9cc1dbe34eab550341"), looks := false }, kinds := [], alts := [], laidByText := true, laidKinds := [.data], laidTests := true, laidLooks := .later }
def FnExactReadTypeUptoCardSaid : Prop := Claim7.holds Tryd.pinned (.plain (OpenSpec.upto fnExactReadTypeSpec)) fnExactReadTypeUptoCard
end Rows
end Go.Proofs.YtakonfkefoeenadDoor
