/-
  DERIVED. GIVEN WITH THE SEED: THE CARDS: each row of YtakonfkefoeenaaDoorRows.lean that lists a variable, with what it lists TIED to the program's text (the seventh form; the later family's looks); each row that meets fmt, with fmt's text TOLD by the authors' own Lean function (tested against real Go, not proved from fmt's source: count such statements apart). THE CARD IS WHAT COUNTS. Prove the row's statement (the work); the ties are given (YtakonfkefoeenaaDoorTie.lean); close each card by the builder's one call (the guide's Derived/Test/ToyasCard.lean, 'card_holds'). Laid BY PROGRAM, IN A SANDBOX (cutbox-door.mjs). By AI agents, Wed Nov 11 2026. No macro, syntax, notation, axiom, sorry.
-/
import Derived.Test.YtakonfkefoeenaaDoorRows
import GoSem.ClaimSeven
namespace Go.Proofs.YtakonfkefoeenaaDoor
namespace Rows

/-- THE TIED CARD OF 'laws.FnExactShowV4'. -/
def fnExactShowV4Card : Claim7 := { stood := { row := fnExactShowV4Row, standIns := [], harness := (true, "d1e79191ae2cfffb52a634480fdb09ae5a25ae715fcfe58c7c5bccee15022cf5"), looks := false }, kinds := [], alts := [], laidByText := true, laidKinds := [.data, .data, .data], laidTests := true, laidLooks := .later }
def FnExactShowV4CardSaid : Prop := Claim7.holds Tryd.pinned (.plain (OpenSpec.ofChange fnExactShowV4Spec)) fnExactShowV4Card

/-- THE SECOND FORM's CARD OF 'laws.FnExactShowV4'. -/
def fnExactShowV4UptoCard : Claim7 := { stood := { row := fnExactShowV4UptoRow, standIns := [], harness := (true, "d1e79191ae2cfffb52a634480fdb09ae5a25ae715fcfe58c7c5bccee15022cf5"), looks := false }, kinds := [], alts := [], laidByText := true, laidKinds := [.data, .data, .data], laidTests := true, laidLooks := .later }
def FnExactShowV4UptoCardSaid : Prop := Claim7.holds Tryd.pinned (.plain (OpenSpec.upto fnExactShowV4Spec)) fnExactShowV4UptoCard
end Rows
end Go.Proofs.YtakonfkefoeenaaDoor
