/-
  DERIVED. GIVEN WITH THE SEED: THE CARDS: each row of YtcihkbojmbfmmaaGreatDoorRows.lean that lists a variable, with what it lists TIED to the program's text (the seventh form; the later family's looks); each row that meets fmt, with fmt's text TOLD by the authors' own Lean function (tested against real Go, not proved from fmt's source: count such statements apart). THE CARD IS WHAT COUNTS. Prove the row's statement (the work); the ties are given (YtcihkbojmbfmmaaGreatDoorTie.lean); close each card by the builder's one call (the guide's Derived/Test/ToyasCard.lean, 'card_holds'). Laid BY PROGRAM, IN A SANDBOX (cutbox-door.mjs). By AI agents, Wed Nov 11 2026. No macro, syntax, notation, axiom, sorry.
-/
import Derived.Test.YtcihkbojmbfmmaaGreatDoorRows
import GoSem.ClaimSeven
namespace Go.Proofs.YtcihkbojmbfmmaaGreatDoor
namespace Rows

/-- THE TIED CARD OF 'laws.FnExactStartJournal'. -/
def fnExactStartJournalCard : Claim7 := { stood := { row := fnExactStartJournalRow, standIns := [], harness := (true, "7101f971716cf803e3b0719f0e84d287cb71efc76edd78c61fd65a66341626cb"), looks := true }, kinds := [], alts := [], laidByText := true, laidKinds := [.data, .data], laidTests := true, laidLooks := .later }
def FnExactStartJournalCardSaid : Prop := Claim7.holds Tryz.pinned (.plain (OpenSpec.ofChange fnExactStartJournalSpec)) fnExactStartJournalCard

/-- THE SECOND FORM's CARD OF 'laws.FnExactStartJournal'. -/
def fnExactStartJournalUptoCard : Claim7 := { stood := { row := fnExactStartJournalUptoRow, standIns := [], harness := (true, "7101f971716cf803e3b0719f0e84d287cb71efc76edd78c61fd65a66341626cb"), looks := true }, kinds := [], alts := [], laidByText := true, laidKinds := [.data, .data], laidTests := true, laidLooks := .later }
def FnExactStartJournalUptoCardSaid : Prop := Claim7.holds Tryz.pinned (.plain (OpenSpec.upto fnExactStartJournalSpec)) fnExactStartJournalUptoCard
end Rows
end Go.Proofs.YtcihkbojmbfmmaaGreatDoor
