/-
  DERIVED. GIVEN WITH THE SEED: THE CARDS: each row of YtlhnhkfkbmfikaaGreatDoorRows.lean that lists a variable, with what it lists TIED to the program's text (the seventh form; the later family's looks); each row that meets fmt, with fmt's text TOLD by the authors' own Lean function (tested against real Go, not proved from fmt's source: count such statements apart). THE CARD IS WHAT COUNTS. Prove the row's statement (the work); the ties are given (YtlhnhkfkbmfikaaGreatDoorTie.lean); close each card by the builder's one call (the guide's Derived/Test/ToyasCard.lean, 'card_holds'). Laid BY PROGRAM, IN A SANDBOX (cutbox-door.mjs). By AI agents, Wed Nov 11 2026. No macro, syntax, notation, axiom, sorry.
-/
import Derived.Test.YtlhnhkfkbmfikaaGreatDoorRows
import GoSem.ClaimSeven
namespace Go.Proofs.YtlhnhkfkbmfikaaGreatDoor
namespace Rows

/-- THE TIED CARD OF 'codendlaw01.NettingNames'. -/
def nettingNamesCard : Claim7 := { stood := { row := nettingNamesRow, standIns := [], harness := (true, "d25e74aebab60d4348c9056071da7e6b3d7ec668e3ea85049f269b2d1d6994dd"), looks := true }, kinds := [], alts := [], laidByText := true, laidKinds := [.data, .data, .data, .data, .sentinel, .sentinel, .pinned], laidTests := true, laidLooks := .later }
def NettingNamesCardSaid : Prop := Claim7.holds Tryz.pinned (.plain (OpenSpec.ofChange nettingNamesSpec)) nettingNamesCard

/-- THE TIED CARD OF 'codendlaw01.NettingSheets'. -/
def nettingSheetsCard : Claim7 := { stood := { row := nettingSheetsRow, standIns := [], harness := (true, "d25e74aebab60d4348c9056071da7e6b3d7ec668e3ea85049f269b2d1d6994dd"), looks := true }, kinds := [], alts := [], laidByText := true, laidKinds := [.data, .data, .data, .data, .sentinel, .sentinel, .pinned], laidTests := true, laidLooks := .later }
def NettingSheetsCardSaid : Prop := Claim7.holds Tryz.pinned (.plain (OpenSpec.ofChange nettingSheetsSpec)) nettingSheetsCard

/-- THE SECOND FORM's CARD OF 'codendlaw01.NettingNames'. -/
def nettingNamesUptoCard : Claim7 := { stood := { row := nettingNamesUptoRow, standIns := [], harness := (true, "d25e74aebab60d4348c9056071da7e6b3d7ec668e3ea85049f269b2d1d6994dd"), looks := true }, kinds := [], alts := [], laidByText := true, laidKinds := [.data, .data, .data, .data, .sentinel, .sentinel, .pinned], laidTests := true, laidLooks := .later }
def NettingNamesUptoCardSaid : Prop := Claim7.holds Tryz.pinned (.plain (OpenSpec.upto nettingNamesSpec)) nettingNamesUptoCard

/-- THE SECOND FORM's CARD OF 'codendlaw01.NettingSheets'. -/
def nettingSheetsUptoCard : Claim7 := { stood := { row := nettingSheetsUptoRow, standIns := [], harness := (true, "d25e74aebab60d4348c9056071da7e6b3d7ec668e3ea85049f269b2d1d6994dd"), looks := true }, kinds := [], alts := [], laidByText := true, laidKinds := [.data, .data, .data, .data, .sentinel, .sentinel, .pinned], laidTests := true, laidLooks := .later }
def NettingSheetsUptoCardSaid : Prop := Claim7.holds Tryz.pinned (.plain (OpenSpec.upto nettingSheetsSpec)) nettingSheetsUptoCard
end Rows
end Go.Proofs.YtlhnhkfkbmfikaaGreatDoor
