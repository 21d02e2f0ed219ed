/-
  DERIVED. GIVEN WITH THE SEED: THE CARDS: each row of YtfmfpnnglogkmaaGreatDoorRows.lean that lists a variable, with what it lists TIED to the program's text (the seventh form; the later family's looks); each row that meets fmt, with fmt's text TOLD by the authors' own Lean function (tested against real Go, not proved from fmt's source: count such statements apart). THE CARD IS WHAT COUNTS. Prove the row's statement (the work); the ties are given (YtfmfpnnglogkmaaGreatDoorTie.lean); close each card by the builder's one call (the guide's Derived/Test/ToyasCard.lean, 'card_holds'). Laid BY PROGRAM, IN A SANDBOX (cutbox-door.mjs). By AI agents, Wed Nov 11 2026. No macro, syntax, notation, axiom, sorry.
-/
import Derived.Test.YtfmfpnnglogkmaaGreatDoorRows
import GoSem.ClaimSeven
namespace Go.Proofs.YtfmfpnnglogkmaaGreatDoor
namespace Rows

/-- THE TIED CARD OF 'codendlaw02.TaperNearest'. -/
def taperNearestCard : Claim7 := { stood := { row := taperNearestRow, standIns := [], harness := (true, "3823d907170410e42e340bbfdfca02892b9123d616746790992431e86ef115c4"), looks := false }, kinds := [], alts := [], laidByText := true, laidKinds := [.data, .data, .data], laidTests := true, laidLooks := .later }
def TaperNearestCardSaid : Prop := Claim7.holds Tryz.pinned (.plain (OpenSpec.ofChange taperNearestSpec)) taperNearestCard

/-- THE TIED CARD OF 'codendlaw02.TaperWalks'. -/
def taperWalksCard : Claim7 := { stood := { row := taperWalksRow, standIns := [], harness := (true, "3823d907170410e42e340bbfdfca02892b9123d616746790992431e86ef115c4"), looks := false }, kinds := [], alts := [], laidByText := true, laidKinds := [.data, .data, .data], laidTests := true, laidLooks := .later }
def TaperWalksCardSaid : Prop := Claim7.holds Tryz.pinned (.plain (OpenSpec.ofChange taperWalksSpec)) taperWalksCard

/-- THE TIED CARD OF 'codendlaw02.TaperFarey'. -/
def taperFareyCard : Claim7 := { stood := { row := taperFareyRow, standIns := [], harness := (true, "3823d907170410e42e340bbfdfca02892b9123d616746790992431e86ef115c4"), looks := false }, kinds := [], alts := [], laidByText := true, laidKinds := [.data, .data, .data], laidTests := true, laidLooks := .later }
def TaperFareyCardSaid : Prop := Claim7.holds Tryz.pinned (.plain (OpenSpec.ofChange taperFareySpec)) taperFareyCard

/-- THE TIED CARD OF 'codendlaw02.TaperReturns'. -/
def taperReturnsCard : Claim7 := { stood := { row := taperReturnsRow, standIns := [], harness := (true, "3823d907170410e42e340bbfdfca02892b9123d616746790992431e86ef115c4"), looks := false }, kinds := [], alts := [], laidByText := true, laidKinds := [.data, .data, .data], laidTests := true, laidLooks := .later }
def TaperReturnsCardSaid : Prop := Claim7.holds Tryz.pinned (.plain (OpenSpec.ofChange taperReturnsSpec)) taperReturnsCard

/-- THE SECOND FORM's CARD OF 'codendlaw02.TaperNearest'. -/
def taperNearestUptoCard : Claim7 := { stood := { row := taperNearestUptoRow, standIns := [], harness := (true, "3823d907170410e42e340bbfdfca02892b9123d616746790992431e86ef115c4"), looks := false }, kinds := [], alts := [], laidByText := true, laidKinds := [.data, .data, .data], laidTests := true, laidLooks := .later }
def TaperNearestUptoCardSaid : Prop := Claim7.holds Tryz.pinned (.plain (OpenSpec.upto taperNearestSpec)) taperNearestUptoCard

/-- THE SECOND FORM's CARD OF 'codendlaw02.TaperWalks'. -/
def taperWalksUptoCard : Claim7 := { stood := { row := taperWalksUptoRow, standIns := [], harness := (true, "3823d907170410e42e340bbfdfca02892b9123d616746790992431e86ef115c4"), looks := false }, kinds := [], alts := [], laidByText := true, laidKinds := [.data, .data, .data], laidTests := true, laidLooks := .later }
def TaperWalksUptoCardSaid : Prop := Claim7.holds Tryz.pinned (.plain (OpenSpec.upto taperWalksSpec)) taperWalksUptoCard

/-- THE SECOND FORM's CARD OF 'codendlaw02.TaperFarey'. -/
def taperFareyUptoCard : Claim7 := { stood := { row := taperFareyUptoRow, standIns := [], harness := (true, "3823d907170410e42e340bbfdfca02892b9123d616746790992431e86ef115c4"), looks := false }, kinds := [], alts := [], laidByText := true, laidKinds := [.data, .data, .data], laidTests := true, laidLooks := .later }
def TaperFareyUptoCardSaid : Prop := Claim7.holds Tryz.pinned (.plain (OpenSpec.upto taperFareySpec)) taperFareyUptoCard

/-- THE SECOND FORM's CARD OF 'codendlaw02.TaperReturns'. -/
def taperReturnsUptoCard : Claim7 := { stood := { row := taperReturnsUptoRow, standIns := [], harness := (true, "3823d907170410e42e340bbfdfca02892b9123d616746790992431e86ef115c4"), looks := false }, kinds := [], alts := [], laidByText := true, laidKinds := [.data, .data, .data], laidTests := true, laidLooks := .later }
def TaperReturnsUptoCardSaid : Prop := Claim7.holds Tryz.pinned (.plain (OpenSpec.upto taperReturnsSpec)) taperReturnsUptoCard
end Rows
end Go.Proofs.YtfmfpnnglogkmaaGreatDoor
