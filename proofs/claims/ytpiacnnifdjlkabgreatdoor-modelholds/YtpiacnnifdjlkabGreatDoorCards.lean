/-
  DERIVED. GIVEN WITH THE SEED: THE CARDS: each row of YtpiacnnifdjlkabGreatDoorRows.lean that lists a variable, with what it lists TIED to the program's text (the seventh form; the later family's looks); each row that meets fmt, with fmt's text TOLD by the authors' own Lean function (tested against real Go, not proved from fmt's source: count such statements apart). THE CARD IS WHAT COUNTS. Prove the row's statement (the work); the ties are given (YtpiacnnifdjlkabGreatDoorTie.lean); close each card by the builder's one call (the guide's Derived/Test/ToyasCard.lean, 'card_holds'). Laid BY PROGRAM, IN A SANDBOX (cutbox-door.mjs). By AI agents, Wed Nov 11 2026. No macro, syntax, notation, axiom, sorry.
-/
import Derived.Test.YtpiacnnifdjlkabGreatDoorRows
import GoSem.ClaimSeven
namespace Go.Proofs.YtpiacnnifdjlkabGreatDoor
namespace Rows

/-- THE TIED CARD OF 'lassoworklaw.RestAutos'. -/
def restAutosCard : Claim7 := { stood := { row := restAutosRow, standIns := [], harness := (true, "068be669fb17134dd9a5cac088713d07f7ad4f98ee29607493df997bde2a5052"), looks := true }, kinds := [], alts := [], laidByText := true, laidKinds := [.data, .data, .data, .data, .pinned], laidTests := true, laidLooks := .later }
def RestAutosCardSaid : Prop := Claim7.holds Tryz.pinned (.plain (OpenSpec.ofChange restAutosSpec)) restAutosCard

/-- THE TIED CARD OF 'lassoworklaw.ModelTakes'. -/
def modelTakesCard : Claim7 := { stood := { row := modelTakesRow, standIns := [], harness := (true, "068be669fb17134dd9a5cac088713d07f7ad4f98ee29607493df997bde2a5052"), looks := true }, kinds := [], alts := [], laidByText := true, laidKinds := [.data, .data, .data], laidTests := true, laidLooks := .later }
def ModelTakesCardSaid : Prop := Claim7.holds Tryz.pinned (.plain (OpenSpec.ofChange modelTakesSpec)) modelTakesCard

/-- THE TIED CARD OF 'lassoworklaw.ModelHolds'. -/
def modelHoldsCard : Claim7 := { stood := { row := modelHoldsRow, standIns := [], harness := (true, "068be669fb17134dd9a5cac088713d07f7ad4f98ee29607493df997bde2a5052"), looks := true }, kinds := [], alts := [], laidByText := true, laidKinds := [.data, .data, .data], laidTests := true, laidLooks := .later }
def ModelHoldsCardSaid : Prop := Claim7.holds Tryz.pinned (.plain (OpenSpec.ofChange modelHoldsSpec)) modelHoldsCard

/-- THE TIED CARD OF 'lassoworklaw.ModelAsks'. -/
def modelAsksCard : Claim7 := { stood := { row := modelAsksRow, standIns := [], harness := (true, "068be669fb17134dd9a5cac088713d07f7ad4f98ee29607493df997bde2a5052"), looks := true }, kinds := [], alts := [], laidByText := true, laidKinds := [.data, .data, .data], laidTests := true, laidLooks := .later }
def ModelAsksCardSaid : Prop := Claim7.holds Tryz.pinned (.plain (OpenSpec.ofChange modelAsksSpec)) modelAsksCard

/-- THE SECOND FORM's CARD OF 'lassoworklaw.RestAutos'. -/
def restAutosUptoCard : Claim7 := { stood := { row := restAutosUptoRow, standIns := [], harness := (true, "068be669fb17134dd9a5cac088713d07f7ad4f98ee29607493df997bde2a5052"), looks := true }, kinds := [], alts := [], laidByText := true, laidKinds := [.data, .data, .data, .data, .pinned], laidTests := true, laidLooks := .later }
def RestAutosUptoCardSaid : Prop := Claim7.holds Tryz.pinned (.plain (OpenSpec.upto restAutosSpec)) restAutosUptoCard

/-- THE SECOND FORM's CARD OF 'lassoworklaw.ModelTakes'. -/
def modelTakesUptoCard : Claim7 := { stood := { row := modelTakesUptoRow, standIns := [], harness := (true, "068be669fb17134dd9a5cac088713d07f7ad4f98ee29607493df997bde2a5052"), looks := true }, kinds := [], alts := [], laidByText := true, laidKinds := [.data, .data, .data], laidTests := true, laidLooks := .later }
def ModelTakesUptoCardSaid : Prop := Claim7.holds Tryz.pinned (.plain (OpenSpec.upto modelTakesSpec)) modelTakesUptoCard

/-- THE SECOND FORM's CARD OF 'lassoworklaw.ModelHolds'. -/
def modelHoldsUptoCard : Claim7 := { stood := { row := modelHoldsUptoRow, standIns := [], harness := (true, "068be669fb17134dd9a5cac088713d07f7ad4f98ee29607493df997bde2a5052"), looks := true }, kinds := [], alts := [], laidByText := true, laidKinds := [.data, .data, .data], laidTests := true, laidLooks := .later }
def ModelHoldsUptoCardSaid : Prop := Claim7.holds Tryz.pinned (.plain (OpenSpec.upto modelHoldsSpec)) modelHoldsUptoCard

/-- THE SECOND FORM's CARD OF 'lassoworklaw.ModelAsks'. -/
def modelAsksUptoCard : Claim7 := { stood := { row := modelAsksUptoRow, standIns := [], harness := (true, "068be669fb17134dd9a5cac088713d07f7ad4f98ee29607493df997bde2a5052"), looks := true }, kinds := [], alts := [], laidByText := true, laidKinds := [.data, .data, .data], laidTests := true, laidLooks := .later }
def ModelAsksUptoCardSaid : Prop := Claim7.holds Tryz.pinned (.plain (OpenSpec.upto modelAsksSpec)) modelAsksUptoCard
end Rows
end Go.Proofs.YtpiacnnifdjlkabGreatDoor
