/-
  DERIVED. GIVEN WITH THE SEED: THE CARDS: each row of YtpiacnnifdjlkaaGreatDoorRows.lean that lists a variable, with what it lists TIED to the program's text (the seventh form; the later family's looks); each row that meets fmt, with fmt's text TOLD by the authors' own Lean function (tested against real Go, not proved from fmt's source: count such statements apart). THE CARD IS WHAT COUNTS. Prove the row's statement (the work); the ties are given (YtpiacnnifdjlkaaGreatDoorTie.lean); close each card by the builder's one call (the guide's Derived/Test/ToyasCard.lean, 'card_holds'). Laid BY PROGRAM, IN A SANDBOX (cutbox-door.mjs). By AI agents, Wed Nov 11 2026. No macro, syntax, notation, axiom, sorry.
-/
import Derived.Test.YtpiacnnifdjlkaaGreatDoorRows
import GoSem.ClaimSeven
namespace Go.Proofs.YtpiacnnifdjlkaaGreatDoor
namespace Rows

/-- THE TIED CARD OF 'lassoworklaw.TableauTakes'. -/
def tableauTakesCard : Claim7 := { stood := { row := tableauTakesRow, standIns := [], harness := (true, "8ed6f5576358c8032d2f8368aad47e159c4da165f8b5c5bc0fd3aa0fb955dec0"), looks := false }, kinds := [], alts := [], laidByText := true, laidKinds := [.data], laidTests := true, laidLooks := .later }
def TableauTakesCardSaid : Prop := Claim7.holds Tryz.pinned (.plain (OpenSpec.ofChange tableauTakesSpec)) tableauTakesCard

/-- THE SECOND FORM's CARD OF 'lassoworklaw.TableauTakes'. -/
def tableauTakesUptoCard : Claim7 := { stood := { row := tableauTakesUptoRow, standIns := [], harness := (true, "8ed6f5576358c8032d2f8368aad47e159c4da165f8b5c5bc0fd3aa0fb955dec0"), looks := false }, kinds := [], alts := [], laidByText := true, laidKinds := [.data], laidTests := true, laidLooks := .later }
def TableauTakesUptoCardSaid : Prop := Claim7.holds Tryz.pinned (.plain (OpenSpec.upto tableauTakesSpec)) tableauTakesUptoCard
end Rows
end Go.Proofs.YtpiacnnifdjlkaaGreatDoor
