/-
  DERIVED. GIVEN WITH THE SEED: THE CARDS: each row of YtpiacnnifdjlkaaDoorRows.lean that lists a variable, with what it lists TIED to the program's text (the seventh form; the later family's looks); each row that meets fmt, with fmt's text TOLD by the authors' own Lean function (tested against real Go, not proved from fmt's source: count such statements apart). THE CARD IS WHAT COUNTS. Prove the row's statement (the work); the ties are given (YtpiacnnifdjlkaaDoorTie.lean); close each card by the builder's one call (the guide's Derived/Test/ToyasCard.lean, 'card_holds'). Laid BY PROGRAM, IN A SANDBOX (cutbox-door.mjs). By AI agents, Wed Nov 11 2026. No macro, syntax, notation, axiom, sorry.
-/
import Derived.Test.YtpiacnnifdjlkaaDoorRows
import GoSem.ClaimSeven
namespace Go.Proofs.YtpiacnnifdjlkaaDoor
namespace Rows

/-- THE TIED CARD OF 'lassoworklaw.AutoTells'. -/
def autoTellsCard : Claim7 := { stood := { row := autoTellsRow, standIns := [], harness := (true, "3e0856714881a166cdf1a813a9018c64c2eaa41abd62bfbd43acd1b826a9be92"), looks := true }, kinds := [], alts := [], laidByText := true, laidKinds := [.data, .data, .data, .data, .pinned], laidTests := true, laidLooks := .later }
def AutoTellsCardSaid : Prop := Claim7.holds Tryd.pinned (.plain (OpenSpec.ofChange autoTellsSpec)) autoTellsCard

/-- THE TIED CARD OF 'lassoworklaw.AutoParses'. -/
def autoParsesCard : Claim7 := { stood := { row := autoParsesRow, standIns := [], harness := (true, "3e0856714881a166cdf1a813a9018c64c2eaa41abd62bfbd43acd1b826a9be92"), looks := true }, kinds := [], alts := [], laidByText := true, laidKinds := [.data, .data, .data, .data, .pinned], laidTests := true, laidLooks := .later }
def AutoParsesCardSaid : Prop := Claim7.holds Tryd.pinned (.plain (OpenSpec.ofChange autoParsesSpec)) autoParsesCard

/-- THE TIED CARD OF 'lassoworklaw.AutoBack'. -/
def autoBackCard : Claim7 := { stood := { row := autoBackRow, standIns := [], harness := (true, "3e0856714881a166cdf1a813a9018c64c2eaa41abd62bfbd43acd1b826a9be92"), looks := true }, kinds := [], alts := [], laidByText := true, laidKinds := [.data, .data, .data, .data, .pinned], laidTests := true, laidLooks := .later }
def AutoBackCardSaid : Prop := Claim7.holds Tryd.pinned (.plain (OpenSpec.ofChange autoBackSpec)) autoBackCard

/-- THE TIED CARD OF 'lassoworklaw.WordTells'. -/
def wordTellsCard : Claim7 := { stood := { row := wordTellsRow, standIns := [], harness := (true, "3e0856714881a166cdf1a813a9018c64c2eaa41abd62bfbd43acd1b826a9be92"), looks := true }, kinds := [], alts := [], laidByText := true, laidKinds := [.data], laidTests := true, laidLooks := .later }
def WordTellsCardSaid : Prop := Claim7.holds Tryd.pinned (.plain (OpenSpec.ofChange wordTellsSpec)) wordTellsCard

/-- THE TIED CARD OF 'lassoworklaw.WordTakes'. -/
def wordTakesCard : Claim7 := { stood := { row := wordTakesRow, standIns := [], harness := (true, "3e0856714881a166cdf1a813a9018c64c2eaa41abd62bfbd43acd1b826a9be92"), looks := true }, kinds := [], alts := [], laidByText := true, laidKinds := [.data], laidTests := true, laidLooks := .later }
def WordTakesCardSaid : Prop := Claim7.holds Tryd.pinned (.plain (OpenSpec.ofChange wordTakesSpec)) wordTakesCard

/-- THE TIED CARD OF 'lassoworklaw.WordSame'. -/
def wordSameCard : Claim7 := { stood := { row := wordSameRow, standIns := [], harness := (true, "3e0856714881a166cdf1a813a9018c64c2eaa41abd62bfbd43acd1b826a9be92"), looks := true }, kinds := [], alts := [], laidByText := true, laidKinds := [.data, .data, .data, .data, .pinned], laidTests := true, laidLooks := .later }
def WordSameCardSaid : Prop := Claim7.holds Tryd.pinned (.plain (OpenSpec.ofChange wordSameSpec)) wordSameCard

/-- THE TIED CARD OF 'lassoworklaw.FormulaTells'. -/
def formulaTellsCard : Claim7 := { stood := { row := formulaTellsRow, standIns := [], harness := (true, "3e0856714881a166cdf1a813a9018c64c2eaa41abd62bfbd43acd1b826a9be92"), looks := true }, kinds := [], alts := [], laidByText := true, laidKinds := [.data, .data, .data], laidTests := true, laidLooks := .later }
def FormulaTellsCardSaid : Prop := Claim7.holds Tryd.pinned (.plain (OpenSpec.ofChange formulaTellsSpec)) formulaTellsCard

/-- THE TIED CARD OF 'lassoworklaw.FormulaParses'. -/
def formulaParsesCard : Claim7 := { stood := { row := formulaParsesRow, standIns := [], harness := (true, "3e0856714881a166cdf1a813a9018c64c2eaa41abd62bfbd43acd1b826a9be92"), looks := true }, kinds := [], alts := [], laidByText := true, laidKinds := [.data, .data, .data], laidTests := true, laidLooks := .later }
def FormulaParsesCardSaid : Prop := Claim7.holds Tryd.pinned (.plain (OpenSpec.ofChange formulaParsesSpec)) formulaParsesCard

/-- THE TIED CARD OF 'lassoworklaw.FormulaBack'. -/
def formulaBackCard : Claim7 := { stood := { row := formulaBackRow, standIns := [], harness := (true, "3e0856714881a166cdf1a813a9018c64c2eaa41abd62bfbd43acd1b826a9be92"), looks := true }, kinds := [], alts := [], laidByText := true, laidKinds := [.data, .data, .data], laidTests := true, laidLooks := .later }
def FormulaBackCardSaid : Prop := Claim7.holds Tryd.pinned (.plain (OpenSpec.ofChange formulaBackSpec)) formulaBackCard

/-- THE TIED CARD OF 'lassoworklaw.HoldsHangs'. -/
def holdsHangsCard : Claim7 := { stood := { row := holdsHangsRow, standIns := [], harness := (true, "3e0856714881a166cdf1a813a9018c64c2eaa41abd62bfbd43acd1b826a9be92"), looks := true }, kinds := [], alts := [], laidByText := true, laidKinds := [.data, .data, .data], laidTests := true, laidLooks := .later }
def HoldsHangsCardSaid : Prop := Claim7.holds Tryd.pinned (.plain (OpenSpec.ofChange holdsHangsSpec)) holdsHangsCard

/-- THE SECOND FORM's CARD OF 'lassoworklaw.AutoTells'. -/
def autoTellsUptoCard : Claim7 := { stood := { row := autoTellsUptoRow, standIns := [], harness := (true, "3e0856714881a166cdf1a813a9018c64c2eaa41abd62bfbd43acd1b826a9be92"), looks := true }, kinds := [], alts := [], laidByText := true, laidKinds := [.data, .data, .data, .data, .pinned], laidTests := true, laidLooks := .later }
def AutoTellsUptoCardSaid : Prop := Claim7.holds Tryd.pinned (.plain (OpenSpec.upto autoTellsSpec)) autoTellsUptoCard

/-- THE SECOND FORM's CARD OF 'lassoworklaw.AutoParses'. -/
def autoParsesUptoCard : Claim7 := { stood := { row := autoParsesUptoRow, standIns := [], harness := (true, "3e0856714881a166cdf1a813a9018c64c2eaa41abd62bfbd43acd1b826a9be92"), looks := true }, kinds := [], alts := [], laidByText := true, laidKinds := [.data, .data, .data, .data, .pinned], laidTests := true, laidLooks := .later }
def AutoParsesUptoCardSaid : Prop := Claim7.holds Tryd.pinned (.plain (OpenSpec.upto autoParsesSpec)) autoParsesUptoCard

/-- THE SECOND FORM's CARD OF 'lassoworklaw.AutoBack'. -/
def autoBackUptoCard : Claim7 := { stood := { row := autoBackUptoRow, standIns := [], harness := (true, "3e0856714881a166cdf1a813a9018c64c2eaa41abd62bfbd43acd1b826a9be92"), looks := true }, kinds := [], alts := [], laidByText := true, laidKinds := [.data, .data, .data, .data, .pinned], laidTests := true, laidLooks := .later }
def AutoBackUptoCardSaid : Prop := Claim7.holds Tryd.pinned (.plain (OpenSpec.upto autoBackSpec)) autoBackUptoCard

/-- THE SECOND FORM's CARD OF 'lassoworklaw.WordTells'. -/
def wordTellsUptoCard : Claim7 := { stood := { row := wordTellsUptoRow, standIns := [], harness := (true, "3e0856714881a166cdf1a813a9018c64c2eaa41abd62bfbd43acd1b826a9be92"), looks := true }, kinds := [], alts := [], laidByText := true, laidKinds := [.data], laidTests := true, laidLooks := .later }
def WordTellsUptoCardSaid : Prop := Claim7.holds Tryd.pinned (.plain (OpenSpec.upto wordTellsSpec)) wordTellsUptoCard

/-- THE SECOND FORM's CARD OF 'lassoworklaw.WordTakes'. -/
def wordTakesUptoCard : Claim7 := { stood := { row := wordTakesUptoRow, standIns := [], harness := (true, "3e0856714881a166cdf1a813a9018c64c2eaa41abd62bfbd43acd1b826a9be92"), looks := true }, kinds := [], alts := [], laidByText := true, laidKinds := [.data], laidTests := true, laidLooks := .later }
def WordTakesUptoCardSaid : Prop := Claim7.holds Tryd.pinned (.plain (OpenSpec.upto wordTakesSpec)) wordTakesUptoCard

/-- THE SECOND FORM's CARD OF 'lassoworklaw.WordSame'. -/
def wordSameUptoCard : Claim7 := { stood := { row := wordSameUptoRow, standIns := [], harness := (true, "3e0856714881a166cdf1a813a9018c64c2eaa41abd62bfbd43acd1b826a9be92"), looks := true }, kinds := [], alts := [], laidByText := true, laidKinds := [.data, .data, .data, .data, .pinned], laidTests := true, laidLooks := .later }
def WordSameUptoCardSaid : Prop := Claim7.holds Tryd.pinned (.plain (OpenSpec.upto wordSameSpec)) wordSameUptoCard

/-- THE SECOND FORM's CARD OF 'lassoworklaw.FormulaTells'. -/
def formulaTellsUptoCard : Claim7 := { stood := { row := formulaTellsUptoRow, standIns := [], harness := (true, "3e0856714881a166cdf1a813a9018c64c2eaa41abd62bfbd43acd1b826a9be92"), looks := true }, kinds := [], alts := [], laidByText := true, laidKinds := [.data, .data, .data], laidTests := true, laidLooks := .later }
def FormulaTellsUptoCardSaid : Prop := Claim7.holds Tryd.pinned (.plain (OpenSpec.upto formulaTellsSpec)) formulaTellsUptoCard

/-- THE SECOND FORM's CARD OF 'lassoworklaw.FormulaParses'. -/
def formulaParsesUptoCard : Claim7 := { stood := { row := formulaParsesUptoRow, standIns := [], harness := (true, "3e0856714881a166cdf1a813a9018c64c2eaa41abd62bfbd43acd1b826a9be92"), looks := true }, kinds := [], alts := [], laidByText := true, laidKinds := [.data, .data, .data], laidTests := true, laidLooks := .later }
def FormulaParsesUptoCardSaid : Prop := Claim7.holds Tryd.pinned (.plain (OpenSpec.upto formulaParsesSpec)) formulaParsesUptoCard

/-- THE SECOND FORM's CARD OF 'lassoworklaw.FormulaBack'. -/
def formulaBackUptoCard : Claim7 := { stood := { row := formulaBackUptoRow, standIns := [], harness := (true, "3e0856714881a166cdf1a813a9018c64c2eaa41abd62bfbd43acd1b826a9be92"), looks := true }, kinds := [], alts := [], laidByText := true, laidKinds := [.data, .data, .data], laidTests := true, laidLooks := .later }
def FormulaBackUptoCardSaid : Prop := Claim7.holds Tryd.pinned (.plain (OpenSpec.upto formulaBackSpec)) formulaBackUptoCard

/-- THE SECOND FORM's CARD OF 'lassoworklaw.HoldsHangs'. -/
def holdsHangsUptoCard : Claim7 := { stood := { row := holdsHangsUptoRow, standIns := [], harness := (true, "3e0856714881a166cdf1a813a9018c64c2eaa41abd62bfbd43acd1b826a9be92"), looks := true }, kinds := [], alts := [], laidByText := true, laidKinds := [.data, .data, .data], laidTests := true, laidLooks := .later }
def HoldsHangsUptoCardSaid : Prop := Claim7.holds Tryd.pinned (.plain (OpenSpec.upto holdsHangsSpec)) holdsHangsUptoCard
end Rows
end Go.Proofs.YtpiacnnifdjlkaaDoor
