/-
  DERIVED. GIVEN WITH THE SEED: THE CARDS: each row of YtpiacnnifdjlkabDoorRows.lean that lists a variable, with what it lists TIED to the program's text (the seventh form; the later family's looks); each row that meets fmt, with fmt's text TOLD by the authors' own Lean function (tested against real Go, not proved from fmt's source: count such statements apart). THE CARD IS WHAT COUNTS. Prove the row's statement (the work); the ties are given (YtpiacnnifdjlkabDoorTie.lean); close each card by the builder's one call (the guide's Derived/Test/ToyasCard.lean, 'card_holds'). Laid BY PROGRAM, IN A SANDBOX (cutbox-door.mjs). By AI agents, Wed Nov 11 2026. No macro, syntax, notation, axiom, sorry.
-/
import Derived.Test.YtpiacnnifdjlkabDoorRows
import GoSem.ClaimSeven
namespace Go.Proofs.YtpiacnnifdjlkabDoor
namespace Rows

/-- THE TIED CARD OF 'lassoworklaw.BothTake'. -/
def bothTakeCard : Claim7 := { stood := { row := bothTakeRow, standIns := [], harness := (true, "75c4d44305ac0e6fc07776a17cd9f0da8f8237c42eb7dc04e0552acf728a6b34"), looks := false }, kinds := [], alts := [], laidByText := true, laidKinds := [.data], laidTests := true, laidLooks := .later }
def BothTakeCardSaid : Prop := Claim7.holds Tryd.pinned (.plain (OpenSpec.ofChange bothTakeSpec)) bothTakeCard

/-- THE TIED CARD OF 'lassoworklaw.BothSome'. -/
def bothSomeCard : Claim7 := { stood := { row := bothSomeRow, standIns := [], harness := (true, "75c4d44305ac0e6fc07776a17cd9f0da8f8237c42eb7dc04e0552acf728a6b34"), looks := false }, kinds := [], alts := [], laidByText := true, laidKinds := [.data], laidTests := true, laidLooks := .later }
def BothSomeCardSaid : Prop := Claim7.holds Tryd.pinned (.plain (OpenSpec.ofChange bothSomeSpec)) bothSomeCard

/-- THE TIED CARD OF 'lassoworklaw.IncludeTells'. -/
def includeTellsCard : Claim7 := { stood := { row := includeTellsRow, standIns := [], harness := (true, "75c4d44305ac0e6fc07776a17cd9f0da8f8237c42eb7dc04e0552acf728a6b34"), looks := false }, kinds := [], alts := [], laidByText := true, laidKinds := [.data], laidTests := true, laidLooks := .later }
def IncludeTellsCardSaid : Prop := Claim7.holds Tryd.pinned (.plain (OpenSpec.ofChange includeTellsSpec)) includeTellsCard

/-- THE TIED CARD OF 'lassoworklaw.IncludeSame'. -/
def includeSameCard : Claim7 := { stood := { row := includeSameRow, standIns := [], harness := (true, "75c4d44305ac0e6fc07776a17cd9f0da8f8237c42eb7dc04e0552acf728a6b34"), looks := false }, kinds := [], alts := [], laidByText := true, laidKinds := [.data], laidTests := true, laidLooks := .later }
def IncludeSameCardSaid : Prop := Claim7.holds Tryd.pinned (.plain (OpenSpec.ofChange includeSameSpec)) includeSameCard

/-- THE SECOND FORM's CARD OF 'lassoworklaw.BothTake'. -/
def bothTakeUptoCard : Claim7 := { stood := { row := bothTakeUptoRow, standIns := [], harness := (true, "75c4d44305ac0e6fc07776a17cd9f0da8f8237c42eb7dc04e0552acf728a6b34"), looks := false }, kinds := [], alts := [], laidByText := true, laidKinds := [.data], laidTests := true, laidLooks := .later }
def BothTakeUptoCardSaid : Prop := Claim7.holds Tryd.pinned (.plain (OpenSpec.upto bothTakeSpec)) bothTakeUptoCard

/-- THE SECOND FORM's CARD OF 'lassoworklaw.BothSome'. -/
def bothSomeUptoCard : Claim7 := { stood := { row := bothSomeUptoRow, standIns := [], harness := (true, "75c4d44305ac0e6fc07776a17cd9f0da8f8237c42eb7dc04e0552acf728a6b34"), looks := false }, kinds := [], alts := [], laidByText := true, laidKinds := [.data], laidTests := true, laidLooks := .later }
def BothSomeUptoCardSaid : Prop := Claim7.holds Tryd.pinned (.plain (OpenSpec.upto bothSomeSpec)) bothSomeUptoCard

/-- THE SECOND FORM's CARD OF 'lassoworklaw.IncludeTells'. -/
def includeTellsUptoCard : Claim7 := { stood := { row := includeTellsUptoRow, standIns := [], harness := (true, "75c4d44305ac0e6fc07776a17cd9f0da8f8237c42eb7dc04e0552acf728a6b34"), looks := false }, kinds := [], alts := [], laidByText := true, laidKinds := [.data], laidTests := true, laidLooks := .later }
def IncludeTellsUptoCardSaid : Prop := Claim7.holds Tryd.pinned (.plain (OpenSpec.upto includeTellsSpec)) includeTellsUptoCard

/-- THE SECOND FORM's CARD OF 'lassoworklaw.IncludeSame'. -/
def includeSameUptoCard : Claim7 := { stood := { row := includeSameUptoRow, standIns := [], harness := (true, "75c4d44305ac0e6fc07776a17cd9f0da8f8237c42eb7dc04e0552acf728a6b34"), looks := false }, kinds := [], alts := [], laidByText := true, laidKinds := [.data], laidTests := true, laidLooks := .later }
def IncludeSameUptoCardSaid : Prop := Claim7.holds Tryd.pinned (.plain (OpenSpec.upto includeSameSpec)) includeSameUptoCard
end Rows
end Go.Proofs.YtpiacnnifdjlkabDoor
