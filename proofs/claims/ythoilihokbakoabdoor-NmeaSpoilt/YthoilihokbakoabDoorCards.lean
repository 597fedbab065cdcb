/-
  DERIVED. GIVEN WITH THE SEED: THE CARDS: each row of YthoilihokbakoabDoorRows.lean that lists a variable, with what it lists TIED to the program's text (the seventh form; the later family's looks); each row that meets fmt, with fmt's text TOLD by the authors' own Lean function (tested against real Go, not proved from fmt's source: count such statements apart). THE CARD IS WHAT COUNTS. Prove the row's statement (the work); the ties are given (YthoilihokbakoabDoorTie.lean); close each card by the builder's one call (the guide's Derived/Test/ToyasCard.lean, 'card_holds'). Laid BY PROGRAM, IN A SANDBOX (cutbox-door.mjs). By AI agents, Wed Nov 11 2026. No macro, syntax, notation, axiom, sorry.
-/
import Derived.Test.YthoilihokbakoabDoorRows
import GoSem.ClaimSeven
namespace Go.Proofs.YthoilihokbakoabDoor
namespace Rows

/-- THE TIED CARD OF 'foliotlaw07.NmeaSpoilt'. -/
def nmeaSpoiltCard : Claim7 := { stood := { row := nmeaSpoiltRow, standIns := [], harness := (true, "d392d3aa11fad15365ac1fb20ed7b7ea9cb5cf51907da296207925f2f95d2053"), looks := false }, kinds := [], alts := [], laidByText := true, laidKinds := [.data, .pinned], laidTests := true, laidLooks := .later }
def NmeaSpoiltCardSaid : Prop := Claim7.holds Tryd.pinned (.plain (OpenSpec.ofChange nmeaSpoiltSpec)) nmeaSpoiltCard

/-- THE SECOND FORM's CARD OF 'foliotlaw07.NmeaSpoilt'. -/
def nmeaSpoiltUptoCard : Claim7 := { stood := { row := nmeaSpoiltUptoRow, standIns := [], harness := (true, "d392d3aa11fad15365ac1fb20ed7b7ea9cb5cf51907da296207925f2f95d2053"), looks := false }, kinds := [], alts := [], laidByText := true, laidKinds := [.data, .pinned], laidTests := true, laidLooks := .later }
def NmeaSpoiltUptoCardSaid : Prop := Claim7.holds Tryd.pinned (.plain (OpenSpec.upto nmeaSpoiltSpec)) nmeaSpoiltUptoCard
end Rows
end Go.Proofs.YthoilihokbakoabDoor
