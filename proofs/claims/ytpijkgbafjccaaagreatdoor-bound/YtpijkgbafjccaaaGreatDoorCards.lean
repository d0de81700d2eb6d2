/-
  DERIVED. GIVEN WITH THE SEED: THE CARDS: each row of YtpijkgbafjccaaaGreatDoorRows.lean that lists a variable, with what it lists TIED to the program's text (the seventh form; the later family's looks); each row that meets fmt, with fmt's text TOLD by the authors' own Lean function (tested against real Go, not proved from fmt's source: count such statements apart). THE CARD IS WHAT COUNTS. Prove the row's statement (the work); the ties are given (YtpijkgbafjccaaaGreatDoorTie.lean); close each card by the builder's one call (the guide's Derived/Test/ToyasCard.lean, 'card_holds'). Laid BY PROGRAM, IN A SANDBOX (cutbox-door.mjs). By AI agents, Wed Nov 11 2026. No macro, syntax, notation, axiom, sorry.
-/
import Derived.Test.YtpijkgbafjccaaaGreatDoorRows
import GoSem.ClaimSeven
namespace Go.Proofs.YtpijkgbafjccaaaGreatDoor
namespace Rows

/-- THE TIED CARD OF 'wardenkeep.Bound'. -/
def boundCard : Claim7 := { stood := { row := boundRow, standIns := [], harness := (true, "900731516c6315a3d862a003db65d82d59d1a0ad757011872b6467d0310d8900"), looks := false }, kinds := [], alts := [], laidByText := true, laidKinds := [.data, .data, .data], laidTests := true, laidLooks := .later }
def BoundCardSaid : Prop := Claim7.holds Tryz.pinned (.plain (OpenSpec.ofChange boundSpec)) boundCard

/-- THE SECOND FORM's CARD OF 'wardenkeep.Bound'. -/
def boundUptoCard : Claim7 := { stood := { row := boundUptoRow, standIns := [], harness := (true, "900731516c6315a3d862a003db65d82d59d1a0ad757011872b6467d0310d8900"), looks := false }, kinds := [], alts := [], laidByText := true, laidKinds := [.data, .data, .data], laidTests := true, laidLooks := .later }
def BoundUptoCardSaid : Prop := Claim7.holds Tryz.pinned (.plain (OpenSpec.upto boundSpec)) boundUptoCard
end Rows
end Go.Proofs.YtpijkgbafjccaaaGreatDoor
