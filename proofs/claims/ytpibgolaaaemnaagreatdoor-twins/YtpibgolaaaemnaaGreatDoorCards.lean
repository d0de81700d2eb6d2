/-
  DERIVED. GIVEN WITH THE SEED: THE CARDS: each row of YtpibgolaaaemnaaGreatDoorRows.lean that lists a variable, with what it lists TIED to the program's text (the seventh form; the later family's looks); each row that meets fmt, with fmt's text TOLD by the authors' own Lean function (tested against real Go, not proved from fmt's source: count such statements apart). THE CARD IS WHAT COUNTS. Prove the row's statement (the work); the ties are given (YtpibgolaaaemnaaGreatDoorTie.lean); close each card by the builder's one call (the guide's Derived/Test/ToyasCard.lean, 'card_holds'). Laid BY PROGRAM, IN A SANDBOX (cutbox-door.mjs). By AI agents, Wed Nov 11 2026. No macro, syntax, notation, axiom, sorry.
-/
import Derived.Test.YtpibgolaaaemnaaGreatDoorRows
import GoSem.ClaimSeven
namespace Go.Proofs.YtpibgolaaaemnaaGreatDoor
namespace Rows

/-- THE TIED CARD OF 'wardenkeep.Twins'. -/
def twinsCard : Claim7 := { stood := { row := twinsRow, standIns := [], harness := (true, "414af67925bc037c0be7b5bff05c6d2cc5197f6389b92cadca095bd17283fb8f"), looks := false }, kinds := [], alts := [], laidByText := true, laidKinds := [.data, .data, .data], laidTests := true, laidLooks := .later }
def TwinsCardSaid : Prop := Claim7.holds Tryz.pinned (.plain (OpenSpec.ofChange twinsSpec)) twinsCard

/-- THE SECOND FORM's CARD OF 'wardenkeep.Twins'. -/
def twinsUptoCard : Claim7 := { stood := { row := twinsUptoRow, standIns := [], harness := (true, "414af67925bc037c0be7b5bff05c6d2cc5197f6389b92cadca095bd17283fb8f"), looks := false }, kinds := [], alts := [], laidByText := true, laidKinds := [.data, .data, .data], laidTests := true, laidLooks := .later }
def TwinsUptoCardSaid : Prop := Claim7.holds Tryz.pinned (.plain (OpenSpec.upto twinsSpec)) twinsUptoCard
end Rows
end Go.Proofs.YtpibgolaaaemnaaGreatDoor
