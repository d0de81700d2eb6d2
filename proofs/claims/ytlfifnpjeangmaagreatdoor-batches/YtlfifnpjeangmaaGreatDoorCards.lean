/-
  DERIVED. GIVEN WITH THE SEED: THE CARDS: each row of YtlfifnpjeangmaaGreatDoorRows.lean that lists a variable, with what it lists TIED to the program's text (the seventh form; the later family's looks); each row that meets fmt, with fmt's text TOLD by the authors' own Lean function (tested against real Go, not proved from fmt's source: count such statements apart). THE CARD IS WHAT COUNTS. Prove the row's statement (the work); the ties are given (YtlfifnpjeangmaaGreatDoorTie.lean); close each card by the builder's one call (the guide's Derived/Test/ToyasCard.lean, 'card_holds'). Laid BY PROGRAM, IN A SANDBOX (cutbox-door.mjs). By AI agents, Wed Nov 11 2026. No macro, syntax, notation, axiom, sorry.
-/
import Derived.Test.YtlfifnpjeangmaaGreatDoorRows
import GoSem.ClaimSeven
namespace Go.Proofs.YtlfifnpjeangmaaGreatDoor
namespace Rows

/-- THE TIED CARD OF 'wardenlaw.Batches'. -/
def batchesCard : Claim7 := { stood := { row := batchesRow, standIns := [], harness := (true, "3372bbbe61d1f5f7b7978c51461e0d817b5897134eddf70f8fe3bab04486e417"), looks := false }, kinds := [], alts := [], laidByText := true, laidKinds := [.data, .data, .data], laidTests := true, laidLooks := .later }
def BatchesCardSaid : Prop := Claim7.holds Tryz.pinned (.plain (OpenSpec.ofChange batchesSpec)) batchesCard

/-- THE SECOND FORM's CARD OF 'wardenlaw.Batches'. -/
def batchesUptoCard : Claim7 := { stood := { row := batchesUptoRow, standIns := [], harness := (true, "3372bbbe61d1f5f7b7978c51461e0d817b5897134eddf70f8fe3bab04486e417"), looks := false }, kinds := [], alts := [], laidByText := true, laidKinds := [.data, .data, .data], laidTests := true, laidLooks := .later }
def BatchesUptoCardSaid : Prop := Claim7.holds Tryz.pinned (.plain (OpenSpec.upto batchesSpec)) batchesUptoCard
end Rows
end Go.Proofs.YtlfifnpjeangmaaGreatDoor
