/-
  DERIVED. GIVEN WITH THE SEED: THE CARDS: each row of YteknelimjfgmaaaGreatDoorRows.lean that lists a variable, with what it lists TIED to the program's text (the seventh form; the later family's looks); each row that meets fmt, with fmt's text TOLD by the authors' own Lean function (tested against real Go, not proved from fmt's source: count such statements apart). THE CARD IS WHAT COUNTS. Prove the row's statement (the work); the ties are given (YteknelimjfgmaaaGreatDoorTie.lean); close each card by the builder's one call (the guide's Derived/Test/ToyasCard.lean, 'card_holds'). Laid BY PROGRAM, IN A SANDBOX (cutbox-door.mjs). By AI agents, Wed Nov 11 2026. No macro, syntax, notation, axiom, sorry.
-/
import Derived.Test.YteknelimjfgmaaaGreatDoorRows
import GoSem.ClaimSeven
namespace Go.Proofs.YteknelimjfgmaaaGreatDoor
namespace Rows

/-- THE TIED CARD OF 'wardenlaw.Answers'. -/
def answersCard : Claim7 := { stood := { row := answersRow, standIns := [], harness := (true, "3db2978251439a1705d8a686755526b5b0729620f72b4304e637427be1474f6b"), looks := false }, kinds := [], alts := [], laidByText := true, laidKinds := [.data, .data, .data], laidTests := true, laidLooks := .later }
def AnswersCardSaid : Prop := Claim7.holds Tryz.pinned (.plain (OpenSpec.ofChange answersSpec)) answersCard

/-- THE TIED CARD OF 'wardenlaw.Batches'. -/
def batchesCard : Claim7 := { stood := { row := batchesRow, standIns := [], harness := (true, "3db2978251439a1705d8a686755526b5b0729620f72b4304e637427be1474f6b"), looks := false }, kinds := [], alts := [], laidByText := true, laidKinds := [.data, .data, .data], laidTests := true, laidLooks := .later }
def BatchesCardSaid : Prop := Claim7.holds Tryz.pinned (.plain (OpenSpec.ofChange batchesSpec)) batchesCard

/-- THE TIED CARD OF 'wardenlaw.All'. -/
def allCard : Claim7 := { stood := { row := allRow, standIns := [], harness := (true, "3db2978251439a1705d8a686755526b5b0729620f72b4304e637427be1474f6b"), looks := false }, kinds := [], alts := [], laidByText := true, laidKinds := [.data, .data, .data], laidTests := true, laidLooks := .later }
def AllCardSaid : Prop := Claim7.holds Tryz.pinned (.plain (OpenSpec.ofChange allSpec)) allCard

/-- THE SECOND FORM's CARD OF 'wardenlaw.Answers'. -/
def answersUptoCard : Claim7 := { stood := { row := answersUptoRow, standIns := [], harness := (true, "3db2978251439a1705d8a686755526b5b0729620f72b4304e637427be1474f6b"), looks := false }, kinds := [], alts := [], laidByText := true, laidKinds := [.data, .data, .data], laidTests := true, laidLooks := .later }
def AnswersUptoCardSaid : Prop := Claim7.holds Tryz.pinned (.plain (OpenSpec.upto answersSpec)) answersUptoCard

/-- THE SECOND FORM's CARD OF 'wardenlaw.Batches'. -/
def batchesUptoCard : Claim7 := { stood := { row := batchesUptoRow, standIns := [], harness := (true, "3db2978251439a1705d8a686755526b5b0729620f72b4304e637427be1474f6b"), looks := false }, kinds := [], alts := [], laidByText := true, laidKinds := [.data, .data, .data], laidTests := true, laidLooks := .later }
def BatchesUptoCardSaid : Prop := Claim7.holds Tryz.pinned (.plain (OpenSpec.upto batchesSpec)) batchesUptoCard

/-- THE SECOND FORM's CARD OF 'wardenlaw.All'. -/
def allUptoCard : Claim7 := { stood := { row := allUptoRow, standIns := [], harness := (true, "3db2978251439a1705d8a686755526b5b0729620f72b4304e637427be1474f6b"), looks := false }, kinds := [], alts := [], laidByText := true, laidKinds := [.data, .data, .data], laidTests := true, laidLooks := .later }
def AllUptoCardSaid : Prop := Claim7.holds Tryz.pinned (.plain (OpenSpec.upto allSpec)) allUptoCard
end Rows
end Go.Proofs.YteknelimjfgmaaaGreatDoor
