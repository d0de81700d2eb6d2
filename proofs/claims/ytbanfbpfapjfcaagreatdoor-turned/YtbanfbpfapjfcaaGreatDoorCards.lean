/-
  DERIVED. GIVEN WITH THE SEED: THE CARDS: each row of YtbanfbpfapjfcaaGreatDoorRows.lean that lists a variable, with what it lists TIED to the program's text (the seventh form; the later family's looks); each row that meets fmt, with fmt's text TOLD by the authors' own Lean function (tested against real Go, not proved from fmt's source: count such statements apart). THE CARD IS WHAT COUNTS. Prove the row's statement (the work); the ties are given (YtbanfbpfapjfcaaGreatDoorTie.lean); close each card by the builder's one call (the guide's Derived/Test/ToyasCard.lean, 'card_holds'). Laid BY PROGRAM, IN A SANDBOX (cutbox-door.mjs). By AI agents, Wed Nov 11 2026. No macro, syntax, notation, axiom, sorry.
-/
import Derived.Test.YtbanfbpfapjfcaaGreatDoorRows
import GoSem.ClaimSeven
namespace Go.Proofs.YtbanfbpfapjfcaaGreatDoor
namespace Rows

/-- THE TIED CARD OF 'wardenlaw.Seals'. -/
def sealsCard : Claim7 := { stood := { row := sealsRow, standIns := [], harness := (true, "7f17cfe2d232fab7b38659df121a877fd75249dfec3f9bb55665d57fe0915146"), looks := false }, kinds := [], alts := [], laidByText := true, laidKinds := [.data, .data, .data], laidTests := true, laidLooks := .later }
def SealsCardSaid : Prop := Claim7.holds Tryz.pinned (.plain (OpenSpec.ofChange sealsSpec)) sealsCard

/-- THE TIED CARD OF 'wardenlaw.Shows'. -/
def showsCard : Claim7 := { stood := { row := showsRow, standIns := [], harness := (true, "7f17cfe2d232fab7b38659df121a877fd75249dfec3f9bb55665d57fe0915146"), looks := false }, kinds := [], alts := [], laidByText := true, laidKinds := [.data, .data, .data], laidTests := true, laidLooks := .later }
def ShowsCardSaid : Prop := Claim7.holds Tryz.pinned (.plain (OpenSpec.ofChange showsSpec)) showsCard

/-- THE TIED CARD OF 'wardenlaw.Books'. -/
def booksCard : Claim7 := { stood := { row := booksRow, standIns := [], harness := (true, "7f17cfe2d232fab7b38659df121a877fd75249dfec3f9bb55665d57fe0915146"), looks := false }, kinds := [], alts := [], laidByText := true, laidKinds := [.data, .data, .data], laidTests := true, laidLooks := .later }
def BooksCardSaid : Prop := Claim7.holds Tryz.pinned (.plain (OpenSpec.ofChange booksSpec)) booksCard

/-- THE TIED CARD OF 'wardenlaw.Answers'. -/
def answersCard : Claim7 := { stood := { row := answersRow, standIns := [], harness := (true, "7f17cfe2d232fab7b38659df121a877fd75249dfec3f9bb55665d57fe0915146"), looks := false }, kinds := [], alts := [], laidByText := true, laidKinds := [.data, .data, .data], laidTests := true, laidLooks := .later }
def AnswersCardSaid : Prop := Claim7.holds Tryz.pinned (.plain (OpenSpec.ofChange answersSpec)) answersCard

/-- THE TIED CARD OF 'wardenlaw.Batches'. -/
def batchesCard : Claim7 := { stood := { row := batchesRow, standIns := [], harness := (true, "7f17cfe2d232fab7b38659df121a877fd75249dfec3f9bb55665d57fe0915146"), looks := false }, kinds := [], alts := [], laidByText := true, laidKinds := [.data, .data, .data], laidTests := true, laidLooks := .later }
def BatchesCardSaid : Prop := Claim7.holds Tryz.pinned (.plain (OpenSpec.ofChange batchesSpec)) batchesCard

/-- THE TIED CARD OF 'wardenlaw.All'. -/
def allCard : Claim7 := { stood := { row := allRow, standIns := [], harness := (true, "7f17cfe2d232fab7b38659df121a877fd75249dfec3f9bb55665d57fe0915146"), looks := false }, kinds := [], alts := [], laidByText := true, laidKinds := [.data, .data, .data], laidTests := true, laidLooks := .later }
def AllCardSaid : Prop := Claim7.holds Tryz.pinned (.plain (OpenSpec.ofChange allSpec)) allCard

/-- THE TIED CARD OF 'wardenkeep.Honest'. -/
def honestCard : Claim7 := { stood := { row := honestRow, standIns := [], harness := (true, "7f17cfe2d232fab7b38659df121a877fd75249dfec3f9bb55665d57fe0915146"), looks := false }, kinds := [], alts := [], laidByText := true, laidKinds := [.data, .data, .data], laidTests := true, laidLooks := .later }
def HonestCardSaid : Prop := Claim7.holds Tryz.pinned (.plain (OpenSpec.ofChange honestSpec)) honestCard

/-- THE TIED CARD OF 'wardenkeep.Once'. -/
def onceCard : Claim7 := { stood := { row := onceRow, standIns := [], harness := (true, "7f17cfe2d232fab7b38659df121a877fd75249dfec3f9bb55665d57fe0915146"), looks := false }, kinds := [], alts := [], laidByText := true, laidKinds := [.data, .data, .data], laidTests := true, laidLooks := .later }
def OnceCardSaid : Prop := Claim7.holds Tryz.pinned (.plain (OpenSpec.ofChange onceSpec)) onceCard

/-- THE TIED CARD OF 'wardenkeep.Rekeyed'. -/
def rekeyedCard : Claim7 := { stood := { row := rekeyedRow, standIns := [], harness := (true, "7f17cfe2d232fab7b38659df121a877fd75249dfec3f9bb55665d57fe0915146"), looks := false }, kinds := [], alts := [], laidByText := true, laidKinds := [.data, .data, .data], laidTests := true, laidLooks := .later }
def RekeyedCardSaid : Prop := Claim7.holds Tryz.pinned (.plain (OpenSpec.ofChange rekeyedSpec)) rekeyedCard

/-- THE TIED CARD OF 'wardenkeep.Turned'. -/
def turnedCard : Claim7 := { stood := { row := turnedRow, standIns := [], harness := (true, "7f17cfe2d232fab7b38659df121a877fd75249dfec3f9bb55665d57fe0915146"), looks := false }, kinds := [], alts := [], laidByText := true, laidKinds := [.data, .data, .data], laidTests := true, laidLooks := .later }
def TurnedCardSaid : Prop := Claim7.holds Tryz.pinned (.plain (OpenSpec.ofChange turnedSpec)) turnedCard

/-- THE SECOND FORM's CARD OF 'wardenlaw.Seals'. -/
def sealsUptoCard : Claim7 := { stood := { row := sealsUptoRow, standIns := [], harness := (true, "7f17cfe2d232fab7b38659df121a877fd75249dfec3f9bb55665d57fe0915146"), looks := false }, kinds := [], alts := [], laidByText := true, laidKinds := [.data, .data, .data], laidTests := true, laidLooks := .later }
def SealsUptoCardSaid : Prop := Claim7.holds Tryz.pinned (.plain (OpenSpec.upto sealsSpec)) sealsUptoCard

/-- THE SECOND FORM's CARD OF 'wardenlaw.Shows'. -/
def showsUptoCard : Claim7 := { stood := { row := showsUptoRow, standIns := [], harness := (true, "7f17cfe2d232fab7b38659df121a877fd75249dfec3f9bb55665d57fe0915146"), looks := false }, kinds := [], alts := [], laidByText := true, laidKinds := [.data, .data, .data], laidTests := true, laidLooks := .later }
def ShowsUptoCardSaid : Prop := Claim7.holds Tryz.pinned (.plain (OpenSpec.upto showsSpec)) showsUptoCard

/-- THE SECOND FORM's CARD OF 'wardenlaw.Books'. -/
def booksUptoCard : Claim7 := { stood := { row := booksUptoRow, standIns := [], harness := (true, "7f17cfe2d232fab7b38659df121a877fd75249dfec3f9bb55665d57fe0915146"), looks := false }, kinds := [], alts := [], laidByText := true, laidKinds := [.data, .data, .data], laidTests := true, laidLooks := .later }
def BooksUptoCardSaid : Prop := Claim7.holds Tryz.pinned (.plain (OpenSpec.upto booksSpec)) booksUptoCard

/-- THE SECOND FORM's CARD OF 'wardenlaw.Answers'. -/
def answersUptoCard : Claim7 := { stood := { row := answersUptoRow, standIns := [], harness := (true, "7f17cfe2d232fab7b38659df121a877fd75249dfec3f9bb55665d57fe0915146"), looks := false }, kinds := [], alts := [], laidByText := true, laidKinds := [.data, .data, .data], laidTests := true, laidLooks := .later }
def AnswersUptoCardSaid : Prop := Claim7.holds Tryz.pinned (.plain (OpenSpec.upto answersSpec)) answersUptoCard

/-- THE SECOND FORM's CARD OF 'wardenlaw.Batches'. -/
def batchesUptoCard : Claim7 := { stood := { row := batchesUptoRow, standIns := [], harness := (true, "7f17cfe2d232fab7b38659df121a877fd75249dfec3f9bb55665d57fe0915146"), looks := false }, kinds := [], alts := [], laidByText := true, laidKinds := [.data, .data, .data], laidTests := true, laidLooks := .later }
def BatchesUptoCardSaid : Prop := Claim7.holds Tryz.pinned (.plain (OpenSpec.upto batchesSpec)) batchesUptoCard

/-- THE SECOND FORM's CARD OF 'wardenlaw.All'. -/
def allUptoCard : Claim7 := { stood := { row := allUptoRow, standIns := [], harness := (true, "7f17cfe2d232fab7b38659df121a877fd75249dfec3f9bb55665d57fe0915146"), looks := false }, kinds := [], alts := [], laidByText := true, laidKinds := [.data, .data, .data], laidTests := true, laidLooks := .later }
def AllUptoCardSaid : Prop := Claim7.holds Tryz.pinned (.plain (OpenSpec.upto allSpec)) allUptoCard

/-- THE SECOND FORM's CARD OF 'wardenkeep.Honest'. -/
def honestUptoCard : Claim7 := { stood := { row := honestUptoRow, standIns := [], harness := (true, "7f17cfe2d232fab7b38659df121a877fd75249dfec3f9bb55665d57fe0915146"), looks := false }, kinds := [], alts := [], laidByText := true, laidKinds := [.data, .data, .data], laidTests := true, laidLooks := .later }
def HonestUptoCardSaid : Prop := Claim7.holds Tryz.pinned (.plain (OpenSpec.upto honestSpec)) honestUptoCard

/-- THE SECOND FORM's CARD OF 'wardenkeep.Once'. -/
def onceUptoCard : Claim7 := { stood := { row := onceUptoRow, standIns := [], harness := (true, "7f17cfe2d232fab7b38659df121a877fd75249dfec3f9bb55665d57fe0915146"), looks := false }, kinds := [], alts := [], laidByText := true, laidKinds := [.data, .data, .data], laidTests := true, laidLooks := .later }
def OnceUptoCardSaid : Prop := Claim7.holds Tryz.pinned (.plain (OpenSpec.upto onceSpec)) onceUptoCard

/-- THE SECOND FORM's CARD OF 'wardenkeep.Rekeyed'. -/
def rekeyedUptoCard : Claim7 := { stood := { row := rekeyedUptoRow, standIns := [], harness := (true, "7f17cfe2d232fab7b38659df121a877fd75249dfec3f9bb55665d57fe0915146"), looks := false }, kinds := [], alts := [], laidByText := true, laidKinds := [.data, .data, .data], laidTests := true, laidLooks := .later }
def RekeyedUptoCardSaid : Prop := Claim7.holds Tryz.pinned (.plain (OpenSpec.upto rekeyedSpec)) rekeyedUptoCard

/-- THE SECOND FORM's CARD OF 'wardenkeep.Turned'. -/
def turnedUptoCard : Claim7 := { stood := { row := turnedUptoRow, standIns := [], harness := (true, "7f17cfe2d232fab7b38659df121a877fd75249dfec3f9bb55665d57fe0915146"), looks := false }, kinds := [], alts := [], laidByText := true, laidKinds := [.data, .data, .data], laidTests := true, laidLooks := .later }
def TurnedUptoCardSaid : Prop := Claim7.holds Tryz.pinned (.plain (OpenSpec.upto turnedSpec)) turnedUptoCard
end Rows
end Go.Proofs.YtbanfbpfapjfcaaGreatDoor
