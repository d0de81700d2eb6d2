/-
  DERIVED. GIVEN WITH THE SEED: THE CARDS: each row of YtbanfbpfapjfcaaDoorRows.lean that lists a variable, with what it lists TIED to the program's text (the seventh form; the later family's looks); each row that meets fmt, with fmt's text TOLD by the authors' own Lean function (tested against real Go, not proved from fmt's source: count such statements apart). THE CARD IS WHAT COUNTS. Prove the row's statement (the work); the ties are given (YtbanfbpfapjfcaaDoorTie.lean); close each card by the builder's one call (the guide's Derived/Test/ToyasCard.lean, 'card_holds'). Laid BY PROGRAM, IN A SANDBOX (cutbox-door.mjs). By AI agents, Wed Nov 11 2026. No macro, syntax, notation, axiom, sorry.
-/
import Derived.Test.YtbanfbpfapjfcaaDoorRows
import GoSem.ClaimSeven
namespace Go.Proofs.YtbanfbpfapjfcaaDoor
namespace Rows

/-- THE TIED CARD OF 'wardenkeep.Told'. -/
def toldCard : Claim7 := { stood := { row := toldRow, standIns := [], harness := (true, "cd32e30474aa8b88f9d53b0e0a581bf8491cc2007cea83d1c10522de6fd33104"), looks := false }, kinds := [], alts := [], laidByText := true, laidKinds := [.data, .data, .data], laidTests := true, laidLooks := .later }
def ToldCardSaid : Prop := Claim7.holds Tryd.pinned (.plain (OpenSpec.ofChange toldSpec)) toldCard

/-- THE SECOND FORM's CARD OF 'wardenkeep.Told'. -/
def toldUptoCard : Claim7 := { stood := { row := toldUptoRow, standIns := [], harness := (true, "cd32e30474aa8b88f9d53b0e0a581bf8491cc2007cea83d1c10522de6fd33104"), looks := false }, kinds := [], alts := [], laidByText := true, laidKinds := [.data, .data, .data], laidTests := true, laidLooks := .later }
def ToldUptoCardSaid : Prop := Claim7.holds Tryd.pinned (.plain (OpenSpec.upto toldSpec)) toldUptoCard
end Rows
end Go.Proofs.YtbanfbpfapjfcaaDoor
