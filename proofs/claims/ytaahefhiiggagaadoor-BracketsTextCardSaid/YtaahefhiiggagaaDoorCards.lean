/-
  DERIVED. GIVEN WITH THE SEED: THE CARDS: each row of YtaahefhiiggagaaDoorRows.lean that lists a variable, with what it lists TIED to the program's text (the seventh form; the later family's looks); each row that meets fmt, with fmt's text TOLD by the authors' own Lean function (tested against real Go, not proved from fmt's source: count such statements apart). THE CARD IS WHAT COUNTS. Prove the row's statement (the work); the ties are given (YtaahefhiiggagaaDoorTie.lean); close each card by the builder's one call (the guide's Derived/Test/ToyasCard.lean, 'card_holds'). Laid BY PROGRAM, IN A SANDBOX (cutbox-door.mjs). By AI agents, Wed Nov 11 2026. No macro, syntax, notation, axiom, sorry.
-/
import Derived.Test.YtaahefhiiggagaaDoorRows
import GoSem.ClaimSeven
namespace Go.Proofs.YtaahefhiiggagaaDoor
namespace Rows

/-- THE TIED CARD OF 'dofferlaw06.BracketsText'. -/
def bracketsTextCard : Claim7 := { stood := { row := bracketsTextRow, standIns := [], harness := (true, "0a7bd172bc3975452a81052ba6c4213bbfcce6e5f323e2549c47d392486898ba"), looks := true }, kinds := [], alts := [], laidByText := true, laidKinds := [.data, .sentinel, .sentinel, .sentinel], laidTests := true, laidLooks := .later }
def BracketsTextCardSaid : Prop := Claim7.holds Tryd.pinned (.plain (OpenSpec.ofChange bracketsTextSpec)) bracketsTextCard

/-- THE TIED CARD OF 'dofferlaw06.BracketsRead'. -/
def bracketsReadCard : Claim7 := { stood := { row := bracketsReadRow, standIns := [], harness := (true, "0a7bd172bc3975452a81052ba6c4213bbfcce6e5f323e2549c47d392486898ba"), looks := true }, kinds := [], alts := [], laidByText := true, laidKinds := [.sentinel, .sentinel, .sentinel, .sentinel, .sentinel, .sentinel, .sentinel, .sentinel, .sentinel, .sentinel, .sentinel, .sentinel, .sentinel, .sentinel, .sentinel, .sentinel, .sentinel, .sentinel], laidTests := true, laidLooks := .later }
def BracketsReadCardSaid : Prop := Claim7.holds Tryd.pinned (.plain (OpenSpec.ofChange bracketsReadSpec)) bracketsReadCard

/-- THE TIED CARD OF 'dofferlaw06.BracketsItems'. -/
def bracketsItemsCard : Claim7 := { stood := { row := bracketsItemsRow, standIns := [], harness := (true, "0a7bd172bc3975452a81052ba6c4213bbfcce6e5f323e2549c47d392486898ba"), looks := true }, kinds := [], alts := [], laidByText := true, laidKinds := [.data, .sentinel, .sentinel, .sentinel], laidTests := true, laidLooks := .later }
def BracketsItemsCardSaid : Prop := Claim7.holds Tryd.pinned (.plain (OpenSpec.ofChange bracketsItemsSpec)) bracketsItemsCard

/-- THE SECOND FORM's CARD OF 'dofferlaw06.BracketsText'. -/
def bracketsTextUptoCard : Claim7 := { stood := { row := bracketsTextUptoRow, standIns := [], harness := (true, "0a7bd172bc3975452a81052ba6c4213bbfcce6e5f323e2549c47d392486898ba"), looks := true }, kinds := [], alts := [], laidByText := true, laidKinds := [.data, .sentinel, .sentinel, .sentinel], laidTests := true, laidLooks := .later }
def BracketsTextUptoCardSaid : Prop := Claim7.holds Tryd.pinned (.plain (OpenSpec.upto bracketsTextSpec)) bracketsTextUptoCard

/-- THE SECOND FORM's CARD OF 'dofferlaw06.BracketsRead'. -/
def bracketsReadUptoCard : Claim7 := { stood := { row := bracketsReadUptoRow, standIns := [], harness := (true, "0a7bd172bc3975452a81052ba6c4213bbfcce6e5f323e2549c47d392486898ba"), looks := true }, kinds := [], alts := [], laidByText := true, laidKinds := [.sentinel, .sentinel, .sentinel, .sentinel, .sentinel, .sentinel, .sentinel, .sentinel, .sentinel, .sentinel, .sentinel, .sentinel, .sentinel, .sentinel, .sentinel, .sentinel, .sentinel, .sentinel], laidTests := true, laidLooks := .later }
def BracketsReadUptoCardSaid : Prop := Claim7.holds Tryd.pinned (.plain (OpenSpec.upto bracketsReadSpec)) bracketsReadUptoCard

/-- THE SECOND FORM's CARD OF 'dofferlaw06.BracketsItems'. -/
def bracketsItemsUptoCard : Claim7 := { stood := { row := bracketsItemsUptoRow, standIns := [], harness := (true, "0a7bd172bc3975452a81052ba6c4213bbfcce6e5f323e2549c47d392486898ba"), looks := true }, kinds := [], alts := [], laidByText := true, laidKinds := [.data, .sentinel, .sentinel, .sentinel], laidTests := true, laidLooks := .later }
def BracketsItemsUptoCardSaid : Prop := Claim7.holds Tryd.pinned (.plain (OpenSpec.upto bracketsItemsSpec)) bracketsItemsUptoCard
end Rows
end Go.Proofs.YtaahefhiiggagaaDoor
