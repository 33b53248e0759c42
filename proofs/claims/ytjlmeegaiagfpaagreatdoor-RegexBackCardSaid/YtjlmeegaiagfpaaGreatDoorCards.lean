/-
  DERIVED. GIVEN WITH THE SEED: THE CARDS: each row of YtjlmeegaiagfpaaGreatDoorRows.lean that lists a variable, with what it lists TIED to the program's text (the seventh form; the later family's looks); each row that meets fmt, with fmt's text TOLD by the authors' own Lean function (tested against real Go, not proved from fmt's source: count such statements apart). THE CARD IS WHAT COUNTS. Prove the row's statement (the work); the ties are given (YtjlmeegaiagfpaaGreatDoorTie.lean); close each card by the builder's one call (the guide's Derived/Test/ToyasCard.lean, 'card_holds'). Laid BY PROGRAM, IN A SANDBOX (cutbox-door.mjs). By AI agents, Wed Nov 11 2026. No macro, syntax, notation, axiom, sorry.
-/
import Derived.Test.YtjlmeegaiagfpaaGreatDoorRows
import GoSem.ClaimSeven
namespace Go.Proofs.YtjlmeegaiagfpaaGreatDoor
namespace Rows

/-- THE TIED CARD OF 'dofferlaw08.RegexBack'. -/
def regexBackCard : Claim7 := { stood := { row := regexBackRow, standIns := [], harness := (true, "c0f167df7f5af42ba10d676fee19f554bb954e9ba71f37dafafbe10b4d97e7e0"), looks := false }, kinds := [], alts := [], laidByText := true, laidKinds := [.data, .data, .data, .sentinel, .sentinel, .sentinel, .sentinel, .sentinel, .sentinel], laidTests := true, laidLooks := .later }
def RegexBackCardSaid : Prop := Claim7.holds Tryz.pinned (.plain (OpenSpec.ofChange regexBackSpec)) regexBackCard

/-- THE SECOND FORM's CARD OF 'dofferlaw08.RegexBack'. -/
def regexBackUptoCard : Claim7 := { stood := { row := regexBackUptoRow, standIns := [], harness := (true, "c0f167df7f5af42ba10d676fee19f554bb954e9ba71f37dafafbe10b4d97e7e0"), looks := false }, kinds := [], alts := [], laidByText := true, laidKinds := [.data, .data, .data, .sentinel, .sentinel, .sentinel, .sentinel, .sentinel, .sentinel], laidTests := true, laidLooks := .later }
def RegexBackUptoCardSaid : Prop := Claim7.holds Tryz.pinned (.plain (OpenSpec.upto regexBackSpec)) regexBackUptoCard
end Rows
end Go.Proofs.YtjlmeegaiagfpaaGreatDoor
