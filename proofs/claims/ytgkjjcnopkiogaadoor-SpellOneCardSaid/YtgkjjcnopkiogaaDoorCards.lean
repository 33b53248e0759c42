/-
  DERIVED. GIVEN WITH THE SEED: THE CARDS: each row of YtgkjjcnopkiogaaDoorRows.lean that lists a variable, with what it lists TIED to the program's text (the seventh form; the later family's looks); each row that meets fmt, with fmt's text TOLD by the authors' own Lean function (tested against real Go, not proved from fmt's source: count such statements apart). THE CARD IS WHAT COUNTS. Prove the row's statement (the work); the ties are given (YtgkjjcnopkiogaaDoorTie.lean); close each card by the builder's one call (the guide's Derived/Test/ToyasCard.lean, 'card_holds'). Laid BY PROGRAM, IN A SANDBOX (cutbox-door.mjs). By AI agents, Wed Nov 11 2026. No macro, syntax, notation, axiom, sorry.
-/
import Derived.Test.YtgkjjcnopkiogaaDoorRows
import GoSem.ClaimSeven
namespace Go.Proofs.YtgkjjcnopkiogaaDoor
namespace Rows

/-- THE TIED CARD OF 'dofferlaw05.SpellWrites'. -/
def spellWritesCard : Claim7 := { stood := { row := spellWritesRow, standIns := [], harness := (true, "d6f025a52ff3ff311231d4584b56e9a61bb787005382d8c411e77065bd92fca2"), looks := true }, kinds := [], alts := [], laidByText := true, laidKinds := [.sentinel, .sentinel], laidTests := true, laidLooks := .later }
def SpellWritesCardSaid : Prop := Claim7.holds Tryd.pinned (.plain (OpenSpec.ofChange spellWritesSpec)) spellWritesCard

/-- THE TIED CARD OF 'dofferlaw05.SpellReads'. -/
def spellReadsCard : Claim7 := { stood := { row := spellReadsRow, standIns := [], harness := (true, "d6f025a52ff3ff311231d4584b56e9a61bb787005382d8c411e77065bd92fca2"), looks := true }, kinds := [], alts := [], laidByText := true, laidKinds := [.sentinel, .sentinel, .sentinel, .sentinel, .sentinel, .sentinel, .sentinel, .sentinel, .sentinel, .sentinel, .sentinel, .sentinel, .sentinel, .sentinel, .sentinel, .sentinel, .sentinel, .sentinel], laidTests := true, laidLooks := .later }
def SpellReadsCardSaid : Prop := Claim7.holds Tryd.pinned (.plain (OpenSpec.ofChange spellReadsSpec)) spellReadsCard

/-- THE TIED CARD OF 'dofferlaw05.SpellOne'. -/
def spellOneCard : Claim7 := { stood := { row := spellOneRow, standIns := [], harness := (true, "d6f025a52ff3ff311231d4584b56e9a61bb787005382d8c411e77065bd92fca2"), looks := true }, kinds := [], alts := [], laidByText := true, laidKinds := [.sentinel, .sentinel], laidTests := true, laidLooks := .later }
def SpellOneCardSaid : Prop := Claim7.holds Tryd.pinned (.plain (OpenSpec.ofChange spellOneSpec)) spellOneCard

/-- THE SECOND FORM's CARD OF 'dofferlaw05.SpellWrites'. -/
def spellWritesUptoCard : Claim7 := { stood := { row := spellWritesUptoRow, standIns := [], harness := (true, "d6f025a52ff3ff311231d4584b56e9a61bb787005382d8c411e77065bd92fca2"), looks := true }, kinds := [], alts := [], laidByText := true, laidKinds := [.sentinel, .sentinel], laidTests := true, laidLooks := .later }
def SpellWritesUptoCardSaid : Prop := Claim7.holds Tryd.pinned (.plain (OpenSpec.upto spellWritesSpec)) spellWritesUptoCard

/-- THE SECOND FORM's CARD OF 'dofferlaw05.SpellReads'. -/
def spellReadsUptoCard : Claim7 := { stood := { row := spellReadsUptoRow, standIns := [], harness := (true, "d6f025a52ff3ff311231d4584b56e9a61bb787005382d8c411e77065bd92fca2"), looks := true }, kinds := [], alts := [], laidByText := true, laidKinds := [.sentinel, .sentinel, .sentinel, .sentinel, .sentinel, .sentinel, .sentinel, .sentinel, .sentinel, .sentinel, .sentinel, .sentinel, .sentinel, .sentinel, .sentinel, .sentinel, .sentinel, .sentinel], laidTests := true, laidLooks := .later }
def SpellReadsUptoCardSaid : Prop := Claim7.holds Tryd.pinned (.plain (OpenSpec.upto spellReadsSpec)) spellReadsUptoCard

/-- THE SECOND FORM's CARD OF 'dofferlaw05.SpellOne'. -/
def spellOneUptoCard : Claim7 := { stood := { row := spellOneUptoRow, standIns := [], harness := (true, "d6f025a52ff3ff311231d4584b56e9a61bb787005382d8c411e77065bd92fca2"), looks := true }, kinds := [], alts := [], laidByText := true, laidKinds := [.sentinel, .sentinel], laidTests := true, laidLooks := .later }
def SpellOneUptoCardSaid : Prop := Claim7.holds Tryd.pinned (.plain (OpenSpec.upto spellOneSpec)) spellOneUptoCard
end Rows
end Go.Proofs.YtgkjjcnopkiogaaDoor
