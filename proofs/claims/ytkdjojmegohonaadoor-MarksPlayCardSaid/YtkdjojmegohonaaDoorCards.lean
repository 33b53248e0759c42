/-
  DERIVED. GIVEN WITH THE SEED: THE CARDS: each row of YtkdjojmegohonaaDoorRows.lean that lists a variable, with what it lists TIED to the program's text (the seventh form; the later family's looks); each row that meets fmt, with fmt's text TOLD by the authors' own Lean function (tested against real Go, not proved from fmt's source: count such statements apart). THE CARD IS WHAT COUNTS. Prove the row's statement (the work); the ties are given (YtkdjojmegohonaaDoorTie.lean); close each card by the builder's one call (the guide's Derived/Test/ToyasCard.lean, 'card_holds'). Laid BY PROGRAM, IN A SANDBOX (cutbox-door.mjs). By AI agents, Wed Nov 11 2026. No macro, syntax, notation, axiom, sorry.
-/
import Derived.Test.YtkdjojmegohonaaDoorRows
import GoSem.ClaimSeven
namespace Go.Proofs.YtkdjojmegohonaaDoor
namespace Rows

/-- THE TIED CARD OF 'dofferlaw02.MarksPlay'. -/
def marksPlayCard : Claim7 := { stood := { row := marksPlayRow, standIns := [], harness := (true, "8269c9c342eee2fdbecdf520546bc055dfff24fd6a6738e1b369b0521aac42e9"), looks := false }, kinds := [], alts := [], laidByText := true, laidKinds := [.data, .sentinel], laidTests := true, laidLooks := .later }
def MarksPlayCardSaid : Prop := Claim7.holds Tryd.pinned (.plain (OpenSpec.ofChange marksPlaySpec)) marksPlayCard

/-- THE TIED CARD OF 'dofferlaw02.MarksKeys'. -/
def marksKeysCard : Claim7 := { stood := { row := marksKeysRow, standIns := [], harness := (true, "8269c9c342eee2fdbecdf520546bc055dfff24fd6a6738e1b369b0521aac42e9"), looks := false }, kinds := [], alts := [], laidByText := true, laidKinds := [.data, .sentinel], laidTests := true, laidLooks := .later }
def MarksKeysCardSaid : Prop := Claim7.holds Tryd.pinned (.plain (OpenSpec.ofChange marksKeysSpec)) marksKeysCard

/-- THE SECOND FORM's CARD OF 'dofferlaw02.MarksPlay'. -/
def marksPlayUptoCard : Claim7 := { stood := { row := marksPlayUptoRow, standIns := [], harness := (true, "8269c9c342eee2fdbecdf520546bc055dfff24fd6a6738e1b369b0521aac42e9"), looks := false }, kinds := [], alts := [], laidByText := true, laidKinds := [.data, .sentinel], laidTests := true, laidLooks := .later }
def MarksPlayUptoCardSaid : Prop := Claim7.holds Tryd.pinned (.plain (OpenSpec.upto marksPlaySpec)) marksPlayUptoCard

/-- THE SECOND FORM's CARD OF 'dofferlaw02.MarksKeys'. -/
def marksKeysUptoCard : Claim7 := { stood := { row := marksKeysUptoRow, standIns := [], harness := (true, "8269c9c342eee2fdbecdf520546bc055dfff24fd6a6738e1b369b0521aac42e9"), looks := false }, kinds := [], alts := [], laidByText := true, laidKinds := [.data, .sentinel], laidTests := true, laidLooks := .later }
def MarksKeysUptoCardSaid : Prop := Claim7.holds Tryd.pinned (.plain (OpenSpec.upto marksKeysSpec)) marksKeysUptoCard
end Rows
end Go.Proofs.YtkdjojmegohonaaDoor
