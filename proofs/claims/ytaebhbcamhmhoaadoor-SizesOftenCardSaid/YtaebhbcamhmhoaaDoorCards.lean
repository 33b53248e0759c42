/-
  DERIVED. GIVEN WITH THE SEED: THE CARDS: each row of YtaebhbcamhmhoaaDoorRows.lean that lists a variable, with what it lists TIED to the program's text (the seventh form; the later family's looks); each row that meets fmt, with fmt's text TOLD by the authors' own Lean function (tested against real Go, not proved from fmt's source: count such statements apart). THE CARD IS WHAT COUNTS. Prove the row's statement (the work); the ties are given (YtaebhbcamhmhoaaDoorTie.lean); close each card by the builder's one call (the guide's Derived/Test/ToyasCard.lean, 'card_holds'). Laid BY PROGRAM, IN A SANDBOX (cutbox-door.mjs). By AI agents, Wed Nov 11 2026. No macro, syntax, notation, axiom, sorry.
-/
import Derived.Test.YtaebhbcamhmhoaaDoorRows
import GoSem.ClaimSeven
namespace Go.Proofs.YtaebhbcamhmhoaaDoor
namespace Rows

/-- THE TIED CARD OF 'dofferlaw09.SizesEnds'. -/
def sizesEndsCard : Claim7 := { stood := { row := sizesEndsRow, standIns := [], harness := (true, "76baf0f528753723f7867b9d088ad58df4f099ed75b4725ccc50f37fdde18dba"), looks := false }, kinds := [], alts := [], laidByText := true, laidKinds := [.sentinel, .sentinel, .sentinel, .sentinel, .sentinel, .sentinel], laidTests := true, laidLooks := .later }
def SizesEndsCardSaid : Prop := Claim7.holds Tryd.pinned (.plain (OpenSpec.ofChange sizesEndsSpec)) sizesEndsCard

/-- THE TIED CARD OF 'dofferlaw09.SizesJoin'. -/
def sizesJoinCard : Claim7 := { stood := { row := sizesJoinRow, standIns := [], harness := (true, "76baf0f528753723f7867b9d088ad58df4f099ed75b4725ccc50f37fdde18dba"), looks := false }, kinds := [], alts := [], laidByText := true, laidKinds := [.sentinel, .sentinel, .sentinel, .sentinel, .sentinel, .sentinel], laidTests := true, laidLooks := .later }
def SizesJoinCardSaid : Prop := Claim7.holds Tryd.pinned (.plain (OpenSpec.ofChange sizesJoinSpec)) sizesJoinCard

/-- THE TIED CARD OF 'dofferlaw09.SizesOften'. -/
def sizesOftenCard : Claim7 := { stood := { row := sizesOftenRow, standIns := [], harness := (true, "76baf0f528753723f7867b9d088ad58df4f099ed75b4725ccc50f37fdde18dba"), looks := false }, kinds := [], alts := [], laidByText := true, laidKinds := [.sentinel, .sentinel, .sentinel, .sentinel, .sentinel, .sentinel], laidTests := true, laidLooks := .later }
def SizesOftenCardSaid : Prop := Claim7.holds Tryd.pinned (.plain (OpenSpec.ofChange sizesOftenSpec)) sizesOftenCard

/-- THE SECOND FORM's CARD OF 'dofferlaw09.SizesEnds'. -/
def sizesEndsUptoCard : Claim7 := { stood := { row := sizesEndsUptoRow, standIns := [], harness := (true, "76baf0f528753723f7867b9d088ad58df4f099ed75b4725ccc50f37fdde18dba"), looks := false }, kinds := [], alts := [], laidByText := true, laidKinds := [.sentinel, .sentinel, .sentinel, .sentinel, .sentinel, .sentinel], laidTests := true, laidLooks := .later }
def SizesEndsUptoCardSaid : Prop := Claim7.holds Tryd.pinned (.plain (OpenSpec.upto sizesEndsSpec)) sizesEndsUptoCard

/-- THE SECOND FORM's CARD OF 'dofferlaw09.SizesJoin'. -/
def sizesJoinUptoCard : Claim7 := { stood := { row := sizesJoinUptoRow, standIns := [], harness := (true, "76baf0f528753723f7867b9d088ad58df4f099ed75b4725ccc50f37fdde18dba"), looks := false }, kinds := [], alts := [], laidByText := true, laidKinds := [.sentinel, .sentinel, .sentinel, .sentinel, .sentinel, .sentinel], laidTests := true, laidLooks := .later }
def SizesJoinUptoCardSaid : Prop := Claim7.holds Tryd.pinned (.plain (OpenSpec.upto sizesJoinSpec)) sizesJoinUptoCard

/-- THE SECOND FORM's CARD OF 'dofferlaw09.SizesOften'. -/
def sizesOftenUptoCard : Claim7 := { stood := { row := sizesOftenUptoRow, standIns := [], harness := (true, "76baf0f528753723f7867b9d088ad58df4f099ed75b4725ccc50f37fdde18dba"), looks := false }, kinds := [], alts := [], laidByText := true, laidKinds := [.sentinel, .sentinel, .sentinel, .sentinel, .sentinel, .sentinel], laidTests := true, laidLooks := .later }
def SizesOftenUptoCardSaid : Prop := Claim7.holds Tryd.pinned (.plain (OpenSpec.upto sizesOftenSpec)) sizesOftenUptoCard
end Rows
end Go.Proofs.YtaebhbcamhmhoaaDoor
