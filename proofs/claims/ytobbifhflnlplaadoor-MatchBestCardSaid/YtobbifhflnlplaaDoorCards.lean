/-
  DERIVED. GIVEN WITH THE SEED: THE CARDS: each row of YtobbifhflnlplaaDoorRows.lean that lists a variable, with what it lists TIED to the program's text (the seventh form; the later family's looks); each row that meets fmt, with fmt's text TOLD by the authors' own Lean function (tested against real Go, not proved from fmt's source: count such statements apart). THE CARD IS WHAT COUNTS. Prove the row's statement (the work); the ties are given (YtobbifhflnlplaaDoorTie.lean); close each card by the builder's one call (the guide's Derived/Test/ToyasCard.lean, 'card_holds'). Laid BY PROGRAM, IN A SANDBOX (cutbox-door.mjs). By AI agents, Wed Nov 11 2026. No macro, syntax, notation, axiom, sorry.
-/
import Derived.Test.YtobbifhflnlplaaDoorRows
import GoSem.ClaimSeven
namespace Go.Proofs.YtobbifhflnlplaaDoor
namespace Rows

/-- THE TIED CARD OF 'dofferlaw10.MatchEnds'. -/
def matchEndsCard : Claim7 := { stood := { row := matchEndsRow, standIns := [], harness := (true, "5f2f1ba5c4958ddc33837946c4887825950be87278ed59affef503bf424f8d1e"), looks := false }, kinds := [], alts := [], laidByText := true, laidKinds := [.sentinel, .sentinel, .sentinel, .sentinel, .sentinel, .sentinel], laidTests := true, laidLooks := .later }
def MatchEndsCardSaid : Prop := Claim7.holds Tryd.pinned (.plain (OpenSpec.ofChange matchEndsSpec)) matchEndsCard

/-- THE TIED CARD OF 'dofferlaw10.MatchBest'. -/
def matchBestCard : Claim7 := { stood := { row := matchBestRow, standIns := [], harness := (true, "5f2f1ba5c4958ddc33837946c4887825950be87278ed59affef503bf424f8d1e"), looks := false }, kinds := [], alts := [], laidByText := true, laidKinds := [.sentinel, .sentinel, .sentinel, .sentinel, .sentinel, .sentinel], laidTests := true, laidLooks := .later }
def MatchBestCardSaid : Prop := Claim7.holds Tryd.pinned (.plain (OpenSpec.ofChange matchBestSpec)) matchBestCard

/-- THE TIED CARD OF 'dofferlaw10.MatchLaws'. -/
def matchLawsCard : Claim7 := { stood := { row := matchLawsRow, standIns := [], harness := (true, "5f2f1ba5c4958ddc33837946c4887825950be87278ed59affef503bf424f8d1e"), looks := false }, kinds := [], alts := [], laidByText := true, laidKinds := [.sentinel, .sentinel, .sentinel, .sentinel, .sentinel, .sentinel], laidTests := true, laidLooks := .later }
def MatchLawsCardSaid : Prop := Claim7.holds Tryd.pinned (.plain (OpenSpec.ofChange matchLawsSpec)) matchLawsCard

/-- THE TIED CARD OF 'dofferlaw10.MatchEmpty'. -/
def matchEmptyCard : Claim7 := { stood := { row := matchEmptyRow, standIns := [], harness := (true, "5f2f1ba5c4958ddc33837946c4887825950be87278ed59affef503bf424f8d1e"), looks := false }, kinds := [], alts := [], laidByText := true, laidKinds := [.sentinel, .sentinel, .sentinel, .sentinel, .sentinel, .sentinel], laidTests := true, laidLooks := .later }
def MatchEmptyCardSaid : Prop := Claim7.holds Tryd.pinned (.plain (OpenSpec.ofChange matchEmptySpec)) matchEmptyCard

/-- THE SECOND FORM's CARD OF 'dofferlaw10.MatchEnds'. -/
def matchEndsUptoCard : Claim7 := { stood := { row := matchEndsUptoRow, standIns := [], harness := (true, "5f2f1ba5c4958ddc33837946c4887825950be87278ed59affef503bf424f8d1e"), looks := false }, kinds := [], alts := [], laidByText := true, laidKinds := [.sentinel, .sentinel, .sentinel, .sentinel, .sentinel, .sentinel], laidTests := true, laidLooks := .later }
def MatchEndsUptoCardSaid : Prop := Claim7.holds Tryd.pinned (.plain (OpenSpec.upto matchEndsSpec)) matchEndsUptoCard

/-- THE SECOND FORM's CARD OF 'dofferlaw10.MatchBest'. -/
def matchBestUptoCard : Claim7 := { stood := { row := matchBestUptoRow, standIns := [], harness := (true, "5f2f1ba5c4958ddc33837946c4887825950be87278ed59affef503bf424f8d1e"), looks := false }, kinds := [], alts := [], laidByText := true, laidKinds := [.sentinel, .sentinel, .sentinel, .sentinel, .sentinel, .sentinel], laidTests := true, laidLooks := .later }
def MatchBestUptoCardSaid : Prop := Claim7.holds Tryd.pinned (.plain (OpenSpec.upto matchBestSpec)) matchBestUptoCard

/-- THE SECOND FORM's CARD OF 'dofferlaw10.MatchLaws'. -/
def matchLawsUptoCard : Claim7 := { stood := { row := matchLawsUptoRow, standIns := [], harness := (true, "5f2f1ba5c4958ddc33837946c4887825950be87278ed59affef503bf424f8d1e"), looks := false }, kinds := [], alts := [], laidByText := true, laidKinds := [.sentinel, .sentinel, .sentinel, .sentinel, .sentinel, .sentinel], laidTests := true, laidLooks := .later }
def MatchLawsUptoCardSaid : Prop := Claim7.holds Tryd.pinned (.plain (OpenSpec.upto matchLawsSpec)) matchLawsUptoCard

/-- THE SECOND FORM's CARD OF 'dofferlaw10.MatchEmpty'. -/
def matchEmptyUptoCard : Claim7 := { stood := { row := matchEmptyUptoRow, standIns := [], harness := (true, "5f2f1ba5c4958ddc33837946c4887825950be87278ed59affef503bf424f8d1e"), looks := false }, kinds := [], alts := [], laidByText := true, laidKinds := [.sentinel, .sentinel, .sentinel, .sentinel, .sentinel, .sentinel], laidTests := true, laidLooks := .later }
def MatchEmptyUptoCardSaid : Prop := Claim7.holds Tryd.pinned (.plain (OpenSpec.upto matchEmptySpec)) matchEmptyUptoCard
end Rows
end Go.Proofs.YtobbifhflnlplaaDoor
