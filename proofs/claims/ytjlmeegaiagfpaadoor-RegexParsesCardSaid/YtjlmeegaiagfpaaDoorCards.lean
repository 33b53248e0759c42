/-
  DERIVED. GIVEN WITH THE SEED: THE CARDS: each row of YtjlmeegaiagfpaaDoorRows.lean that lists a variable, with what it lists TIED to the program's text (the seventh form; the later family's looks); each row that meets fmt, with fmt's text TOLD by the authors' own Lean function (tested against real Go, not proved from fmt's source: count such statements apart). THE CARD IS WHAT COUNTS. Prove the row's statement (the work); the ties are given (YtjlmeegaiagfpaaDoorTie.lean); close each card by the builder's one call (the guide's Derived/Test/ToyasCard.lean, 'card_holds'). Laid BY PROGRAM, IN A SANDBOX (cutbox-door.mjs). By AI agents, Wed Nov 11 2026. No macro, syntax, notation, axiom, sorry.
-/
import Derived.Test.YtjlmeegaiagfpaaDoorRows
import GoSem.ClaimSeven
namespace Go.Proofs.YtjlmeegaiagfpaaDoor
namespace Rows

/-- THE TIED CARD OF 'dofferlaw08.RegexParses'. -/
def regexParsesCard : Claim7 := { stood := { row := regexParsesRow, standIns := [], harness := (true, "7b98953a23ed8b8ba483a4e94dcc2e03c5b51ba045d9492f25184a479b5bfaa1"), looks := true }, kinds := [], alts := [], laidByText := true, laidKinds := [.sentinel, .sentinel, .sentinel, .sentinel, .sentinel, .sentinel, .sentinel, .sentinel, .sentinel, .sentinel, .sentinel, .sentinel, .sentinel, .sentinel, .sentinel, .sentinel, .sentinel, .sentinel], laidTests := true, laidLooks := .later }
def RegexParsesCardSaid : Prop := Claim7.holds Tryd.pinned (.plain (OpenSpec.ofChange regexParsesSpec)) regexParsesCard

/-- THE TIED CARD OF 'dofferlaw08.RegexSimple'. -/
def regexSimpleCard : Claim7 := { stood := { row := regexSimpleRow, standIns := [], harness := (true, "7b98953a23ed8b8ba483a4e94dcc2e03c5b51ba045d9492f25184a479b5bfaa1"), looks := true }, kinds := [], alts := [], laidByText := true, laidKinds := [.sentinel, .sentinel, .sentinel, .sentinel, .sentinel, .sentinel], laidTests := true, laidLooks := .later }
def RegexSimpleCardSaid : Prop := Claim7.holds Tryd.pinned (.plain (OpenSpec.ofChange regexSimpleSpec)) regexSimpleCard

/-- THE TIED CARD OF 'dofferlaw08.RegexOpen'. -/
def regexOpenCard : Claim7 := { stood := { row := regexOpenRow, standIns := [], harness := (true, "7b98953a23ed8b8ba483a4e94dcc2e03c5b51ba045d9492f25184a479b5bfaa1"), looks := true }, kinds := [], alts := [], laidByText := true, laidKinds := [.sentinel, .sentinel, .sentinel, .sentinel, .sentinel, .sentinel, .sentinel, .sentinel, .sentinel, .sentinel, .sentinel, .sentinel, .sentinel, .sentinel, .sentinel, .sentinel, .sentinel, .sentinel], laidTests := true, laidLooks := .later }
def RegexOpenCardSaid : Prop := Claim7.holds Tryd.pinned (.plain (OpenSpec.ofChange regexOpenSpec)) regexOpenCard

/-- THE SECOND FORM's CARD OF 'dofferlaw08.RegexParses'. -/
def regexParsesUptoCard : Claim7 := { stood := { row := regexParsesUptoRow, standIns := [], harness := (true, "7b98953a23ed8b8ba483a4e94dcc2e03c5b51ba045d9492f25184a479b5bfaa1"), looks := true }, kinds := [], alts := [], laidByText := true, laidKinds := [.sentinel, .sentinel, .sentinel, .sentinel, .sentinel, .sentinel, .sentinel, .sentinel, .sentinel, .sentinel, .sentinel, .sentinel, .sentinel, .sentinel, .sentinel, .sentinel, .sentinel, .sentinel], laidTests := true, laidLooks := .later }
def RegexParsesUptoCardSaid : Prop := Claim7.holds Tryd.pinned (.plain (OpenSpec.upto regexParsesSpec)) regexParsesUptoCard

/-- THE SECOND FORM's CARD OF 'dofferlaw08.RegexSimple'. -/
def regexSimpleUptoCard : Claim7 := { stood := { row := regexSimpleUptoRow, standIns := [], harness := (true, "7b98953a23ed8b8ba483a4e94dcc2e03c5b51ba045d9492f25184a479b5bfaa1"), looks := true }, kinds := [], alts := [], laidByText := true, laidKinds := [.sentinel, .sentinel, .sentinel, .sentinel, .sentinel, .sentinel], laidTests := true, laidLooks := .later }
def RegexSimpleUptoCardSaid : Prop := Claim7.holds Tryd.pinned (.plain (OpenSpec.upto regexSimpleSpec)) regexSimpleUptoCard

/-- THE SECOND FORM's CARD OF 'dofferlaw08.RegexOpen'. -/
def regexOpenUptoCard : Claim7 := { stood := { row := regexOpenUptoRow, standIns := [], harness := (true, "7b98953a23ed8b8ba483a4e94dcc2e03c5b51ba045d9492f25184a479b5bfaa1"), looks := true }, kinds := [], alts := [], laidByText := true, laidKinds := [.sentinel, .sentinel, .sentinel, .sentinel, .sentinel, .sentinel, .sentinel, .sentinel, .sentinel, .sentinel, .sentinel, .sentinel, .sentinel, .sentinel, .sentinel, .sentinel, .sentinel, .sentinel], laidTests := true, laidLooks := .later }
def RegexOpenUptoCardSaid : Prop := Claim7.holds Tryd.pinned (.plain (OpenSpec.upto regexOpenSpec)) regexOpenUptoCard
end Rows
end Go.Proofs.YtjlmeegaiagfpaaDoor
