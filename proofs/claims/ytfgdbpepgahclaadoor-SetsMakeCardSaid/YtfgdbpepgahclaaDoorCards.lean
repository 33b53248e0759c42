/-
  DERIVED. GIVEN WITH THE SEED: THE CARDS: each row of YtfgdbpepgahclaaDoorRows.lean that lists a variable, with what it lists TIED to the program's text (the seventh form; the later family's looks); each row that meets fmt, with fmt's text TOLD by the authors' own Lean function (tested against real Go, not proved from fmt's source: count such statements apart). THE CARD IS WHAT COUNTS. Prove the row's statement (the work); the ties are given (YtfgdbpepgahclaaDoorTie.lean); close each card by the builder's one call (the guide's Derived/Test/ToyasCard.lean, 'card_holds'). Laid BY PROGRAM, IN A SANDBOX (cutbox-door.mjs). By AI agents, Wed Nov 11 2026. No macro, syntax, notation, axiom, sorry.
-/
import Derived.Test.YtfgdbpepgahclaaDoorRows
import GoSem.ClaimSeven
namespace Go.Proofs.YtfgdbpepgahclaaDoor
namespace Rows

/-- THE TIED CARD OF 'dofferlaw01.SetsMake'. -/
def setsMakeCard : Claim7 := { stood := { row := setsMakeRow, standIns := [], harness := (true, "a7a03b382a3ac06ac9f79f0e9cb6fc0f8e5aad8cb5c5a26f43efd6bf2ceb09a2"), looks := false }, kinds := [], alts := [], laidByText := true, laidKinds := [.data], laidTests := true, laidLooks := .later }
def SetsMakeCardSaid : Prop := Claim7.holds Tryd.pinned (.plain (OpenSpec.ofChange setsMakeSpec)) setsMakeCard

/-- THE TIED CARD OF 'dofferlaw01.SetsMix'. -/
def setsMixCard : Claim7 := { stood := { row := setsMixRow, standIns := [], harness := (true, "a7a03b382a3ac06ac9f79f0e9cb6fc0f8e5aad8cb5c5a26f43efd6bf2ceb09a2"), looks := false }, kinds := [], alts := [], laidByText := true, laidKinds := [.data], laidTests := true, laidLooks := .later }
def SetsMixCardSaid : Prop := Claim7.holds Tryd.pinned (.plain (OpenSpec.ofChange setsMixSpec)) setsMixCard

/-- THE TIED CARD OF 'dofferlaw01.SetsTell'. -/
def setsTellCard : Claim7 := { stood := { row := setsTellRow, standIns := [], harness := (true, "a7a03b382a3ac06ac9f79f0e9cb6fc0f8e5aad8cb5c5a26f43efd6bf2ceb09a2"), looks := false }, kinds := [], alts := [], laidByText := true, laidKinds := [.data], laidTests := true, laidLooks := .later }
def SetsTellCardSaid : Prop := Claim7.holds Tryd.pinned (.plain (OpenSpec.ofChange setsTellSpec)) setsTellCard

/-- THE TIED CARD OF 'dofferlaw01.SetsLaws'. -/
def setsLawsCard : Claim7 := { stood := { row := setsLawsRow, standIns := [], harness := (true, "a7a03b382a3ac06ac9f79f0e9cb6fc0f8e5aad8cb5c5a26f43efd6bf2ceb09a2"), looks := false }, kinds := [], alts := [], laidByText := true, laidKinds := [.data], laidTests := true, laidLooks := .later }
def SetsLawsCardSaid : Prop := Claim7.holds Tryd.pinned (.plain (OpenSpec.ofChange setsLawsSpec)) setsLawsCard

/-- THE SECOND FORM's CARD OF 'dofferlaw01.SetsMake'. -/
def setsMakeUptoCard : Claim7 := { stood := { row := setsMakeUptoRow, standIns := [], harness := (true, "a7a03b382a3ac06ac9f79f0e9cb6fc0f8e5aad8cb5c5a26f43efd6bf2ceb09a2"), looks := false }, kinds := [], alts := [], laidByText := true, laidKinds := [.data], laidTests := true, laidLooks := .later }
def SetsMakeUptoCardSaid : Prop := Claim7.holds Tryd.pinned (.plain (OpenSpec.upto setsMakeSpec)) setsMakeUptoCard

/-- THE SECOND FORM's CARD OF 'dofferlaw01.SetsMix'. -/
def setsMixUptoCard : Claim7 := { stood := { row := setsMixUptoRow, standIns := [], harness := (true, "a7a03b382a3ac06ac9f79f0e9cb6fc0f8e5aad8cb5c5a26f43efd6bf2ceb09a2"), looks := false }, kinds := [], alts := [], laidByText := true, laidKinds := [.data], laidTests := true, laidLooks := .later }
def SetsMixUptoCardSaid : Prop := Claim7.holds Tryd.pinned (.plain (OpenSpec.upto setsMixSpec)) setsMixUptoCard

/-- THE SECOND FORM's CARD OF 'dofferlaw01.SetsTell'. -/
def setsTellUptoCard : Claim7 := { stood := { row := setsTellUptoRow, standIns := [], harness := (true, "a7a03b382a3ac06ac9f79f0e9cb6fc0f8e5aad8cb5c5a26f43efd6bf2ceb09a2"), looks := false }, kinds := [], alts := [], laidByText := true, laidKinds := [.data], laidTests := true, laidLooks := .later }
def SetsTellUptoCardSaid : Prop := Claim7.holds Tryd.pinned (.plain (OpenSpec.upto setsTellSpec)) setsTellUptoCard

/-- THE SECOND FORM's CARD OF 'dofferlaw01.SetsLaws'. -/
def setsLawsUptoCard : Claim7 := { stood := { row := setsLawsUptoRow, standIns := [], harness := (true, "a7a03b382a3ac06ac9f79f0e9cb6fc0f8e5aad8cb5c5a26f43efd6bf2ceb09a2"), looks := false }, kinds := [], alts := [], laidByText := true, laidKinds := [.data], laidTests := true, laidLooks := .later }
def SetsLawsUptoCardSaid : Prop := Claim7.holds Tryd.pinned (.plain (OpenSpec.upto setsLawsSpec)) setsLawsUptoCard
end Rows
end Go.Proofs.YtfgdbpepgahclaaDoor
