/-
  NARROWER THAN 'FOR EVERY INPUT', by the rows' own cells (each row's printed sentence says how): MatchEnds: loops, laid · MatchBest: loops, laid · MatchLaws: loops, laid · MatchEmpty: loops, laid.
  DERIVED. THE GIVEN ROWS OF THIS SEAT. 4 by the template 'for every input the law returns true; each argument reads behind the call as it read before'; 0 by the template 'total and deterministic' (their statements: YtobbifhflnlplaaDoorTotals.lean).
  GIVEN WITH THE SEED: the statements are not yours to turn. If you find one false, say at which input.
  Laid BY PROGRAM, IN A SANDBOX (cutbox-rows.mjs): the forced cells as the released guide's own fill.sh prints them over the translation 32d66d49707c393f… (all of the seat's roots in one cut). By AI agents, Wed Nov 11 2026. No macro, syntax, notation, axiom, sorry.
-/
import Derived.Test.YtobbifhflnlplaaDoorChecked
import GoSem.Claim
import GoSem.ClaimJoined
import GoSem.ClaimMapViews
import Derived.JoinedTies
import Derived.KernelRfl
namespace Go.Proofs.YtobbifhflnlplaaDoor
/- THE CELL 'sum', in the pinned program and in every row, IS THE sha256 OF THE DUMP (.gsa) THAT YtobbifhflnlplaaDoorProg.lean LOADS. Nothing in Lean hashes anything: it is a label: what it is worth is what the hold of that sum in a sandbox is worth. -/
noncomputable def Tryd.pinned : Pinned := { name := "ytobbifhflnlplaadoor", sum := "32d66d49707c393f3b5236e6010ef007cb0874f184b8aa61ed8d3b04a8060a99", checked := Tryd.checked }
namespace Rows
def none {H : Type} : Left H := { results := [], args := [] }

/- WHAT THE LISTED PACKAGE-LEVEL VARIABLES READ AS WHEN THE CALL BEGINS. Each datum BY PROGRAM (the guide's laid-datum.mjs) off the statement by which the dump's own 'gosem.cut.vars' lays the variable. In a bare row this is a premise. The card (YtobbifhflnlplaaDoorCards.lean) ties it to the program's text. -/
def laid_doffer_api_ErrRange {H : Type} : DataW H := .iface "*errors.errorString" (.ptr (.agg [.lit (.string [97, 32, 110, 117, 109, 98, 101, 114, 32, 105, 115, 32, 111, 117, 116, 32, 111, 102, 32, 105, 116, 115, 32, 114, 97, 110, 103, 101])]))
def laid_doffer_api_ErrShort {H : Type} : DataW H := .iface "*errors.errorString" (.ptr (.agg [.lit (.string [115, 111, 109, 101, 116, 104, 105, 110, 103, 32, 105, 115, 32, 109, 105, 115, 115, 105, 110, 103])]))
def laid_doffer_api_ErrForm {H : Type} : DataW H := .iface "*errors.errorString" (.ptr (.agg [.lit (.string [105, 116, 32, 105, 115, 32, 110, 111, 116, 32, 111, 102, 32, 105, 116, 115, 32, 102, 111, 114, 109])]))
def laid_doffer_api_ErrName {H : Type} : DataW H := .iface "*errors.errorString" (.ptr (.agg [.lit (.string [116, 104, 101, 114, 101, 32, 105, 115, 32, 110, 111, 32, 115, 117, 99, 104, 32, 110, 97, 109, 101])]))
def laid_doffer_api_ErrDepth {H : Type} : DataW H := .iface "*errors.errorString" (.ptr (.agg [.lit (.string [105, 116, 32, 105, 115, 32, 110, 101, 115, 116, 101, 100, 32, 116, 111, 111, 32, 100, 101, 101, 112])]))
def laid_doffer_api_ErrLimit {H : Type} : DataW H := .iface "*errors.errorString" (.ptr (.agg [.lit (.string [105, 116, 32, 103, 114, 111, 119, 115, 32, 98, 101, 121, 111, 110, 100, 32, 105, 116, 115, 32, 108, 105, 109, 105, 116])]))

/-- 'dofferlaw10.MatchEnds': WHATEVER THE INPUT: true; the input reads as it did. -/
def matchEndsSpec : ChangeSpec := { name := "matchEnds", fn := fun _ => fun
  | [d1, d2, d3] => { results := [.lit (.bool true)], args := [d1, d2, d3] }
  | _ => none }
def matchEndsRow : OpenClaim := { program := "ytobbifhflnlplaadoor", sum := "32d66d49707c393f3b5236e6010ef007cb0874f184b8aa61ed8d3b04a8060a99", func := "doffer/dofferlaw10.MatchEnds", spec := "matchEnds", inPlace := ["internal/bytealg.IndexByteString"], unfollowed := true, recurses := true, named := ["doffer/api.ErrShort", "doffer/api.ErrDepth", "doffer/api.ErrLimit", "doffer/api.ErrForm", "doffer/api.ErrRange", "doffer/api.ErrName"], loops := true, apart := false, laid := [("doffer/api.ErrRange", laid_doffer_api_ErrRange), ("doffer/api.ErrShort", laid_doffer_api_ErrShort), ("doffer/api.ErrForm", laid_doffer_api_ErrForm), ("doffer/api.ErrName", laid_doffer_api_ErrName), ("doffer/api.ErrDepth", laid_doffer_api_ErrDepth), ("doffer/api.ErrLimit", laid_doffer_api_ErrLimit)] }
def MatchEndsSaid : Prop := matchEndsRow.holds Tryd.pinned (OpenSpec.ofChange matchEndsSpec)

/-- ITS FALSE NEIGHBOUR: 'it returns false'. Refute it at one input. -/
def matchEndsWrong : ChangeSpec := { name := "matchEnds", fn := fun _ => fun
  | [d1, d2, d3] => { results := [.lit (.bool false)], args := [d1, d2, d3] }
  | _ => none }
def MatchEndsWrongFalsely : Prop := matchEndsRow.holds Tryd.pinned (OpenSpec.ofChange matchEndsWrong)

/-- 'dofferlaw10.MatchBest': WHATEVER THE INPUT: true; the input reads as it did. -/
def matchBestSpec : ChangeSpec := { name := "matchBest", fn := fun _ => fun
  | [d1, d2, d3] => { results := [.lit (.bool true)], args := [d1, d2, d3] }
  | _ => none }
def matchBestRow : OpenClaim := { program := "ytobbifhflnlplaadoor", sum := "32d66d49707c393f3b5236e6010ef007cb0874f184b8aa61ed8d3b04a8060a99", func := "doffer/dofferlaw10.MatchBest", spec := "matchBest", inPlace := ["internal/bytealg.IndexByteString"], unfollowed := true, recurses := true, named := ["doffer/api.ErrShort", "doffer/api.ErrDepth", "doffer/api.ErrLimit", "doffer/api.ErrForm", "doffer/api.ErrRange", "doffer/api.ErrName"], loops := true, apart := false, laid := [("doffer/api.ErrRange", laid_doffer_api_ErrRange), ("doffer/api.ErrShort", laid_doffer_api_ErrShort), ("doffer/api.ErrForm", laid_doffer_api_ErrForm), ("doffer/api.ErrName", laid_doffer_api_ErrName), ("doffer/api.ErrDepth", laid_doffer_api_ErrDepth), ("doffer/api.ErrLimit", laid_doffer_api_ErrLimit)] }
def MatchBestSaid : Prop := matchBestRow.holds Tryd.pinned (OpenSpec.ofChange matchBestSpec)

/-- ITS FALSE NEIGHBOUR: 'it returns false'. Refute it at one input. -/
def matchBestWrong : ChangeSpec := { name := "matchBest", fn := fun _ => fun
  | [d1, d2, d3] => { results := [.lit (.bool false)], args := [d1, d2, d3] }
  | _ => none }
def MatchBestWrongFalsely : Prop := matchBestRow.holds Tryd.pinned (OpenSpec.ofChange matchBestWrong)

/-- 'dofferlaw10.MatchLaws': WHATEVER THE INPUT: true; the input reads as it did. -/
def matchLawsSpec : ChangeSpec := { name := "matchLaws", fn := fun _ => fun
  | [d1, d2, d3] => { results := [.lit (.bool true)], args := [d1, d2, d3] }
  | _ => none }
def matchLawsRow : OpenClaim := { program := "ytobbifhflnlplaadoor", sum := "32d66d49707c393f3b5236e6010ef007cb0874f184b8aa61ed8d3b04a8060a99", func := "doffer/dofferlaw10.MatchLaws", spec := "matchLaws", inPlace := ["internal/bytealg.IndexByteString"], unfollowed := true, recurses := true, named := ["doffer/api.ErrShort", "doffer/api.ErrDepth", "doffer/api.ErrLimit", "doffer/api.ErrForm", "doffer/api.ErrRange", "doffer/api.ErrName"], loops := true, apart := false, laid := [("doffer/api.ErrRange", laid_doffer_api_ErrRange), ("doffer/api.ErrShort", laid_doffer_api_ErrShort), ("doffer/api.ErrForm", laid_doffer_api_ErrForm), ("doffer/api.ErrName", laid_doffer_api_ErrName), ("doffer/api.ErrDepth", laid_doffer_api_ErrDepth), ("doffer/api.ErrLimit", laid_doffer_api_ErrLimit)] }
def MatchLawsSaid : Prop := matchLawsRow.holds Tryd.pinned (OpenSpec.ofChange matchLawsSpec)

/-- ITS FALSE NEIGHBOUR: 'it returns false'. Refute it at one input. -/
def matchLawsWrong : ChangeSpec := { name := "matchLaws", fn := fun _ => fun
  | [d1, d2, d3] => { results := [.lit (.bool false)], args := [d1, d2, d3] }
  | _ => none }
def MatchLawsWrongFalsely : Prop := matchLawsRow.holds Tryd.pinned (OpenSpec.ofChange matchLawsWrong)

/-- 'dofferlaw10.MatchEmpty': WHATEVER THE INPUT: true; the input reads as it did. -/
def matchEmptySpec : ChangeSpec := { name := "matchEmpty", fn := fun _ => fun
  | [d1, d2] => { results := [.lit (.bool true)], args := [d1, d2] }
  | _ => none }
def matchEmptyRow : OpenClaim := { program := "ytobbifhflnlplaadoor", sum := "32d66d49707c393f3b5236e6010ef007cb0874f184b8aa61ed8d3b04a8060a99", func := "doffer/dofferlaw10.MatchEmpty", spec := "matchEmpty", inPlace := ["internal/bytealg.IndexByteString"], unfollowed := true, recurses := true, named := ["doffer/api.ErrShort", "doffer/api.ErrDepth", "doffer/api.ErrLimit", "doffer/api.ErrForm", "doffer/api.ErrRange", "doffer/api.ErrName"], loops := true, apart := false, laid := [("doffer/api.ErrRange", laid_doffer_api_ErrRange), ("doffer/api.ErrShort", laid_doffer_api_ErrShort), ("doffer/api.ErrForm", laid_doffer_api_ErrForm), ("doffer/api.ErrName", laid_doffer_api_ErrName), ("doffer/api.ErrDepth", laid_doffer_api_ErrDepth), ("doffer/api.ErrLimit", laid_doffer_api_ErrLimit)] }
def MatchEmptySaid : Prop := matchEmptyRow.holds Tryd.pinned (OpenSpec.ofChange matchEmptySpec)

/-- ITS FALSE NEIGHBOUR: 'it returns false'. Refute it at one input. -/
def matchEmptyWrong : ChangeSpec := { name := "matchEmpty", fn := fun _ => fun
  | [d1, d2] => { results := [.lit (.bool false)], args := [d1, d2] }
  | _ => none }
def MatchEmptyWrongFalsely : Prop := matchEmptyRow.holds Tryd.pinned (OpenSpec.ofChange matchEmptyWrong)

/- THE SECOND FORM. 'bulk': how many values and letters a reading holds, each counted each time it is reached (what is shared counts as often as it is met; a slice's spare places count too). A statement '..UptoSaid' is the law's where the arguments, and the package variables that the reading takes, are together of bulk at most 1048576: NARROWER than '..Said'. Prove '..Said' where nothing that the law and all that it calls make is longer than what came in: it says more and counts as full. Else prove '..UptoSaid'. A law counts once. -/
mutual
def uptoBulk {H : Type} : DataW H → Nat
  | .lit (.string bytes) => bytes.length + 1
  | .lit _ => 1
  | .nil => 1
  | .ptr d => uptoBulk d + 1
  | .slice elems spare => uptoBulkAll elems + uptoBulkAll spare + 1
  | .agg parts => uptoBulkAll parts + 1
  | .iface _ d => uptoBulk d + 1
  | .map entries => uptoBulkEntries entries + 1
  | .held _ => 1
def uptoBulkAll {H : Type} : List (DataW H) → Nat
  | [] => 0
  | d :: r => uptoBulk d + uptoBulkAll r
def uptoBulkEntries {H : Type} : List (Lit × DataW H) → Nat
  | [] => 0
  | x :: r => uptoBulkEntry x + uptoBulkEntries r
def uptoBulkEntry {H : Type} : Lit × DataW H → Nat
  | (.string bytes, d) => bytes.length + uptoBulk d + 1
  | (_, d) => uptoBulk d + 1
 end
def uptoSmall : (H : Type) → List (DataW H) → Bool := fun _ ds => decide (uptoBulkAll ds ≤ 1048576)
def OpenSpec.upto (s : _root_.Go.ChangeSpec) : _root_.Go.OpenSpec := { _root_.Go.OpenSpec.ofChange s with cond := some uptoSmall }

/-- 'dofferlaw10.MatchEnds', WHERE WHAT IT READS IS OF BULK AT MOST 1048576: true; the input reads as it did. -/
def matchEndsUptoRow : OpenClaim := { program := "ytobbifhflnlplaadoor", sum := "32d66d49707c393f3b5236e6010ef007cb0874f184b8aa61ed8d3b04a8060a99", func := "doffer/dofferlaw10.MatchEnds", spec := "matchEnds", inPlace := ["internal/bytealg.IndexByteString"], unfollowed := true, recurses := true, named := ["doffer/api.ErrShort", "doffer/api.ErrDepth", "doffer/api.ErrLimit", "doffer/api.ErrForm", "doffer/api.ErrRange", "doffer/api.ErrName"], loops := true, apart := false, laid := [("doffer/api.ErrRange", laid_doffer_api_ErrRange), ("doffer/api.ErrShort", laid_doffer_api_ErrShort), ("doffer/api.ErrForm", laid_doffer_api_ErrForm), ("doffer/api.ErrName", laid_doffer_api_ErrName), ("doffer/api.ErrDepth", laid_doffer_api_ErrDepth), ("doffer/api.ErrLimit", laid_doffer_api_ErrLimit)], narrowed := true }
def MatchEndsUptoSaid : Prop := matchEndsUptoRow.holds Tryd.pinned (OpenSpec.upto matchEndsSpec)

/-- 'dofferlaw10.MatchBest', WHERE WHAT IT READS IS OF BULK AT MOST 1048576: true; the input reads as it did. -/
def matchBestUptoRow : OpenClaim := { program := "ytobbifhflnlplaadoor", sum := "32d66d49707c393f3b5236e6010ef007cb0874f184b8aa61ed8d3b04a8060a99", func := "doffer/dofferlaw10.MatchBest", spec := "matchBest", inPlace := ["internal/bytealg.IndexByteString"], unfollowed := true, recurses := true, named := ["doffer/api.ErrShort", "doffer/api.ErrDepth", "doffer/api.ErrLimit", "doffer/api.ErrForm", "doffer/api.ErrRange", "doffer/api.ErrName"], loops := true, apart := false, laid := [("doffer/api.ErrRange", laid_doffer_api_ErrRange), ("doffer/api.ErrShort", laid_doffer_api_ErrShort), ("doffer/api.ErrForm", laid_doffer_api_ErrForm), ("doffer/api.ErrName", laid_doffer_api_ErrName), ("doffer/api.ErrDepth", laid_doffer_api_ErrDepth), ("doffer/api.ErrLimit", laid_doffer_api_ErrLimit)], narrowed := true }
def MatchBestUptoSaid : Prop := matchBestUptoRow.holds Tryd.pinned (OpenSpec.upto matchBestSpec)

/-- 'dofferlaw10.MatchLaws', WHERE WHAT IT READS IS OF BULK AT MOST 1048576: true; the input reads as it did. -/
def matchLawsUptoRow : OpenClaim := { program := "ytobbifhflnlplaadoor", sum := "32d66d49707c393f3b5236e6010ef007cb0874f184b8aa61ed8d3b04a8060a99", func := "doffer/dofferlaw10.MatchLaws", spec := "matchLaws", inPlace := ["internal/bytealg.IndexByteString"], unfollowed := true, recurses := true, named := ["doffer/api.ErrShort", "doffer/api.ErrDepth", "doffer/api.ErrLimit", "doffer/api.ErrForm", "doffer/api.ErrRange", "doffer/api.ErrName"], loops := true, apart := false, laid := [("doffer/api.ErrRange", laid_doffer_api_ErrRange), ("doffer/api.ErrShort", laid_doffer_api_ErrShort), ("doffer/api.ErrForm", laid_doffer_api_ErrForm), ("doffer/api.ErrName", laid_doffer_api_ErrName), ("doffer/api.ErrDepth", laid_doffer_api_ErrDepth), ("doffer/api.ErrLimit", laid_doffer_api_ErrLimit)], narrowed := true }
def MatchLawsUptoSaid : Prop := matchLawsUptoRow.holds Tryd.pinned (OpenSpec.upto matchLawsSpec)

/-- 'dofferlaw10.MatchEmpty', WHERE WHAT IT READS IS OF BULK AT MOST 1048576: true; the input reads as it did. -/
def matchEmptyUptoRow : OpenClaim := { program := "ytobbifhflnlplaadoor", sum := "32d66d49707c393f3b5236e6010ef007cb0874f184b8aa61ed8d3b04a8060a99", func := "doffer/dofferlaw10.MatchEmpty", spec := "matchEmpty", inPlace := ["internal/bytealg.IndexByteString"], unfollowed := true, recurses := true, named := ["doffer/api.ErrShort", "doffer/api.ErrDepth", "doffer/api.ErrLimit", "doffer/api.ErrForm", "doffer/api.ErrRange", "doffer/api.ErrName"], loops := true, apart := false, laid := [("doffer/api.ErrRange", laid_doffer_api_ErrRange), ("doffer/api.ErrShort", laid_doffer_api_ErrShort), ("doffer/api.ErrForm", laid_doffer_api_ErrForm), ("doffer/api.ErrName", laid_doffer_api_ErrName), ("doffer/api.ErrDepth", laid_doffer_api_ErrDepth), ("doffer/api.ErrLimit", laid_doffer_api_ErrLimit)], narrowed := true }
def MatchEmptyUptoSaid : Prop := matchEmptyUptoRow.holds Tryd.pinned (OpenSpec.upto matchEmptySpec)

end Rows
end Go.Proofs.YtobbifhflnlplaaDoor
