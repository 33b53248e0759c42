/- The table of math/bits: what its datum says. -/
import Derived.Test.YtjlmeegaiagfpaaGreatDoorRows
import Derived.Test.YtjlmeegaiagfpaaGreatDoorLP
import Derived.Test.YtjlmeegaiagfpaaGreatDoorS1A
namespace Go.Proofs.YtjlmeegaiagfpaaGreatDoor
open Go.ChangeShapes Go.WideShapes Go.ChangeAt Go.WideMaps Go.WideElems Go.RowKit
theorem gTab : Tryz.prog.globalNamed "math/bits.deBruijn64tab" = some 7 := by kernel_rfl
theorem tTab : (Tryz.prog.globals[7]?).map (·.type) = some 126 := by kernel_rfl
theorem uTab : Tryz.prog.underlying 126 = some (.array 64 5) := by kernel_rfl
theorem cB1 : Tryz.prog.cellsOf 5 = 1 := by kernel_rfl
theorem uB1 : Tryz.prog.underlying 5 = some (.int .u8) := by kernel_rfl
def tabL : List Nat := [0, 1, 56, 2, 57, 49, 28, 3, 61, 58, 42, 50, 38, 29, 17, 4, 62, 47, 59, 36, 45, 43, 51, 22, 53, 39, 33, 30, 24, 18, 12, 5, 63, 55, 48, 27, 60, 41, 37, 16, 46, 35, 44, 21, 52, 32, 23, 11, 54, 26, 40, 15, 34, 20, 31, 10, 25, 14, 19, 9, 13, 8, 7, 6]
theorem tab_ix : ∀ t : Nat, t < 64 → tabL[S1.tabIx t]? = some t := by decide +kernel
end Go.Proofs.YtjlmeegaiagfpaaGreatDoor
