/- WriteString, String; Text. -/
import Derived.Lib.Builder
import Derived.Lib.AppendStr
import Derived.Lib.UnsafeStr
import Derived.Test.YtobbifhflnlplaaDoorS5A
namespace Go.Proofs.YtobbifhflnlplaaDoor.S5
open Go.RowKit
/-! ### Text -/
def pl (c : Nat) : List Nat :=
 if c = 10 then [92, 110] else if c = 9 then [92, 116] else if c = 13 then [92, 114] else if c = 32 then [92, 115]
 else if c ∈ out then [92, c] else if 33 ≤ c ∧ c ≤ 126 then [c] else [92, 120, hx (c / 16), hx (c % 16)]
def txt (l : List Nat) : List Nat := l.flatMap pl
end Go.Proofs.YtobbifhflnlplaaDoor.S5
