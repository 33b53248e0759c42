/- The reference's one. -/
import Derived.Test.YtjlmeegaiagfpaaGreatDoorS7W8a
namespace Go.Proofs.YtjlmeegaiagfpaaGreatDoor.S7
open Go.RowKit
open Go.Tree7
open S5 (nl nl_length nl_small at_nl nl_at)
end Go.Proofs.YtjlmeegaiagfpaaGreatDoor.S7
