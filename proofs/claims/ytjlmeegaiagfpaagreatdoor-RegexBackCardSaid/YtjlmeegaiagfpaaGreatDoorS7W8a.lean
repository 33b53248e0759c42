/- The reference's one. -/
import Derived.Test.YtjlmeegaiagfpaaGreatDoorS7B
namespace Go.Proofs.YtjlmeegaiagfpaaGreatDoor.S7
open Go.RowKit
open Go.Tree7
open S5 (nl nl_length nl_small at_nl nl_at)
theorem emptyStr : (⟨#[]⟩ : ByteArray).toList.isEmpty = true := by rw [ByteArray.toList_eq]; rfl
theorem uW4 : Tryz.prog.underlying 23 = some (.array 4 22) := by kernel_rfl
theorem eqW4 (a0 a1 a2 a3 b0 b1 b2 b3 : Int) (w : World) : (Op.equalIn 10000 23 (.agg #[.int .u64 a0, .int .u64 a1, .int .u64 a2, .int .u64 a3]) (.agg #[.int .u64 b0, .int .u64 b1, .int .u64 b2, .int .u64 b3])).run Tryz.prog w =
    .ok ((a0 == b0) && (a1 == b1) && (a2 == b2) && (a3 == b3)) w := by
  obtain ⟨i, hi⟩ := S1.i26
  rw [run_equalIn_array w 9999 _ _ uW4 hi, S1.c26]
  have hr : List.range 4 = [0, 1, 2, 3] := rfl
  rw [hr]
  simp only [Op.eqItems, Sem.run_bind]
  simp [go_sem]
  by_cases h0 : a0 = b0 <;> by_cases h1 : a1 = b1 <;> by_cases h2 : a2 = b2 <;> by_cases h3 : a3 = b3 <;> simp [*]
end Go.Proofs.YtjlmeegaiagfpaaGreatDoor.S7
