/- A sum's four bytes: the program's array, the reference's slice. -/
import Derived.Test.YtficnnlajpfkbaaDoorW3
import Derived.Handy
namespace Go.Proofs.YtficnnlajpfkbaaDoor
open Go.RowKit
set_option maxRecDepth 100000 in
set_option maxHeartbeats 1000000 in
theorem written_in (n : Nat) (hn : n < 2 ^ 32) (w : World) :
    Calls Tryd.prog 16 #[.int .i64 n] w fun e w' => e = .returned (.agg (row (fourL n))) ∧ Below w.heap.size w w' := by
  have e0 : row (fourL n) = #[.int .u8 ((n : Int) % 256), .int .u8 ((n : Int) / 256 % 256), .int .u8 ((n : Int) / 65536 % 256), .int .u8 ((n : Int) / 16777216 % 256)] := by
    have h4 : ((n / 16777216 : Nat) : Int) = (n : Int) / 16777216 % 256 := by omega
    simp only [row, fourL, List.map_cons, List.map_nil, encN, h4]
    simp
  rw [e0]
  clear e0
  replace hn := Lib.hid hn
  go_enter Tryd.func16, Tryd.ntmps16
  go_wp2
  go_rounds 5
  try simp only [Exit.inBlock, Exit.then]
  refine bodyPost_ret (v := .agg #[.int .u8 ((n : Int) % 256), .int .u8 ((n : Int) / 256 % 256), .int .u8 ((n : Int) / 65536 % 256), .int .u8 ((n : Int) / 16777216 % 256)]) (by simp [results, Tryd.results16, go_sem]) rfl ⟨rfl, ?_⟩
  exact ((Below.refl _ _).alloc (by simp) _).alloc (by simp) _

def Gives4 (w0 : World) (n : Nat) (e : Ending) (w' : World) : Prop := ∃ g, e = .returned (.slice (some ⟨g, 0, none⟩) 4 4) ∧ w0.heap.size ≤ g ∧ w'.heap[g]? = some (.cells (row (fourL n)) 5 (0, 0)) ∧ Below w0.heap.size w0 w'
set_option maxRecDepth 100000 in
set_option maxHeartbeats 1000000 in
theorem four_in (n : Nat) (hn : n < 2 ^ 32) (w : World) : Calls Tryd.prog 13 #[.int .u32 n] w (Gives4 w n) := by
  have e0 : row (fourL n) = #[.int .u8 ((n : Int) % 256), .int .u8 ((n : Int) / 256 % 256), .int .u8 ((n : Int) / 65536 % 256), .int .u8 ((n : Int) / 16777216)] := by
    simp only [row, fourL, List.map_cons, List.map_nil, encN]
    simp
  have d1 : (n : Int) / 256 % 4294967296 = (n : Int) / 256 := by omega
  have d2 : (n : Int) / 65536 % 4294967296 = (n : Int) / 65536 := by omega
  have d3 : (n : Int) / 16777216 % 4294967296 = (n : Int) / 16777216 := by omega
  have d4 : (n : Int) / 16777216 % 256 = (n : Int) / 16777216 := by omega
  unfold Gives4
  rw [e0]
  clear e0
  replace hn := Lib.hid hn
  go_enter Tryd.func13, Tryd.ntmps13
  go_wp2
  go_ret
  refine ⟨w.heap.size, rfl, Nat.le_refl _, ?_, (Below.refl _ _).alloc (by simp) _⟩
  rw [World.alloc_heap_new]
end Go.Proofs.YtficnnlajpfkbaaDoor
