/- alive: the chapter's example; the walk of MarksKeys. -/
import Derived.Test.YtkdjojmegohonaaDoorW6
namespace Go.Proofs.YtkdjojmegohonaaDoor
open Go.RowKit
theorem exKey : strN (keyN (mem (orS noS (oneS 3)) 5)) = ⟨#[0, 0, 0, 3]⟩ := by kernel_rfl
set_option maxHeartbeats 1000000 in
theorem alive_in (w : World) (hT : Tab w) : Calls Tryd.prog 5 #[] w fun e w' => e = .returned (.bool true) ∧ Below w.heap.size w w' := by
  have N5 : Calls Tryd.prog 6 #[.int .i64 5] w _ := new_in 5 (by decide) w
  go_enter Tryd.func5, Tryd.ntmps5
  go_wp2_with (first
    | (go_at_call 6; refine N5.mono ?_; rintro e w1 ⟨b, g, rfl, hM, hb, hg, hB⟩; have hP : Calls Tryd.prog 7 #[.pointer (some ⟨b, 0, none⟩), .int .i64 3] w1 _ := put_new hM (i := 3) (by decide) rfl; replace hM := Lib.hid hM; replace hP := Lib.hid hP; replace hB := Lib.hid hB)
    | (go_at_call 7; refine hP.out.mono ?_; rintro e w2 ⟨rfl, hM2, hgr⟩; replace hB := Lib.hid (hB.out.grown hgr hB.out.size (fun k e => by cases e; exact hg)); replace hM2 := Lib.hid hM2)
    | (go_at_call 19; have hT2 := hT.below hB.out hT.1; refine (key_in hM2.out hT2).mono ?_; rintro e w3 ⟨rfl, hb3⟩; rw [exKey]; replace hB := Lib.hid (hB.out.trans (hb3.mono hB.out.size))))
  go_ret
  exact ⟨rfl, hB.out⟩
end Go.Proofs.YtkdjojmegohonaaDoor
