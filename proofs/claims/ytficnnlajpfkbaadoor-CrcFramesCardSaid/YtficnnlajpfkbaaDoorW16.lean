/- CrcFrames returns true at every list of bytes; it asks that the list lie in memory, that the table of halves lie in block 0 and that the error values lie in their variables. -/
import Derived.Test.YtficnnlajpfkbaaDoorW13
import Derived.Test.YtficnnlajpfkbaaDoorW15
namespace Go.Proofs.YtficnnlajpfkbaaDoor
open Go.RowKit
set_option maxRecDepth 100000 in
theorem framelaw_in (a : Option Addr) (c : Nat) (l : List Nat) (A : Nat → Addr) (w : World) (hs : Src w a l.length c l) (hT : Tab w) (hE : Errs w A) (hn : l.length ≤ 9223372036854775807) :
    Calls Tryd.prog 4 #[.slice a l.length c] w fun e w' => e = .returned (.bool true) ∧ Below w.heap.size w w' := by
  by_cases hm : l.length ≤ 2000
  · rcases Nat.lt_or_ge l.length 4 with h4 | h4
    · exact frames_short a l.length c l A w rfl hs hT hE h4
    · obtain ⟨m, hnm⟩ : ∃ m, l.length = m + 4 := ⟨l.length - 4, by omega⟩
      have hd : (l.drop m).length = 4 := by simp; omega
      have hx : (l.take m).length = m := by simp; omega
      obtain ⟨y0, y1, y2, y3, hy⟩ : ∃ y0 y1 y2 y3, l.drop m = [y0, y1, y2, y3] := by
        match l.drop m, hd with
        | [y0, y1, y2, y3], _ => exact ⟨y0, y1, y2, y3, rfl⟩
      have hl : l = l.take m ++ [y0, y1, y2, y3] := by rw [← hy, List.take_append_drop]
      cases hf : fits (l.take m) [y0, y1, y2, y3]
      · exact frames_no a l.length c l (l.take m) y0 y1 y2 y3 m A w hl hx hnm rfl hs hT hE hm hf
      · exact frames_yes a l.length c l (l.take m) y0 y1 y2 y3 m A w hl hx hnm rfl hs hT hE hm hf
  · have hA := alive_in w hT
    replace hA := Lib.hid hA
    have h2' : (2000 < (l.length : Int)) := by omega
    clear hs hT hE
    go_enter Tryd.func4, Tryd.ntmps4
    go_wp2_with (go_at_call 6; refine hA.out.mono ?_; rintro e w1 ⟨rfl, hb1⟩; replace hb1 := Lib.hid hb1)
    go_ret
    exact ⟨rfl, hb1.out⟩
end Go.Proofs.YtficnnlajpfkbaaDoor
