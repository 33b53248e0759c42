/- A bracket expression: the reference's Read, as a whole. -/
import Derived.Test.YtaahefhiiggagaaDoorW6
import Derived.Test.YtaahefhiiggagaaDoorW7
import Derived.Test.YtaahefhiiggagaaDoorW8
namespace Go.Proofs.YtaahefhiiggagaaDoor
open Go.RowKit
open S5 (nl nl_length nl_small at_nl nl_at Rd Sp Gives Two errV)
open S1 (Blk4 SetBox BoolRow wd noS oneS spanS orS notS spU eqB)
set_option maxRecDepth 100000 in
set_option maxHeartbeats 4000000 in
theorem rread_out {s : ByteArray} {i : Int} (hi : i < 0 ∨ (s.size : Int) ≤ i) (hm : s.size ≤ 99990) (w : World) :
    Gives 13 #[.string s, .int .i64 i] (.tuple #[(.agg #[.int .u64 0, .int .u64 0, .int .u64 0, .int .u64 0]), .int .i64 s.size, .int .i64 2]) w := by
  unfold Gives
  obtain ⟨W, hW, b0, b1, hB⟩ := S1.boxes2 w 23 23 (.int .u64 0) (.int .u64 0) (.int .u64 0) (.int .u64 0) (.int .u64 0) (.int .u64 0) (.int .u64 0) (.int .u64 0)
  replace hW := Lib.hid hW
  rcases hi with hi | hi
  all_goals
    have gd : decide ((s.size : Int) ≤ i) = true ∨ decide (i < 0) = true := by simp; omega
    go_enter Tryd.func13, Tryd.ntmps13
    go_wp2
    all_goals first | (exfalso; omega) | skip
    all_goals
      obtain ⟨⟨c0, c1, c2, c3⟩, -⟩ := b0.facts
      rw [hW.out]
      refine bodyPost_ret (v := .tuple #[(.agg #[.int .u64 0, .int .u64 0, .int .u64 0, .int .u64 0]), .int .i64 s.size, .int .i64 2]) (by simp [results, Tryd.results13, go_sem, c0, c1, c2, c3]) rfl ?_
      exact ⟨rfl, hB⟩
set_option maxRecDepth 100000 in
set_option maxHeartbeats 4000000 in
theorem rread_other {s : ByteArray} {k c : Nat} (h0 : (nl s)[k]? = some c) (hc : c ≠ 91) (hm : s.size ≤ 99990) (w : World) :
    Gives 13 #[.string s, .int .i64 k] (.tuple #[(.agg #[.int .u64 0, .int .u64 0, .int .u64 0, .int .u64 0]), .int .i64 k, .int .i64 4]) w := by
  obtain ⟨hlt, hat⟩ := at_nl h0
  have hx : ((c : Int) == 91) = false := by simp; omega
  have hx2 : ((c : Int) != 91) = true := by simp; omega
  clear h0 hc
  unfold Gives
  obtain ⟨W, hW, b0, b1, hB⟩ := S1.boxes2 w 23 23 (.int .u64 0) (.int .u64 0) (.int .u64 0) (.int .u64 0) (.int .u64 0) (.int .u64 0) (.int .u64 0) (.int .u64 0)
  replace hW := Lib.hid hW
  go_enter Tryd.func13, Tryd.ntmps13
  go_wp2
  obtain ⟨⟨c0, c1, c2, c3⟩, -⟩ := b0.facts
  rw [hW.out]
  refine bodyPost_ret (v := .tuple #[(.agg #[.int .u64 0, .int .u64 0, .int .u64 0, .int .u64 0]), .int .i64 k, .int .i64 4]) (by simp [results, Tryd.results13, go_sem, c0, c1, c2, c3]) rfl ?_
  exact ⟨rfl, hB⟩
theorem rread_in {s : ByteArray} (hm : s.size ≤ 99990) {i : Int} {f : Nat → Bool} {t : Int} {e : Nat} (h : Br (nl s) i f t e) (w : World) :
    Gives 13 #[.string s, .int .i64 i] (roV f t e) w := by
  have hn := nl_length s
  have pos : ∀ {k : Nat} {P : List (Nat × Nat)} {t : Int} {e : Nat}, (nl s)[k]? = some 91 → (nl s)[k + 1]? ≠ some 94 → Its (nl s) true (k + 1) P t e → Gives 13 #[.string s, .int .i64 k] (roV (spU P) t e) w := fun {k P t e} h1 h2 h3 => by
    by_cases hz : k + 1 < s.size
    · exact rread_pos1 hm h1 h2 h3 hz w
    · exact rread_pos2 hm h1 h2 h3 hz w
  cases h with
  | outside _ h1 => rw [hn] at h1 ⊢; exact rread_out h1 hm w
  | other k c h1 h2 => exact rread_other h1 h2 hm w
  | ok k ps _ h1 h2 h3 => exact pos h1 h2 h3
  | okNot k ps _ h1 h2 h3 => exact rread_not hm h1 h2 h3 w
  | bad k ps _ _ h1 h2 h3 h4 =>
    have := pos h1 h2 h3
    rw [roV_err _ _ h4] at this ⊢
    exact this
  | badNot k ps _ _ h1 h2 h3 h4 =>
    have := rread_not hm h1 h2 h3 w
    rw [roV_err _ _ h4] at this ⊢
    exact this
theorem its_err {l : List Nat} {b : Bool} {k : Nat} {ps : List (Nat × Nat)} {t : Int} {e : Nat} (h : Its l b k ps t e) : e = 0 ∨ e = 1 ∨ e = 2 ∨ e = 4 := by
  induction h with
  | close => simp
  | bad1 _ _ _ _ _ h => rcases one_err h with h | h | h <;> omega
  | one _ _ _ _ _ _ _ _ _ _ _ ih => exact ih
  | bad2 _ _ _ _ _ _ _ _ _ h => rcases one_err h with h | h | h <;> omega
  | down => simp
  | span _ _ _ _ _ _ _ _ _ _ _ _ _ _ _ ih => exact ih
theorem br_err {l : List Nat} {i : Int} {f : Nat → Bool} {t : Int} {e : Nat} (h : Br l i f t e) : e = 0 ∨ e = 1 ∨ e = 2 ∨ e = 4 := by
  cases h with
  | outside => simp
  | other => simp
  | ok => simp
  | okNot => simp
  | bad _ _ _ _ _ _ h => exact its_err h
  | badNot _ _ _ _ _ _ h => exact its_err h
end Go.Proofs.YtaahefhiiggagaaDoor
