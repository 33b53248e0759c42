/- RegexOpen, walked. -/
import Derived.Test.YtjlmeegaiagfpaaGreatDoorW29
import Derived.Test.YtjlmeegaiagfpaaGreatDoorS7E
namespace Go.Proofs.YtjlmeegaiagfpaaGreatDoor
open Go.RowKit
open Go.Tree7
open S7
open S5 (nl nl_length nl_small at_nl nl_at Gives idx idx_at ix ix_no ix_yes)
/-- The error values by their numbers. -/
abbrev VA (A : Nat → Addr) : Nat → Value := fun e => .pointer (some (A (e - 1)))
theorem sts_run {l : List Nat} {p p' : List Op} {b b' : Bool} {k k' : Nat} {out : Out} (h : Sts l p b k p' b' k') (hr : Run l p' b' k' out) : Run l p b k out := by
  induction h with
  | refl => exact hr
  | head h _ ih => exact .step h (ih hr)
theorem run_sts {l : List Nat} {p : List Op} {b : Bool} {k : Nat} {t : T} (h : Run l p b k (.tree t)) : ∃ o b', t = closedT o ∧ Sts l p b k [o] b' l.length := by
  generalize ho : Out.tree t = out at h
  induction h with
  | step hst _ ih => obtain ⟨o, b', h1, h2⟩ := ih ho; exact ⟨o, b', h1, .head hst h2⟩
  | tree o b k hk => cases ho; subst hk; exact ⟨o, b, rfl, .refl ..⟩
  | short => cases ho
  | mark => cases ho
  | close => cases ho
  | atom => cases ho
theorem run_plain {l : List Nat} {t : T} (h : Run l [([], [])] false 0 (.tree t)) : Pl t := by
  obtain ⟨o, b', rfl, h2⟩ := run_sts h
  exact pl_closed (sts_plain h2 (fun o ho => by simp at ho; subst ho; exact ⟨fun t ht => by simp at ht, fun t ht => by simp at ht⟩) o (by simp))
/-- Within the limits, or not. -/
def Fine (out : Out) : Prop := ∃ t, out = .tree t ∧ deepOf (allT t) ≤ 24 ∧ (allT t).length ≤ 600
theorem parse_err {s : ByteArray} {out : Out} (hrun : Run (nl s) [([], [])] false 0 out) (hf : ¬ Fine out) (hm : s.size ≤ 99999990) {V : Nat → Value} (w : World) (hS : Six w V) :
    Calls Tryz.prog 10 #[.string s] w fun e w' => (∃ (n : Int) (er : Nat), e = .returned (.tuple #[.agg #[.int .i64 0, .int .u64 0, .int .u64 0, .int .u64 0, .int .u64 0, .slice none 0 0, .int .i64 0, .int .i64 0, .string ⟨#[]⟩], .int .i64 n, .iface 135 (V er)])) ∧ Below w.heap.size w w' := by
  refine (parse_in hrun hm w hS).mono ?_
  rintro e w' ⟨hb, h⟩
  refine ⟨?_, hb⟩
  cases out with
  | bad n er => exact ⟨n, er, h⟩
  | tree t =>
    rcases h with ⟨h, h2⟩ | ⟨h0, h, h2⟩ | ⟨h1, h2, -⟩
    · exact ⟨_, _, h2⟩
    · exact ⟨_, _, h2⟩
    · exact absurd ⟨t, rfl, h1, h2⟩ hf
theorem parse_bad {s : ByteArray} {n : Int} {er : Nat} (hrun : Run (nl s) [([], [])] false 0 (.bad n er)) (hm : s.size ≤ 99999990) {V : Nat → Value} (w : World) (hS : Six w V) :
    Calls Tryz.prog 10 #[.string s] w fun e w' => e = .returned (.tuple #[.agg #[.int .i64 0, .int .u64 0, .int .u64 0, .int .u64 0, .int .u64 0, .slice none 0 0, .int .i64 0, .int .i64 0, .string ⟨#[]⟩], .int .i64 n, .iface 135 (V er)]) ∧ Below w.heap.size w w' :=
  (parse_in hrun hm w hS).mono fun _ _ h => ⟨h.2, h.1⟩
theorem same_of {t a b : T} (hp : Pl t) (h1 : deepOf (allT t) ≤ 24) (h2 : (allT t).length ≤ 600) (ha : a.strip = t.strip) (hb : b.strip = t.strip) : sameT a b = true := by
  obtain ⟨h3, h4⟩ := small_of h1 h2
  unfold sameT
  rw [Bool.and_eq_true, right_of_strip ha, rightB_iff, eqT_iff, ha, hb]
  exact ⟨pl_right hp h3 h4, rfl⟩
end Go.Proofs.YtjlmeegaiagfpaaGreatDoor
