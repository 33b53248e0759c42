/- TreeTells: mathematics; the loop over the steps. -/
import Derived.Test.YtbkmoaollooomaaDoorW32
import Derived.Test.YtbkmoaollooomaaDoorW30
import Derived.Test.YtbkmoaollooomaaDoorW19
namespace Go.Proofs.YtbkmoaollooomaaDoor
open Go.RowKit
open Go.Tree7
/-- The deepest level of the steps. -/
def deepS (S : List Step) : Nat := (S.map Step.level).foldl max 0
theorem deepS_snoc (S : List Step) (s : Step) : deepS (S ++ [s]) = max (deepS S) s.level := by simp [deepS]
theorem deep_all (t : T) : deepOf (allT t) = deepS (allS t) := by
  unfold deepOf deepS
  rw [allS_map, List.map_map]
  congr 1
  refine List.map_congr_left fun x _ => ?_
  simp only [Function.comp_apply]
  cases x.2
  rfl
theorem count_all (t : T) : (allT t).length = (allS t).length := by rw [allS_map, List.length_map]
theorem own_none {w : World} {base g : Nat} (h : w.heap[g]? = some (.cells #[] 9 (0, 0))) (hb : base ≤ g) : w.ownsRow base 9 1 (.slice (some ⟨g, 0, none⟩) 0 0) 0 ([].map Value.string) :=
  ⟨rfl, .inr ⟨g, 0, #[], rfl, hb, h, by simp, Nat.zero_le _, rfl, rfl⟩⟩
theorem heavy_no {t : T} (h : heavyB t = false) : t.size < 2000 := by
  unfold heavyB at h
  simp only [Bool.or_eq_false_iff, decide_eq_false_iff_not] at h
  omega
/-- The names so far in a row of one's own. -/
structure NRow (w W : World) (B : Nat) (v : Value) (l : List ByteArray) : Prop where
  own : ∃ (p : Option Addr) (cap : Nat), v = .slice p l.length cap ∧ W.ownsRow B 9 1 v l.length (l.map Value.string)
  bel : Below B w W
end Go.Proofs.YtbkmoaollooomaaDoor
