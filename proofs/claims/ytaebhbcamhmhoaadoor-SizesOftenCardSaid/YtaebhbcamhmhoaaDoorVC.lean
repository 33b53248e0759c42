/- Texts merged: S9V6c, S9V8. -/
import Derived.Deep.CutBlock
import Derived.Deep.DeepCutAuto
import Derived.Test.YtaebhbcamhmhoaaDoorS9V5b
import Derived.Test.YtaebhbcamhmhoaaDoorS9V6tt
import Derived.Test.YtaebhbcamhmhoaaDoorS9V6tf
import Derived.Test.YtaebhbcamhmhoaaDoorS9V6ft
import Derived.Test.YtaebhbcamhmhoaaDoorS9V6ff
import Derived.Test.YtaebhbcamhmhoaaDoorLL
namespace Go.Proofs.YtaebhbcamhmhoaaDoor
open Go.RowKit
open Go.Tree7
open S7
open S5 (nl nl_length nl_small at_nl nl_at Gives idx idx_at ix ix_no ix_yes)
theorem thn9_in {L M : Lg} (h : OkL L) (h' : OkL M) (w : World) : Calls Tryd.prog 60 #[(.agg #[.int .i64 L.lo, .int .i64 L.hi, .int .u64 (S1.wd (L.fs) 0), .int .u64 (S1.wd (L.fs) 1), .int .u64 (S1.wd (L.fs) 2), .int .u64 (S1.wd (L.fs) 3), .int .u64 (S1.wd (L.ls) 0), .int .u64 (S1.wd (L.ls) 1), .int .u64 (S1.wd (L.ls) 2), .int .u64 (S1.wd (L.ls) 3), .int .u64 (S1.wd (L.al) 0), .int .u64 (S1.wd (L.al) 1), .int .u64 (S1.wd (L.al) 2), .int .u64 (S1.wd (L.al) 3)]), (.agg #[.int .i64 M.lo, .int .i64 M.hi, .int .u64 (S1.wd (M.fs) 0), .int .u64 (S1.wd (M.fs) 1), .int .u64 (S1.wd (M.fs) 2), .int .u64 (S1.wd (M.fs) 3), .int .u64 (S1.wd (M.ls) 0), .int .u64 (S1.wd (M.ls) 1), .int .u64 (S1.wd (M.ls) 2), .int .u64 (S1.wd (M.ls) 3), .int .u64 (S1.wd (M.al) 0), .int .u64 (S1.wd (M.al) 1), .int .u64 (S1.wd (M.al) 2), .int .u64 (S1.wd (M.al) 3)])] w fun e w' => e = .returned (.agg #[.int .i64 (thnL L M).lo, .int .i64 (thnL L M).hi, .int .u64 (S1.wd ((thnL L M).fs) 0), .int .u64 (S1.wd ((thnL L M).fs) 1), .int .u64 (S1.wd ((thnL L M).fs) 2), .int .u64 (S1.wd ((thnL L M).fs) 3), .int .u64 (S1.wd ((thnL L M).ls) 0), .int .u64 (S1.wd ((thnL L M).ls) 1), .int .u64 (S1.wd ((thnL L M).ls) 2), .int .u64 (S1.wd ((thnL L M).ls) 3), .int .u64 (S1.wd ((thnL L M).al) 0), .int .u64 (S1.wd ((thnL L M).al) 1), .int .u64 (S1.wd ((thnL L M).al) 2), .int .u64 (S1.wd ((thnL L M).al) 3)]) ∧ Below w.heap.size w w' := by
  obtain ⟨lo, hi, F, G, H⟩ := L
  obtain ⟨lo', hi', F', G', H'⟩ := M
  by_cases h1 : lo = -1
  · have e : thnL ⟨lo, hi, F, G, H⟩ ⟨lo', hi', F', G', H'⟩ = voidL := by unfold thnL; rw [if_pos (Or.inl h1)]
    rw [e]
    exact then_left F G H F' G' H' h1 w
  · by_cases h2 : lo' = -1
    · have e : thnL ⟨lo, hi, F, G, H⟩ ⟨lo', hi', F', G', H'⟩ = voidL := by unfold thnL; rw [if_pos (Or.inr h2)]
      rw [e]
      have h3 := h.lo
      exact then_right (lo := lo) (hi := hi) (lo' := lo') (hi' := hi') F G H F' G' H' (by simp only at h3; omega) h2 w
    · have e : thnL ⟨lo, hi, F, G, H⟩ ⟨lo', hi', F', G', H'⟩ = ⟨cut20 (lo + lo'), cut20 (hi + hi'), if lo = 0 then S1.orS F F' else F, if lo' = 0 then S1.orS G' G else G', S1.orS H H'⟩ := by unfold thnL; rw [if_neg (by simp only; omega)]
      rw [e]
      rcases h with h | ⟨a, b⟩
      · cases h; exact absurd rfl h1
      · rcases h' with h' | ⟨a', b'⟩
        · cases h'; exact absurd rfl h2
        · by_cases g1 : lo = 0
          · by_cases g2 : lo' = 0
            · rw [if_pos g1, if_pos g2]
              exact then_tt F G H F' G' H' a a' b b' (by simp [g1]) (by simp [g2]) w
            · rw [if_pos g1, if_neg g2]
              exact then_tf F G H F' G' H' a a' b b' (by simp [g1]) (by simp [g2]) w
          · by_cases g2 : lo' = 0
            · rw [if_neg g1, if_pos g2]
              exact then_ft F G H F' G' H' a a' b b' (by simp [g1]) (by simp [g2]) w
            · rw [if_neg g1, if_neg g2]
              exact then_ff F G H F' G' H' a a' b b' (by simp [g1]) (by simp [g2]) w
theorem eor9_in {L M : Lg} (h : OkL L) (h' : OkL M) (w : World) : Calls Tryd.prog 61 #[(.agg #[.int .i64 L.lo, .int .i64 L.hi, .int .u64 (S1.wd (L.fs) 0), .int .u64 (S1.wd (L.fs) 1), .int .u64 (S1.wd (L.fs) 2), .int .u64 (S1.wd (L.fs) 3), .int .u64 (S1.wd (L.ls) 0), .int .u64 (S1.wd (L.ls) 1), .int .u64 (S1.wd (L.ls) 2), .int .u64 (S1.wd (L.ls) 3), .int .u64 (S1.wd (L.al) 0), .int .u64 (S1.wd (L.al) 1), .int .u64 (S1.wd (L.al) 2), .int .u64 (S1.wd (L.al) 3)]), (.agg #[.int .i64 M.lo, .int .i64 M.hi, .int .u64 (S1.wd (M.fs) 0), .int .u64 (S1.wd (M.fs) 1), .int .u64 (S1.wd (M.fs) 2), .int .u64 (S1.wd (M.fs) 3), .int .u64 (S1.wd (M.ls) 0), .int .u64 (S1.wd (M.ls) 1), .int .u64 (S1.wd (M.ls) 2), .int .u64 (S1.wd (M.ls) 3), .int .u64 (S1.wd (M.al) 0), .int .u64 (S1.wd (M.al) 1), .int .u64 (S1.wd (M.al) 2), .int .u64 (S1.wd (M.al) 3)])] w fun e w' => e = .returned (.agg #[.int .i64 (eorL L M).lo, .int .i64 (eorL L M).hi, .int .u64 (S1.wd ((eorL L M).fs) 0), .int .u64 (S1.wd ((eorL L M).fs) 1), .int .u64 (S1.wd ((eorL L M).fs) 2), .int .u64 (S1.wd ((eorL L M).fs) 3), .int .u64 (S1.wd ((eorL L M).ls) 0), .int .u64 (S1.wd ((eorL L M).ls) 1), .int .u64 (S1.wd ((eorL L M).ls) 2), .int .u64 (S1.wd ((eorL L M).ls) 3), .int .u64 (S1.wd ((eorL L M).al) 0), .int .u64 (S1.wd ((eorL L M).al) 1), .int .u64 (S1.wd ((eorL L M).al) 2), .int .u64 (S1.wd ((eorL L M).al) 3)]) ∧ Below w.heap.size w w' := by
  obtain ⟨lo, hi, F, G, H⟩ := L
  obtain ⟨lo', hi', F', G', H'⟩ := M
  have h3 := h.lo
  have h4 := h'.lo
  simp only at h3 h4
  by_cases h1 : lo = -1
  · have e : eorL ⟨lo, hi, F, G, H⟩ ⟨lo', hi', F', G', H'⟩ = ⟨lo', hi', F', G', H'⟩ := by unfold eorL; rw [if_pos h1]
    rw [e]
    exact or_left F G H F' G' H' h1 w
  · by_cases h2 : lo' = -1
    · have e : eorL ⟨lo, hi, F, G, H⟩ ⟨lo', hi', F', G', H'⟩ = ⟨lo, hi, F, G, H⟩ := by unfold eorL; rw [if_neg h1, if_pos h2]
      rw [e]
      exact or_right (lo := lo) (hi := hi) (lo' := lo') (hi' := hi') F G H F' G' H' (by omega) h2 w
    · have e : eorL ⟨lo, hi, F, G, H⟩ ⟨lo', hi', F', G', H'⟩ = ⟨min lo lo', max hi hi', S1.orS F F', S1.orS G G', S1.orS H H'⟩ := by unfold eorL; rw [if_neg h1, if_neg h2]
      rw [e]
      exact or_both (lo := lo) (hi := hi) (lo' := lo') (hi' := hi') F G H F' G' H' (by omega) (by omega) w
theorem oft9_in {L : Lg} (h : OkL L) {mn mx : Int} (hb : 0 ≤ mn ∧ mn ≤ 40) (hm : mx = -1 ∨ (1 ≤ mx ∧ mx ≤ 40)) (w : World) : Calls Tryd.prog 62 #[(.agg #[.int .i64 L.lo, .int .i64 L.hi, .int .u64 (S1.wd (L.fs) 0), .int .u64 (S1.wd (L.fs) 1), .int .u64 (S1.wd (L.fs) 2), .int .u64 (S1.wd (L.fs) 3), .int .u64 (S1.wd (L.ls) 0), .int .u64 (S1.wd (L.ls) 1), .int .u64 (S1.wd (L.ls) 2), .int .u64 (S1.wd (L.ls) 3), .int .u64 (S1.wd (L.al) 0), .int .u64 (S1.wd (L.al) 1), .int .u64 (S1.wd (L.al) 2), .int .u64 (S1.wd (L.al) 3)]), .int .i64 mn, .int .i64 mx] w fun e w' => e = .returned (.agg #[.int .i64 (oftL L mn mx).lo, .int .i64 (oftL L mn mx).hi, .int .u64 (S1.wd ((oftL L mn mx).fs) 0), .int .u64 (S1.wd ((oftL L mn mx).fs) 1), .int .u64 (S1.wd ((oftL L mn mx).fs) 2), .int .u64 (S1.wd ((oftL L mn mx).fs) 3), .int .u64 (S1.wd ((oftL L mn mx).ls) 0), .int .u64 (S1.wd ((oftL L mn mx).ls) 1), .int .u64 (S1.wd ((oftL L mn mx).ls) 2), .int .u64 (S1.wd ((oftL L mn mx).ls) 3), .int .u64 (S1.wd ((oftL L mn mx).al) 0), .int .u64 (S1.wd ((oftL L mn mx).al) 1), .int .u64 (S1.wd ((oftL L mn mx).al) 2), .int .u64 (S1.wd ((oftL L mn mx).al) 3)]) ∧ Below w.heap.size w w' := by
  rcases h with rfl | ⟨a, b⟩
  · exact times_void mx w
  · obtain ⟨lo, hi, F, G, H⟩ := L
    simp only at a b
    have h1 : ¬ lo = -1 := by have := a.1; omega
    rcases hm with hm | hm
    · by_cases hp : 0 < hi
      · have e : oftL ⟨lo, hi, F, G, H⟩ mn mx = ⟨cut20 (lo * mn), 1048576, F, G, H⟩ := by unfold oftL; rw [if_neg h1, if_pos hm, if_pos hp]
        rw [e]
        exact times_u F G H a b hb hm hp w
      · have e : oftL ⟨lo, hi, F, G, H⟩ mn mx = ⟨cut20 (lo * mn), hi, F, G, H⟩ := by unfold oftL; rw [if_neg h1, if_pos hm, if_neg hp]
        rw [e]
        exact times_z F G H a b hb hm (by have := b.1; omega) w
    · have e : oftL ⟨lo, hi, F, G, H⟩ mn mx = ⟨cut20 (lo * mn), cut20 (hi * mx), F, G, H⟩ := by unfold oftL; rw [if_neg h1, if_neg (by omega)]
      rw [e]
      exact times_b F G H a b hb hm w
end Go.Proofs.YtaebhbcamhmhoaaDoor
namespace Go.Proofs.YtaebhbcamhmhoaaDoor
open Go.RowKit
open Go.Tree7
open S7
open S5 (nl nl_length nl_small at_nl nl_at Gives idx idx_at ix ix_no ix_yes)
theorem zeroL_c : (#[.int .i64 zeroL.lo, .int .i64 zeroL.hi, .int .u64 (S1.wd (zeroL.fs) 0), .int .u64 (S1.wd (zeroL.fs) 1), .int .u64 (S1.wd (zeroL.fs) 2), .int .u64 (S1.wd (zeroL.fs) 3), .int .u64 (S1.wd (zeroL.ls) 0), .int .u64 (S1.wd (zeroL.ls) 1), .int .u64 (S1.wd (zeroL.ls) 2), .int .u64 (S1.wd (zeroL.ls) 3), .int .u64 (S1.wd (zeroL.al) 0), .int .u64 (S1.wd (zeroL.al) 1), .int .u64 (S1.wd (zeroL.al) 2), .int .u64 (S1.wd (zeroL.al) 3)] : Array Value) = #[.int .i64 0, .int .i64 0, .int .u64 0, .int .u64 0, .int .u64 0, .int .u64 0, .int .u64 0, .int .u64 0, .int .u64 0, .int .u64 0, .int .u64 0, .int .u64 0, .int .u64 0, .int .u64 0] := by
  have hz := fun k => S1.no_wd k
  unfold zeroL
  simp only [hz]
  rfl
theorem voidL_c : (#[.int .i64 voidL.lo, .int .i64 voidL.hi, .int .u64 (S1.wd (voidL.fs) 0), .int .u64 (S1.wd (voidL.fs) 1), .int .u64 (S1.wd (voidL.fs) 2), .int .u64 (S1.wd (voidL.fs) 3), .int .u64 (S1.wd (voidL.ls) 0), .int .u64 (S1.wd (voidL.ls) 1), .int .u64 (S1.wd (voidL.ls) 2), .int .u64 (S1.wd (voidL.ls) 3), .int .u64 (S1.wd (voidL.al) 0), .int .u64 (S1.wd (voidL.al) 1), .int .u64 (S1.wd (voidL.al) 2), .int .u64 (S1.wd (voidL.al) 3)] : Array Value) = #[.int .i64 (-1), .int .i64 (-1), .int .u64 0, .int .u64 0, .int .u64 0, .int .u64 0, .int .u64 0, .int .u64 0, .int .u64 0, .int .u64 0, .int .u64 0, .int .u64 0, .int .u64 0, .int .u64 0] := by
  have hz := fun k => S1.no_wd k
  unfold voidL
  simp only [hz]
  rfl
abbrev Der9 (w0 : World) (B0 : Nat) (t : T) : Prop := T.All (fun t => T.ok t = true) t → T.In w0 B0 t → ∀ w, Below B0 w0 w → Calls Tryd.prog 43 #[.agg t.cells.toArray] w fun e w' => e = .returned (.agg #[.int .i64 (lgT t).lo, .int .i64 (lgT t).hi, .int .u64 (S1.wd ((lgT t).fs) 0), .int .u64 (S1.wd ((lgT t).fs) 1), .int .u64 (S1.wd ((lgT t).fs) 2), .int .u64 (S1.wd ((lgT t).fs) 3), .int .u64 (S1.wd ((lgT t).ls) 0), .int .u64 (S1.wd ((lgT t).ls) 1), .int .u64 (S1.wd ((lgT t).ls) 2), .int .u64 (S1.wd ((lgT t).ls) 3), .int .u64 (S1.wd ((lgT t).al) 0), .int .u64 (S1.wd ((lgT t).al) 1), .int .u64 (S1.wd ((lgT t).al) 2), .int .u64 (S1.wd ((lgT t).al) 3)]) ∧ Below w.heap.size w w'
set_option maxRecDepth 10000 in
set_option maxHeartbeats 8000000 in
theorem der_cat {w0 : World} {B0 : Nat} (hn0 : B0 ≤ w0.heap.size) {u0 u1 u2 u3 : Int} {p : Option Addr} {cap : Nat} {mn mx : Int} {tx : ByteArray} {ks : List T} (ih : ∀ t ∈ ks, Der9 w0 B0 t) : Der9 w0 B0 (.mk 2 u0 u1 u2 u3 p cap mn mx tx ks) := by
  intro hA hT w hB0
  have hks : ks.length ≤ 9223372036854775807 := by cases hT with | mk h1 h2 => unfold maxLen at h2; omega
  have hfit : fits 2 u0 u1 u2 u3 mn mx tx := by cases hT with | mk h1 h2 h3 => exact h3
  have hB0w : B0 ≤ w.heap.size := Nat.le_trans hn0 hB0.size
  obtain ⟨ho, hAk⟩ : T.ok (.mk 2 u0 u1 u2 u3 p cap mn mx tx ks) = true ∧ ∀ t ∈ ks, T.All (fun t => T.ok t = true) t := by cases hA with | mk h1 h2 => exact ⟨h1, h2⟩
  have hok := okn_of ho
  replace hT := Lib.hid hT
  replace hB0 := Lib.hid hB0
  replace ih := Lib.hid ih
  clear hA ho
  obtain ⟨A, hA0, hAs, hAok, hAe⟩ := runs_of combC thnL (fun _ _ h h' => combC_snoc h h') (fun _ h => combC_ok h) hAk
  rw [lg_cat, ← hAe]
  rw [combC_nil] at hA0
  replace hAs := Lib.hid hAs
  replace hAok := Lib.hid hAok
  replace hAk := Lib.hid hAk
  replace hfit := Lib.hid hfit
  replace hok := Lib.hid hok
  clear hAe
  simp only [T.cells]
  obtain ⟨h1, h2, h3, h4⟩ := new_three w #[.int .i64 2, .int .u64 u0, .int .u64 u1, .int .u64 u2, .int .u64 u3, .slice p ks.length cap, .int .i64 mn, .int .i64 mx, .string tx] #[.int .i64 0, .int .i64 0, .int .u64 0, .int .u64 0, .int .u64 0, .int .u64 0, .int .u64 0, .int .u64 0, .int .u64 0, .int .u64 0, .int .u64 0, .int .u64 0, .int .u64 0, .int .u64 0] #[.int .i64 0, .int .i64 0, .int .u64 0, .int .u64 0, .int .u64 0, .int .u64 0, .int .u64 0, .int .u64 0, .int .u64 0, .int .u64 0, .int .u64 0, .int .u64 0, .int .u64 0, .int .u64 0] 27 57 57
  have hbn0 := Lib.hid h1
  have hbr0 := Lib.hid h2
  have hbel0 := Lib.hid h4
  have hba0 : Hid ((((w.alloc (.cells #[.int .i64 2, .int .u64 u0, .int .u64 u1, .int .u64 u2, .int .u64 u3, .slice p ks.length cap, .int .i64 mn, .int .i64 mx, .string tx] 27)).alloc (.cells #[.int .i64 0, .int .i64 0, .int .u64 0, .int .u64 0, .int .u64 0, .int .u64 0, .int .u64 0, .int .u64 0, .int .u64 0, .int .u64 0, .int .u64 0, .int .u64 0, .int .u64 0, .int .u64 0] 57)).alloc (.cells #[.int .i64 0, .int .i64 0, .int .u64 0, .int .u64 0, .int .u64 0, .int .u64 0, .int .u64 0, .int .u64 0, .int .u64 0, .int .u64 0, .int .u64 0, .int .u64 0, .int .u64 0, .int .u64 0] 57)).heap[w.heap.size + 1 + 1]? = some (.cells #[.int .i64 zeroL.lo, .int .i64 zeroL.hi, .int .u64 (S1.wd (zeroL.fs) 0), .int .u64 (S1.wd (zeroL.fs) 1), .int .u64 (S1.wd (zeroL.fs) 2), .int .u64 (S1.wd (zeroL.fs) 3), .int .u64 (S1.wd (zeroL.ls) 0), .int .u64 (S1.wd (zeroL.ls) 1), .int .u64 (S1.wd (zeroL.ls) 2), .int .u64 (S1.wd (zeroL.ls) 3), .int .u64 (S1.wd (zeroL.al) 0), .int .u64 (S1.wd (zeroL.al) 1), .int .u64 (S1.wd (zeroL.al) 2), .int .u64 (S1.wd (zeroL.al) 3)] 57)) := Lib.hid (by
    rw [zeroL_c]
    exact h3)
  clear h1 h2 h3 h4
  go_enter Tryd.func43, Tryd.ntmps43
  go_wp2
  go_loopw [21] (fun i wr => ∃ j : Nat, j ≤ ks.length ∧ i = .int .i64 j ∧ Hid (Below w.heap.size w wr) ∧ Hid (wr.heap[w.heap.size]? = some (.cells #[.int .i64 2, .int .u64 u0, .int .u64 u1, .int .u64 u2, .int .u64 u3, .slice p ks.length cap, .int .i64 mn, .int .i64 mx, .string tx] 27)) ∧ Hid (wr.heap[w.heap.size + 1]? = some (.cells #[.int .i64 0, .int .i64 0, .int .u64 0, .int .u64 0, .int .u64 0, .int .u64 0, .int .u64 0, .int .u64 0, .int .u64 0, .int .u64 0, .int .u64 0, .int .u64 0, .int .u64 0, .int .u64 0] 57)) ∧ Hid (wr.heap[w.heap.size + 1 + 1]? = some (.cells #[.int .i64 (A j).lo, .int .i64 (A j).hi, .int .u64 (S1.wd ((A j).fs) 0), .int .u64 (S1.wd ((A j).fs) 1), .int .u64 (S1.wd ((A j).fs) 2), .int .u64 (S1.wd ((A j).fs) 3), .int .u64 (S1.wd ((A j).ls) 0), .int .u64 (S1.wd ((A j).ls) 1), .int .u64 (S1.wd ((A j).ls) 2), .int .u64 (S1.wd ((A j).ls) 3), .int .u64 (S1.wd ((A j).al) 0), .int .u64 (S1.wd ((A j).al) 1), .int .u64 (S1.wd ((A j).al) 2), .int .u64 (S1.wd ((A j).al) 3)] 57))) (fun i _ => ks.length - (intOf i).toNat)
  case atStart => exact ⟨0, Nat.zero_le _, rfl, hbel0, hbn0, hbr0, by rw [hA0]; exact hba0⟩
  case round =>
    clear hbel0 hbn0 hbr0 hba0 hA0
    obtain ⟨j, hj, rfl, hbel, hbn, hbr, hba⟩ := hrel
    have hsa := lt_box hba.out
    have hsr := lt_box hbr.out
    have hsn := lt_box hbn.out
    by_cases hlt : j < ks.length
    · obtain ⟨b, o, hkid, hp, hb, hc⟩ := T.kid hT.out hlt
      have hBw : Below B0 w0 wr := hB0.out.trans (hbel.out.mono hB0w)
      have hcl : ∀ q, q < 9 → wr.cell? ⟨b, o + j * 9 + q, none⟩ = (ks[j].cells)[q]? := fun q hq => by
        rw [← hc q hq]
        exact hBw.cell (p := ⟨b, o + j * 9 + q, none⟩) hb
      have cK := ih.out ks[j] (List.getElem_mem hlt) (hAk.out _ (List.getElem_mem hlt)) hkid
      have hs := hAs.out j hlt
      have cT := fun W => thn9_in (hAok.out j) (lg_ok (hAk.out _ (List.getElem_mem hlt))) W
      clear hc hkid
      subst hp
      generalize ks[j] = kd at *
      generalize lgT kd = X at *
      replace hs := Lib.hid hs
      replace cT := Lib.hid cT
      cases kd with
      | mk k' u0' u1' u2' u3' p' cap' mn' mx' tx' ks' =>
        simp only [T.cells] at hcl cK
        obtain ⟨c0, c1, c2, c3, c4, c5, c6, c7, c8⟩ := nine_of hcl
        clear hcl
        replace cK := Lib.hid cK
        go_upto_region 9 with (fail)
        have hS3 : (wr.alloc (.cells #[.int .i64 k', .int .u64 u0', .int .u64 u1', .int .u64 u2', .int .u64 u3', .slice p' ks'.length cap', .int .i64 mn', .int .i64 mx', .string tx'] 27)).drew.heap[w.heap.size + 1 + 1]? = some (.cells #[.int .i64 (A j).lo, .int .i64 (A j).hi, .int .u64 (S1.wd ((A j).fs) 0), .int .u64 (S1.wd ((A j).fs) 1), .int .u64 (S1.wd ((A j).fs) 2), .int .u64 (S1.wd ((A j).fs) 3), .int .u64 (S1.wd ((A j).ls) 0), .int .u64 (S1.wd ((A j).ls) 1), .int .u64 (S1.wd ((A j).ls) 2), .int .u64 (S1.wd ((A j).ls) 3), .int .u64 (S1.wd ((A j).al) 0), .int .u64 (S1.wd ((A j).al) 1), .int .u64 (S1.wd ((A j).al) 2), .int .u64 (S1.wd ((A j).al) 3)] 57) ∧ (wr.alloc (.cells #[.int .i64 k', .int .u64 u0', .int .u64 u1', .int .u64 u2', .int .u64 u3', .slice p' ks'.length cap', .int .i64 mn', .int .i64 mx', .string tx'] 27)).drew.heap[wr.heap.size]? = some (.cells #[.int .i64 k', .int .u64 u0', .int .u64 u1', .int .u64 u2', .int .u64 u3', .slice p' ks'.length cap', .int .i64 mn', .int .i64 mx', .string tx'] 27) := ⟨kept_alloc9 hba.out _, World.alloc_heap_new _ _⟩
        replace hBw := Lib.hid (show Below B0 w0 (wr.alloc (.cells #[.int .i64 k', .int .u64 u0', .int .u64 u1', .int .u64 u2', .int .u64 u3', .slice p' ks'.length cap', .int .i64 mn', .int .i64 mx', .string tx'] 27)).drew from (hBw.alloc (Nat.le_trans hB0w (by omega)) _).trans (Below.refl _ _).drew)
        replace hbel := Lib.hid (show Below w.heap.size w (wr.alloc (.cells #[.int .i64 k', .int .u64 u0', .int .u64 u1', .int .u64 u2', .int .u64 u3', .slice p' ks'.length cap', .int .i64 mn', .int .i64 mx', .string tx'] 27)).drew from (hbel.out.alloc (Nat.le_of_lt hsn) _).trans (Below.refl _ _).drew)
        replace hbn := Lib.hid (show (wr.alloc (.cells #[.int .i64 k', .int .u64 u0', .int .u64 u1', .int .u64 u2', .int .u64 u3', .slice p' ks'.length cap', .int .i64 mn', .int .i64 mx', .string tx'] 27)).drew.heap[w.heap.size]? = some (.cells #[.int .i64 2, .int .u64 u0, .int .u64 u1, .int .u64 u2, .int .u64 u3, .slice (some ⟨b, o, none⟩) ks.length cap, .int .i64 mn, .int .i64 mx, .string tx] 27) from kept_alloc9 hbn.out _)
        replace hbr := Lib.hid (show (wr.alloc (.cells #[.int .i64 k', .int .u64 u0', .int .u64 u1', .int .u64 u2', .int .u64 u3', .slice p' ks'.length cap', .int .i64 mn', .int .i64 mx', .string tx'] 27)).drew.heap[w.heap.size + 1]? = some (.cells #[.int .i64 0, .int .i64 0, .int .u64 0, .int .u64 0, .int .u64 0, .int .u64 0, .int .u64 0, .int .u64 0, .int .u64 0, .int .u64 0, .int .u64 0, .int .u64 0, .int .u64 0, .int .u64 0] 57) from kept_alloc9 hbr.out _)
        clear hba c0 c1 c2 c3 c4 c5 c6 c7 c8
        refine Go.Last.start (S := (fun W => W.heap[w.heap.size + 1 + 1]? = some (.cells #[.int .i64 (A j).lo, .int .i64 (A j).hi, .int .u64 (S1.wd ((A j).fs) 0), .int .u64 (S1.wd ((A j).fs) 1), .int .u64 (S1.wd ((A j).fs) 2), .int .u64 (S1.wd ((A j).fs) 3), .int .u64 (S1.wd ((A j).ls) 0), .int .u64 (S1.wd ((A j).ls) 1), .int .u64 (S1.wd ((A j).ls) 2), .int .u64 (S1.wd ((A j).ls) 3), .int .u64 (S1.wd ((A j).al) 0), .int .u64 (S1.wd ((A j).al) 1), .int .u64 (S1.wd ((A j).al) 2), .int .u64 (S1.wd ((A j).al) 3)] 57) ∧ W.heap[wr.heap.size]? = some (.cells #[.int .i64 k', .int .u64 u0', .int .u64 u1', .int .u64 u2', .int .u64 u3', .slice p' ks'.length cap', .int .i64 mn', .int .i64 mx', .string tx'] 27))) (z := 4) (by decide +kernel) hS3 (fun hHeld => ?_)
        clear hS3
        generalize (wr.alloc (.cells #[.int .i64 k', .int .u64 u0', .int .u64 u1', .int .u64 u2', .int .u64 u3', .slice p' ks'.length cap', .int .i64 mn', .int .i64 mx', .string tx'] 27)).drew = wd at *
        refine Go.Last.take (i := 0) (v := ?v0u176) rfl (by decide +kernel) (by decide +kernel) (by decide +kernel) (fun _ _ _ h => h) (by decide +kernel) (Or.inl ⟨by rfl, ?h0u176⟩) hHeld ?r0u176
        case h0u176 => (intro wq9 hSw; obtain ⟨x0, x1, x2, x3, x4, x5, x6, x7, x8, x9, x10, x11, x12, x13⟩ := c14 hSw.1; go_simp <;> with_reducible rfl)
        try simp only [Go.Last.pt]
        refine Go.Last.take (i := 1) (v := ?v1u177) rfl (by decide +kernel) (by decide +kernel) (by decide +kernel) (fun _ _ _ h => h) (by decide +kernel) (Or.inl ⟨by rfl, ?h1u177⟩) hHeld ?r1u177
        case h1u177 => (intro wq9 hSw; obtain ⟨n0, n1, n2, n3, n4, n5, n6, n7, n8⟩ := c9 hSw.2; go_simp <;> with_reducible rfl)
        try simp only [Go.Last.pt]
        refine Go.Last.one 2 (by decide +kernel) rfl (fun K hK => ?_)
        go_simp
        (go_at_call 43; (with_reducible refine (cK.out _ hBw.out).mono ?_); rintro e w2 ⟨rfl, hb2⟩; replace hbn := Lib.hid (kept_row hbn.out hb2); replace hbr := Lib.hid (kept_row hbr.out hb2); replace hbel := Lib.hid (hbel.out.trans (hb2.mono hbel.out.size)))
        try dsimp only
        refine hK.out _ _ (.of (⟨kept_row hHeld.1 hb2, kept_row hHeld.2 hb2⟩)) (fun hHeld2 => ?_)
        clear hK K hHeld
        have hHeld := hHeld2.resolve_left (by decide)
        clear hHeld2
        try simp only [Go.Last.pt]
        refine Go.Last.one 3 (by decide +kernel) rfl (fun K hK => ?_)
        go_simp
        (go_at_call 60; (with_reducible refine (cT.out _).mono ?_); rintro e w3 ⟨rfl, hb3⟩; replace hbn := Lib.hid (kept_row hbn.out hb3); replace hbr := Lib.hid (kept_row hbr.out hb3); replace hbel := Lib.hid (hbel.out.trans (hb3.mono hbel.out.size)); have h9 := Lib.hid (kept_row hHeld.1 hb3); obtain ⟨y0, f0, y1, f1, y2, f2, y3, f3, y4, f4, y5, f5, y6, f6, y7, f7, y8, f8, y9, f9, y10, f10, y11, f11, y12, f12, y13, f13⟩ := d14 h9.out)
        try dsimp only
        refine hK.out _ _ (.of (⟨kept_row hHeld.1 hb3, kept_row hHeld.2 hb3⟩)) (fun hHeld2 => ?_)
        clear hK K hHeld
        have hHeld := hHeld2.resolve_left (by decide)
        clear hHeld2
        try simp only [Go.Last.pt]
        refine Go.Last.one 4 (by decide +kernel) rfl (fun K hK => ?_)
        go_simp
        try dsimp only
        refine hK.out _ _ .last (fun _ => ?_)
        clear hK K hHeld
        try simp only [Go.Last.pt]
        refine Go.Last.done (by decide +kernel) ?_ _
        clear y0 y1 y2 y3 y4 y5 y6 y7 y8 y9 y10 y11 y12 y13 f0 f1 f2 f3 f4 f5 f6 f7 f8 f9 f10 f11 f12 f13
        obtain ⟨q1, q2, q3, q4⟩ := set14 (d0 := .int .i64 (thnL (A j) X).lo) (d1 := .int .i64 (thnL (A j) X).hi) (d2 := .int .u64 (S1.wd ((thnL (A j) X).fs) 0)) (d3 := .int .u64 (S1.wd ((thnL (A j) X).fs) 1)) (d4 := .int .u64 (S1.wd ((thnL (A j) X).fs) 2)) (d5 := .int .u64 (S1.wd ((thnL (A j) X).fs) 3)) (d6 := .int .u64 (S1.wd ((thnL (A j) X).ls) 0)) (d7 := .int .u64 (S1.wd ((thnL (A j) X).ls) 1)) (d8 := .int .u64 (S1.wd ((thnL (A j) X).ls) 2)) (d9 := .int .u64 (S1.wd ((thnL (A j) X).ls) 3)) (d10 := .int .u64 (S1.wd ((thnL (A j) X).al) 0)) (d11 := .int .u64 (S1.wd ((thnL (A j) X).al) 1)) (d12 := .int .u64 (S1.wd ((thnL (A j) X).al) 2)) (d13 := .int .u64 (S1.wd ((thnL (A j) X).al) 3)) h9.out _ rfl
        generalize hW : World.setCell _ (⟨w.heap.size + 1 + 1, 13, none⟩ : Addr) _ = W9 at *
        clear hW
        go_wp2
        go_roundw
        case rel => exact ⟨j + 1, by omega, by go_num, Lib.hid (hbel.out.trans (q4 _ (by omega))), Lib.hid ((q3 _ (by omega)).trans hbn.out), Lib.hid ((q3 _ (by omega)).trans hbr.out), by rw [hs.out]; exact Lib.hid q1⟩
        case measure => simp [intOf]; omega
    · obtain rfl : j = ks.length := by omega
      obtain ⟨x0, x1, x2, x3, x4, x5, x6, x7, x8, x9, x10, x11, x12, x13⟩ := c14 hba.out
      obtain ⟨y0, f0, y1, f1, y2, f2, y3, f3, y4, f4, y5, f5, y6, f6, y7, f7, y8, f8, y9, f9, y10, f10, y11, f11, y12, f12, y13, f13⟩ := d14 hbr.out
      go_wp2
      clear y0 y1 y2 y3 y4 y5 y6 y7 y8 y9 y10 y11 y12 y13 f0 f1 f2 f3 f4 f5 f6 f7 f8 f9 f10 f11 f12 f13
      clear x0 x1 x2 x3 x4 x5 x6 x7 x8 x9 x10 x11 x12 x13
      obtain ⟨q1, q2, q3, q4⟩ := set14 (d0 := .int .i64 (A ks.length).lo) (d1 := .int .i64 (A ks.length).hi) (d2 := .int .u64 (S1.wd ((A ks.length).fs) 0)) (d3 := .int .u64 (S1.wd ((A ks.length).fs) 1)) (d4 := .int .u64 (S1.wd ((A ks.length).fs) 2)) (d5 := .int .u64 (S1.wd ((A ks.length).fs) 3)) (d6 := .int .u64 (S1.wd ((A ks.length).ls) 0)) (d7 := .int .u64 (S1.wd ((A ks.length).ls) 1)) (d8 := .int .u64 (S1.wd ((A ks.length).ls) 2)) (d9 := .int .u64 (S1.wd ((A ks.length).ls) 3)) (d10 := .int .u64 (S1.wd ((A ks.length).al) 0)) (d11 := .int .u64 (S1.wd ((A ks.length).al) 1)) (d12 := .int .u64 (S1.wd ((A ks.length).al) 2)) (d13 := .int .u64 (S1.wd ((A ks.length).al) 3)) hbr.out _ rfl
      generalize hW : World.setCell _ (⟨w.heap.size + 1, 13, none⟩ : Addr) _ = W9 at *
      clear hW
      obtain ⟨o0, o1, o2, o3, o4, o5, o6, o7, o8, o9, o10, o11, o12, o13⟩ := c14 q1
      refine bodyPost_ret (v := .agg #[.int .i64 (A ks.length).lo, .int .i64 (A ks.length).hi, .int .u64 (S1.wd ((A ks.length).fs) 0), .int .u64 (S1.wd ((A ks.length).fs) 1), .int .u64 (S1.wd ((A ks.length).fs) 2), .int .u64 (S1.wd ((A ks.length).fs) 3), .int .u64 (S1.wd ((A ks.length).ls) 0), .int .u64 (S1.wd ((A ks.length).ls) 1), .int .u64 (S1.wd ((A ks.length).ls) 2), .int .u64 (S1.wd ((A ks.length).ls) 3), .int .u64 (S1.wd ((A ks.length).al) 0), .int .u64 (S1.wd ((A ks.length).al) 1), .int .u64 (S1.wd ((A ks.length).al) 2), .int .u64 (S1.wd ((A ks.length).al) 3)]) (by simp [results, Tryd.results43, go_sem, o0, o1, o2, o3, o4, o5, o6, o7, o8, o9, o10, o11, o12, o13]) rfl ?_
      exact ⟨rfl, hbel.out.trans (q4 _ (by omega))⟩
set_option maxRecDepth 10000 in
set_option maxHeartbeats 8000000 in
theorem der_alt {w0 : World} {B0 : Nat} (hn0 : B0 ≤ w0.heap.size) {u0 u1 u2 u3 : Int} {p : Option Addr} {cap : Nat} {mn mx : Int} {tx : ByteArray} {ks : List T} (ih : ∀ t ∈ ks, Der9 w0 B0 t) : Der9 w0 B0 (.mk 3 u0 u1 u2 u3 p cap mn mx tx ks) := by
  intro hA hT w hB0
  have hks : ks.length ≤ 9223372036854775807 := by cases hT with | mk h1 h2 => unfold maxLen at h2; omega
  have hfit : fits 3 u0 u1 u2 u3 mn mx tx := by cases hT with | mk h1 h2 h3 => exact h3
  have hB0w : B0 ≤ w.heap.size := Nat.le_trans hn0 hB0.size
  obtain ⟨ho, hAk⟩ : T.ok (.mk 3 u0 u1 u2 u3 p cap mn mx tx ks) = true ∧ ∀ t ∈ ks, T.All (fun t => T.ok t = true) t := by cases hA with | mk h1 h2 => exact ⟨h1, h2⟩
  have hok := okn_of ho
  replace hT := Lib.hid hT
  replace hB0 := Lib.hid hB0
  replace ih := Lib.hid ih
  clear hA ho
  obtain ⟨A, hA0, hAs, hAok, hAe⟩ := runs_of combA eorL (fun _ _ h h' => combA_snoc h h') (fun _ h => combA_ok h) hAk
  rw [lg_alt, ← hAe]
  rw [combA_nil] at hA0
  replace hAs := Lib.hid hAs
  replace hAok := Lib.hid hAok
  replace hAk := Lib.hid hAk
  replace hfit := Lib.hid hfit
  replace hok := Lib.hid hok
  clear hAe
  have cE := fun w => void9_in w
  rw [voidL_v] at cE
  replace cE := Lib.hid cE
  simp only [T.cells]
  obtain ⟨h1, h2, h4⟩ := two_new w #[.int .i64 3, .int .u64 u0, .int .u64 u1, .int .u64 u2, .int .u64 u3, .slice p ks.length cap, .int .i64 mn, .int .i64 mx, .string tx] #[.int .i64 0, .int .i64 0, .int .u64 0, .int .u64 0, .int .u64 0, .int .u64 0, .int .u64 0, .int .u64 0, .int .u64 0, .int .u64 0, .int .u64 0, .int .u64 0, .int .u64 0, .int .u64 0] 27 57
  have hbn0 := Lib.hid h1
  have hbr0 := Lib.hid h2
  have hbel0 := Lib.hid h4
  clear h1 h2 h4
  go_enter Tryd.func43, Tryd.ntmps43
  go_wp2_with (go_at_call 42; (with_reducible refine (cE.out _).mono ?_); rintro e w1 ⟨rfl, hb1⟩; replace hbn0 := Lib.hid (kept_row hbn0.out hb1); replace hbr0 := Lib.hid (kept_row hbr0.out hb1); replace hbel0 := Lib.hid (hbel0.out.trans (hb1.mono hbel0.out.size)); clear hb1; have hlt0 := lt_box hbn0.out; have hlt1 := lt_box hbr0.out; obtain ⟨z5, -⟩ := cells_of hbn0.out 5 _ rfl)
  clear z5
  have hba0 : Hid ((w1.alloc (.cells #[.int .i64 (-1), .int .i64 (-1), .int .u64 0, .int .u64 0, .int .u64 0, .int .u64 0, .int .u64 0, .int .u64 0, .int .u64 0, .int .u64 0, .int .u64 0, .int .u64 0, .int .u64 0, .int .u64 0] 57)).heap[w1.heap.size]? = some (.cells #[.int .i64 voidL.lo, .int .i64 voidL.hi, .int .u64 (S1.wd (voidL.fs) 0), .int .u64 (S1.wd (voidL.fs) 1), .int .u64 (S1.wd (voidL.fs) 2), .int .u64 (S1.wd (voidL.fs) 3), .int .u64 (S1.wd (voidL.ls) 0), .int .u64 (S1.wd (voidL.ls) 1), .int .u64 (S1.wd (voidL.ls) 2), .int .u64 (S1.wd (voidL.ls) 3), .int .u64 (S1.wd (voidL.al) 0), .int .u64 (S1.wd (voidL.al) 1), .int .u64 (S1.wd (voidL.al) 2), .int .u64 (S1.wd (voidL.al) 3)] 57)) := Lib.hid (by
    rw [voidL_c]
    exact World.alloc_heap_new w1 _)
  replace hbn0 := Lib.hid (kept_alloc9 hbn0.out (.cells #[.int .i64 (-1), .int .i64 (-1), .int .u64 0, .int .u64 0, .int .u64 0, .int .u64 0, .int .u64 0, .int .u64 0, .int .u64 0, .int .u64 0, .int .u64 0, .int .u64 0, .int .u64 0, .int .u64 0] 57))
  replace hbr0 := Lib.hid (kept_alloc9 hbr0.out (.cells #[.int .i64 (-1), .int .i64 (-1), .int .u64 0, .int .u64 0, .int .u64 0, .int .u64 0, .int .u64 0, .int .u64 0, .int .u64 0, .int .u64 0, .int .u64 0, .int .u64 0, .int .u64 0, .int .u64 0] 57))
  replace hbel0 := Lib.hid (hbel0.out.alloc hbel0.out.size (.cells #[.int .i64 (-1), .int .i64 (-1), .int .u64 0, .int .u64 0, .int .u64 0, .int .u64 0, .int .u64 0, .int .u64 0, .int .u64 0, .int .u64 0, .int .u64 0, .int .u64 0, .int .u64 0, .int .u64 0] 57))
  go_loopw [37] (fun i wr => ∃ j : Nat, j ≤ ks.length ∧ i = .int .i64 j ∧ Hid (Below w.heap.size w wr) ∧ Hid (wr.heap[w.heap.size]? = some (.cells #[.int .i64 3, .int .u64 u0, .int .u64 u1, .int .u64 u2, .int .u64 u3, .slice p ks.length cap, .int .i64 mn, .int .i64 mx, .string tx] 27)) ∧ Hid (wr.heap[w.heap.size + 1]? = some (.cells #[.int .i64 0, .int .i64 0, .int .u64 0, .int .u64 0, .int .u64 0, .int .u64 0, .int .u64 0, .int .u64 0, .int .u64 0, .int .u64 0, .int .u64 0, .int .u64 0, .int .u64 0, .int .u64 0] 57)) ∧ Hid (wr.heap[w1.heap.size]? = some (.cells #[.int .i64 (A j).lo, .int .i64 (A j).hi, .int .u64 (S1.wd ((A j).fs) 0), .int .u64 (S1.wd ((A j).fs) 1), .int .u64 (S1.wd ((A j).fs) 2), .int .u64 (S1.wd ((A j).fs) 3), .int .u64 (S1.wd ((A j).ls) 0), .int .u64 (S1.wd ((A j).ls) 1), .int .u64 (S1.wd ((A j).ls) 2), .int .u64 (S1.wd ((A j).ls) 3), .int .u64 (S1.wd ((A j).al) 0), .int .u64 (S1.wd ((A j).al) 1), .int .u64 (S1.wd ((A j).al) 2), .int .u64 (S1.wd ((A j).al) 3)] 57))) (fun i _ => ks.length - (intOf i).toNat)
  case atStart => exact ⟨0, Nat.zero_le _, rfl, hbel0, hbn0, hbr0, by rw [hA0]; exact hba0⟩
  case round =>
    clear hbel0 hbn0 hbr0 hba0 hA0
    obtain ⟨j, hj, rfl, hbel, hbn, hbr, hba⟩ := hrel
    have hsa := lt_box hba.out
    have hsr := lt_box hbr.out
    have hsn := lt_box hbn.out
    by_cases hlt : j < ks.length
    · obtain ⟨b, o, hkid, hp, hb, hc⟩ := T.kid hT.out hlt
      have hBw : Below B0 w0 wr := hB0.out.trans (hbel.out.mono hB0w)
      have hcl : ∀ q, q < 9 → wr.cell? ⟨b, o + j * 9 + q, none⟩ = (ks[j].cells)[q]? := fun q hq => by
        rw [← hc q hq]
        exact hBw.cell (p := ⟨b, o + j * 9 + q, none⟩) hb
      have cK := ih.out ks[j] (List.getElem_mem hlt) (hAk.out _ (List.getElem_mem hlt)) hkid
      have hs := hAs.out j hlt
      have cT := fun W => eor9_in (hAok.out j) (lg_ok (hAk.out _ (List.getElem_mem hlt))) W
      clear hc hkid
      subst hp
      generalize ks[j] = kd at *
      generalize lgT kd = X at *
      replace hs := Lib.hid hs
      replace cT := Lib.hid cT
      cases kd with
      | mk k' u0' u1' u2' u3' p' cap' mn' mx' tx' ks' =>
        simp only [T.cells] at hcl cK
        obtain ⟨c0, c1, c2, c3, c4, c5, c6, c7, c8⟩ := nine_of hcl
        clear hcl
        replace cK := Lib.hid cK
        go_upto_region 17 with (fail)
        have hS3 : (wr.alloc (.cells #[.int .i64 k', .int .u64 u0', .int .u64 u1', .int .u64 u2', .int .u64 u3', .slice p' ks'.length cap', .int .i64 mn', .int .i64 mx', .string tx'] 27)).drew.heap[w1.heap.size]? = some (.cells #[.int .i64 (A j).lo, .int .i64 (A j).hi, .int .u64 (S1.wd ((A j).fs) 0), .int .u64 (S1.wd ((A j).fs) 1), .int .u64 (S1.wd ((A j).fs) 2), .int .u64 (S1.wd ((A j).fs) 3), .int .u64 (S1.wd ((A j).ls) 0), .int .u64 (S1.wd ((A j).ls) 1), .int .u64 (S1.wd ((A j).ls) 2), .int .u64 (S1.wd ((A j).ls) 3), .int .u64 (S1.wd ((A j).al) 0), .int .u64 (S1.wd ((A j).al) 1), .int .u64 (S1.wd ((A j).al) 2), .int .u64 (S1.wd ((A j).al) 3)] 57) ∧ (wr.alloc (.cells #[.int .i64 k', .int .u64 u0', .int .u64 u1', .int .u64 u2', .int .u64 u3', .slice p' ks'.length cap', .int .i64 mn', .int .i64 mx', .string tx'] 27)).drew.heap[wr.heap.size]? = some (.cells #[.int .i64 k', .int .u64 u0', .int .u64 u1', .int .u64 u2', .int .u64 u3', .slice p' ks'.length cap', .int .i64 mn', .int .i64 mx', .string tx'] 27) := ⟨kept_alloc9 hba.out _, World.alloc_heap_new _ _⟩
        replace hBw := Lib.hid (show Below B0 w0 (wr.alloc (.cells #[.int .i64 k', .int .u64 u0', .int .u64 u1', .int .u64 u2', .int .u64 u3', .slice p' ks'.length cap', .int .i64 mn', .int .i64 mx', .string tx'] 27)).drew from (hBw.alloc (Nat.le_trans hB0w (by omega)) _).trans (Below.refl _ _).drew)
        replace hbel := Lib.hid (show Below w.heap.size w (wr.alloc (.cells #[.int .i64 k', .int .u64 u0', .int .u64 u1', .int .u64 u2', .int .u64 u3', .slice p' ks'.length cap', .int .i64 mn', .int .i64 mx', .string tx'] 27)).drew from (hbel.out.alloc (Nat.le_of_lt hsn) _).trans (Below.refl _ _).drew)
        replace hbn := Lib.hid (show (wr.alloc (.cells #[.int .i64 k', .int .u64 u0', .int .u64 u1', .int .u64 u2', .int .u64 u3', .slice p' ks'.length cap', .int .i64 mn', .int .i64 mx', .string tx'] 27)).drew.heap[w.heap.size]? = some (.cells #[.int .i64 3, .int .u64 u0, .int .u64 u1, .int .u64 u2, .int .u64 u3, .slice (some ⟨b, o, none⟩) ks.length cap, .int .i64 mn, .int .i64 mx, .string tx] 27) from kept_alloc9 hbn.out _)
        replace hbr := Lib.hid (show (wr.alloc (.cells #[.int .i64 k', .int .u64 u0', .int .u64 u1', .int .u64 u2', .int .u64 u3', .slice p' ks'.length cap', .int .i64 mn', .int .i64 mx', .string tx'] 27)).drew.heap[w.heap.size + 1]? = some (.cells #[.int .i64 0, .int .i64 0, .int .u64 0, .int .u64 0, .int .u64 0, .int .u64 0, .int .u64 0, .int .u64 0, .int .u64 0, .int .u64 0, .int .u64 0, .int .u64 0, .int .u64 0, .int .u64 0] 57) from kept_alloc9 hbr.out _)
        clear hba c0 c1 c2 c3 c4 c5 c6 c7 c8
        refine Go.Last.start (S := (fun W => W.heap[w1.heap.size]? = some (.cells #[.int .i64 (A j).lo, .int .i64 (A j).hi, .int .u64 (S1.wd ((A j).fs) 0), .int .u64 (S1.wd ((A j).fs) 1), .int .u64 (S1.wd ((A j).fs) 2), .int .u64 (S1.wd ((A j).fs) 3), .int .u64 (S1.wd ((A j).ls) 0), .int .u64 (S1.wd ((A j).ls) 1), .int .u64 (S1.wd ((A j).ls) 2), .int .u64 (S1.wd ((A j).ls) 3), .int .u64 (S1.wd ((A j).al) 0), .int .u64 (S1.wd ((A j).al) 1), .int .u64 (S1.wd ((A j).al) 2), .int .u64 (S1.wd ((A j).al) 3)] 57) ∧ W.heap[wr.heap.size]? = some (.cells #[.int .i64 k', .int .u64 u0', .int .u64 u1', .int .u64 u2', .int .u64 u3', .slice p' ks'.length cap', .int .i64 mn', .int .i64 mx', .string tx'] 27))) (z := 4) (by decide +kernel) hS3 (fun hHeld => ?_)
        clear hS3
        generalize (wr.alloc (.cells #[.int .i64 k', .int .u64 u0', .int .u64 u1', .int .u64 u2', .int .u64 u3', .slice p' ks'.length cap', .int .i64 mn', .int .i64 mx', .string tx'] 27)).drew = wd at *
        refine Go.Last.take (i := 0) (v := ?v0u178) rfl (by decide +kernel) (by decide +kernel) (by decide +kernel) (fun _ _ _ h => h) (by decide +kernel) (Or.inl ⟨by rfl, ?h0u178⟩) hHeld ?r0u178
        case h0u178 => (intro wq9 hSw; obtain ⟨x0, x1, x2, x3, x4, x5, x6, x7, x8, x9, x10, x11, x12, x13⟩ := c14 hSw.1; go_simp <;> with_reducible rfl)
        try simp only [Go.Last.pt]
        refine Go.Last.take (i := 1) (v := ?v1u179) rfl (by decide +kernel) (by decide +kernel) (by decide +kernel) (fun _ _ _ h => h) (by decide +kernel) (Or.inl ⟨by rfl, ?h1u179⟩) hHeld ?r1u179
        case h1u179 => (intro wq9 hSw; obtain ⟨n0, n1, n2, n3, n4, n5, n6, n7, n8⟩ := c9 hSw.2; go_simp <;> with_reducible rfl)
        try simp only [Go.Last.pt]
        refine Go.Last.one 2 (by decide +kernel) rfl (fun K hK => ?_)
        go_simp
        (go_at_call 43; (with_reducible refine (cK.out _ hBw.out).mono ?_); rintro e w2 ⟨rfl, hb2⟩; replace hbn := Lib.hid (kept_row hbn.out hb2); replace hbr := Lib.hid (kept_row hbr.out hb2); replace hbel := Lib.hid (hbel.out.trans (hb2.mono hbel.out.size)))
        try dsimp only
        refine hK.out _ _ (.of (⟨kept_row hHeld.1 hb2, kept_row hHeld.2 hb2⟩)) (fun hHeld2 => ?_)
        clear hK K hHeld
        have hHeld := hHeld2.resolve_left (by decide)
        clear hHeld2
        try simp only [Go.Last.pt]
        refine Go.Last.one 3 (by decide +kernel) rfl (fun K hK => ?_)
        go_simp
        (go_at_call 61; (with_reducible refine (cT.out _).mono ?_); rintro e w3 ⟨rfl, hb3⟩; replace hbn := Lib.hid (kept_row hbn.out hb3); replace hbr := Lib.hid (kept_row hbr.out hb3); replace hbel := Lib.hid (hbel.out.trans (hb3.mono hbel.out.size)); have h9 := Lib.hid (kept_row hHeld.1 hb3); obtain ⟨y0, f0, y1, f1, y2, f2, y3, f3, y4, f4, y5, f5, y6, f6, y7, f7, y8, f8, y9, f9, y10, f10, y11, f11, y12, f12, y13, f13⟩ := d14 h9.out)
        try dsimp only
        refine hK.out _ _ (.of (⟨kept_row hHeld.1 hb3, kept_row hHeld.2 hb3⟩)) (fun hHeld2 => ?_)
        clear hK K hHeld
        have hHeld := hHeld2.resolve_left (by decide)
        clear hHeld2
        try simp only [Go.Last.pt]
        refine Go.Last.one 4 (by decide +kernel) rfl (fun K hK => ?_)
        go_simp
        try dsimp only
        refine hK.out _ _ .last (fun _ => ?_)
        clear hK K hHeld
        try simp only [Go.Last.pt]
        refine Go.Last.done (by decide +kernel) ?_ _
        clear y0 y1 y2 y3 y4 y5 y6 y7 y8 y9 y10 y11 y12 y13 f0 f1 f2 f3 f4 f5 f6 f7 f8 f9 f10 f11 f12 f13
        obtain ⟨q1, q2, q3, q4⟩ := set14 (d0 := .int .i64 (eorL (A j) X).lo) (d1 := .int .i64 (eorL (A j) X).hi) (d2 := .int .u64 (S1.wd ((eorL (A j) X).fs) 0)) (d3 := .int .u64 (S1.wd ((eorL (A j) X).fs) 1)) (d4 := .int .u64 (S1.wd ((eorL (A j) X).fs) 2)) (d5 := .int .u64 (S1.wd ((eorL (A j) X).fs) 3)) (d6 := .int .u64 (S1.wd ((eorL (A j) X).ls) 0)) (d7 := .int .u64 (S1.wd ((eorL (A j) X).ls) 1)) (d8 := .int .u64 (S1.wd ((eorL (A j) X).ls) 2)) (d9 := .int .u64 (S1.wd ((eorL (A j) X).ls) 3)) (d10 := .int .u64 (S1.wd ((eorL (A j) X).al) 0)) (d11 := .int .u64 (S1.wd ((eorL (A j) X).al) 1)) (d12 := .int .u64 (S1.wd ((eorL (A j) X).al) 2)) (d13 := .int .u64 (S1.wd ((eorL (A j) X).al) 3)) h9.out _ rfl
        generalize hW : World.setCell _ (⟨w1.heap.size, 13, none⟩ : Addr) _ = W9 at *
        clear hW
        go_wp2
        go_roundw
        case rel => exact ⟨j + 1, by omega, by go_num, Lib.hid (hbel.out.trans (q4 _ (by omega))), Lib.hid ((q3 _ (by omega)).trans hbn.out), Lib.hid ((q3 _ (by omega)).trans hbr.out), by rw [hs.out]; exact Lib.hid q1⟩
        case measure => simp [intOf]; omega
    · obtain rfl : j = ks.length := by omega
      obtain ⟨x0, x1, x2, x3, x4, x5, x6, x7, x8, x9, x10, x11, x12, x13⟩ := c14 hba.out
      obtain ⟨y0, f0, y1, f1, y2, f2, y3, f3, y4, f4, y5, f5, y6, f6, y7, f7, y8, f8, y9, f9, y10, f10, y11, f11, y12, f12, y13, f13⟩ := d14 hbr.out
      go_wp2
      clear y0 y1 y2 y3 y4 y5 y6 y7 y8 y9 y10 y11 y12 y13 f0 f1 f2 f3 f4 f5 f6 f7 f8 f9 f10 f11 f12 f13
      clear x0 x1 x2 x3 x4 x5 x6 x7 x8 x9 x10 x11 x12 x13
      obtain ⟨q1, q2, q3, q4⟩ := set14 (d0 := .int .i64 (A ks.length).lo) (d1 := .int .i64 (A ks.length).hi) (d2 := .int .u64 (S1.wd ((A ks.length).fs) 0)) (d3 := .int .u64 (S1.wd ((A ks.length).fs) 1)) (d4 := .int .u64 (S1.wd ((A ks.length).fs) 2)) (d5 := .int .u64 (S1.wd ((A ks.length).fs) 3)) (d6 := .int .u64 (S1.wd ((A ks.length).ls) 0)) (d7 := .int .u64 (S1.wd ((A ks.length).ls) 1)) (d8 := .int .u64 (S1.wd ((A ks.length).ls) 2)) (d9 := .int .u64 (S1.wd ((A ks.length).ls) 3)) (d10 := .int .u64 (S1.wd ((A ks.length).al) 0)) (d11 := .int .u64 (S1.wd ((A ks.length).al) 1)) (d12 := .int .u64 (S1.wd ((A ks.length).al) 2)) (d13 := .int .u64 (S1.wd ((A ks.length).al) 3)) hbr.out _ rfl
      generalize hW : World.setCell _ (⟨w.heap.size + 1, 13, none⟩ : Addr) _ = W9 at *
      clear hW
      obtain ⟨o0, o1, o2, o3, o4, o5, o6, o7, o8, o9, o10, o11, o12, o13⟩ := c14 q1
      refine bodyPost_ret (v := .agg #[.int .i64 (A ks.length).lo, .int .i64 (A ks.length).hi, .int .u64 (S1.wd ((A ks.length).fs) 0), .int .u64 (S1.wd ((A ks.length).fs) 1), .int .u64 (S1.wd ((A ks.length).fs) 2), .int .u64 (S1.wd ((A ks.length).fs) 3), .int .u64 (S1.wd ((A ks.length).ls) 0), .int .u64 (S1.wd ((A ks.length).ls) 1), .int .u64 (S1.wd ((A ks.length).ls) 2), .int .u64 (S1.wd ((A ks.length).ls) 3), .int .u64 (S1.wd ((A ks.length).al) 0), .int .u64 (S1.wd ((A ks.length).al) 1), .int .u64 (S1.wd ((A ks.length).al) 2), .int .u64 (S1.wd ((A ks.length).al) 3)]) (by simp [results, Tryd.results43, go_sem, o0, o1, o2, o3, o4, o5, o6, o7, o8, o9, o10, o11, o12, o13]) rfl ?_
      exact ⟨rfl, hbel.out.trans (q4 _ (by omega))⟩
end Go.Proofs.YtaebhbcamhmhoaaDoor
