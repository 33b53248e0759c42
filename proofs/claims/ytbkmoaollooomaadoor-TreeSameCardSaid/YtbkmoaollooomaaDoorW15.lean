/- slices.Contains over a few numbers. -/
import Derived.Test.YtbkmoaollooomaaDoorW11
namespace Go.Proofs.YtbkmoaollooomaaDoor
open Go.RowKit
open Go.Tree7
set_option maxRecDepth 10000 in
set_option maxHeartbeats 2000000 in
theorem xInts_in {cs : List Int} {g m : Nat} {x : Int} (w : World) (hm : cs.length = m) (hl : m ≤ 3) (hrow : w.heap[g]? = some (.cells (cs.map fun c => Value.int .i64 c).toArray 3 (0, 0))) :
    Calls Tryd.prog 72 #[.slice (some ⟨g, 0, none⟩) m m, .int .i64 x] w fun e w' => ∃ r : Int, e = .returned (.int .i64 r) ∧ (0 ≤ r ↔ x ∈ cs) ∧ w = w' := by
  have hc := Lib.hid (fun k (hk : k < m) => (cells_of hrow k (.int .i64 (cs[k]'(by omega))) (by simp [hm, hk])).1)
  have hno : Hid ((∀ j (hj : j < cs.length), cs[j] ≠ x) → x ∉ cs) := Lib.hid fun h hx => by
    obtain ⟨j, hj, e⟩ := List.getElem_of_mem hx
    exact h j hj e
  have hyes : Hid (∀ j (hj : j < cs.length), cs[j] = x → x ∈ cs) := Lib.hid fun j hj e => by rw [← e]; exact List.getElem_mem hj
  clear hrow
  go_enter Tryd.func72, Tryd.ntmps72
  go_wp2
  go_loop [8] (fun i => ∃ k : Nat, k ≤ m ∧ i = .int .i64 k ∧ Hid (∀ j (hj : j < cs.length), j < k → cs[j] ≠ x)) (fun i => m - (intOf i).toNat)
  case atStart => exact ⟨0, Nat.zero_le _, rfl, Lib.hid fun j hj h => by omega⟩
  case round =>
    obtain ⟨k, hk, rfl, hn⟩ := hrel
    by_cases hlt : k < m
    · have h1 := hc.out k hlt
      by_cases e : cs[k]'(by omega) = x
      · have hy := Lib.hid (hyes.out k (by omega) e)
        rw [e] at h1
        clear e
        go_wp2
        go_ret
        exact ⟨(k : Int), rfl, ⟨fun _ => hy.out, fun _ => by omega⟩, rfl⟩
      · obtain ⟨c, hcc⟩ : ∃ c, cs[k]'(by omega) = c := ⟨_, rfl⟩
        rw [hcc] at h1
        have hq : (x == c) = false := by simp; intro e'; exact e (by rw [hcc, e'])
        have hn2 : Hid (∀ j (hj : j < cs.length), j < k + 1 → cs[j] ≠ x) := Lib.hid fun j hj h => by
          by_cases e2 : j = k
          · subst e2; exact e
          · exact hn.out j hj (by omega)
        clear e hcc
        go_wp2
        go_round
        case rel => exact ⟨k + 1, by omega, by go_num, hn2⟩
        case measure => simp [intOf]; omega
    · have hx := Lib.hid (hno.out fun j hj => hn.out j hj (by omega))
      go_wp2
      go_ret
      exact ⟨-1, rfl, ⟨fun h => by omega, fun h => absurd h hx.out⟩, rfl⟩
set_option maxHeartbeats 1000000 in
theorem cInts_in {cs : List Int} {g m : Nat} {x : Int} (w : World) (hm : cs.length = m) (hl : m ≤ 3) (hrow : w.heap[g]? = some (.cells (cs.map fun c => Value.int .i64 c).toArray 3 (0, 0))) :
    Calls Tryd.prog 62 #[.slice (some ⟨g, 0, none⟩) m m, .int .i64 x] w fun e w' => e = .returned (.bool (decide (x ∈ cs))) ∧ w = w' := by
  have C := Lib.hid (xInts_in (x := x) w hm hl hrow)
  clear hrow
  obtain ⟨q, hq⟩ : ∃ q, decide (x ∈ cs) = q := ⟨_, rfl⟩
  have hq' : Hid (x ∈ cs ↔ q = true) := Lib.hid (by rw [← hq]; simp)
  rw [hq]
  clear hq
  go_enter Tryd.func62, Tryd.ntmps62
  go_wp2_with (go_at_call 72; (with_reducible refine C.out.mono ?_); rintro e w1 ⟨r, rfl, hr, rfl⟩; replace hr := Lib.hid hr)
  go_ret
  refine ⟨ret_bool ?_, rfl⟩
  have := hr.out.trans hq'.out
  cases q <;> simp_all
end Go.Proofs.YtbkmoaollooomaaDoor
