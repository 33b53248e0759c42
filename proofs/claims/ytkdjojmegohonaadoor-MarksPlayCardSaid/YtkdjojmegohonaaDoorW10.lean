/- Contracts of the reference's marks: List, After, Key; of doffernum.SameInts. -/
import Derived.Test.YtkdjojmegohonaaDoorW9
import Derived.Deep.QuietTactic
namespace Go.Proofs.YtkdjojmegohonaaDoor
open Go.RowKit
theorem cnt_lt_max {n : Nat} (h : n ≤ 65536) : n ≤ maxLen := by simp [maxLen]; omega
/-- A row that lies stays while another of other elements grows. -/
theorem row_stays {w w1 : World} {b1 b2 s1 s2 n1 n2 : Nat} {e1 e2 : TypeId} {v1 v2 : Value} {x1 x2 : List Value} {tmp : Obj} (h : w.ownsRow b1 e1 s1 v1 n1 x1) (h2 : w.ownsRow b2 e2 s2 v2 n2 x2) (he : e1 ≠ e2)
    (hg : (w.alloc tmp).grownBy w1 v2.ownBlock) : w1.ownsRow b1 e1 s1 v1 n1 x1 := by
  refine (h.alloc tmp).kept hg ?_
  rcases h.2 with ⟨rfl, _⟩ | ⟨g, cap, cur, rfl, _, hgb, _⟩
  · exact .inl rfl
  · refine .inr ?_
    rcases h2.2 with ⟨rfl, _⟩ | ⟨g', cap', cur', rfl, _, hgb', _⟩
    · simp [Value.ownBlock]
    · intro e
      obtain rfl : g = g' := by simpa [Value.ownBlock] using e
      have := hgb.symm.trans hgb'
      simp at this
      exact he this.2
section
variable {w : World} {b g n : Nat} {f : Nat → Bool}
set_option maxHeartbeats 1000000 in
theorem rlist_in (h : Rf w b g n f) : Calls Tryd.prog 11 #[.pointer (some ⟨b, 0, none⟩)] w (GivesList w (mem f n)) := by
  obtain ⟨i0, hi, hz0, hz1, hz2⟩ := info_parts info3
  have hc := h.c0
  have hle := h.le
  have hcw : Hid (∀ k, k < n → w.cell? ⟨g, k, none⟩ = some (.bool (f k)) ∧ g < w.heap.size) := Lib.hid fun k hk => ⟨h.cw hk, h.lt.2⟩
  have hbw := h.lt.1
  clear h
  unfold GivesList
  go_enter Tryd.func11, Tryd.ntmps11
  go_wp2
  have hrow : (w.alloc (.cells #[] 3)).ownsRow w.heap.size 3 1 (.slice (some ⟨w.heap.size, 0, none⟩) 0 0) (mem f 0).length ((mem f 0).map encI) := by
    have := World.ownsRow_lit (base := w.heap.size) (e := 3) (size := 1) w #[] 0 (Nat.le_refl _) (by decide) rfl
    simpa [mem] using this
  have hB : Below w.heap.size w (w.alloc (.cells #[] 3)) := (Below.refl _ _).alloc (Nat.le_refl _) _
  revert hB hrow
  generalize w.alloc (.cells #[] 3) = W2
  intro hrow hB
  go_loopw [3, 12] (fun v i wr => ∃ k : Nat, k ≤ n ∧ i = .int .i64 k ∧ wr.ownsRow w.heap.size 3 1 v (mem f k).length ((mem f k).map encI) ∧ Below w.heap.size w wr) (fun _ i _ => n - (intOf i).toNat)
  case atStart => exact ⟨0, by omega, rfl, hrow, hB⟩
  case round =>
    clear hrow hB
    obtain ⟨k, hk, rfl, hrow, hB⟩ := hrel
    by_cases hlt : k < n
    · obtain ⟨hck, hgw⟩ := hcw.out k hlt
      replace hck := (hB.cell (p := ⟨g, k, none⟩) hgw).trans hck
      have hlen := mem_le f k
      cases hf : f k
      · rw [hf] at hck
        have he := Lib.hid (mem_miss hf)
        replace hrow := Lib.hid hrow
        replace hB := Lib.hid hB
        clear hf
        go_wp2
        go_roundw
        case rel => exact ⟨k + 1, by omega, by go_num, by rw [he.out]; exact hrow.out, hB.out⟩
        case measure => simp [intOf]; omega
      · rw [hf] at hck
        have he := Lib.hid (mem_hit hf)
        clear hf
        generalize hl : (mem f k).length = m at *
        generalize hxs : (mem f k).map encI = xs at *
        replace hl := Lib.hid hl
        replace hxs := Lib.hid hxs
        go_wp2_with (at_builtin; refine wpList_append_own _ rfl _ _ 37 rfl w.heap.size 3 i0 (.int .i64 0) 1 8 u37 hi hz0 hz1 hz2 rfl (by decide) _ _ _ rfl (hrow.alloc _) ⟨_, 0, none⟩ 1 1 [_] rfl rfl (cell_one_new _ _ _) (by simp [Value.oneCell']) (by simp [maxLen]; omega) (by omega) (by have := hB.size; simp; omega) ?_; intro v' w1 hown' hgrow _; replace hB := Lib.hid (below_grown hB hB.size hrow hgrow); replace hrow := Lib.hid hown'; clear hown' hgrow)
        go_roundw
        case rel => exact ⟨k + 1, by omega, by go_num, by rw [he.out, List.length_append, List.map_append, hl.out, hxs.out]; exact hrow.out, hB.out⟩
        case measure => simp [intOf]; omega
    · obtain rfl : k = n := by omega
      replace hrow := Lib.hid hrow
      replace hB := Lib.hid hB
      go_wp2
      go_ret
      exact ⟨_, rfl, hrow.out, hB.out⟩

theorem rafter_in (h : Rf w b g n f) {i r : Int} (hr : AfterIs f n (sOf i) r) : Calls Tryd.prog 26 #[.pointer (some ⟨b, 0, none⟩), .int .i64 i] w fun e w' => e = .returned (.int .i64 r) ∧ w = w' := by
  have hc := h.c0
  have hle := h.le
  have hcw : Hid (∀ k, k < n → w.cell? ⟨g, k, none⟩ = some (.bool (f k))) := Lib.hid fun k hk => h.cw hk
  clear h
  replace hr := Lib.hid hr
  have hs : ∀ k : Nat, sOf i ≤ k ↔ i < k := fun k => by unfold sOf; omega
  replace hs := Lib.hid hs
  go_enter Tryd.func26, Tryd.ntmps26
  go_wp2
  go_loop [12] (fun c => ∃ k : Nat, k ≤ n ∧ c = .int .i64 k ∧ Hid (∀ x, sOf i ≤ x → x < k → f x = false)) (fun c => n - (intOf c).toNat)
  case atStart => exact ⟨0, by omega, rfl, Lib.hid fun x _ a => by omega⟩
  case round =>
    obtain ⟨k, hk, rfl, hno⟩ := hrel
    by_cases hlt : k < n
    · have hck := hcw.out k hlt
      cases hf : f k
      · have hno2 : Hid (∀ x, sOf i ≤ x → x < k + 1 → f x = false) := Lib.hid fun x a b => by
          rcases Nat.lt_or_ge x k with q | q
          · exact hno.out x a q
          · obtain rfl : x = k := by omega
            exact hf
        rw [hf] at hck
        clear hno hf
        go_wp2
        go_round
        case rel => exact ⟨k + 1, by omega, by go_num, hno2⟩
        case measure => simp [intOf]; omega
      · by_cases hik : i < k
        · have hrr : r = k := hr.out.at ((hs.out k).2 hik) hf hno.out
          have q : decide (i < (k : Int)) = true := by simpa using hik
          rw [hf] at hck
          clear hno hf hr
          go_wp2
          go_ret
          exact ⟨rfl, rfl⟩
        · have hno2 : Hid (∀ x, sOf i ≤ x → x < k + 1 → f x = false) := Lib.hid fun x a b => by
            rcases Nat.lt_or_ge x k with q | q
            · exact hno.out x a q
            · have := (hs.out x).1 a
              omega
          have q : decide (i < (k : Int)) = false := by simpa using hik
          rw [hf] at hck
          clear hno hf
          go_wp2
          go_round
          case rel => exact ⟨k + 1, by omega, by go_num, hno2⟩
          case measure => simp [intOf]; omega
    · have hrr : r = -1 := hr.out.none fun x a b => hno.out x a (by omega)
      clear hno hr
      go_wp2
      go_ret
      exact ⟨rfl, rfl⟩
end
end Go.Proofs.YtkdjojmegohonaaDoor
