/- Contracts of New, Len and After of the document's marks. -/
import Derived.Test.YtkdjojmegohonaaDoorW2
import Derived.Outline
namespace Go.Proofs.YtkdjojmegohonaaDoor
open Go.RowKit
theorem u46 : Tryd.prog.underlying 46 = some (.slice 49) := by kernel_rfl
theorem info49 : (Tryd.prog.info? 49).map (fun i => (i.zero, i.size, i.bytes)) = some (some (.int .u64 0), 1, 8) := by kernel_rfl
section
variable {w : World} {b g n : Nat} {f : Nat → Bool}
theorem wds_no (k : Nat) : madeCells #[.int .u64 0] k = wds noS k := by
  apply Array.toList_inj.1
  rw [toList_madeCells_one]
  apply List.ext_getElem?
  intro j
  by_cases hj : j < k
  · simp [wds, hj, no_wd]
  · simp [wds, hj]
theorem heap2 (w : World) (A B : Obj) : ((w.alloc A).alloc B).heap[w.heap.size]? = some A ∧ ((w.alloc A).alloc B).heap[w.heap.size + 1]? = some B := ⟨heap_alloc2_old w A B, heap_alloc2_new w A B⟩
theorem new_in (n : Nat) (hn : n ≤ 65536) (w : World) : Calls Tryd.prog 6 #[.int .i64 n] w fun e w' => ∃ b g, e = .returned (.tuple #[.pointer (some ⟨b, 0, none⟩), .nilIface]) ∧ Mk w' b g n noS ∧ w.heap.size ≤ b ∧ w.heap.size ≤ g ∧ Below w.heap.size w w' := by
  obtain ⟨i0, hi, hz0, hz1, hz2⟩ := info_parts info49
  have hmk := fun (w : World) => run_make (P := Tryd.prog) w 46 49 i0 (.int .u64 0) u46 hi hz0 .i64 .i64 (((n : Int) + 63) / 64) (((n : Int) + 63) / 64) (by omega) (Int.le_refl _) (by rw [hz2]; omega) (by omega)
  have q : ¬ (n : Int) > 65536 := by omega
  go_enter Tryd.func6, Tryd.ntmps6
  go_wp2
  go_ret2
  have H := heap2 w (Obj.cells (madeCells #[Value.int IntKind.u64 0] ((n + 63) / 64)) 49) (Obj.cells #[Value.int IntKind.i64 n, Value.slice (some { block := w.heap.size, off := 0 }) ((n + 63) / 64) ((n + 63) / 64)] 48)
  refine ⟨_, rfl, _, ⟨H.2, by rw [H.1, wds_no]; rfl, by omega, fun _ _ => rfl, hn⟩, by omega, Nat.le_refl _, ((Below.refl _ _).alloc (Nat.le_refl _) _).alloc (by simp) _⟩
theorem len_in (h : Mk w b g n f) : Calls Tryd.prog 20 #[.pointer (some ⟨b, 0, none⟩)] w fun e w' => e = .returned (.int .i64 (cnt f n)) ∧ w = w' := by
  have hk := kw_max h.le
  have htop := cnt_top h.top (64 * kw n) (kw_le n)
  have hcw : ∀ k, k < kw n → w.cell? ⟨g, k, none⟩ = some (.int .u64 (wd f k : Nat)) := fun k hk => h.cw hk
  have A := all_in h
  rw [← htop]
  clear htop
  generalize kw n = K at *
  go_enter Tryd.func20, Tryd.ntmps20
  go_wp2_with (go_at_call 23; refine A.mono ?_; rintro e w' ⟨rfl, rfl⟩)
  go_loop [3, 9] (fun t i => ∃ k : Nat, k ≤ K ∧ i = .int .i64 k ∧ t = .int .i64 (cnt f (64 * k))) (fun _ i => K - (intOf i).toNat)
  case atStart => exact ⟨0, Nat.zero_le _, rfl, rfl⟩
  case round =>
    obtain ⟨k, hk2, rfl, rfl⟩ := hrel
    by_cases hlt : k < K
    · have hc := hcw k hlt
      have hl := cnt_le f (64 * k)
      have hl2 := cnt_le (wd f k).testBit 64
      have hw := Lib.hid (cnt_word f k)
      have O := ones_in (wd f k) (wd_lt f k) w
      clear hcw h
      generalize wd f k = x at *
      generalize cnt f (64 * k) = c0 at *
      generalize cnt x.testBit 64 = d at *
      go_wp2_with (go_at_call 29; refine O.mono ?_; rintro e w' ⟨rfl, rfl⟩)
      go_round
      case rel => exact ⟨k + 1, by omega, by go_num, by rw [hw.out]; go_num⟩
      case measure => simp [intOf]; omega
    · obtain rfl : k = K := by omega
      go_wp2
      go_ret
      exact ⟨rfl, rfl⟩
end
end Go.Proofs.YtkdjojmegohonaaDoor
