/- The program's opening of a frame. -/
import Derived.Test.YtficnnlajpfkbaaDoorW5
import Derived.Deep.RegionHeld3
namespace Go.Proofs.YtficnnlajpfkbaaDoor
open Go.RowKit
theorem i5 : ∃ i, Tryd.prog.info? 5 = some i := by
  obtain ⟨i0, hi0, _⟩ := info_parts info5
  exact ⟨i0, hi0⟩
theorem u42 : Tryd.prog.underlying 42 = some (.array 4 5) := by kernel_rfl
theorem u5 : Tryd.prog.underlying 5 = some (.int .u8) := by kernel_rfl
theorem c5 : Tryd.prog.cellsOf 5 = 1 := by kernel_rfl
theorem eq42 (a0 a1 a2 a3 b0 b1 b2 b3 : Int) (w : World) : (Op.equalIn 10000 42 (.agg #[.int .u8 a0, .int .u8 a1, .int .u8 a2, .int .u8 a3]) (.agg #[.int .u8 b0, .int .u8 b1, .int .u8 b2, .int .u8 b3])).run Tryd.prog w =
    .ok ((a0 == b0) && (a1 == b1) && (a2 == b2) && (a3 == b3)) w := by
  obtain ⟨i, hi⟩ := i5
  rw [run_equalIn_array w 9999 _ _ u42 hi, c5]
  have hr : List.range 4 = [0, 1, 2, 3] := rfl
  rw [hr]
  simp only [Op.eqItems, Sem.run_bind]
  simp [go_sem]
  by_cases h0 : a0 = b0 <;> by_cases h1 : a1 = b1 <;> by_cases h2 : a2 = b2 <;> by_cases h3 : a3 = b3 <;> simp [*]
theorem Bel.alloc {w w' : World} (h : Bel w w') (o : Obj) : Bel w (w'.alloc o) := Below.alloc h h.size o
theorem Src.head {w : World} {a : Option Addr} {c : Nat} {x y : List Nat} {n : Nat} (h : Src w a n c (x ++ y)) : Src w a x.length c x :=
  ⟨rfl, fun q hq => h.small q (by simp [hq]), fun e => by
      have h2 := h.nil e
      have h3 := h.len
      simp at h3
      exact ⟨by omega, h2.2⟩,
    fun ad e j u hu => h.cells ad e j u (by rw [List.map_append, List.getElem?_append_left (List.getElem?_eq_some_iff.1 hu).1]; exact hu),
    by have := h.len; have := h.cap; simp at *; omega⟩
theorem slice_tail (bb off m c : Nat) (hc : m + 4 ≤ c) (w : World) : (Instr.sliceAt 24 (.slice (some ⟨bb, off, none⟩) (m + 4) c) (some (.int .i64 m)) none none).run Tryd.prog w = .ok (.slice (some ⟨bb, off + m, none⟩) 4 (c - m)) w := by
  have m0 : (0 : Int) ≤ (m : Int) := by omega
  have m1 : (m : Int) ≤ ((m + 4 : Nat) : Int) := by omega
  have m2 : (m : Int) ≤ (m : Int) + 4 := by omega
  have m3 : c ≠ m := by omega
  have m4 : m + 4 - m = 4 := by omega
  go_simp
theorem slice_head (bb off m c : Nat) (hc : m + 4 ≤ c) (w : World) : (Instr.sliceAt 24 (.slice (some ⟨bb, off, none⟩) (m + 4) c) none (some (.int .i64 m)) none).run Tryd.prog w = .ok (.slice (some ⟨bb, off, none⟩) m c) w := by
  have m0 : (0 : Int) ≤ (m : Int) := by omega
  have m1 : (m : Int) ≤ (c : Int) := by omega
  have m2 : (m : Int) ≤ (m : Int) + 4 := by omega
  have m3 : c ≠ 0 := by omega
  go_simp
theorem tail_cells {w : World} {bb off c y0 y1 y2 y3 : Nat} {x : List Nat} {n : Nat} (h : Src w (some ⟨bb, off, none⟩) n c (x ++ [y0, y1, y2, y3])) :
    w.cell? ⟨bb, off + x.length, none⟩ = some (.int .u8 y0) ∧ w.cell? ⟨bb, off + x.length + 1, none⟩ = some (.int .u8 y1) ∧ w.cell? ⟨bb, off + x.length + 2, none⟩ = some (.int .u8 y2) ∧ w.cell? ⟨bb, off + x.length + 3, none⟩ = some (.int .u8 y3) := by
  have hl := h.len
  simp only [List.length_append, List.length_cons, List.length_nil] at hl
  obtain ⟨b2, off2, e, hc⟩ := h.at (by omega)
  cases e
  have g (j : Nat) (hj : j < 4) : (x ++ [y0, y1, y2, y3])[x.length + j]? = [y0, y1, y2, y3][j]? := by
    rw [List.getElem?_append_right (by omega)]
    congr 1; omega
  have k (j : Nat) (hj : j < 4) (v : Nat) (hv : [y0, y1, y2, y3][j]? = some v) : w.cell? ⟨bb, off + (x.length + j), none⟩ = some (.int .u8 v) := by
    have h1 := g j hj
    rw [hv] at h1
    obtain ⟨h2, h3⟩ := List.getElem?_eq_some_iff.1 h1
    rw [hc _ h2, h3]
  exact ⟨k 0 (by decide) y0 rfl, k 1 (by decide) y1 rfl, k 2 (by decide) y2 rfl, k 3 (by decide) y3 rfl⟩
/-- The four bytes are the sum of those ahead. -/
def fits (x y : List Nat) : Bool := decide (y = fourL (crcN 0 x))
theorem opened_short (a : Option Addr) (n c : Nat) (hn : n < 4) (w : World) (E : Value) (hE : w.cell? ⟨1, 0, none⟩ = some E) :
    Calls Tryd.prog 14 #[.slice a n c] w fun e w' => e = .returned (.tuple #[.slice none 0 0, E]) ∧ Below w.heap.size w w' := by
  have h4 : (n : Int) < 4 := by omega
  go_enter Tryd.func14, Tryd.ntmps14
  go_wp2
  go_region
  all_goals
    go_wp2
    go_ret2
    exact ⟨rfl, Bel.drew (Bel.refl w)⟩
set_option maxRecDepth 100000 in
set_option maxHeartbeats 2000000 in
theorem opened_no (bb off c : Nat) (x : List Nat) (y0 y1 y2 y3 : Nat) (w : World) (hs : Src w (some ⟨bb, off, none⟩) (x.length + 4) c (x ++ [y0, y1, y2, y3])) (hT : Tab w) (hm : x.length ≤ 10000) (E : Value) (hE : w.cell? ⟨2, 0, none⟩ = some E)
    (hne : fits x [y0, y1, y2, y3] = false) :
    Calls Tryd.prog 14 #[.slice (some ⟨bb, off, none⟩) (x.length + 4) c] w fun e w' => e = .returned (.tuple #[.slice none 0 0, E]) ∧ Below w.heap.size w w' := by
  have hcap := hs.cap
  have hsx := hs.head
  have hcl : ∀ w', Bel w w' → w'.cell? ⟨bb, off + x.length, none⟩ = some (.int .u8 y0) ∧ w'.cell? ⟨bb, off + x.length + 1, none⟩ = some (.int .u8 y1) ∧ w'.cell? ⟨bb, off + x.length + 2, none⟩ = some (.int .u8 y2) ∧ w'.cell? ⟨bb, off + x.length + 3, none⟩ = some (.int .u8 y3) :=
    fun w' hb => tail_cells (hs.bel hb)
  have hS : Calls Tryd.prog 8 #[.slice (some ⟨w.heap.size, 0, none⟩) 1 1] (w.drew.alloc (.cells #[.slice (some ⟨bb, off, none⟩) x.length c] 24)) fun e w' => e = .returned (.int .i64 (crcN 0 x : Nat)) ∧ w.drew.alloc (.cells #[.slice (some ⟨bb, off, none⟩) x.length c] 24) = w' := by
    have b0 : Bel w w.drew := Bel.drew (Bel.refl w)
    have b1 := Bel.new w.drew (.cells #[.slice (some ⟨bb, off, none⟩) x.length c] 24)
    have hsum := sum_in _ 1 1 [x] _ (one_part (World.alloc_heap_new w.drew (.cells #[.slice (some ⟨bb, off, none⟩) x.length c] 24)) ((hsx.bel b0).bel b1)) ((hT.bel b0).bel b1) (by decide) (by simpa using (by omega : x.length ≤ 100000))
    rw [show ([x] : List (List Nat)).flatten = x by simp] at hsum
    exact hsum
  have hlt := crcN_lt (s := 0) x
  have hwr := fun w => written_in (crcN 0 x) hlt w
  have hq : ∃ q0 q1 q2 q3 : Nat, row (fourL (crcN 0 x)) = #[.int .u8 q0, .int .u8 q1, .int .u8 q2, .int .u8 q3] ∧ fourL (crcN 0 x) = [q0, q1, q2, q3] := ⟨_, _, _, _, rfl, rfl⟩
  obtain ⟨q0, q1, q2, q3, hq, hq'⟩ := hq
  rw [hq] at hwr
  have hcmp : (((y0 : Int) == q0) && ((y1 : Int) == q1) && ((y2 : Int) == q2) && ((y3 : Int) == q3)) = fits x [y0, y1, y2, y3] := by
    unfold fits
    rw [hq', Bool.eq_iff_iff]
    simp only [Bool.and_eq_true, beq_iff_eq, decide_eq_true_eq, List.cons.injEq, and_true]
    omega
  have heq := eq42 y0 y1 y2 y3 q0 q1 q2 q3
  rw [hcmp, hne] at heq
  clear hq hq' hcmp hne hlt
  clear hs hsx hT
  replace hE : Hid (∀ w', Bel w w' → w'.cell? ⟨2, 0, none⟩ = some E) := Lib.hid fun w' hb => hb.cell (World.block_lt_of_cell? _ _ hE) hE
  generalize crcN 0 x = cr at *
  generalize x.length = m at *
  replace hwr := Lib.hid hwr
  replace hS := Lib.hid hS
  have hs1 := slice_tail bb off m c hcap
  have hs2 := slice_head bb off m c hcap
  have m2 : (m : Int) + 4 - 4 = m := by omega
  have m3 : IntKind.i64.wrap ((m : Int) + 4 - 4) = m := by rw [IntKind.wrap_i64]; omega
  have hA : ∀ w', (Instr.arrayAt 42 (.slice (some ⟨bb, off + m, none⟩) 4 (c - m))).run Tryd.prog w' = .ok (.pointer (some ⟨bb, off + m, none⟩)) w' := fun w' => run_arrayAt _ 42 5 4 _ 4 _ u42 (Nat.le_refl _)
  have hq0 : Bel w w := Bel.refl w
  have hq1 : Bel w w.drew := Bel.drew hq0
  go_enter Tryd.func14, Tryd.ntmps14
  go_wp2_with fail
  go_region_held3 (Bel w) (first | assumption | exact Bel.drew ‹_› | (refine Bel.drew (Bel.alloc ?_ _); assumption) | (refine Bel.alloc ?_ _; assumption)) (first
    | (go_at_call 8; refine hS.out.mono ?_; rintro e w' ⟨rfl, rfl⟩)
    | (go_at_call 16; refine (hwr.out _).mono ?_; rintro e w2 ⟨rfl, hb⟩; replace hb := Bel.step ‹Bel w _› hb))
  all_goals
    have hq9 := Lib.hid ‹Bel w w2›
    have hE2 := hE.out w2 hq9.out
    clear hcl hs1 hs2 hA heq hq0 hq1 m2 m3 hwr hS hE
    go_wp2
    go_region
    all_goals
      go_wp2
      go_ret2
      exact ⟨rfl, Bel.drew hq9.out⟩
/-- It hands back a slice of its own that holds l, and no error. -/
def GivesBytes (w0 : World) (l : List Nat) (e : Ending) (w' : World) : Prop := ∃ v, e = .returned (.tuple #[v, .nilIface]) ∧ w'.ownsRow w0.heap.size 5 1 v l.length (l.map encN) ∧ Below w0.heap.size w0 w'
set_option maxRecDepth 100000 in
set_option maxHeartbeats 2000000 in
theorem opened_yes (bb off c : Nat) (x : List Nat) (y0 y1 y2 y3 : Nat) (w : World) (hs : Src w (some ⟨bb, off, none⟩) (x.length + 4) c (x ++ [y0, y1, y2, y3])) (hT : Tab w) (hm : x.length ≤ 10000)
    (hne : fits x [y0, y1, y2, y3] = true) :
    Calls Tryd.prog 14 #[.slice (some ⟨bb, off, none⟩) (x.length + 4) c] w fun e w' => GivesBytes w x e w' := by
  obtain ⟨i0, hi, hz0, hz1, hz2⟩ := info_parts info5
  unfold GivesBytes
  have hcap := hs.cap
  have hsx := hs.head
  have hcl : ∀ w', Bel w w' → w'.cell? ⟨bb, off + x.length, none⟩ = some (.int .u8 y0) ∧ w'.cell? ⟨bb, off + x.length + 1, none⟩ = some (.int .u8 y1) ∧ w'.cell? ⟨bb, off + x.length + 2, none⟩ = some (.int .u8 y2) ∧ w'.cell? ⟨bb, off + x.length + 3, none⟩ = some (.int .u8 y3) :=
    fun w' hb => tail_cells (hs.bel hb)
  have hS : Calls Tryd.prog 8 #[.slice (some ⟨w.heap.size, 0, none⟩) 1 1] (w.drew.alloc (.cells #[.slice (some ⟨bb, off, none⟩) x.length c] 24)) fun e w' => e = .returned (.int .i64 (crcN 0 x : Nat)) ∧ w.drew.alloc (.cells #[.slice (some ⟨bb, off, none⟩) x.length c] 24) = w' := by
    have b0 : Bel w w.drew := Bel.drew (Bel.refl w)
    have b1 := Bel.new w.drew (.cells #[.slice (some ⟨bb, off, none⟩) x.length c] 24)
    have hsum := sum_in _ 1 1 [x] _ (one_part (World.alloc_heap_new w.drew (.cells #[.slice (some ⟨bb, off, none⟩) x.length c] 24)) ((hsx.bel b0).bel b1)) ((hT.bel b0).bel b1) (by decide) (by simpa using (by omega : x.length ≤ 100000))
    rw [show ([x] : List (List Nat)).flatten = x by simp] at hsum
    exact hsum
  have hlt := crcN_lt (s := 0) x
  have hwr := fun w => written_in (crcN 0 x) hlt w
  have hq : ∃ q0 q1 q2 q3 : Nat, row (fourL (crcN 0 x)) = #[.int .u8 q0, .int .u8 q1, .int .u8 q2, .int .u8 q3] ∧ fourL (crcN 0 x) = [q0, q1, q2, q3] := ⟨_, _, _, _, rfl, rfl⟩
  obtain ⟨q0, q1, q2, q3, hq, hq'⟩ := hq
  rw [hq] at hwr
  have hcmp : (((y0 : Int) == q0) && ((y1 : Int) == q1) && ((y2 : Int) == q2) && ((y3 : Int) == q3)) = fits x [y0, y1, y2, y3] := by
    unfold fits
    rw [hq', Bool.eq_iff_iff]
    simp only [Bool.and_eq_true, beq_iff_eq, decide_eq_true_eq, List.cons.injEq, and_true]
    omega
  have heq := eq42 y0 y1 y2 y3 q0 q1 q2 q3
  rw [hcmp, hne] at heq
  clear hq hq' hcmp hne hlt
  have hxc : Hid (∀ w', Bel w w' → ∀ j u, (x.map encN)[j]? = some u → w'.cell? ((⟨bb, off, none⟩ : Addr).add j) = some u) := Lib.hid fun w' hb => (hsx.bel hb).cells _ rfl
  have hx1 : Hid (∀ u ∈ x.map encN, u.oneCell' = true) := Lib.hid (by intro u hu; obtain ⟨x, _, rfl⟩ := List.mem_map.1 hu; rfl)
  have hxl : Hid ((x.map encN).length = x.length * 1) := Lib.hid (by simp)
  clear hs hsx hT
  generalize crcN 0 x = cr at *
  generalize x.map encN = xs at *
  generalize x.length = m at *
  replace hwr := Lib.hid hwr
  replace hS := Lib.hid hS
  have hs1 := slice_tail bb off m c hcap
  have hs2 := slice_head bb off m c hcap
  have m2 : (m : Int) + 4 - 4 = m := by omega
  have m3 : IntKind.i64.wrap ((m : Int) + 4 - 4) = m := by rw [IntKind.wrap_i64]; omega
  have hA : ∀ w', (Instr.arrayAt 42 (.slice (some ⟨bb, off + m, none⟩) 4 (c - m))).run Tryd.prog w' = .ok (.pointer (some ⟨bb, off + m, none⟩)) w' := fun w' => run_arrayAt _ 42 5 4 _ 4 _ u42 (Nat.le_refl _)
  have hq0 : Bel w w := Bel.refl w
  have hq1 : Bel w w.drew := Bel.drew hq0
  go_enter Tryd.func14, Tryd.ntmps14
  go_wp2_with fail
  go_region_held3 (Bel w) (first | assumption | exact Bel.drew ‹_› | (refine Bel.drew (Bel.alloc ?_ _); assumption) | (refine Bel.alloc ?_ _; assumption)) (first
    | (go_at_call 8; refine hS.out.mono ?_; rintro e w' ⟨rfl, rfl⟩)
    | (go_at_call 16; refine (hwr.out _).mono ?_; rintro e w2 ⟨rfl, hb⟩; replace hb := Bel.step ‹Bel w _› hb))
  all_goals
    have hq9 := Lib.hid ‹Bel w w2›
    clear hcl hs1 hA heq hq0 hq1 m2 m3 hwr hS
    have hrow : (w2.alloc (.cells #[] 5)).ownsRow w.heap.size 5 1 (.slice (some ⟨w2.heap.size, 0, none⟩) 0 0) 0 [] := by
      have := World.ownsRow_lit (base := w.heap.size) (e := 5) (size := 1) w2 #[] 0 hq9.out.size (by decide) rfl
      simpa using this
    have hb3 := Lib.hid (Bel.alloc hq9.out (.cells #[] 5))
    go_wp2_with (first
      | (at_builtin; refine wpList_append_own _ rfl _ _ 24 rfl w.heap.size 5 i0 (.int .u8 0) 1 1 Tryd.underlying24 hi hz0 hz1 hz2 rfl (by decide) _ _ _ rfl hrow ⟨bb, off, none⟩ m c xs rfl hxl.out (hxc.out _ hb3.out) hx1.out (by simp [maxLen]; omega) (by omega) hb3.out.size ?_; intro v' w4 hown' hgrow _; clear hrow))
    go_ret2
    refine ⟨v', rfl, ?_, ?_⟩
    · simpa using hown'
    · exact hb3.out.grown hgrow hb3.out.size (fun k e => by cases e; exact hq9.out.size)
end Go.Proofs.YtficnnlajpfkbaaDoor
