/- Texts of earlier layers, merged: S1W5, S1W6, S1W10. -/
import Derived.Test.YtjlmeegaiagfpaaDoorS1C
import Derived.Laws.MakeOwn
namespace Go.Proofs.YtjlmeegaiagfpaaDoor.S1
open Go.RowKit

def bl (g : Nat → Bool) : List Value := (List.range 256).map fun i => .bool (g i)
theorem bl_get (g : Nat → Bool) {k : Nat} (h : k < 256) : (bl g)[k]? = some (.bool (g k)) := by simp [bl, h]
theorem bl_set (g : Nat → Bool) (k : Nat) (u : Bool) : (bl g).set k (.bool u) = bl (fun x => if x = k then u else g x) := by
  apply List.ext_getElem?
  intro i
  by_cases hi : i < 256
  · rw [bl_get _ hi, List.getElem?_set]
    by_cases e : k = i
    · subst e; simp [bl, hi]
    · have e' : ¬ i = k := fun x => e x.symm
      simp [e, e', bl_get g hi]
  · have h1 : (bl g).length = 256 := by simp [bl]
    rw [List.getElem?_eq_none (by simp [bl]; omega), List.getElem?_eq_none (by simp [bl]; omega)]
/-- Block b is a row of 256 Bools. -/
def BoolRow (w : World) (b : Nat) (g : Nat → Bool) : Prop := w.heap[b]? = some (.cells (bl g).toArray 4 (0, 0))
theorem BoolRow.lt {w : World} {b : Nat} {g : Nat → Bool} (h : BoolRow w b g) : b < w.heap.size := (Array.getElem?_eq_some_iff.1 h).1
theorem BoolRow.below {w w' : World} {B b : Nat} {g : Nat → Bool} (h : BoolRow w b g) (hb : Below B w w') (hB : b < B) : BoolRow w' b g := (hb.block b hB).trans h
theorem BoolRow.bel {w w' : World} {b : Nat} {g : Nat → Bool} (h : BoolRow w b g) (hb : Bel w w') : BoolRow w' b g := h.below hb h.lt
theorem BoolRow.cell {w : World} {b : Nat} {g : Nat → Bool} (h : BoolRow w b g) {k : Nat} (hk : k < 256) : w.cell? ⟨b, k, none⟩ = some (.bool (g k)) := by
  rw [cell_of_row w b k _ _ (0, 0) h]; simpa using bl_get g hk
theorem BoolRow.frozen {w : World} {b : Nat} {g : Nat → Bool} (h : BoolRow w b g) (k : Nat) : w.frozen? ⟨b, k, none⟩ = false := frozen_of_row w b k _ _ h
theorem BoolRow.set {w : World} {b : Nat} {g : Nat → Bool} (h : BoolRow w b g) (k : Nat) (u : Bool) : BoolRow (w.setCell ⟨b, k, none⟩ (.bool u)) b (fun x => if x = k then u else g x) := by
  have := heap_setCell_same w b k _ _ (.bool u) h
  unfold BoolRow
  rw [this, ← bl_set]
  simp
theorem BoolRow.new (w : World) (g : Nat → Bool) : BoolRow (w.alloc (.cells (bl g).toArray 4)) w.heap.size g := World.alloc_heap_new w _
theorem BoolRow.congr {w : World} {b : Nat} {f g : Nat → Bool} (h : BoolRow w b f) (hfg : ∀ c, c < 256 → f c = g c) : BoolRow w b g := by
  have : bl f = bl g := List.map_congr_left fun i hi => by rw [hfg i (List.mem_range.1 hi)]
  unfold BoolRow at *
  rw [← this]; exact h
theorem Blk4.setOther {w : World} {b : Nat} {t : TypeId} {v0 v1 v2 v3 : Value} (h : Blk4 w b t v0 v1 v2 v3) {a : Addr} (hne : b ≠ a.block) (u : Value) : Blk4 (w.setCell a u) b t v0 v1 v2 v3 :=
  (Below.heap_setCell w a u b hne).trans h
theorem BoolRow.setOther {w : World} {b : Nat} {g : Nat → Bool} (h : BoolRow w b g) {a : Addr} (hne : b ≠ a.block) (u : Value) : BoolRow (w.setCell a u) b g :=
  (Below.heap_setCell w a u b hne).trans h

def cutS (g : Nat → Bool) (k : Nat) : Nat → Bool := fun x => g x && decide (x < k)
theorem cut_add {g : Nat → Bool} {k q : Nat} (hk : k / 64 = q) (hg : g k = true) : IntKind.u64.wrap ((wd (cutS g k) q : Int) + ((2 ^ (k % 64) : Nat) : Int)) = (wd (cutS g (k + 1)) q : Int) := by
  have hm := Nat.mod_lt k (by decide : 0 < 64)
  have hlt : wd (cutS g k) q < 2 ^ (k % 64) := by
    apply Nat.lt_pow_two_of_testBit
    intro i hi
    rw [testBit_wd]
    by_cases h64 : i < 64
    · have : ¬ 64 * q + i < k := by omega
      simp [cutS, this]
    · simp [h64]
  have e : wd (cutS g k) q + 2 ^ (k % 64) = wd (cutS g (k + 1)) q := by
    have hp : (2 : Nat) ^ (k % 64) * 2 ≤ 2 ^ 64 := by
      rw [← Nat.pow_succ]; exact Nat.pow_le_pow_right (by decide) (by omega)
    refine eq_wd (by have : (2 : Nat) ^ 64 = 18446744073709551616 := by decide
                     omega) fun i hi => ?_
    have e1 : wd (cutS g k) q + 2 ^ (k % 64) = 2 ^ (k % 64) * 1 + wd (cutS g k) q := by omega
    rw [e1, Nat.testBit_two_pow_mul_add _ hlt, testBit_wd]
    by_cases h1 : i < k % 64
    · have a1 : 64 * q + i < k := by omega
      have a2 : 64 * q + i < k + 1 := by omega
      simp [h1, hi, cutS, a1, a2]
    · by_cases h2 : i = k % 64
      · have a1 : 64 * q + i = k := by omega
        simp [h2, cutS]
        have a3 : 64 * q + k % 64 = k := by omega
        rw [a3, hg]; simp
      · have a1 : ¬ 64 * q + i < k + 1 := by omega
        obtain ⟨j, hj⟩ : ∃ j, i - k % 64 = j + 1 := ⟨i - k % 64 - 1, by omega⟩
        simp [h1, cutS, a1, hj, Nat.testBit_succ]
  rw [← Int.natCast_add, e]
  exact wrap_nat (wd_lt _ _)
theorem cut_off {g : Nat → Bool} {k j : Nat} (hk : k / 64 ≠ j) : wd (cutS g (k + 1)) j = wd (cutS g k) j :=
  wd_congr fun i hi => by
    unfold cutS
    have : (64 * j + i < k + 1) ↔ (64 * j + i < k) := by omega
    rw [Bool.eq_iff_iff]; simp [this]
theorem cut_miss {g : Nat → Bool} {k : Nat} (hg : g k = false) : ∀ c, c < 256 → cutS g k c = cutS g (k + 1) c := fun c _ => by
  unfold cutS
  by_cases e : c = k
  · subst e; simp [hg]
  · have : (c < k + 1) ↔ (c < k) := by omega
    rw [Bool.eq_iff_iff]; simp [this]
theorem pow_wrap (k : Nat) : IntKind.u64.wrap (2 ^ ((k : Int) % 64).toNat) = ((2 ^ (k % 64) : Nat) : Int) := by
  have e : ((k : Int) % 64).toNat = k % 64 := by omega
  have this : (2 : Int) ^ (k % 64) = ((2 ^ (k % 64) : Nat) : Int) := by simp
  rw [e, this]
  exact wrap_nat (Nat.pow_lt_pow_right (a := 2) (by decide) (Nat.mod_lt k (by decide : 0 < 64)))

set_option maxRecDepth 10000 in
set_option maxHeartbeats 2000000 in
theorem refof_in (g : Nat → Bool) (b : Nat) (w : World) (hrow : BoolRow w b g) :
    Calls Tryd.prog 71 #[.slice (some ⟨b, 0, none⟩) 256 256] w fun e w' => e = .returned (.agg #[.int .u64 (wd g 0), .int .u64 (wd g 1), .int .u64 (wd g 2), .int .u64 (wd g 3)]) ∧ Below w.heap.size w w' := by
  have hbl := hrow.lt
  go_enter Tryd.func71, Tryd.ntmps71
  go_wp2
  obtain ⟨W, hW, br, bs, hB⟩ := boxes2 w 24 24 (.int .u64 0) (.int .u64 0) (.int .u64 0) (.int .u64 0) (.int .u64 0) (.int .u64 0) (.int .u64 0) (.int .u64 0)
  rw [hW]
  clear hW
  have bs0 : SetBox W (w.heap.size + 1) 24 (cutS g 0) := by
    have : SetBox W (w.heap.size + 1) 24 noS := by unfold SetBox; simp only [no_wd]; exact bs
    exact this.congr fun c _ => by simp [noS, cutS]
  go_loopw [4] (fun i wr => ∃ k : Nat, k ≤ 256 ∧ i = .int .i64 k ∧ Blk4 wr w.heap.size 24 (.int .u64 0) (.int .u64 0) (.int .u64 0) (.int .u64 0) ∧ SetBox wr (w.heap.size + 1) 24 (cutS g k) ∧ Below w.heap.size w wr) (fun i _ => 256 - (intOf i).toNat)
  case atStart => exact ⟨0, Nat.zero_le _, rfl, br, bs0, hB⟩
  case round =>
    clear br bs bs0 hB
    obtain ⟨k, hk, rfl, br, bs, hB⟩ := hrel
    by_cases hlt : k < 256
    · have hcell := (hrow.below hB hbl).cell hlt
      cases hg : g k
      · rw [hg] at hcell
        have h1 := Lib.hid hB
        have h2 := Lib.hid (bs.congr (cut_miss hg))
        have h3 := Lib.hid br
        clear hB bs br hg hrow
        go_wp2
        go_roundw
        case rel => exact ⟨k + 1, by omega, by go_num, h3.out, h2.out, h1.out⟩
        case measure => simp [intOf]; omega
      · rw [hg] at hcell
        have hw := pow_wrap k
        have hq : k / 64 = 0 ∨ k / 64 = 1 ∨ k / 64 = 2 ∨ k / 64 = 3 := by omega
        obtain ⟨⟨f0, f1, f2, f3⟩, z0, z1, z2, z3⟩ := bs.blk.facts
        rcases hq with hq | hq | hq | hq
        · have hz : (k : Int) / 64 = 0 := div_nat hq
          have ha := cut_add hq hg
          have o1 := cut_off (g := g) (k := k) (j := 1) (by omega)
          have o2 := cut_off (g := g) (k := k) (j := 2) (by omega)
          have o3 := cut_off (g := g) (k := k) (j := 3) (by omega)
          have hbx : SetBox (wr.setCell ⟨w.heap.size + 1, 0, none⟩ (.int .u64 (wd (cutS g (k + 1)) 0))) (w.heap.size + 1) 24 (cutS g (k + 1)) := by
            unfold SetBox
            rw [o1, o2, o3]
            exact (bs.blk.setCell _).1
          have h1 := Lib.hid (hB.setCell (p := ⟨w.heap.size + 1, 0, none⟩) (Nat.le_succ _) (.int .u64 (wd (cutS g (k + 1)) 0)))
          have h2 := Lib.hid hbx
          have h3 := Lib.hid (br.setOther (a := ⟨w.heap.size + 1, 0, none⟩) (by simp <;> omega) (.int .u64 (wd (cutS g (k + 1)) 0)))
          clear hbx hB bs br hg hrow o1 o2 o3 hq
          generalize (2 ^ (k % 64) : Nat) = p at *
          go_wp2
          go_roundw
          case rel => exact ⟨k + 1, by omega, by go_num, h3.out, h2.out, h1.out⟩
          case measure => simp [intOf]; omega
        · have hz : (k : Int) / 64 = 1 := div_nat hq
          have ha := cut_add hq hg
          have o0 := cut_off (g := g) (k := k) (j := 0) (by omega)
          have o2 := cut_off (g := g) (k := k) (j := 2) (by omega)
          have o3 := cut_off (g := g) (k := k) (j := 3) (by omega)
          have hbx : SetBox (wr.setCell ⟨w.heap.size + 1, 1, none⟩ (.int .u64 (wd (cutS g (k + 1)) 1))) (w.heap.size + 1) 24 (cutS g (k + 1)) := by
            unfold SetBox
            rw [o0, o2, o3]
            exact (bs.blk.setCell _).2.1
          have h1 := Lib.hid (hB.setCell (p := ⟨w.heap.size + 1, 1, none⟩) (Nat.le_succ _) (.int .u64 (wd (cutS g (k + 1)) 1)))
          have h2 := Lib.hid hbx
          have h3 := Lib.hid (br.setOther (a := ⟨w.heap.size + 1, 1, none⟩) (by simp <;> omega) (.int .u64 (wd (cutS g (k + 1)) 1)))
          clear hbx hB bs br hg hrow o0 o2 o3 hq
          generalize (2 ^ (k % 64) : Nat) = p at *
          go_wp2
          go_roundw
          case rel => exact ⟨k + 1, by omega, by go_num, h3.out, h2.out, h1.out⟩
          case measure => simp [intOf]; omega
        · have hz : (k : Int) / 64 = 2 := div_nat hq
          have ha := cut_add hq hg
          have o0 := cut_off (g := g) (k := k) (j := 0) (by omega)
          have o1 := cut_off (g := g) (k := k) (j := 1) (by omega)
          have o3 := cut_off (g := g) (k := k) (j := 3) (by omega)
          have hbx : SetBox (wr.setCell ⟨w.heap.size + 1, 2, none⟩ (.int .u64 (wd (cutS g (k + 1)) 2))) (w.heap.size + 1) 24 (cutS g (k + 1)) := by
            unfold SetBox
            rw [o0, o1, o3]
            exact (bs.blk.setCell _).2.2.1
          have h1 := Lib.hid (hB.setCell (p := ⟨w.heap.size + 1, 2, none⟩) (Nat.le_succ _) (.int .u64 (wd (cutS g (k + 1)) 2)))
          have h2 := Lib.hid hbx
          have h3 := Lib.hid (br.setOther (a := ⟨w.heap.size + 1, 2, none⟩) (by simp <;> omega) (.int .u64 (wd (cutS g (k + 1)) 2)))
          clear hbx hB bs br hg hrow o0 o1 o3 hq
          generalize (2 ^ (k % 64) : Nat) = p at *
          go_wp2
          go_roundw
          case rel => exact ⟨k + 1, by omega, by go_num, h3.out, h2.out, h1.out⟩
          case measure => simp [intOf]; omega
        · have hz : (k : Int) / 64 = 3 := div_nat hq
          have ha := cut_add hq hg
          have o0 := cut_off (g := g) (k := k) (j := 0) (by omega)
          have o1 := cut_off (g := g) (k := k) (j := 1) (by omega)
          have o2 := cut_off (g := g) (k := k) (j := 2) (by omega)
          have hbx : SetBox (wr.setCell ⟨w.heap.size + 1, 3, none⟩ (.int .u64 (wd (cutS g (k + 1)) 3))) (w.heap.size + 1) 24 (cutS g (k + 1)) := by
            unfold SetBox
            rw [o0, o1, o2]
            exact (bs.blk.setCell _).2.2.2
          have h1 := Lib.hid (hB.setCell (p := ⟨w.heap.size + 1, 3, none⟩) (Nat.le_succ _) (.int .u64 (wd (cutS g (k + 1)) 3)))
          have h2 := Lib.hid hbx
          have h3 := Lib.hid (br.setOther (a := ⟨w.heap.size + 1, 3, none⟩) (by simp <;> omega) (.int .u64 (wd (cutS g (k + 1)) 3)))
          clear hbx hB bs br hg hrow o0 o1 o2 hq
          generalize (2 ^ (k % 64) : Nat) = p at *
          go_wp2
          go_roundw
          case rel => exact ⟨k + 1, by omega, by go_num, h3.out, h2.out, h1.out⟩
          case measure => simp [intOf]; omega

    · have e : k = 256 := by omega
      subst e
      have bs := bs.congr (g := g) fun c hc => by simp [cutS, hc]
      obtain ⟨⟨f0, f1, f2, f3⟩, z0, z1, z2, z3⟩ := bs.blk.facts
      obtain ⟨⟨r0, r1, r2, r3⟩, y0, y1, y2, y3⟩ := br.facts
      have hx := ((br.set (.int .u64 (wd g 0)) (.int .u64 (wd g 1)) (.int .u64 (wd g 2)) (.int .u64 (wd g 3)))).facts.1
      have h1 := Lib.hid hx
      have h2 := Lib.hid hB
      clear hx br bs hB hrow
      go_wp2
      exact bodyPost_ret (v := (.agg #[.int .u64 (wd g 0), .int .u64 (wd g 1), .int .u64 (wd g 2), .int .u64 (wd g 3)])) (by simp [results, Tryd.results71, go_sem, h1.out.1, h1.out.2.1, h1.out.2.2.1, h1.out.2.2.2]) rfl ⟨rfl, below_set4 h2.out (Nat.le_refl _) _ _ _ _⟩

theorem i4 : ∃ i, Tryd.prog.info? 4 = some i ∧ i.zero = some (.bool false) ∧ i.size = 1 ∧ i.bytes = 1 := by
  cases h : Tryd.prog.info? 4 with
  | none => have : (Tryd.prog.info? 4).isSome = true := by kernel_rfl
            rw [h] at this; cases this
  | some i =>
    have hh : (Tryd.prog.info? 4).map (fun i => (i.zero, i.size, i.bytes)) = some (some (.bool false), 1, 1) := by kernel_rfl
    rw [h] at hh
    simp at hh
    exact ⟨i, rfl, hh.1, hh.2.1, hh.2.2⟩
theorem u24 : Tryd.prog.underlying 112 = some (.slice 4) := by kernel_rfl
theorem make256 (w : World) : (Instr.makeSlice 112 (.int .i64 256) (.int .i64 256)).run Tryd.prog w = .ok (.slice (some ⟨w.heap.size, 0, none⟩) 256 256) (w.alloc (.cells (bl noS).toArray 4)) := by
  obtain ⟨i, hi, hz, hs, hb⟩ := i4
  have := run_make (P := Tryd.prog) w 112 4 i (.bool false) u24 hi hz .i64 .i64 256 256 (by decide) (by decide) (by rw [hb]; decide) (by decide)
  have e : madeCells (Value.bool false).cells ((256 : Int).toNat * i.size) = (bl noS).toArray := by
    rw [hs]
    apply Array.toList_inj.1
    rw [show (Value.bool false).cells = #[.bool false] from rfl, toList_madeCells_one]
    simp [bl, noS, List.map_const']
  rw [e] at this
  exact this
end Go.Proofs.YtjlmeegaiagfpaaDoor.S1

namespace Go.Proofs.YtjlmeegaiagfpaaDoor.S1
open Go.RowKit

set_option maxRecDepth 10000 in
set_option maxHeartbeats 2000000 in
theorem refspan_in (lo hi : Nat) (_ : lo ≤ 255) (hhi : hi ≤ 255) (w : World) :
    Calls Tryd.prog 47 #[.int .i64 lo, .int .i64 hi] w fun e w' => e = .returned (.agg #[.int .u64 (wd (spanS lo hi) 0), .int .u64 (wd (spanS lo hi) 1), .int .u64 (wd (spanS lo hi) 2), .int .u64 (wd (spanS lo hi) 3)]) ∧ Below w.heap.size w w' := by
  have hmk := make256
  go_enter Tryd.func47, Tryd.ntmps47
  go_wp2
  obtain ⟨W, hW, br, hB⟩ := boxes1 w 24 (.int .u64 0) (.int .u64 0) (.int .u64 0) (.int .u64 0)
  have hs : W.heap.size = w.heap.size + 1 := by rw [← hW]; simp
  rw [hW]
  clear hW hmk
  have hrow := BoolRow.new W noS
  rw [hs] at hrow
  have br := br.alloc (.cells (bl noS).toArray 4)
  have hB := hB.alloc hB.size (.cells (bl noS).toArray 4)
  revert br hB hrow
  generalize W.alloc (.cells (bl noS).toArray 4) = W2
  intro hrow br hB
  have hrow := hrow.congr (g := upS lo lo) fun c _ => by simp [noS, upS] <;> omega
  go_loopw [6] (fun i wr => ∃ k : Nat, lo ≤ k ∧ (k ≤ hi + 1 ∨ k = lo) ∧ i = .int .i64 k ∧ Blk4 wr w.heap.size 24 (.int .u64 0) (.int .u64 0) (.int .u64 0) (.int .u64 0) ∧ BoolRow wr (w.heap.size + 1) (upS lo k) ∧ Below w.heap.size w wr) (fun i _ => 256 - (intOf i).toNat)
  case atStart => exact ⟨lo, Nat.le_refl _, .inr rfl, rfl, br, hrow, hB⟩
  case round =>
    clear br hrow hB
    obtain ⟨k, hk1, hk2, rfl, br, hrow, hB⟩ := hrel
    by_cases hlt : k ≤ hi
    · have hcell := hrow.cell (k := k) (by omega)
      have hfz := hrow.frozen k
      have hbx := (hrow.set k true).congr (g := upS lo (k + 1)) fun c _ => by
        simp only [upS]
        by_cases e : c = k
        · subst e; simp [hk1]
        · have a : (c < k + 1) ↔ (c < k) := by omega
          rw [Bool.eq_iff_iff]; simp [e, a]
      have h1 := Lib.hid (hB.setCell (p := ⟨w.heap.size + 1, k, none⟩) (Nat.le_succ _) (.bool true))
      have h2 := Lib.hid hbx
      have h3 := Lib.hid (br.setOther (a := ⟨w.heap.size + 1, k, none⟩) (by simp <;> omega) (.bool true))
      clear hbx hB hrow br
      go_wp2
      go_roundw
      case rel => exact ⟨k + 1, by omega, by omega, by go_num, h3.out, h2.out, h1.out⟩
      case measure => simp [intOf]; omega
    · have hrow := hrow.congr (g := spanS lo hi) fun c _ => by
        simp only [upS, spanS]
        rw [Bool.eq_iff_iff]; simp; omega
      have hof := refof_in (spanS lo hi) (w.heap.size + 1) wr hrow
      have h2 := Lib.hid hB
      have h3 := Lib.hid br
      clear hB hrow br
      go_wp2_with (go_at_call 71; refine hof.mono ?_; clear hof; rintro e w' ⟨rfl, hb⟩; have b1 := Lib.hid (h3.out.bel hb); obtain ⟨⟨r0, r1, r2, r3⟩, z0, z1, z2, z3⟩ := b1.out.facts; have hb := Lib.hid hb)
      have hx := (b1.out.set (.int .u64 (wd (spanS lo hi) 0)) (.int .u64 (wd (spanS lo hi) 1)) (.int .u64 (wd (spanS lo hi) 2)) (.int .u64 (wd (spanS lo hi) 3))).facts.1
      exact bodyPost_ret (v := (.agg #[.int .u64 (wd (spanS lo hi) 0), .int .u64 (wd (spanS lo hi) 1), .int .u64 (wd (spanS lo hi) 2), .int .u64 (wd (spanS lo hi) 3)])) (by simp [results, Tryd.results47, go_sem, hx.1, hx.2.1, hx.2.2.1, hx.2.2.2]) rfl ⟨rfl, below_set4 (h2.out.trans (hb.out.mono h2.out.size)) (Nat.le_refl _) _ _ _ _⟩

set_option maxRecDepth 10000 in
set_option maxHeartbeats 2000000 in
theorem both0_in (f g : Nat → Bool) (w : World) :
    Calls Tryd.prog 46 #[(.agg #[.int .u64 (wd f 0), .int .u64 (wd f 1), .int .u64 (wd f 2), .int .u64 (wd f 3)]), (.agg #[.int .u64 (wd g 0), .int .u64 (wd g 1), .int .u64 (wd g 2), .int .u64 (wd g 3)]), .int .i64 0] w fun e w' => e = .returned (.agg #[.int .u64 (wd (orS f g) 0), .int .u64 (wd (orS f g) 1), .int .u64 (wd (orS f g) 2), .int .u64 (wd (orS f g) 3)]) ∧ Below w.heap.size w w' := by
  have hmk := make256
  go_enter Tryd.func46, Tryd.ntmps46
  go_wp2
  obtain ⟨W, hW, bf, bg, br, hB⟩ := boxes3 w 24 24 24 (.int .u64 (wd f 0)) (.int .u64 (wd f 1)) (.int .u64 (wd f 2)) (.int .u64 (wd f 3)) (.int .u64 (wd g 0)) (.int .u64 (wd g 1)) (.int .u64 (wd g 2)) (.int .u64 (wd g 3)) (.int .u64 0) (.int .u64 0) (.int .u64 0) (.int .u64 0)
  have hs : W.heap.size = w.heap.size + 1 + 1 + 1 := by rw [← hW]; simp
  rw [hW]
  clear hW hmk
  have hrow := BoolRow.new W noS
  rw [hs] at hrow
  have bf := bf.alloc (.cells (bl noS).toArray 4)
  have bg := bg.alloc (.cells (bl noS).toArray 4)
  have br := br.alloc (.cells (bl noS).toArray 4)
  have hB := hB.alloc hB.size (.cells (bl noS).toArray 4)
  revert bf bg br hB hrow
  generalize W.alloc (.cells (bl noS).toArray 4) = W2
  intro hrow bf bg br hB
  have hrow := hrow.congr (g := cutS (orS f g) 0) fun c _ => by simp [noS, cutS]
  go_loopw [8] (fun i wr => ∃ k : Nat, k ≤ 256 ∧ i = .int .i64 k ∧ SetBox wr w.heap.size 24 f ∧ SetBox wr (w.heap.size + 1) 24 g ∧ Blk4 wr (w.heap.size + 1 + 1) 24 (.int .u64 0) (.int .u64 0) (.int .u64 0) (.int .u64 0) ∧ BoolRow wr (w.heap.size + 1 + 1 + 1) (cutS (orS f g) k) ∧ Below w.heap.size w wr) (fun i _ => 256 - (intOf i).toNat)
  case atStart => exact ⟨0, Nat.zero_le _, rfl, bf, bg, br, hrow, hB⟩
  case round =>
    clear bf bg br hrow hB
    obtain ⟨k, hk, rfl, bf, bg, br, hrow, hB⟩ := hrel
    by_cases hlt : k < 256
    · obtain ⟨f0, f1, f2, f3⟩ := bf.blk.all
      obtain ⟨g0, g1, g2, g3⟩ := bg.blk.all
      have hk8 : k ≤ 255 := by omega
      have hset : ∀ wq, Bel wr wq → BoolRow (wq.setCell ⟨w.heap.size + 1 + 1 + 1, k, none⟩ (.bool (f k || g k))) (w.heap.size + 1 + 1 + 1) (cutS (orS f g) (k + 1)) := fun wq hq =>
        ((hrow.bel hq).set k (f k || g k)).congr fun c _ => by
          simp only [cutS]
          by_cases e : c = k
          · subst e; simp [orS]
          · have a : (c < k + 1) ↔ (c < k) := by omega
            rw [Bool.eq_iff_iff]; simp [e, a]
      have hset := Lib.hid hset
      generalize hx : f k = x at hset
      generalize hy : g k = y at hset
      cases x <;> cases y
      all_goals
        go_wp2_with fail
        refine wp_region_bel (by kernel_rfl) (by kernel_rfl) ?_
        repeat (first
          | go_big_quiet_skip
          | (go_big_quiet_want
             first
               | (refine BigFrame.quiet_move _ rfl ?_
                  simp only [Act.put, Act.eval, List.setIfInBounds_toArray, List.set_cons_zero, List.set_cons_succ, List.getD_toArray, List.getD_cons_zero, List.getD_cons_succ]
                  go_big_quiet_on)
               | (refine BigFrame.quiet_assign _ rfl ?_
                  simp only [Act.put, Act.eval, List.setIfInBounds_toArray, List.set_cons_zero, List.set_cons_succ, List.getD_toArray, List.getD_cons_zero, List.getD_cons_succ]
                  go_big_quiet_on)
               | (refine quiet_call 72 ?_
                  apply Exists.intro
                  refine ⟨fun w' hC => ?_, ?_⟩
                  · go_simp
                    with_reducible rfl
                  refine ⟨_, fun w' hC => Calls.bel hC (has_ref _ k hk8 _), ?_⟩
                  simp only [Act.put, List.setIfInBounds_toArray, List.set_cons_zero, List.set_cons_succ]
                  go_big_quiet_on)
               | (refine quiet_val ?_
                  apply Exists.intro
                  refine ⟨fun w' hC => ?_, ?_⟩
                  · go_simp
                    with_reducible rfl
                  simp only [Act.put, List.setIfInBounds_toArray, List.set_cons_zero, List.set_cons_succ]
                  go_big_quiet_on)))
        refine wpQuiet_nil ?_
        intro wq hq

        have hcell := (hrow.bel hq).cell hlt
        have hfz := (hrow.bel hq).frozen k
        have hB2 := hB.trans (hq.mono hB.size)
        have h1 := Lib.hid (hB2.setCell (p := ⟨w.heap.size + 1 + 1 + 1, k, none⟩) (by simp <;> omega))
        have h2 := Lib.hid (hset.out wq hq)
        have h3 := Lib.hid ((br.bel hq).setOther (a := ⟨w.heap.size + 1 + 1 + 1, k, none⟩) (by simp <;> omega))
        have h4 := Lib.hid ((bf.blk.bel hq).setOther (a := ⟨w.heap.size + 1 + 1 + 1, k, none⟩) (by simp <;> omega))
        have h5 := Lib.hid ((bg.blk.bel hq).setOther (a := ⟨w.heap.size + 1 + 1 + 1, k, none⟩) (by simp <;> omega))
        clear f0 f1 f2 f3 g0 g1 g2 g3 hrow bf bg br hB hB2
        go_wp2
        go_roundw
        case rel => exact ⟨k + 1, by omega, by go_num, h4.out _, h5.out _, h3.out _, h2.out, h1.out _⟩
        case measure => simp [intOf]; omega
    · have e : k = 256 := by omega
      subst e
      have hrow := hrow.congr (g := orS f g) fun c hc => by simp [cutS, hc]
      have hof := refof_in (orS f g) (w.heap.size + 1 + 1 + 1) wr hrow
      have h2 := Lib.hid hB
      have h3 := Lib.hid br
      clear hB hrow br bf bg
      go_wp2_with (go_at_call 71; refine hof.mono ?_; clear hof; rintro e w' ⟨rfl, hb⟩; have b1 := Lib.hid (h3.out.bel hb); obtain ⟨⟨r0, r1, r2, r3⟩, z0, z1, z2, z3⟩ := b1.out.facts; have hb := Lib.hid hb)
      have hx := (b1.out.set (.int .u64 (wd (orS f g) 0)) (.int .u64 (wd (orS f g) 1)) (.int .u64 (wd (orS f g) 2)) (.int .u64 (wd (orS f g) 3))).facts.1
      exact bodyPost_ret (v := (.agg #[.int .u64 (wd (orS f g) 0), .int .u64 (wd (orS f g) 1), .int .u64 (wd (orS f g) 2), .int .u64 (wd (orS f g) 3)])) (by simp [results, Tryd.results46, go_sem, hx.1, hx.2.1, hx.2.2.1, hx.2.2.2]) rfl ⟨rfl, below_set4 (h2.out.trans (hb.out.mono h2.out.size)) (by omega) _ _ _ _⟩

set_option maxRecDepth 10000 in
set_option maxHeartbeats 2000000 in
theorem both1_in (f g : Nat → Bool) (w : World) :
    Calls Tryd.prog 46 #[(.agg #[.int .u64 (wd f 0), .int .u64 (wd f 1), .int .u64 (wd f 2), .int .u64 (wd f 3)]), (.agg #[.int .u64 (wd g 0), .int .u64 (wd g 1), .int .u64 (wd g 2), .int .u64 (wd g 3)]), .int .i64 1] w fun e w' => e = .returned (.agg #[.int .u64 (wd (andS f g) 0), .int .u64 (wd (andS f g) 1), .int .u64 (wd (andS f g) 2), .int .u64 (wd (andS f g) 3)]) ∧ Below w.heap.size w w' := by
  have hmk := make256
  go_enter Tryd.func46, Tryd.ntmps46
  go_wp2
  obtain ⟨W, hW, bf, bg, br, hB⟩ := boxes3 w 24 24 24 (.int .u64 (wd f 0)) (.int .u64 (wd f 1)) (.int .u64 (wd f 2)) (.int .u64 (wd f 3)) (.int .u64 (wd g 0)) (.int .u64 (wd g 1)) (.int .u64 (wd g 2)) (.int .u64 (wd g 3)) (.int .u64 0) (.int .u64 0) (.int .u64 0) (.int .u64 0)
  have hs : W.heap.size = w.heap.size + 1 + 1 + 1 := by rw [← hW]; simp
  rw [hW]
  clear hW hmk
  have hrow := BoolRow.new W noS
  rw [hs] at hrow
  have bf := bf.alloc (.cells (bl noS).toArray 4)
  have bg := bg.alloc (.cells (bl noS).toArray 4)
  have br := br.alloc (.cells (bl noS).toArray 4)
  have hB := hB.alloc hB.size (.cells (bl noS).toArray 4)
  revert bf bg br hB hrow
  generalize W.alloc (.cells (bl noS).toArray 4) = W2
  intro hrow bf bg br hB
  have hrow := hrow.congr (g := cutS (andS f g) 0) fun c _ => by simp [noS, cutS]
  go_loopw [8] (fun i wr => ∃ k : Nat, k ≤ 256 ∧ i = .int .i64 k ∧ SetBox wr w.heap.size 24 f ∧ SetBox wr (w.heap.size + 1) 24 g ∧ Blk4 wr (w.heap.size + 1 + 1) 24 (.int .u64 0) (.int .u64 0) (.int .u64 0) (.int .u64 0) ∧ BoolRow wr (w.heap.size + 1 + 1 + 1) (cutS (andS f g) k) ∧ Below w.heap.size w wr) (fun i _ => 256 - (intOf i).toNat)
  case atStart => exact ⟨0, Nat.zero_le _, rfl, bf, bg, br, hrow, hB⟩
  case round =>
    clear bf bg br hrow hB
    obtain ⟨k, hk, rfl, bf, bg, br, hrow, hB⟩ := hrel
    by_cases hlt : k < 256
    · obtain ⟨f0, f1, f2, f3⟩ := bf.blk.all
      obtain ⟨g0, g1, g2, g3⟩ := bg.blk.all
      have hk8 : k ≤ 255 := by omega
      have hset : ∀ wq, Bel wr wq → BoolRow (wq.setCell ⟨w.heap.size + 1 + 1 + 1, k, none⟩ (.bool (f k && g k))) (w.heap.size + 1 + 1 + 1) (cutS (andS f g) (k + 1)) := fun wq hq =>
        ((hrow.bel hq).set k (f k && g k)).congr fun c _ => by
          simp only [cutS]
          by_cases e : c = k
          · subst e; simp [andS]
          · have a : (c < k + 1) ↔ (c < k) := by omega
            rw [Bool.eq_iff_iff]; simp [e, a]
      have hset := Lib.hid hset
      generalize hx : f k = x at hset
      generalize hy : g k = y at hset
      cases x <;> cases y
      all_goals
        go_wp2_with fail
        refine wp_region_bel (by kernel_rfl) (by kernel_rfl) ?_
        repeat (first
          | go_big_quiet_skip
          | (go_big_quiet_want
             first
               | (refine BigFrame.quiet_move _ rfl ?_
                  simp only [Act.put, Act.eval, List.setIfInBounds_toArray, List.set_cons_zero, List.set_cons_succ, List.getD_toArray, List.getD_cons_zero, List.getD_cons_succ]
                  go_big_quiet_on)
               | (refine BigFrame.quiet_assign _ rfl ?_
                  simp only [Act.put, Act.eval, List.setIfInBounds_toArray, List.set_cons_zero, List.set_cons_succ, List.getD_toArray, List.getD_cons_zero, List.getD_cons_succ]
                  go_big_quiet_on)
               | (refine quiet_call 72 ?_
                  apply Exists.intro
                  refine ⟨fun w' hC => ?_, ?_⟩
                  · go_simp
                    with_reducible rfl
                  refine ⟨_, fun w' hC => Calls.bel hC (has_ref _ k hk8 _), ?_⟩
                  simp only [Act.put, List.setIfInBounds_toArray, List.set_cons_zero, List.set_cons_succ]
                  go_big_quiet_on)
               | (refine quiet_val ?_
                  apply Exists.intro
                  refine ⟨fun w' hC => ?_, ?_⟩
                  · go_simp
                    with_reducible rfl
                  simp only [Act.put, List.setIfInBounds_toArray, List.set_cons_zero, List.set_cons_succ]
                  go_big_quiet_on)))
        refine wpQuiet_nil ?_
        intro wq hq

        have hcell := (hrow.bel hq).cell hlt
        have hfz := (hrow.bel hq).frozen k
        have hB2 := hB.trans (hq.mono hB.size)
        have h1 := Lib.hid (hB2.setCell (p := ⟨w.heap.size + 1 + 1 + 1, k, none⟩) (by simp <;> omega))
        have h2 := Lib.hid (hset.out wq hq)
        have h3 := Lib.hid ((br.bel hq).setOther (a := ⟨w.heap.size + 1 + 1 + 1, k, none⟩) (by simp <;> omega))
        have h4 := Lib.hid ((bf.blk.bel hq).setOther (a := ⟨w.heap.size + 1 + 1 + 1, k, none⟩) (by simp <;> omega))
        have h5 := Lib.hid ((bg.blk.bel hq).setOther (a := ⟨w.heap.size + 1 + 1 + 1, k, none⟩) (by simp <;> omega))
        clear f0 f1 f2 f3 g0 g1 g2 g3 hrow bf bg br hB hB2
        go_wp2
        go_roundw
        case rel => exact ⟨k + 1, by omega, by go_num, h4.out _, h5.out _, h3.out _, h2.out, h1.out _⟩
        case measure => simp [intOf]; omega
    · have e : k = 256 := by omega
      subst e
      have hrow := hrow.congr (g := andS f g) fun c hc => by simp [cutS, hc]
      have hof := refof_in (andS f g) (w.heap.size + 1 + 1 + 1) wr hrow
      have h2 := Lib.hid hB
      have h3 := Lib.hid br
      clear hB hrow br bf bg
      go_wp2_with (go_at_call 71; refine hof.mono ?_; clear hof; rintro e w' ⟨rfl, hb⟩; have b1 := Lib.hid (h3.out.bel hb); obtain ⟨⟨r0, r1, r2, r3⟩, z0, z1, z2, z3⟩ := b1.out.facts; have hb := Lib.hid hb)
      have hx := (b1.out.set (.int .u64 (wd (andS f g) 0)) (.int .u64 (wd (andS f g) 1)) (.int .u64 (wd (andS f g) 2)) (.int .u64 (wd (andS f g) 3))).facts.1
      exact bodyPost_ret (v := (.agg #[.int .u64 (wd (andS f g) 0), .int .u64 (wd (andS f g) 1), .int .u64 (wd (andS f g) 2), .int .u64 (wd (andS f g) 3)])) (by simp [results, Tryd.results46, go_sem, hx.1, hx.2.1, hx.2.2.1, hx.2.2.2]) rfl ⟨rfl, below_set4 (h2.out.trans (hb.out.mono h2.out.size)) (by omega) _ _ _ _⟩

set_option maxRecDepth 10000 in
set_option maxHeartbeats 2000000 in
theorem both2_in (f g : Nat → Bool) (w : World) :
    Calls Tryd.prog 46 #[(.agg #[.int .u64 (wd f 0), .int .u64 (wd f 1), .int .u64 (wd f 2), .int .u64 (wd f 3)]), (.agg #[.int .u64 (wd g 0), .int .u64 (wd g 1), .int .u64 (wd g 2), .int .u64 (wd g 3)]), .int .i64 2] w fun e w' => e = .returned (.agg #[.int .u64 (wd (minusS f g) 0), .int .u64 (wd (minusS f g) 1), .int .u64 (wd (minusS f g) 2), .int .u64 (wd (minusS f g) 3)]) ∧ Below w.heap.size w w' := by
  have hmk := make256
  go_enter Tryd.func46, Tryd.ntmps46
  go_wp2
  obtain ⟨W, hW, bf, bg, br, hB⟩ := boxes3 w 24 24 24 (.int .u64 (wd f 0)) (.int .u64 (wd f 1)) (.int .u64 (wd f 2)) (.int .u64 (wd f 3)) (.int .u64 (wd g 0)) (.int .u64 (wd g 1)) (.int .u64 (wd g 2)) (.int .u64 (wd g 3)) (.int .u64 0) (.int .u64 0) (.int .u64 0) (.int .u64 0)
  have hs : W.heap.size = w.heap.size + 1 + 1 + 1 := by rw [← hW]; simp
  rw [hW]
  clear hW hmk
  have hrow := BoolRow.new W noS
  rw [hs] at hrow
  have bf := bf.alloc (.cells (bl noS).toArray 4)
  have bg := bg.alloc (.cells (bl noS).toArray 4)
  have br := br.alloc (.cells (bl noS).toArray 4)
  have hB := hB.alloc hB.size (.cells (bl noS).toArray 4)
  revert bf bg br hB hrow
  generalize W.alloc (.cells (bl noS).toArray 4) = W2
  intro hrow bf bg br hB
  have hrow := hrow.congr (g := cutS (minusS f g) 0) fun c _ => by simp [noS, cutS]
  go_loopw [8] (fun i wr => ∃ k : Nat, k ≤ 256 ∧ i = .int .i64 k ∧ SetBox wr w.heap.size 24 f ∧ SetBox wr (w.heap.size + 1) 24 g ∧ Blk4 wr (w.heap.size + 1 + 1) 24 (.int .u64 0) (.int .u64 0) (.int .u64 0) (.int .u64 0) ∧ BoolRow wr (w.heap.size + 1 + 1 + 1) (cutS (minusS f g) k) ∧ Below w.heap.size w wr) (fun i _ => 256 - (intOf i).toNat)
  case atStart => exact ⟨0, Nat.zero_le _, rfl, bf, bg, br, hrow, hB⟩
  case round =>
    clear bf bg br hrow hB
    obtain ⟨k, hk, rfl, bf, bg, br, hrow, hB⟩ := hrel
    by_cases hlt : k < 256
    · obtain ⟨f0, f1, f2, f3⟩ := bf.blk.all
      obtain ⟨g0, g1, g2, g3⟩ := bg.blk.all
      have hk8 : k ≤ 255 := by omega
      have hset : ∀ wq, Bel wr wq → BoolRow (wq.setCell ⟨w.heap.size + 1 + 1 + 1, k, none⟩ (.bool (f k && !g k))) (w.heap.size + 1 + 1 + 1) (cutS (minusS f g) (k + 1)) := fun wq hq =>
        ((hrow.bel hq).set k (f k && !g k)).congr fun c _ => by
          simp only [cutS]
          by_cases e : c = k
          · subst e; simp [andS, notS, minusS]
          · have a : (c < k + 1) ↔ (c < k) := by omega
            rw [Bool.eq_iff_iff]; simp [e, a]
      have hset := Lib.hid hset
      generalize hx : f k = x at hset
      generalize hy : g k = y at hset
      cases x <;> cases y
      all_goals
        go_wp2_with fail
        refine wp_region_bel (by kernel_rfl) (by kernel_rfl) ?_
        repeat (first
          | go_big_quiet_skip
          | (go_big_quiet_want
             first
               | (refine BigFrame.quiet_move _ rfl ?_
                  simp only [Act.put, Act.eval, List.setIfInBounds_toArray, List.set_cons_zero, List.set_cons_succ, List.getD_toArray, List.getD_cons_zero, List.getD_cons_succ]
                  go_big_quiet_on)
               | (refine BigFrame.quiet_assign _ rfl ?_
                  simp only [Act.put, Act.eval, List.setIfInBounds_toArray, List.set_cons_zero, List.set_cons_succ, List.getD_toArray, List.getD_cons_zero, List.getD_cons_succ]
                  go_big_quiet_on)
               | (refine quiet_call 72 ?_
                  apply Exists.intro
                  refine ⟨fun w' hC => ?_, ?_⟩
                  · go_simp
                    with_reducible rfl
                  refine ⟨_, fun w' hC => Calls.bel hC (has_ref _ k hk8 _), ?_⟩
                  simp only [Act.put, List.setIfInBounds_toArray, List.set_cons_zero, List.set_cons_succ]
                  go_big_quiet_on)
               | (refine quiet_val ?_
                  apply Exists.intro
                  refine ⟨fun w' hC => ?_, ?_⟩
                  · go_simp
                    with_reducible rfl
                  simp only [Act.put, List.setIfInBounds_toArray, List.set_cons_zero, List.set_cons_succ]
                  go_big_quiet_on)))
        refine wpQuiet_nil ?_
        intro wq hq

        have hcell := (hrow.bel hq).cell hlt
        have hfz := (hrow.bel hq).frozen k
        have hB2 := hB.trans (hq.mono hB.size)
        have h1 := Lib.hid (hB2.setCell (p := ⟨w.heap.size + 1 + 1 + 1, k, none⟩) (by simp <;> omega))
        have h2 := Lib.hid (hset.out wq hq)
        have h3 := Lib.hid ((br.bel hq).setOther (a := ⟨w.heap.size + 1 + 1 + 1, k, none⟩) (by simp <;> omega))
        have h4 := Lib.hid ((bf.blk.bel hq).setOther (a := ⟨w.heap.size + 1 + 1 + 1, k, none⟩) (by simp <;> omega))
        have h5 := Lib.hid ((bg.blk.bel hq).setOther (a := ⟨w.heap.size + 1 + 1 + 1, k, none⟩) (by simp <;> omega))
        clear f0 f1 f2 f3 g0 g1 g2 g3 hrow bf bg br hB hB2
        go_wp2
        go_roundw
        case rel => exact ⟨k + 1, by omega, by go_num, h4.out _, h5.out _, h3.out _, h2.out, h1.out _⟩
        case measure => simp [intOf]; omega
    · have e : k = 256 := by omega
      subst e
      have hrow := hrow.congr (g := minusS f g) fun c hc => by simp [cutS, hc]
      have hof := refof_in (minusS f g) (w.heap.size + 1 + 1 + 1) wr hrow
      have h2 := Lib.hid hB
      have h3 := Lib.hid br
      clear hB hrow br bf bg
      go_wp2_with (go_at_call 71; refine hof.mono ?_; clear hof; rintro e w' ⟨rfl, hb⟩; have b1 := Lib.hid (h3.out.bel hb); obtain ⟨⟨r0, r1, r2, r3⟩, z0, z1, z2, z3⟩ := b1.out.facts; have hb := Lib.hid hb)
      have hx := (b1.out.set (.int .u64 (wd (minusS f g) 0)) (.int .u64 (wd (minusS f g) 1)) (.int .u64 (wd (minusS f g) 2)) (.int .u64 (wd (minusS f g) 3))).facts.1
      exact bodyPost_ret (v := (.agg #[.int .u64 (wd (minusS f g) 0), .int .u64 (wd (minusS f g) 1), .int .u64 (wd (minusS f g) 2), .int .u64 (wd (minusS f g) 3)])) (by simp [results, Tryd.results46, go_sem, hx.1, hx.2.1, hx.2.2.1, hx.2.2.2]) rfl ⟨rfl, below_set4 (h2.out.trans (hb.out.mono h2.out.size)) (by omega) _ _ _ _⟩

end Go.Proofs.YtjlmeegaiagfpaaDoor.S1

namespace Go.Proofs.YtjlmeegaiagfpaaDoor.S1
open Go.RowKit Go.Shelf

end Go.Proofs.YtjlmeegaiagfpaaDoor.S1
