/- slices.AppendSeq, slices.Collect over the iterator of a set; List of package sets: a slice of its own that holds the set's bytes in rising order. They ask that math/bits' table lie in block 0. -/
import Derived.Test.YtaahefhiiggagaaDoorS1W7
import Derived.Outline
import Derived.Lib.Hide
namespace Go.Proofs.YtaahefhiiggagaaDoor.S1
open Go.RowKit Go.Shelf

attribute [local go_sem] Oper.semAt_some

theorem each_stops (n : Nat) (hn : 1 ≤ n) (Bs n₀ : Nat) (hn0 : 18 < n₀) (f : Nat → Bool) (w : World) (hn₀ : n₀ ≤ w.heap.size) (hbox : SetBox w Bs 24 f) (hT : Tab w) :
    SeqStopsK Fence.wide n Tryd.prog 49 #[.pointer (some ⟨Bs, 0, none⟩)] (fun x : Nat => #[Value.int .u8 ((x % 256 : Nat) : Int)]) (Below n₀) (fun ys => ys = el f 256) (fun pre => pre <+: el f 256) (el f 256).length w := fun l J Jx W hW _ _ hY h0 =>
  each1_in n hn l Bs n₀ hn0 f J Jx hY W (hbox.blk.below hW hbox.blk.lt) (hT.below hW (by omega)) h0

set_option maxHeartbeats 1000000 in
theorem each_in (n : Nat) (f : Nat → Bool) (w : World) :
    CallsIn Fence.wide n Tryd.prog 38 #[(.agg #[.int .u64 (wd f 0), .int .u64 (wd f 1), .int .u64 (wd f 2), .int .u64 (wd f 3)])] w fun e w' => e = .returned (.func (.func 49) #[] #[.pointer (some ⟨w.heap.size, 0, none⟩)]) ∧ w' = w.alloc (.cells #[.int .u64 (wd f 0), .int .u64 (wd f 1), .int .u64 (wd f 2), .int .u64 (wd f 3)] 24) := by
  refine callsIn_of_wp Tryd.func38 rfl trivial ?_ rfl
  simp only [Tryd.ntmps38, List.size_toArray, List.length_cons, List.length_nil, Nat.reduceAdd, Nat.reduceSub, Array.replicate_succ, Array.replicate_zero, List.push_toArray, List.append_toArray, List.nil_append, List.cons_append]
  gi_wp2
  go_ret
  exact ⟨rfl, rfl⟩

theorem info5 : (Tryd.prog.info? 5).map (fun i => (i.zero, i.size, i.bytes)) = some (some (.int .u8 0), 1, 1) := by kernel_rfl
def encV (x : Nat) : Value := .int .u8 ((x % 256 : Nat) : Int)

set_option maxRecDepth 100000 in
set_option maxHeartbeats 2000000 in
theorem appendSeq_in (n : Nat) (hn : 3 ≤ n) (Bs : Nat) (f : Nat → Bool) (w : World) (hbox : SetBox w Bs 24 f) (hT : Tab w) :
    CallsIn Fence.wide n Tryd.prog 57 #[.slice none 0 0, .func (.func 49) #[] #[.pointer (some ⟨Bs, 0, none⟩)]] w fun e W' => ∃ v, e = .returned v ∧
      W'.ownsRow w.heap.size 5 1 v (el f 256).length ((el f 256).map encV) ∧ Below w.heap.size w W' := by
  have h1 : 1 ≤ n := by omega
  obtain ⟨i0, hi, hz0, hz1, hz2⟩ := info_parts info5
  have bO := Boxed.new w 40 (.slice none 0 0)
  have hB0 : Below w.heap.size w (w.alloc (.cells #[.slice none 0 0] 40)) := (Below.refl _ w).alloc (Nat.le_refl _) _
  have hb1 : SetBox (w.alloc (.cells #[.slice none 0 0] 40)) Bs 24 f := hbox.blk.alloc _
  have hT1 : Tab (w.alloc (.cells #[.slice none 0 0] 40)) := hT.below (B := w.heap.size) hB0 hT.1
  have hlen := el_len f 256
  have hst := each_stops (n - 1) (by omega) Bs w.heap.size hT.1 f _ (by simp) hb1 hT1
  generalize el f 256 = ys0 at *
  clear hb1 hT1 hbox hT
  refine callsIn_of_wp_marks Tryd.func57 rfl trivial ?_ rfl
  simp only [Tryd.ntmps57, List.size_toArray, List.length_cons, List.length_nil, Nat.reduceAdd, Nat.reduceSub, Array.replicate_succ, Array.replicate_zero, List.push_toArray, List.append_toArray, List.nil_append, List.cons_append]
  gi_wp2
  refine wpIn_rangeFunc_ownG rfl h1 (gf := 49) (lb := #[.pointer (some ⟨Bs, 0, none⟩)]) rfl trivial (enters_of Tryd.func49 (by kernel_rfl) rfl)
    hst belowK_t (belowK_b (by simp)) (Below.refl _ _) (fun _ => rfl)
    (fun (pre : List Nat) W => (∃ v, Boxed W w.heap.size 40 v ∧ W.ownsRow w.heap.size 5 1 v pre.length (pre.map encV) ∧ True) ∧ Below w.heap.size w W)
    (fun _ _ _ => False)
    (OwnFrom.and (Own.from (holdsRow_own w.heap.size w.heap.size 40 5 1 (fun pre : List Nat => pre.length) (fun pre : List Nat => pre.map encV) (fun _ _ => True)) _) (ownFrom_below (Nat.le_refl _) (by simp)))
    (fun _ _ _ _ _ hs _ _ => hs)
    ⟨⟨_, bO, World.ownsRow_nil _ _ _ _, trivial⟩, hB0⟩
    (fun x => { tmps := #[.slice none 0 0, .func (.func 49) #[] #[.pointer (some ⟨Bs, 0, none⟩)], .pointer (some ⟨w.heap.size, 0, none⟩), undef, .slice none 0 0, .int .u8 ((x % 256 : Nat) : Int), .func (.func 49) #[] #[.pointer (some ⟨Bs, 0, none⟩)], .int .u8 ((x % 256 : Nat) : Int), undef, undef, undef, undef, undef], defers := [] }) ?assign ?body ?done ?stop
  case assign =>
    intro l x W K hK
    gi_wp2
    exact hK
  case body =>
    rintro l pre x W ⟨⟨v, hv, hrow, -⟩, hB⟩ hlt
    have hc := hv.cell
    have hx8 : ((x % 256 : Nat) : Int) ≤ 255 := by omega
    generalize hxe : x % 256 = y at hx8
    have hxe := Lib.hid hxe
    gi_wp2_with (gi_at_builtin; refine wpListIn_append_own _ rfl _ _ 40 rfl w.heap.size 5 i0 (.int .u8 0) 1 1 Tryd.underlying40 hi hz0 hz1 hz2 rfl (by decide) _ _ _ rfl (hrow.alloc _) ⟨W.heap.size, 0, none⟩ 1 1 [.int .u8 (y : Int)] rfl rfl (cell_one_new _ _ _) (by simp [Value.oneCell']) (by simp [maxLen]; omega) (by omega) (by have := hB.size; simp; omega) ?_; intro v' w1 hown' hgrow _; obtain ⟨g', cap', rfl⟩ := ownsRow_succ hown'; obtain ⟨hv1, hv2, hr2, hk2, hb2⟩ := hv.appended (by decide) hrow hB.size (Nat.le_refl _) hown' hgrow; have hc1 := hv1.cell; have hf1 := hv1.frozen)
    exact ⟨hk2.from _, hb2, ⟨_, hv2, by have := hxe.out; subst this; simpa [encV] using hr2, trivial⟩, hB.trans hb2⟩
  case done =>
    rintro D ys W hD rfl ⟨⟨v, hv, hrow, -⟩, hB⟩ hK
    have hc := hv.cell
    gi_wp2
    refine ⟨by simp, .inl ⟨_, _, rfl, run_takeDeferred hK, ?_⟩⟩
    exact ⟨_, results_tmp rfl _ _ _, v, rfl, ownsRow_putObj hrow _ hK rfl, hB.trans (belowK_b (w := w) (Nat.le_refl _) W D _ _ (by simp at hD; omega) hK rfl rfl)⟩
  case stop =>
    rintro D c pre W _ _ h _
    exact h.elim

theorem el_map (f : Nat → Bool) : (el f 256).map encV = (el f 256).map fun c : Nat => Value.int .u8 (c : Int) :=
  List.map_congr_left fun x hx => by have := el_lt hx; unfold encV; rw [Nat.mod_eq_of_lt this]
theorem ownsRow_base {w : World} {base b : Nat} {e : TypeId} {size : Nat} {v : Value} {n : Nat} {xs : List Value} (h : w.ownsRow base e size v n xs) (hb : b ≤ base) : w.ownsRow b e size v n xs := by
  refine ⟨h.1, ?_⟩
  rcases h.2 with h1 | ⟨g, cap, cur, hv, hg, r⟩
  · exact .inl h1
  · exact .inr ⟨g, cap, cur, hv, Nat.le_trans hb hg, r⟩

/-- 'It hands back a slice of its own that holds l.' -/
def GivesBytes (w0 : World) (l : List Nat) (e : Ending) (w' : World) : Prop := ∃ v, e = .returned v ∧ w'.ownsRow w0.heap.size 5 1 v l.length (l.map fun c : Nat => Value.int .u8 (c : Int)) ∧ Below w0.heap.size w0 w'

set_option maxHeartbeats 1000000 in
theorem collect_in (n : Nat) (hn : 4 ≤ n) (Bs : Nat) (f : Nat → Bool) (w : World) (hbox : SetBox w Bs 24 f) (hT : Tab w) :
    CallsIn Fence.wide n Tryd.prog 47 #[.func (.func 49) #[] #[.pointer (some ⟨Bs, 0, none⟩)]] w (GivesBytes w (el f 256)) := by
  have hc := appendSeq_in (n - 1) (by omega) Bs f w hbox hT
  rw [el_map] at hc
  have hn1 : 1 ≤ n := by omega
  generalize el f 256 = ys at *
  have hc := Lib.hid hc
  refine callsIn_of_wp Tryd.func47 rfl trivial ?_ rfl
  simp only [Tryd.ntmps47, List.size_toArray, List.length_cons, List.length_nil, Nat.reduceAdd, Nat.reduceSub, Array.replicate_succ, Array.replicate_zero, List.push_toArray, List.append_toArray, List.nil_append, List.cons_append]
  gi_wp2_with (refine ⟨trivial, ?_⟩; gi_at_call 57; refine hc.out.mono ?_; rintro e w' ⟨v, rfl, hrow, hb⟩; have hrow := Lib.hid hrow; have hb := Lib.hid hb)
  go_ret
  exact ⟨v, rfl, hrow.out, hb.out⟩

set_option maxHeartbeats 1000000 in
theorem list_in (f : Nat → Bool) (w : World) (hT : Tab w) :
    Calls Tryd.prog 35 #[(.agg #[.int .u64 (wd f 0), .int .u64 (wd f 1), .int .u64 (wd f 2), .int .u64 (wd f 3)])] w (GivesBytes w (el f 256)) := by
  refine (callsIn_wide (n := 6)).1 ?_
  obtain ⟨W, hW, b1, b2, hB⟩ := boxes2 w 24 24 (.int .u64 (wd f 0)) (.int .u64 (wd f 1)) (.int .u64 (wd f 2)) (.int .u64 (wd f 3)) (.int .u64 (wd f 0)) (.int .u64 (wd f 1)) (.int .u64 (wd f 2)) (.int .u64 (wd f 3))
  have hc := collect_in 5 (by omega) (w.heap.size + 1) f W b2 (hT.below hB hT.1)
  have hs : w.heap.size ≤ W.heap.size := hB.size
  have hE := each_in 5 f (w.alloc (.cells #[.int .u64 (wd f 0), .int .u64 (wd f 1), .int .u64 (wd f 2), .int .u64 (wd f 3)] 24))
  generalize el f 256 = ys at *
  have hc := Lib.hid hc
  have hE := Lib.hid hE
  have hW := Lib.hid hW
  have hB := Lib.hid hB
  clear b1 b2
  refine callsIn_of_wp Tryd.func35 rfl trivial ?_ rfl
  simp only [Tryd.ntmps35, List.size_toArray, List.length_cons, List.length_nil, Nat.reduceAdd, Nat.reduceSub, Array.replicate_succ, Array.replicate_zero, List.push_toArray, List.append_toArray, List.nil_append, List.cons_append]
  gi_wp2_with (refine ⟨trivial, ?_⟩; first | (gi_at_call 38; refine hE.out.mono ?_; rintro e w' ⟨rfl, rfl⟩; rw [hW.out]; simp only [World.size_alloc]) | (gi_at_call 47; refine hc.out.mono ?_; rintro e w' ⟨v, rfl, hrow, hb⟩; have hrow := Lib.hid hrow; have hb := Lib.hid hb))
  go_ret
  exact ⟨v, rfl, ownsRow_base hrow.out hs, hB.out.trans (hb.out.mono hs)⟩
end Go.Proofs.YtaahefhiiggagaaDoor.S1
