/- oneOf. -/
import Derived.Test.YtbkmoaollooomaaDoorW11
import Derived.Test.YtbkmoaollooomaaDoorS1C
import Derived.Deep.RegionWith
namespace Go.Proofs.YtbkmoaollooomaaDoor
open Go.RowKit
open Go.Tree7
open S5 (nl nl_length nl_small at_nl nl_at nl_strN)
open S1 (el eqB notS oneS wd)
theorem el_one {f : Nat → Bool} (h : (el f 256).length = 1) : ∃ c, el f 256 = [c] ∧ c ≤ 255 := by
  obtain ⟨c, hc⟩ := List.length_eq_one_iff.1 h
  refine ⟨c, hc, ?_⟩
  have : c ∈ el f 256 := by rw [hc]; simp
  have := S1.el_lt this
  omega
set_option maxRecDepth 10000 in
set_option maxHeartbeats 2000000 in
theorem oneOf_in (f : Nat → Bool) (w : World) (hT : S1.Tab w) : Calls Tryd.prog 46 #[.agg #[.int .u64 (S1.wd (f) 0), .int .u64 (S1.wd (f) 1), .int .u64 (S1.wd (f) 2), .int .u64 (S1.wd (f) 3)]] w fun e w' => e = .returned (.string (strN (oneL f))) ∧ Below w.heap.size w w' := by
  obtain ⟨n, hn⟩ : ∃ n, (el f 256).length = n := ⟨_, rfl⟩
  have L := fun w => S1.len_in f w
  rw [S1.szS_el, hn] at L
  replace L := Lib.hid L
  by_cases h1 : n = 1
  · subst h1
    obtain ⟨c, hc, hc5⟩ := el_one hn
    have G : Hid (∀ W, S1.Tab W → Calls Tryd.prog 58 #[.agg #[.int .u64 (S1.wd (f) 0), .int .u64 (S1.wd (f) 1), .int .u64 (S1.wd (f) 2), .int .u64 (S1.wd (f) 3)]] W fun e w' => e = .returned (.int .i64 c) ∧ Below W.heap.size W w') := Lib.hid fun W hW => (S1.least_in f W hW).mono fun e w' ⟨r, he, hr, hb⟩ => by
      rw [hc] at hr
      simp at hr
      subst hr
      exact ⟨he, hb⟩
    have P := Lib.hid (fun w => S5.plain_in (po_sp hc5) w)
    have hL : oneL f = po c := by unfold oneL; rw [if_pos hn, hc]; rfl
    rw [hL]
    have hwr : IntKind.u8.wrap (c : Int) = c := S5.wrap8 c (by omega)
    generalize strN (po c) = F at *
    clear hL hc hn
    replace hT := Lib.hid hT
    go_enter Tryd.func46, Tryd.ntmps46
    go_wp2_with (first | (go_at_call 56; (with_reducible refine (L.out _).mono ?_); rintro e w1 ⟨rfl, hb1⟩; have hk := cells_of (kept_row (World.alloc_heap_new _ _) hb1); obtain ⟨c0, f0⟩ := hk 0 _ rfl; obtain ⟨c1, f1⟩ := hk 1 _ rfl; obtain ⟨c2, f2⟩ := hk 2 _ rfl; obtain ⟨c3, f3⟩ := hk 3 _ rfl; have hk2 := Lib.hid (kept_row (World.alloc_heap_new _ _) hb1); clear hk f0 f1 f2 f3; have hB1 := Lib.hid (((Below.refl w.heap.size w).alloc (Nat.le_refl _) _).trans (hb1.mono (by simp))); have hT1 := Lib.hid (hT.out.below hB1.out hT.out.1); clear hb1) | (go_at_call 58; (with_reducible refine (G.out _ hT1.out).mono ?_); rintro e w2 ⟨rfl, hb2⟩; replace hb2 := Lib.hid hb2) | (go_at_call 57; (with_reducible refine (P.out _).mono ?_); rintro e w3 ⟨rfl, hb3⟩; replace hb3 := Lib.hid hb3))
    go_ret
    exact ⟨rfl, hB1.out.trans ((hb2.out.mono hB1.out.size).trans (hb3.out.mono (Nat.le_trans hB1.out.size hb2.out.size)))⟩
  · have hne : ((n : Int) == 1) = false := by simp; omega
    obtain ⟨E, hE⟩ : ∃ E, eqB f dotS = E := ⟨_, rfl⟩
    have D := Lib.hid (fun w => dot_in w)
    have X := Lib.hid (fun w hT => S6.text_in f w hT)
    have hL : oneL f = if E = true then [46] else S6.txtB f := by unfold oneL; rw [if_neg (by rw [hn]; exact h1), hE]
    rw [hL]
    have he : ∀ w, (Op.equalIn 10000 24 (.agg #[.int .u64 (S1.wd (f) 0), .int .u64 (S1.wd (f) 1), .int .u64 (S1.wd (f) 2), .int .u64 (S1.wd (f) 3)]) (.agg #[.int .u64 (S1.wd (dotS) 0), .int .u64 (S1.wd (dotS) 1), .int .u64 (S1.wd (dotS) 2), .int .u64 (S1.wd (dotS) 3)])).run Tryd.prog w = .ok E w := fun w => by
      rw [S1.eq28, ← hE]
      unfold eqB
      rfl
    have l46 : strN [46] = ⟨#[46]⟩ := by decide +kernel
    generalize S6.txtB f = Z at *
    clear hL hn hE
    replace hT := Lib.hid hT
    generalize wd dotS 0 = d0 at *
    generalize wd dotS 1 = d1 at *
    generalize wd dotS 2 = d2 at *
    generalize wd dotS 3 = d3 at *
    cases E with
    | true =>
      simp only [if_true] at *
      rw [l46]
      go_enter Tryd.func46, Tryd.ntmps46
      go_wp2_with ((go_at_call 56; (with_reducible refine (L.out _).mono ?_); rintro e w1 ⟨rfl, hb1⟩; have hk := cells_of (kept_row (World.alloc_heap_new _ _) hb1); obtain ⟨c0, f0⟩ := hk 0 _ rfl; obtain ⟨c1, f1⟩ := hk 1 _ rfl; obtain ⟨c2, f2⟩ := hk 2 _ rfl; obtain ⟨c3, f3⟩ := hk 3 _ rfl; have hk2 := Lib.hid (kept_row (World.alloc_heap_new _ _) hb1); clear hk f0 f1 f2 f3; have hB1 := Lib.hid (((Below.refl w.heap.size w).alloc (Nat.le_refl _) _).trans (hb1.mono (by simp))); have hT1 := Lib.hid (hT.out.below hB1.out hT.out.1); clear hb1))
      go_region_with (refine (D.out _).mono ?_; rintro e w2 ⟨rfl, hb2⟩; have hk := cells_of (kept_row (show w1.drew.heap[w.heap.size]? = _ from hk2.out) hb2); obtain ⟨x0, -⟩ := hk 0 _ rfl; obtain ⟨x1, -⟩ := hk 1 _ rfl; obtain ⟨x2, -⟩ := hk 2 _ rfl; obtain ⟨x3, -⟩ := hk 3 _ rfl; clear hk; have hB2 := Lib.hid (hB1.out.trans ((Below.refl w.heap.size w1).drew.trans (hb2.mono hB1.out.size))); clear hb2)
      all_goals
        go_wp2
        go_ret
        exact ⟨rfl, hB2.out⟩
    | false =>
      simp only [Bool.false_eq_true, if_false] at *
      generalize strN Z = F at *
      go_enter Tryd.func46, Tryd.ntmps46
      go_wp2_with ((go_at_call 56; (with_reducible refine (L.out _).mono ?_); rintro e w1 ⟨rfl, hb1⟩; have hk := cells_of (kept_row (World.alloc_heap_new _ _) hb1); obtain ⟨c0, f0⟩ := hk 0 _ rfl; obtain ⟨c1, f1⟩ := hk 1 _ rfl; obtain ⟨c2, f2⟩ := hk 2 _ rfl; obtain ⟨c3, f3⟩ := hk 3 _ rfl; have hk2 := Lib.hid (kept_row (World.alloc_heap_new _ _) hb1); clear hk f0 f1 f2 f3; have hB1 := Lib.hid (((Below.refl w.heap.size w).alloc (Nat.le_refl _) _).trans (hb1.mono (by simp))); have hT1 := Lib.hid (hT.out.below hB1.out hT.out.1); clear hb1))
      go_region_with (refine (D.out _).mono ?_; rintro e w2 ⟨rfl, hb2⟩; have hk := cells_of (kept_row (show w1.drew.heap[w.heap.size]? = _ from hk2.out) hb2); obtain ⟨x0, -⟩ := hk 0 _ rfl; obtain ⟨x1, -⟩ := hk 1 _ rfl; obtain ⟨x2, -⟩ := hk 2 _ rfl; obtain ⟨x3, -⟩ := hk 3 _ rfl; clear hk; have hB2 := Lib.hid (hB1.out.trans ((Below.refl w.heap.size w1).drew.trans (hb2.mono hB1.out.size))); clear hb2; have hT2 := Lib.hid (hT.out.below hB2.out hT.out.1))
      all_goals
        go_wp2_with (go_at_call 60; (with_reducible refine (X.out _ hT2.out).mono ?_); rintro e w3 ⟨rfl, hb3⟩; replace hb3 := Lib.hid hb3)
        go_ret
        exact ⟨rfl, hB2.out.trans (hb3.out.mono hB2.out.size)⟩
end Go.Proofs.YtbkmoaollooomaaDoor
