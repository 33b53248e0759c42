/- Least of package sets; the reference's List of layer 1: a slice that holds the members, rising. -/
import Derived.Test.YtaahefhiiggagaaDoorS1W12
import Derived.Test.YtaahefhiiggagaaDoorS1M2
import Derived.OwnWalk
namespace Go.Proofs.YtaahefhiiggagaaDoor.S1
open Go.RowKit Go.Shelf

theorem ownsRow_bel {w w' : World} {base : Nat} {e : TypeId} {size : Nat} {v : Value} {n : Nat} {xs : List Value} (h : w.ownsRow base e size v n xs) (hb : Below w.heap.size w w') : w'.ownsRow base e size v n xs := by
  refine ⟨h.1, ?_⟩
  rcases h.2 with h1 | ⟨g, cap, cur, hv, hg, hh, r⟩
  · exact .inl h1
  · exact .inr ⟨g, cap, cur, hv, hg, (hb.block g (Array.getElem?_eq_some_iff.1 hh).1).trans hh, r⟩
theorem Blk4.grown {w w1 : World} {b : Nat} {t : TypeId} {v0 v1 v2 v3 : Value} {base : Nat} {e : TypeId} {size : Nat} {v : Value} {n : Nat} {xs : List Value} {tmp : Obj} (h : Blk4 w b t v0 v1 v2 v3)
    (hrow : w.ownsRow base e size v n xs) (hte : t ≠ e) (hg : (w.alloc tmp).grownBy w1 v.ownBlock) : Blk4 w1 b t v0 v1 v2 v3 := by
  have h1 := h.alloc tmp
  refine (hg.block b h1.lt ?_).trans h1
  rcases hrow.2 with ⟨rfl, _⟩ | ⟨g, cap, cur, rfl, _, hgb, _⟩
  · simp [Value.ownBlock]
  · intro e'
    obtain rfl : b = g := by simpa [Value.ownBlock] using e'
    have := (show w.heap[b]? = _ from h).symm.trans hgb
    simp at this
    exact hte this.2
theorem below_grown {a w w1 : World} {B : Nat} {e : TypeId} {size : Nat} {v : Value} {n : Nat} {xs : List Value} {tmp : Obj} (h : Below B a w) (hB : B ≤ w.heap.size)
    (hrow : w.ownsRow B e size v n xs) (hg : (w.alloc tmp).grownBy w1 v.ownBlock) : Below B a w1 :=
  (h.alloc hB tmp).grown hg (by simp; omega) fun k ek => (hrow.lt k ek).1

def encN (c : Nat) : Value := .int .u8 (c : Int)
set_option maxRecDepth 10000 in
set_option maxHeartbeats 2000000 in
theorem reflist_aux (N : Nat) (hN : Hid (N = 256)) (f : Nat → Bool) (w : World) : Calls Tryd.prog 27 #[(.agg #[.int .u64 (wd f 0), .int .u64 (wd f 1), .int .u64 (wd f 2), .int .u64 (wd f 3)])] w (GivesBytes w (el f N)) := by
  obtain ⟨i0, hi, hz0, hz1, hz2⟩ := info_parts info5
  unfold GivesBytes
  go_enter Tryd.func27, Tryd.ntmps27
  go_wp2
  obtain ⟨W, hW, bf, hB⟩ := boxes1 w 23 (.int .u64 (wd f 0)) (.int .u64 (wd f 1)) (.int .u64 (wd f 2)) (.int .u64 (wd f 3))
  have hs : W.heap.size = w.heap.size + 1 := by rw [← hW]; simp
  rw [hW]
  clear hW
  have hrow : (W.alloc (.cells #[] 5)).ownsRow w.heap.size 5 1 (.slice (some ⟨w.heap.size + 1, 0, none⟩) 0 0) (el f 0).length ((el f 0).map encN) := by
    have := World.ownsRow_lit (base := w.heap.size) (e := 5) (size := 1) W #[] 0 (by omega) (by decide) rfl
    rw [hs] at this
    simpa [el] using this
  have bf := bf.alloc (.cells #[] 5)
  have hB := hB.alloc hB.size (.cells #[] 5)
  revert bf hB hrow
  generalize W.alloc (.cells #[] 5) = W2
  intro hrow bf hB
  go_loopw [3, 4] (fun v i wr => ∃ k : Nat, k ≤ 256 ∧ i = .int .i64 k ∧ wr.ownsRow w.heap.size 5 1 v (el f k).length ((el f k).map encN) ∧ SetBox wr w.heap.size 23 f ∧ Below w.heap.size w wr) (fun _ i _ => 256 - (intOf i).toNat)
  case atStart => exact ⟨0, by omega, rfl, hrow, bf, hB⟩
  case round =>
    clear hrow bf hB
    obtain ⟨k, hk, rfl, hrow, bf, hB⟩ := hrel
    by_cases hlt : k < 256
    · have hlen := el_len f k
      have hk8 : k ≤ 255 := by omega
      have hc := has_ref f k hk8
      obtain ⟨⟨f0, f1, f2, f3⟩, -⟩ := bf.blk.facts
      cases hf : f k
      · rw [hf] at hc
        have he := el_snoc_miss hf
        replace hc := Lib.hid hc
        replace he := Lib.hid he
        clear hf
        go_wp2_with (go_at_call 30; refine (hc.out _).mono ?_; rintro e w' ⟨rfl, hb⟩; replace hrow := ownsRow_bel hrow hb; replace bf := bf.blk.bel hb; replace hB := hB.trans (hb.mono hB.size); clear hb f0 f1 f2 f3)
        go_roundw
        case rel => exact ⟨k + 1, by omega, by go_num, by rw [he.out]; exact hrow, bf, hB⟩
        case measure => simp [intOf]; omega
      · rw [hf] at hc
        have he := el_snoc_hit hf
        replace hc := Lib.hid hc
        replace he := Lib.hid he
        clear hf
        generalize hl : (el f k).length = m at *
        generalize hxs : (el f k).map encN = xs at *
        replace hl := Lib.hid hl
        replace hxs := Lib.hid hxs
        go_wp2_with (first
          | (go_at_call 30; refine (hc.out _).mono ?_; rintro e w' ⟨rfl, hb⟩; replace hrow := ownsRow_bel hrow hb; replace bf := bf.blk.bel hb; replace hB := hB.trans (hb.mono hB.size); clear hb f0 f1 f2 f3)
          | (at_builtin; refine wpList_append_own _ rfl _ _ 40 rfl w.heap.size 5 i0 (.int .u8 0) 1 1 Tryd.underlying40 hi hz0 hz1 hz2 rfl (by decide) _ _ _ rfl (hrow.alloc _) ⟨_, 0, none⟩ 1 1 [.int .u8 (k : Int)] rfl rfl (cell_one_new _ _ _) (by simp [Value.oneCell']) (by simp [maxLen]; omega) (by omega) (by have := hB.size; simp; omega) ?_; intro v' w1 hown' hgrow _; replace bf := Blk4.grown bf hrow (by decide) hgrow; replace hB := below_grown hB hB.size hrow hgrow; replace hrow := hown'; clear hgrow hown'))
        go_roundw
        case rel => exact ⟨k + 1, by omega, by go_num, by rw [he.out]; simp only [List.length_append, List.map_append, hl.out, hxs.out]; exact hrow, bf, hB⟩
        case measure => simp [intOf]; omega
    · have e : k = N := by have := hN.out; omega
      subst e
      clear bf
      replace hB := Lib.hid hB
      replace hrow := Lib.hid hrow
      go_wp2
      go_ret
      exact ⟨_, rfl, hrow.out, hB.out⟩
theorem reflist_in (f : Nat → Bool) (w : World) : Calls Tryd.prog 27 #[(.agg #[.int .u64 (wd f 0), .int .u64 (wd f 1), .int .u64 (wd f 2), .int .u64 (wd f 3)])] w (GivesBytes w (el f 256)) := reflist_aux 256 (Lib.hid rfl) f w
end Go.Proofs.YtaahefhiiggagaaDoor.S1
