/- The program's Copy, once more. -/
import Derived.Test.YtjlmeegaiagfpaaGreatDoorW32
namespace Go.Proofs.YtjlmeegaiagfpaaGreatDoor
open Go.RowKit
open Go.Tree7
open S7
open S5 (nl nl_length nl_small at_nl nl_at Gives idx idx_at ix ix_no ix_yes)
/-- What Copy gives back. -/
def GivesCopied8 (w : World) (t : T) (r : Bool) (e : Ending) (w' : World) : Prop := if r = true then GivesCopy8 w t e w' else e = .returned (.agg #[.int .i64 0, .int .u64 0, .int .u64 0, .int .u64 0, .int .u64 0, .slice none 0 0, .int .i64 0, .int .i64 0, .string ⟨#[]⟩]) ∧ Below w.heap.size w w'
set_option maxRecDepth 10000 in
set_option maxHeartbeats 4000000 in
theorem copy_in8 {t : T} {w : World} (hT : T.In w w.heap.size t) {r : Bool} (hr : rightB t = r) : Calls Tryz.prog 13 #[.agg t.cells.toArray] w (GivesCopied8 w t r) := by
  have hb2 : Below w.heap.size w ((w.alloc (.cells t.cells.toArray 27)).alloc (.cells #[.int .i64 0, .int .u64 0, .int .u64 0, .int .u64 0, .int .u64 0, .slice none 0 0, .int .i64 0, .int .i64 0, .string ⟨#[]⟩] 27)) := ((Below.refl w.heap.size w).alloc (Nat.le_refl _) _).alloc (by simp) _
  have R := Lib.hid (right_in ((hT.keep hb2).mono hb2.size))
  rw [hr] at R
  have hbx1 : Hid (((w.alloc (.cells t.cells.toArray 27)).alloc (.cells #[.int .i64 0, .int .u64 0, .int .u64 0, .int .u64 0, .int .u64 0, .slice none 0 0, .int .i64 0, .int .i64 0, .string ⟨#[]⟩] 27)).heap[w.heap.size]? = some (.cells t.cells.toArray 27 (0, 0))) := Lib.hid ((Below.heap_alloc _ _ _ (by simp)).trans (World.alloc_heap_new _ _))
  have hbx2 : Hid (((w.alloc (.cells t.cells.toArray 27)).alloc (.cells #[.int .i64 0, .int .u64 0, .int .u64 0, .int .u64 0, .int .u64 0, .slice none 0 0, .int .i64 0, .int .i64 0, .string ⟨#[]⟩] 27)).heap[w.heap.size + 1]? = some (.cells #[.int .i64 0, .int .u64 0, .int .u64 0, .int .u64 0, .int .u64 0, .slice none 0 0, .int .i64 0, .int .i64 0, .string ⟨#[]⟩] 27 (0, 0))) := Lib.hid (by have := World.alloc_heap_new (w.alloc (.cells t.cells.toArray 27)) (.cells #[.int .i64 0, .int .u64 0, .int .u64 0, .int .u64 0, .int .u64 0, .slice none 0 0, .int .i64 0, .int .i64 0, .string ⟨#[]⟩] 27); rw [World.size_alloc] at this; exact this)
  replace hb2 := Lib.hid hb2
  have hG : ∃ G, G = GivesCopied8 w t r := ⟨_, rfl⟩
  obtain ⟨G, hG⟩ := hG
  rw [← hG]
  replace hG := Lib.hid hG
  cases r with
  | true =>
    obtain ⟨ha, hs⟩ := right_all ((rightB_iff t).1 hr)
    have C0 := copied_in8 (Nat.le_refl _) t hT hs
    unfold CopyOf8 at C0
    obtain ⟨H, hH⟩ : ∃ H, H = fun wx => GivesCopy8 wx t := ⟨_, rfl⟩
    have C := Lib.hid (fun w' (h : Below w.heap.size w w') => show Calls Tryz.prog 24 #[.agg t.cells.toArray] w' (H w') by rw [hH]; exact C0 w' h)
    replace hH := Lib.hid hH
    clear C0 ha hs hr hT
    cases t with
    | mk k u0 u1 u2 u3 p cap mn mx tx ks =>
      simp only [T.cells] at *
      go_enter Tryz.func13, Tryz.ntmps13
      go_wp2_with (first | (go_at_call 7; (with_reducible refine R.out.mono ?_); rintro e w1 ⟨rfl, hb⟩; have hw1 := hb.size; have hk := cells_of ((hb.block w.heap.size (by simp; omega)).trans hbx1.out); have x0 := (hk 0 _ rfl).1; have x1 := (hk 1 _ rfl).1; have x2 := (hk 2 _ rfl).1; have x3 := (hk 3 _ rfl).1; have x4 := (hk 4 _ rfl).1; have x5 := (hk 5 _ rfl).1; have x6 := (hk 6 _ rfl).1; have x7 := (hk 7 _ rfl).1; have x8 := (hk 8 _ rfl).1; clear hk; have h1b := Lib.hid ((hb.block (w.heap.size + 1) (by simp)).trans hbx2.out); replace hb := Lib.hid (hb2.out.trans (hb.mono hb2.out.size))) | (go_at_call 24; (with_reducible refine (C.out _ hb.out).mono ?_); intro e w2 hg; rw [hH.out] at hg; obtain ⟨⟨km, u0m, u1m, u2m, u3m, pm, capm, mnm, mxm, txm, ksm⟩, rfl, hc, hm1, hm2⟩ := hg; simp only [T.cells]; have h2b := (hc.block (w.heap.size + 1) (Array.getElem?_eq_some_iff.1 h1b.out).1).trans h1b.out; have hk := cells_of h2b; have y0 := (hk 0 _ rfl).1; have y1 := (hk 1 _ rfl).1; have y2 := (hk 2 _ rfl).1; have y3 := (hk 3 _ rfl).1; have y4 := (hk 4 _ rfl).1; have y5 := (hk 5 _ rfl).1; have y6 := (hk 6 _ rfl).1; have y7 := (hk 7 _ rfl).1; have y8 := (hk 8 _ rfl).1; have f0 := (hk 0 _ rfl).2; have f1 := (hk 1 _ rfl).2; have f2 := (hk 2 _ rfl).2; have f3 := (hk 3 _ rfl).2; have f4 := (hk 4 _ rfl).2; have f5 := (hk 5 _ rfl).2; have f6 := (hk 6 _ rfl).2; have f7 := (hk 7 _ rfl).2; have f8 := (hk 8 _ rfl).2; clear hk; replace h2b := Lib.hid h2b; replace hc := Lib.hid hc; replace hm1 := Lib.hid hm1; replace hm2 := Lib.hid hm2))
      obtain ⟨q1, q2, q3, q4⟩ := set9 (w := w2) (b := w.heap.size + 1) (d0 := .int .i64 km) (d1 := .int .u64 u0m) (d2 := .int .u64 u1m) (d3 := .int .u64 u2m) (d4 := .int .u64 u3m) (d5 := .slice pm ksm.length capm) (d6 := .int .i64 mnm) (d7 := .int .i64 mxm) (d8 := .string txm) h2b.out _ rfl
      generalize hW : World.setCell _ (⟨w.heap.size + 1, 8, none⟩ : Addr) _ = W at *
      clear hW
      have hk := cells_of q1
      have z0 := (hk 0 _ rfl).1; have z1 := (hk 1 _ rfl).1; have z2 := (hk 2 _ rfl).1; have z3 := (hk 3 _ rfl).1; have z4 := (hk 4 _ rfl).1; have z5 := (hk 5 _ rfl).1; have z6 := (hk 6 _ rfl).1; have z7 := (hk 7 _ rfl).1; have z8 := (hk 8 _ rfl).1
      clear hk
      refine bodyPost_ret (v := .agg #[.int .i64 km, .int .u64 u0m, .int .u64 u1m, .int .u64 u2m, .int .u64 u3m, .slice pm ksm.length capm, .int .i64 mnm, .int .i64 mxm, .string txm]) (by simp [results, Tryz.results13, go_sem, z0, z1, z2, z3, z4, z5, z6, z7, z8]) rfl ?_
      rw [hG.out]
      unfold GivesCopied8
      rw [if_pos rfl]
      have hl1 := (Array.getElem?_eq_some_iff.1 h1b.out).1
      have hkp : ∀ b, (w1.heap.size ≤ b ∧ b < w2.heap.size) → W.heap[b]? = w2.heap[b]? := fun b hb => q3 b (by omega)
      exact ⟨.mk km u0m u1m u2m u3m pm capm mnm mxm txm ksm, rfl, (hb.out.trans (hc.out.mono hb.out.size)).trans (q4 _ (by omega)), (hm1.out.keep fun b h1 h2 => hkp b ⟨h1, h2⟩).low (by have := hb.out.size; omega) (by rw [q2]; exact Nat.le_refl _), hm2.out⟩
  | false =>
    clear hT hr
    cases t with
    | mk k u0 u1 u2 u3 p cap mn mx tx ks =>
      simp only [T.cells] at *
      go_enter Tryz.func13, Tryz.ntmps13
      go_wp2_with (go_at_call 7; (with_reducible refine R.out.mono ?_); rintro e w1 ⟨rfl, hb⟩; have h1b := (hb.block (w.heap.size + 1) (by simp)).trans hbx2.out; have hk := cells_of h1b; have y0 := (hk 0 _ rfl).1; have y1 := (hk 1 _ rfl).1; have y2 := (hk 2 _ rfl).1; have y3 := (hk 3 _ rfl).1; have y4 := (hk 4 _ rfl).1; have y5 := (hk 5 _ rfl).1; have y6 := (hk 6 _ rfl).1; have y7 := (hk 7 _ rfl).1; have y8 := (hk 8 _ rfl).1; have f0 := (hk 0 _ rfl).2; have f1 := (hk 1 _ rfl).2; have f2 := (hk 2 _ rfl).2; have f3 := (hk 3 _ rfl).2; have f4 := (hk 4 _ rfl).2; have f5 := (hk 5 _ rfl).2; have f6 := (hk 6 _ rfl).2; have f7 := (hk 7 _ rfl).2; have f8 := (hk 8 _ rfl).2; clear hk; replace h1b := Lib.hid h1b; replace hb := Lib.hid (hb2.out.trans (hb.mono hb2.out.size)))
      obtain ⟨q1, q2, q3, q4⟩ := set9 (w := w1) (b := w.heap.size + 1) (d0 := .int .i64 0) (d1 := .int .u64 0) (d2 := .int .u64 0) (d3 := .int .u64 0) (d4 := .int .u64 0) (d5 := .slice none 0 0) (d6 := .int .i64 0) (d7 := .int .i64 0) (d8 := .string ⟨#[]⟩) h1b.out _ rfl
      generalize hW : World.setCell _ (⟨w.heap.size + 1, 8, none⟩ : Addr) _ = W at *
      clear hW
      have hk := cells_of q1
      have z0 := (hk 0 _ rfl).1; have z1 := (hk 1 _ rfl).1; have z2 := (hk 2 _ rfl).1; have z3 := (hk 3 _ rfl).1; have z4 := (hk 4 _ rfl).1; have z5 := (hk 5 _ rfl).1; have z6 := (hk 6 _ rfl).1; have z7 := (hk 7 _ rfl).1; have z8 := (hk 8 _ rfl).1
      clear hk
      refine bodyPost_ret (v := .agg #[.int .i64 0, .int .u64 0, .int .u64 0, .int .u64 0, .int .u64 0, .slice none 0 0, .int .i64 0, .int .i64 0, .string ⟨#[]⟩]) (by simp [results, Tryz.results13, go_sem, z0, z1, z2, z3, z4, z5, z6, z7, z8]) rfl ?_
      rw [hG.out]
      unfold GivesCopied8
      rw [if_neg (by simp)]
      exact ⟨rfl, hb.out.trans (q4 _ (by omega))⟩
end Go.Proofs.YtjlmeegaiagfpaaGreatDoor
