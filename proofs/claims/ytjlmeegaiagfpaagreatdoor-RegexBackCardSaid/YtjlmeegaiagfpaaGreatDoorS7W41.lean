/- The program's copied, walked. -/
import Derived.Test.YtjlmeegaiagfpaaGreatDoorS7W40
import Derived.Deep.RegionHeld3
namespace Go.Proofs.YtjlmeegaiagfpaaGreatDoor.S7
open Go.RowKit
open Go.Tree7
theorem row_some {W : World} {g : Nat} {l : List T} (h : NRowAt W g l) {j : Nat} (hj : j < l.length) {q : Nat} (hq : q < 9) : ∃ z, W.cell? ⟨g, j * 9 + q, none⟩ = some z := by
  rw [h.cell hj hq, List.getElem?_eq_getElem (by rw [T.cells_length]; exact hq)]
  exact ⟨_, rfl⟩
set_option maxRecDepth 100000 in
set_option maxHeartbeats 8000000 in
theorem copied_in {w0 : World} {B0 : Nat} (hn0 : B0 ≤ w0.heap.size) : ∀ t : T, T.In w0 B0 t → t.size ≤ 600 → CopyOf w0 B0 t := by
  refine T.ind fun k sw0 sw1 sw2 sw3 p cap mn mx tx ks ih => ?_
  intro hT hsz
  rw [T.size_mk] at hsz
  unfold CopyOf
  intro w hB0
  have hlen : ks.length ≤ 1000 := by have := len_sum ks (Nat.le_refl _); rw [List.take_of_length_le (Nat.le_refl _)] at this; omega
  have hfit : Hid (fits k sw0 sw1 sw2 sw3 mn mx tx) := Lib.hid (by cases hT with | mk h1 h2 h3 => exact h3)
  have hih : ∀ t ∈ ks, CopyOf w0 B0 t := fun t ht => ih t ht (by cases hT with | mk h1 h2 h3 h4 h5 => exact h5 t ht) (by
    obtain ⟨i, hi, rfl⟩ := List.getElem_of_mem ht
    have h1 := sum_take ks hi
    have h2 := sum_le ks (i + 1)
    omega)
  have hBn : B0 ≤ w.heap.size := Nat.le_trans hn0 hB0.size
  have hb2 : Below w.heap.size w ((w.alloc (.cells #[.int .i64 k, .int .u64 sw0, .int .u64 sw1, .int .u64 sw2, .int .u64 sw3, .slice p ks.length cap, .int .i64 mn, .int .i64 mx, .string tx] 27)).alloc (.cells #[.int .i64 0, .int .u64 0, .int .u64 0, .int .u64 0, .int .u64 0, .slice none 0 0, .int .i64 0, .int .i64 0, .string ⟨#[]⟩] 27)) := ((Below.refl w.heap.size w).alloc (Nat.le_refl _) _).alloc (by simp) _
  have cL := Lib.hid (clone_in (hB0.trans (hb2.mono hBn)) hT hlen)
  have hstrip : Hid ((T.mk k sw0 sw1 sw2 sw3 p cap mn mx tx ks).strip = .mk k sw0 sw1 sw2 sw3 none 0 mn mx tx (ks.map T.strip)) := Lib.hid (T.strip_mk _ _ _ _ _ _ _ _ _ _ _)
  have hbx1 : Hid (((w.alloc (.cells #[.int .i64 k, .int .u64 sw0, .int .u64 sw1, .int .u64 sw2, .int .u64 sw3, .slice p ks.length cap, .int .i64 mn, .int .i64 mx, .string tx] 27)).alloc (.cells #[.int .i64 0, .int .u64 0, .int .u64 0, .int .u64 0, .int .u64 0, .slice none 0 0, .int .i64 0, .int .i64 0, .string ⟨#[]⟩] 27)).heap[w.heap.size]? = some (.cells #[.int .i64 k, .int .u64 sw0, .int .u64 sw1, .int .u64 sw2, .int .u64 sw3, .slice p ks.length cap, .int .i64 mn, .int .i64 mx, .string tx] 27 (0, 0))) := Lib.hid ((Below.heap_alloc _ _ _ (by simp)).trans (World.alloc_heap_new _ _))
  have hbx2 : Hid (((w.alloc (.cells #[.int .i64 k, .int .u64 sw0, .int .u64 sw1, .int .u64 sw2, .int .u64 sw3, .slice p ks.length cap, .int .i64 mn, .int .i64 mx, .string tx] 27)).alloc (.cells #[.int .i64 0, .int .u64 0, .int .u64 0, .int .u64 0, .int .u64 0, .slice none 0 0, .int .i64 0, .int .i64 0, .string ⟨#[]⟩] 27)).heap[w.heap.size + 1]? = some (.cells #[.int .i64 0, .int .u64 0, .int .u64 0, .int .u64 0, .int .u64 0, .slice none 0 0, .int .i64 0, .int .i64 0, .string ⟨#[]⟩] 27 (0, 0))) := Lib.hid (by have := World.alloc_heap_new (w.alloc (.cells #[.int .i64 k, .int .u64 sw0, .int .u64 sw1, .int .u64 sw2, .int .u64 sw3, .slice p ks.length cap, .int .i64 mn, .int .i64 mx, .string tx] 27)) (.cells #[.int .i64 0, .int .u64 0, .int .u64 0, .int .u64 0, .int .u64 0, .slice none 0 0, .int .i64 0, .int .i64 0, .string ⟨#[]⟩] 27); rw [World.size_alloc] at this; exact this)
  replace hB0 := Lib.hid hB0
  replace hb2 := Lib.hid hb2
  replace hih := Lib.hid hih
  have hG : ∃ G, G = GivesCopy w (T.mk k sw0 sw1 sw2 sw3 p cap mn mx tx ks) := ⟨_, rfl⟩
  obtain ⟨G, hG⟩ := hG
  rw [← hG]
  replace hG := Lib.hid hG
  simp only [T.cells]
  clear ih hsz hT
  go_enter Tryz.func24, Tryz.ntmps24
  go_wp2_with (go_at_call 43; (with_reducible refine cL.out.mono ?_); rintro e w1 ⟨pc, capc, rfl, hc1, hc2, hrow, hb⟩; have hk1 := cells_of ((hb.block w.heap.size (by simp; omega)).trans hbx1.out); have x5 := (hk1 5 _ rfl).1; have f5 := (hk1 5 _ rfl).2; clear hk1; have h1a := Lib.hid ((hb.block w.heap.size (by simp; omega)).trans hbx1.out); have h1b := Lib.hid ((hb.block (w.heap.size + 1) (by simp)).trans hbx2.out); have hw1 : w.heap.size + 1 < w1.heap.size := (Nat.lt_of_lt_of_le (by simp) hb.size); replace hrow := Lib.hid hrow; replace hb := Lib.hid hb)
  have hst0 : CSt w (w1.setCell ⟨w.heap.size, 5, none⟩ (.slice pc ks.length capc)) w.heap.size k sw0 sw1 sw2 sw3 mn mx tx ks pc capc [] 0 := by
    refine ⟨rfl, box_set h1a.out 5 _, (Below.heap_setCell _ _ _ _ (by show w.heap.size + 1 ≠ w.heap.size; omega)).trans h1b.out, (hb2.out.trans (hb.out.mono hb2.out.size)).setCell (p := ⟨w.heap.size, 5, none⟩) (Nat.le_refl _) _, by rw [size_set]; omega, fun h => ?_, fun t ht => by simp at ht, rfl⟩
    obtain ⟨g, e, h1, h2⟩ := hrow.out h
    rw [World.size_alloc, World.size_alloc] at h1
    refine ⟨g, e, by omega, ?_⟩
    obtain ⟨cur, h3, h4⟩ := h2
    exact ⟨cur, (Below.heap_setCell _ _ _ _ (by show g ≠ w.heap.size; omega)).trans h3, by simpa using h4⟩
  replace hst0 := Lib.hid hst0
  go_loopw [12] (fun i wr => ∃ (j : Nat) (ms : List T), j ≤ ks.length ∧ i = .int .i64 j ∧ Hid (CSt w wr w.heap.size k sw0 sw1 sw2 sw3 mn mx tx ks pc capc ms j)) (fun i _ => ks.length - (intOf i).toNat)
  case atStart => exact ⟨0, [], Nat.zero_le _, rfl, hst0⟩
  case round =>
    clear hst0 x5 f5
    obtain ⟨j, ms, hj, rfl, hst⟩ := hrel
    by_cases hlt : j < ks.length
    · obtain ⟨g, hpc, hg2, hrw⟩ := hst.out.row (by omega)
      subst hpc
      have hl2 : (ms ++ ks.drop j).length = ks.length := by simp [hst.out.len]; omega
      have hjl := Lib.hid (show j < (ms ++ ks.drop j).length by omega)
      have hkj : (ms ++ ks.drop j)[j]'(by omega) = ks[j] := by
        rw [List.getElem_append_right (by rw [hst.out.len]; exact Nat.le_refl _)]
        simp [hst.out.len]
      have hcl : ∀ q, q < 9 → wr.cell? ⟨g, j * 9 + q, none⟩ = (ks[j].cells)[q]? := fun q hq => by rw [hrw.cell hjl.out hq, hkj]
      have hgw := hrw.lt
      have hi := hih.out _ (List.getElem_mem hlt)
      have htk : Hid ((ks.take (j + 1)).map T.strip = (ks.take j).map T.strip ++ [ks[j].strip]) := Lib.hid (by rw [List.take_succ_eq_append_getElem hlt, List.map_append]; rfl)
      unfold CopyOf at hi
      clear hkj hl2
      generalize ks[j] = kd at *
      obtain ⟨k', u0', u1', u2', u3', p', cap', mn', mx', tx', ks'⟩ := kd
      simp only [T.cells] at hcl hi
      obtain ⟨c0, c1, c2, c3, c4, c5, c6, c7, c8⟩ := nine_of hcl
      clear hcl
      have hk := cells_of hst.out.box
      have x5 := (hk 5 _ rfl).1
      clear hk
      have hsz1 : w.heap.size + 1 < wr.heap.size := hst.out.siz
      have hsz0 : w.heap.size < wr.heap.size := by omega
      have hneb : w.heap.size ≠ g := by omega
      have hne4 : wr.heap.size ≠ g := by omega
      have hbk := Lib.hid (World.alloc_heap_new wr (.cells #[.int .i64 k', .int .u64 u0', .int .u64 u1', .int .u64 u2', .int .u64 u3', .slice p' ks'.length cap', .int .i64 mn', .int .i64 mx', .string tx'] 27))
      have hbx : Hid ((wr.alloc (.cells #[.int .i64 k', .int .u64 u0', .int .u64 u1', .int .u64 u2', .int .u64 u3', .slice p' ks'.length cap', .int .i64 mn', .int .i64 mx', .string tx'] 27)).heap[w.heap.size]? = some (.cells #[.int .i64 k, .int .u64 sw0, .int .u64 sw1, .int .u64 sw2, .int .u64 sw3, .slice (some ⟨g, 0, none⟩) ks.length capc, .int .i64 mn, .int .i64 mx, .string tx] 27 (0, 0))) := Lib.hid ((Below.heap_alloc _ _ _ hsz0).trans hst.out.box)
      have hbx2k : Hid ((wr.alloc (.cells #[.int .i64 k', .int .u64 u0', .int .u64 u1', .int .u64 u2', .int .u64 u3', .slice p' ks'.length cap', .int .i64 mn', .int .i64 mx', .string tx'] 27)).heap[w.heap.size + 1]? = some (.cells #[.int .i64 0, .int .u64 0, .int .u64 0, .int .u64 0, .int .u64 0, .slice none 0 0, .int .i64 0, .int .i64 0, .string ⟨#[]⟩] 27 (0, 0))) := Lib.hid ((Below.heap_alloc _ _ _ hsz1).trans hst.out.res)
      have hgk : Hid (g < (wr.alloc (.cells #[.int .i64 k', .int .u64 u0', .int .u64 u1', .int .u64 u2', .int .u64 u3', .slice p' ks'.length cap', .int .i64 mn', .int .i64 mx', .string tx'] 27)).heap.size) := Lib.hid (by simp; omega)
      have hbelk : Hid (Below w.heap.size w (wr.alloc (.cells #[.int .i64 k', .int .u64 u0', .int .u64 u1', .int .u64 u2', .int .u64 u3', .slice p' ks'.length cap', .int .i64 mn', .int .i64 mx', .string tx'] 27)).drew) := Lib.hid ((hst.out.bel.alloc (by omega) _).drew)
      have hBk : Below wr.heap.size wr (wr.alloc (.cells #[.int .i64 k', .int .u64 u0', .int .u64 u1', .int .u64 u2', .int .u64 u3', .slice p' ks'.length cap', .int .i64 mn', .int .i64 mx', .string tx'] 27)).drew := ((Below.refl _ wr).alloc (Nat.le_refl _) _).drew
      have hrow8 := Lib.hid (hrw.bel hBk)
      have hkept8 := Lib.hid (hst.out.kept.bel hBk)
      have cC := Lib.hid (hi (wr.alloc (.cells #[.int .i64 k', .int .u64 u0', .int .u64 u1', .int .u64 u2', .int .u64 u3', .slice p' ks'.length cap', .int .i64 mn', .int .i64 mx', .string tx'] 27)).drew (hB0.out.trans (hbelk.out.mono hBn)))
      have hsk : wr.heap.size < (wr.alloc (.cells #[.int .i64 k', .int .u64 u0', .int .u64 u1', .int .u64 u2', .int .u64 u3', .slice p' ks'.length cap', .int .i64 mn', .int .i64 mx', .string tx'] 27)).heap.size := by simp
      clear hi hrw hBk
      go_wp2
      generalize wr.alloc (.cells #[.int .i64 k', .int .u64 u0', .int .u64 u1', .int .u64 u2', .int .u64 u3', .slice p' ks'.length cap', .int .i64 mn', .int .i64 mx', .string tx'] 27) = wk at *
      refine wp_region_held_drew (S := Sg g wk) (by kernel_rfl) (Sg.drew (Sg.refl g wk)) (fun hHeld => ?_)
      refine wpAnyH_take (i := 0) (v := ?v0u9) rfl (by kernel_rfl) (by kernel_rfl) (by kernel_rfl) (fun _ _ _ h => h) (Or.inl ⟨by rfl, ?h0u9⟩) hHeld ?r0u9
      case h0u9 => (intro wq hSw; go_simp <;> with_reducible rfl)
      try simp only [Act.put, List.setIfInBounds_toArray]
      refine wpAnyH_take (i := 1) (v := ?v1u10) rfl (by kernel_rfl) (by kernel_rfl) (by kernel_rfl) (fun _ _ _ h => h) (Or.inl ⟨by rfl, ?h1u10⟩) hHeld ?r1u10
      case h1u10 => (intro wq hSw; have y5 := (cells_of (Sg.block hSw hneb hbx.out) 5 _ rfl).1; go_simp <;> with_reducible rfl)
      try simp only [Act.put]
      refine wpAnyH_take (i := 2) (v := ?v2u11) rfl (by kernel_rfl) (by kernel_rfl) (by kernel_rfl) (fun _ _ _ h => h) (Or.inl ⟨by rfl, ?h2u11⟩) hHeld ?r2u11
      case h2u11 => (intro wq hSw; go_simp <;> with_reducible rfl)
      try simp only [Act.put]
      refine wpAnyH_take (i := 3) (v := ?v3u12) rfl (by kernel_rfl) (by kernel_rfl) (by kernel_rfl) (fun _ _ _ h => h) (Or.inl ⟨by rfl, ?h3u12⟩) hHeld ?r3u12
      case h3u12 => (intro wq hSw; have hk := cells_of (Sg.block hSw hne4 hbk.out); have y0 := (hk 0 _ rfl).1; have y1 := (hk 1 _ rfl).1; have y2 := (hk 2 _ rfl).1; have y3 := (hk 3 _ rfl).1; have y4 := (hk 4 _ rfl).1; have y5 := (hk 5 _ rfl).1; have y6 := (hk 6 _ rfl).1; have y7 := (hk 7 _ rfl).1; have y8 := (hk 8 _ rfl).1; clear hk; go_simp <;> with_reducible rfl)
      try simp only [Act.put]
      refine wpAnyH_ready (rs := [4]) (by kernel_rfl) (by simp) ?_
      refine AllReadyH.cons (o := _) rfl (fun K hK => ?_) AllReadyH.nil
      go_simp
      (go_at_call 24; (with_reducible refine cC.out.mono ?_); rintro e w9 ⟨⟨km, u0m, u1m, u2m, u3m, pm, capm, mnm, mxm, txm, ksm⟩, rfl, hb, hmi, hms, -⟩; simp only [T.cells]; have hS9 := Lib.hid (Sg.step hHeld hgk.out hb); have hrow9 := Lib.hid (hrow8.out.bel hb); have hkept9 := Lib.hid (hkept8.out.bel hb); have hmi9 := Lib.hid hmi; have hms9 := Lib.hid hms; have hw9 := Lib.hid hb; clear hmi hms hb; have f0 : w9.frozen? ⟨g, j * 9, none⟩ = false := hrow9.out.frozen (j * 9); obtain ⟨z0, hz0⟩ : ∃ z, w9.cell? ⟨g, j * 9, none⟩ = some z := row_some hrow9.out hjl.out (q := 0) (by decide); have f1 := hrow9.out.frozen (j * 9 + 1); obtain ⟨z1, hz1⟩ := row_some hrow9.out hjl.out (q := 1) (by decide); have f2 := hrow9.out.frozen (j * 9 + 2); obtain ⟨z2, hz2⟩ := row_some hrow9.out hjl.out (q := 2) (by decide); have f3 := hrow9.out.frozen (j * 9 + 3); obtain ⟨z3, hz3⟩ := row_some hrow9.out hjl.out (q := 3) (by decide); have f4 := hrow9.out.frozen (j * 9 + 4); obtain ⟨z4, hz4⟩ := row_some hrow9.out hjl.out (q := 4) (by decide); have f5 := hrow9.out.frozen (j * 9 + 5); obtain ⟨z5, hz5⟩ := row_some hrow9.out hjl.out (q := 5) (by decide); have f6 := hrow9.out.frozen (j * 9 + 6); obtain ⟨z6, hz6⟩ := row_some hrow9.out hjl.out (q := 6) (by decide); have f7 := hrow9.out.frozen (j * 9 + 7); obtain ⟨z7, hz7⟩ := row_some hrow9.out hjl.out (q := 7) (by decide); have f8 := hrow9.out.frozen (j * 9 + 8); obtain ⟨z8, hz8⟩ := row_some hrow9.out hjl.out (q := 8) (by decide))
      try dsimp only
      refine hK.out _ _ (hS9.out) (fun hHeld2 => ?_)
      clear hK K hHeld
      have hHeld := hHeld2
      clear hHeld2
      try simp only [Act.put, List.setIfInBounds_toArray, List.set_cons_zero, List.set_cons_succ]
      refine wpAnyH_take (i := 5) (v := ?v5u13) rfl (by kernel_rfl) (by kernel_rfl) (by kernel_rfl) (fun _ _ _ h => h) (Or.inl ⟨by rfl, ?h5u13⟩) hHeld ?r5u13
      case h5u13 => (intro wq hSw; go_simp <;> with_reducible rfl)
      try simp only [Act.put, List.setIfInBounds_toArray]
      refine wpAnyH_ready (rs := [6]) (by kernel_rfl) (by simp) ?_
      refine AllReadyH.cons (o := _) rfl (fun K hK => ?_) AllReadyH.nil
      go_simp
      try dsimp only
      refine hK.out _ _ ((Sg.set hHeld (hrow9.out.set hjl.out (T.mk km u0m u1m u2m u3m pm capm mnm mxm txm ksm) rfl _ rfl).2.2.1 (hrow9.out.set hjl.out (T.mk km u0m u1m u2m u3m pm capm mnm mxm txm ksm) rfl _ rfl).2.2.2)) (fun hHeld2 => ?_)
      clear hK K hHeld
      have hHeld := hHeld2
      clear hHeld2
      try simp only [Act.put, List.setIfInBounds_toArray, List.set_cons_zero, List.set_cons_succ]
      refine wpAnyH_done (by kernel_rfl) ?_ _
      obtain ⟨q1, q2, q3, q4⟩ := hrow9.out.set hjl.out (T.mk km u0m u1m u2m u3m pm capm mnm mxm txm ksm) rfl _ rfl
      generalize hW : World.setCell _ (⟨g, j * 9 + 8, none⟩ : Addr) _ = W9 at *
      clear hW
      go_wp2
      go_roundw
      case rel =>
        have hwkd : wk.drew.heap.size = wk.heap.size := rfl
        have hs9 := hw9.out.size
        refine ⟨j + 1, ms ++ [T.mk km u0m u1m u2m u3m pm capm mnm mxm txm ksm], by omega, by go_num, Lib.hid ⟨by simp [hst.out.len], (q3 _ hneb).trans ((hw9.out.block _ (by omega)).trans hbx.out), (q3 _ (by omega)).trans ((hw9.out.block _ (by omega)).trans hbx2k.out), (hbelk.out.trans (hw9.out.mono (by have := hbelk.out.size; omega))).trans (q4 _ (by omega)), by rw [q2]; omega, fun _ => ⟨g, rfl, hg2, ?_⟩, ?_, ?_⟩⟩
        · rw [← set_drop hst.out.len hlt]
          exact q1
        · refine Kept.other (w := w9) (fun t ht => ?_) (fun b hb => q3 b (fun e => hb (by rw [e]; rfl))) (by rw [q2]; exact Nat.le_refl _)
          rcases List.mem_append.1 ht with ht | ht
          · exact hkept9.out t ht
          · simp only [List.mem_cons, List.not_mem_nil, or_false] at ht
            subst ht
            refine hmi9.out.imp fun b hb => ⟨by have := hb.1; omega, hb.2, fun e => ?_⟩
            simp only [Value.ownBlock, Option.some.injEq] at e
            have := hb.1
            have := hgk.out
            omega
        · rw [List.map_append, hst.out.str, htk.out, List.map_cons, List.map_nil, hms9.out]
      case measure => simp [intOf]; omega

    · obtain rfl : j = ks.length := by omega
      have hk := cells_of hst.out.box
      have x0 := (hk 0 _ rfl).1; have x1 := (hk 1 _ rfl).1; have x2 := (hk 2 _ rfl).1; have x3 := (hk 3 _ rfl).1; have x4 := (hk 4 _ rfl).1; have x5 := (hk 5 _ rfl).1; have x6 := (hk 6 _ rfl).1; have x7 := (hk 7 _ rfl).1; have x8 := (hk 8 _ rfl).1
      clear hk
      have hk := cells_of hst.out.res
      have y0 := (hk 0 _ rfl).1; have y1 := (hk 1 _ rfl).1; have y2 := (hk 2 _ rfl).1; have y3 := (hk 3 _ rfl).1; have y4 := (hk 4 _ rfl).1; have y5 := (hk 5 _ rfl).1; have y6 := (hk 6 _ rfl).1; have y7 := (hk 7 _ rfl).1; have y8 := (hk 8 _ rfl).1
      have f0 := (hk 0 _ rfl).2; have f1 := (hk 1 _ rfl).2; have f2 := (hk 2 _ rfl).2; have f3 := (hk 3 _ rfl).2; have f4 := (hk 4 _ rfl).2; have f5 := (hk 5 _ rfl).2; have f6 := (hk 6 _ rfl).2; have f7 := (hk 7 _ rfl).2; have f8 := (hk 8 _ rfl).2
      clear hk
      have hsz1 : w.heap.size + 1 < wr.heap.size := hst.out.siz
      have hsz0 : w.heap.size < wr.heap.size := by omega
      go_wp2
      obtain ⟨q1, q2, q3, q4⟩ := set9 (w := wr) (b := w.heap.size + 1) (d0 := .int .i64 k) (d1 := .int .u64 sw0) (d2 := .int .u64 sw1) (d3 := .int .u64 sw2) (d4 := .int .u64 sw3) (d5 := .slice pc ks.length capc) (d6 := .int .i64 mn) (d7 := .int .i64 mx) (d8 := .string tx) hst.out.res _ rfl
      generalize hW : World.setCell _ (⟨w.heap.size + 1, 8, none⟩ : Addr) _ = W at *
      clear hW
      have hk := cells_of q1
      have z0 := (hk 0 _ rfl).1; have z1 := (hk 1 _ rfl).1; have z2 := (hk 2 _ rfl).1; have z3 := (hk 3 _ rfl).1; have z4 := (hk 4 _ rfl).1; have z5 := (hk 5 _ rfl).1; have z6 := (hk 6 _ rfl).1; have z7 := (hk 7 _ rfl).1; have z8 := (hk 8 _ rfl).1
      clear hk
      have hln := hst.out.len
      refine bodyPost_ret (v := .agg #[.int .i64 k, .int .u64 sw0, .int .u64 sw1, .int .u64 sw2, .int .u64 sw3, .slice pc ks.length capc, .int .i64 mn, .int .i64 mx, .string tx]) (by simp [results, Tryz.results24, go_sem, z0, z1, z2, z3, z4, z5, z6, z7, z8]) rfl ?_
      rw [hG.out]
      have hdr : ms ++ ks.drop ks.length = ms := by simp
      have hrow' : 0 < ks.length → ∃ g, pc = some ⟨g, 0, none⟩ ∧ w.heap.size + 2 ≤ g ∧ NRowAt W g ms := fun h => by
        obtain ⟨g, e, h1, cur, h2, h3⟩ := hst.out.row h
        rw [hdr] at h3
        exact ⟨g, e, h1, cur, (q3 g (by omega)).trans h2, h3⟩
      refine ⟨.mk k sw0 sw1 sw2 sw3 pc capc mn mx tx ms, by simp only [T.cells, hln], hst.out.bel.trans (q4 _ (by omega)), ?_, ?_, fun h => ?_⟩
      · refine .mk (by rw [hln]; exact hc1) hc2 hfit.out (fun i hi => ?_) (fun t ht => ?_)
        · obtain ⟨g, e, h1, h2⟩ := hrow' (by omega)
          refine ⟨⟨g, 0, none⟩, e, ⟨by show w.heap.size ≤ g; omega, h2.lt⟩, fun q hq => ?_⟩
          have e2 : (⟨g, 0, none⟩ : Addr).add (i * 9 + q) = ⟨g, i * 9 + q, none⟩ := by unfold Addr.add; split <;> simp_all
          rw [e2, h2.cell hi hq]
        · exact ((hst.out.kept t ht).keep (fun b hS => q3 b (by omega))).imp fun b hS => ⟨by omega, by rw [q2]; exact hS.2.1⟩
      · rw [hstrip.out, T.strip_mk, hst.out.str, List.take_of_length_le (Nat.le_refl _)]
      · obtain ⟨g, e, h1, h2⟩ := hrow' (by omega)
        exact ⟨g, e, h2⟩
end Go.Proofs.YtjlmeegaiagfpaaGreatDoor.S7
