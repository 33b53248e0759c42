/- The law's Of, walked. -/

import Derived.Test.YtobbifhflnlplaaDoorS7D
namespace Go.Proofs.YtobbifhflnlplaaDoor.S7
open Lib (hid)
open Go.RowKit
open Go.Tree7
set_option maxRecDepth 10000 in
set_option maxHeartbeats 4000000 in
theorem of_in {w0 : World} {B0 : Nat} (hn0 : B0 ≤ w0.heap.size) : ∀ (t : T) (left : Nat) (w : World), 1 ≤ left → left ≤ 2000 → T.In w0 B0 t → Below B0 w0 w → Calls Tryd.prog 20 #[.agg t.cells.toArray, .int .i64 left] w (GivesTree left w t) := by
 refine T.ind fun k u0 u1 u2 u3 p cap mn mx tx ks ih => ?_
 intro left w h1 h2000 hT hB0
 have hks : ks.length ≤ 9223372036854775807 := by cases hT with | mk h1 h2 => unfold maxLen at h2; omega
 have hfit : fits k u0 u1 u2 u3 mn mx tx := by cases hT with | mk h1 h2 h3 => exact h3
 have hB0w : B0 ≤ w.heap.size := Nat.le_trans hn0 hB0.size
 obtain ⟨i0, hi, hz0, hz1, hz2⟩ := info_parts infoRN
 replace hi := hid hi
 replace hz0 := hid hz0
 replace hz1 := hid hz1
 replace hz2 := hid hz2
 replace hT := hid hT
 replace hfit := hid hfit
 replace hB0 := hid hB0
 replace ih := hid ih
 obtain ⟨sm, hsm⟩ : ∃ sm : Nat → Nat, ∀ j, sm j = ((ks.take j).map T.size).sum := ⟨_, fun _ => rfl⟩
 have hs0 : sm 0 = 0 := by rw [hsm]; rfl
 have hss : Hid (∀ j (hj : j < ks.length), sm (j + 1) = sm j + ks[j].size) := hid fun j hj => by rw [hsm, hsm, sum_take ks hj]
 have hse : (ks.map T.size).sum = sm ks.length := by rw [hsm, List.take_of_length_le (Nat.le_refl _)]
 have hsl : Hid (∀ j, j ≤ ks.length → j ≤ sm j ∧ sm j ≤ sm ks.length) := hid fun j hj => by rw [hsm j, ← hse]; exact ⟨len_sum ks hj, sum_le ks j⟩
 have hsize : Hid ((T.mk k u0 u1 u2 u3 p cap mn mx tx ks).size = 1 + sm ks.length) := hid (by rw [T.size_mk, hse])
 have hstrip : Hid ((T.mk k u0 u1 u2 u3 p cap mn mx tx ks).strip = .mk k u0 u1 u2 u3 none 0 mn mx tx (ks.map T.strip)) := hid (T.strip_mk _ _ _ _ _ _ _ _ _ _ _)
 clear hse hsm
 have hG : ∃ G, G = GivesTree left w (T.mk k u0 u1 u2 u3 p cap mn mx tx ks) := ⟨_, rfl⟩
 obtain ⟨G, hG⟩ := hG
 rw [← hG]
 replace hG := hid hG
 simp only [T.cells]
 go_enter Tryd.func20, Tryd.ntmps20
 go_wp2
 have hst0 : OfSt w (((w.alloc (.cells #[.int .i64 k, .int .u64 u0, .int .u64 u1, .int .u64 u2, .int .u64 u3, .slice p ks.length cap, .int .i64 mn, .int .i64 mx, .string tx] 27)).alloc (.cells #[.int .i64 0, .int .u64 0, .int .u64 0, .int .u64 0, .int .u64 0, .slice none 0 0, .int .i64 0, .int .i64 0, .string ⟨#[]⟩] 32)).alloc (.cells #[.int .i64 k, .int .u64 u0, .int .u64 u1, .int .u64 u2, .int .u64 u3, .slice none 0 0, .int .i64 mn, .int .i64 mx, .string tx] 32)) k u0 u1 u2 u3 mn mx tx ks left 0 (left - 1) none 0 [] (sm 0) := by
  have s1 : (w.alloc (.cells #[.int .i64 k, .int .u64 u0, .int .u64 u1, .int .u64 u2, .int .u64 u3, .slice p ks.length cap, .int .i64 mn, .int .i64 mx, .string tx] 27)).heap.size = w.heap.size + 1 := by simp
  have s2 : ((w.alloc (.cells #[.int .i64 k, .int .u64 u0, .int .u64 u1, .int .u64 u2, .int .u64 u3, .slice p ks.length cap, .int .i64 mn, .int .i64 mx, .string tx] 27)).alloc (.cells #[.int .i64 0, .int .u64 0, .int .u64 0, .int .u64 0, .int .u64 0, .slice none 0 0, .int .i64 0, .int .i64 0, .string ⟨#[]⟩] 32)).heap.size = w.heap.size + 1 + 1 := by simp
  refine ⟨rfl, by omega, ?_, ?_, World.ownsRow_nil _ _ _ _, (((Below.refl w.heap.size w).alloc (Nat.le_refl _) _).alloc (by simp) _).alloc (by simp; omega) _, by simp, fun _ => ⟨fun t ht => by simp at ht, rfl⟩⟩
  ·have := World.alloc_heap_new ((w.alloc (.cells #[.int .i64 k, .int .u64 u0, .int .u64 u1, .int .u64 u2, .int .u64 u3, .slice p ks.length cap, .int .i64 mn, .int .i64 mx, .string tx] 27)).alloc (.cells #[.int .i64 0, .int .u64 0, .int .u64 0, .int .u64 0, .int .u64 0, .slice none 0 0, .int .i64 0, .int .i64 0, .string ⟨#[]⟩] 32)) (.cells #[.int .i64 k, .int .u64 u0, .int .u64 u1, .int .u64 u2, .int .u64 u3, .slice none 0 0, .int .i64 mn, .int .i64 mx, .string tx] 32)
   rw [s2] at this
   exact this
  ·have := World.alloc_heap_new (w.alloc (.cells #[.int .i64 k, .int .u64 u0, .int .u64 u1, .int .u64 u2, .int .u64 u3, .slice p ks.length cap, .int .i64 mn, .int .i64 mx, .string tx] 27)) (.cells #[.int .i64 0, .int .u64 0, .int .u64 0, .int .u64 0, .int .u64 0, .slice none 0 0, .int .i64 0, .int .i64 0, .string ⟨#[]⟩] 32)
   rw [s1] at this
   exact (Below.heap_alloc _ _ _ (by omega)).trans this
 replace hst0 := hid hst0
 clear hs0
 go_loopw [1, 27] (fun v1 i wr => ∃ (j l : Nat) (p2 : Option Addr) (cap2 : Nat) (ms : List T), j ≤ ks.length ∧ v1 = .int .i64 l ∧ i = .int .i64 j ∧ Hid (OfSt w wr k u0 u1 u2 u3 mn mx tx ks left j l p2 cap2 ms (sm j))) (fun _ i _ => ks.length - (intOf i).toNat)
 case atStart => exact ⟨0, left - 1, none, 0, [], Nat.zero_le _, by rw [show ((left - 1 : Nat) : Int) = (left : Int) - 1 by omega], rfl, hst0⟩
 case round =>
  clear hst0
  obtain ⟨j, l, p2, cap2, ms, hj, rfl, rfl, hst⟩ := hrel
  have hk6 := cells_of hst.out.b6
  have hk4 := cells_of hst.out.b4
  have x0 := (hk6 0 _ rfl).1; have x1 := (hk6 1 _ rfl).1; have x2 := (hk6 2 _ rfl).1; have x3 := (hk6 3 _ rfl).1; have x4 := (hk6 4 _ rfl).1; have x5 := (hk6 5 _ rfl).1; have x6 := (hk6 6 _ rfl).1; have x7 := (hk6 7 _ rfl).1; have x8 := (hk6 8 _ rfl).1
  have y0 := (hk4 0 _ rfl).1; have y1 := (hk4 1 _ rfl).1; have y2 := (hk4 2 _ rfl).1; have y3 := (hk4 3 _ rfl).1; have y4 := (hk4 4 _ rfl).1; have y5 := (hk4 5 _ rfl).1; have y6 := (hk4 6 _ rfl).1; have y7 := (hk4 7 _ rfl).1; have y8 := (hk4 8 _ rfl).1
  have f0 := (hk4 0 _ rfl).2; have f1 := (hk4 1 _ rfl).2; have f2 := (hk4 2 _ rfl).2; have f3 := (hk4 3 _ rfl).2; have f4 := (hk4 4 _ rfl).2; have f5 := (hk4 5 _ rfl).2; have f6 := (hk4 6 _ rfl).2; have f7 := (hk4 7 _ rfl).2; have f8 := (hk4 8 _ rfl).2
  clear hk6 hk4
  have hsz3 : w.heap.size + 1 + 1 < wr.heap.size := hst.out.siz
  have hsz2 : w.heap.size + 1 < wr.heap.size := by omega
  have hsz1 : w.heap.size < wr.heap.size := by omega
  have hlf := hst.out.lft
  by_cases hlt : j < ks.length
  ·obtain ⟨b, o, hkid, hp, hb, hc⟩ := T.kid hT.out hlt
   have hBw : Below B0 w0 wr := hB0.out.trans (hst.out.bel.mono hB0w)
   have hcl : ∀ q, q < 9 → wr.cell? ⟨b, o + j * 9 + q, none⟩ = (ks[j].cells)[q]? := fun q hq => by
    rw [← hc q hq]
    exact hBw.cell (p := ⟨b, o + j * 9 + q, none⟩) hb
   have hsj := hss.out j hlt
   have hih := ih.out ks[j] (List.getElem_mem hlt)
   have htk : (ks.take (j + 1)).map T.strip = (ks.take j).map T.strip ++ [ks[j].strip] := by rw [List.take_succ_eq_append_getElem hlt, List.map_append]; rfl
   clear hc
   generalize ks[j] = kd at *
   cases kd with
   | mk k' u0' u1' u2' u3' p' cap' mn' mx' tx' ks' =>
    simp only [T.cells] at hcl
    obtain ⟨c0, c1, c2, c3, c4, c5, c6, c7, c8⟩ := nine_of hcl
    subst hp
    clear hcl
    by_cases hl0 : l = 0
    ·have hsl2 := (hsl.out j hj).2
     have hfin : left - (1 + sm ks.length) = 0 := by omega
     subst hl0
     clear hsl2 hih htk hsj hkid hBw hlf
     replace hfin := hid hfin
     go_wp2
     obtain ⟨q1, q2, q3, q4⟩ := set9 (w := wr) (b := w.heap.size + 1) (d0 := .int .i64 k) (d1 := .int .u64 u0) (d2 := .int .u64 u1) (d3 := .int .u64 u2) (d4 := .int .u64 u3) (d5 := .slice p2 j cap2) (d6 := .int .i64 mn) (d7 := .int .i64 mx) (d8 := .string tx) hst.out.b4 _ rfl
     generalize hW : World.setCell _ (⟨w.heap.size + 1, 8, none⟩ : Addr) _ = W at *
     clear hW
     have hV : (W.alloc (.cells #[.int .i64 k', .int .u64 u0', .int .u64 u1', .int .u64 u2', .int .u64 u3', .slice p' ks'.length cap', .int .i64 mn', .int .i64 mx', .string tx'] 27)).heap[w.heap.size + 1]? = some (.cells #[.int .i64 k, .int .u64 u0, .int .u64 u1, .int .u64 u2, .int .u64 u3, .slice p2 j cap2, .int .i64 mn, .int .i64 mx, .string tx] 32 (0, 0)) := (Below.heap_alloc _ _ _ (by omega)).trans q1
     have hk := cells_of hV
     have z0 := (hk 0 _ rfl).1; have z1 := (hk 1 _ rfl).1; have z2 := (hk 2 _ rfl).1; have z3 := (hk 3 _ rfl).1; have z4 := (hk 4 _ rfl).1; have z5 := (hk 5 _ rfl).1; have z6 := (hk 6 _ rfl).1; have z7 := (hk 7 _ rfl).1; have z8 := (hk 8 _ rfl).1
     clear hk
     have hbe : Below w.heap.size w (W.alloc (.cells #[.int .i64 k', .int .u64 u0', .int .u64 u1', .int .u64 u2', .int .u64 u3', .slice p' ks'.length cap', .int .i64 mn', .int .i64 mx', .string tx'] 27)) := hst.out.bel.trans ((q4 w.heap.size (by omega)).alloc (by omega) _)
     refine bodyPost_ret (v := .tuple #[.agg #[.int .i64 k, .int .u64 u0, .int .u64 u1, .int .u64 u2, .int .u64 u3, .slice p2 j cap2, .int .i64 mn, .int .i64 mx, .string tx], .int .i64 0]) (by simp [results, Tryd.results20, go_sem, z0, z1, z2, z3, z4, z5, z6, z7, z8]) rfl ?_
     rw [hG.out]
     refine ⟨.mk k u0 u1 u2 u3 p2 cap2 mn mx tx ms, ?_, hbe, fun h => ?_⟩
     ·rw [hsize.out, hfin.out]
      simp only [T.cells, hst.out.len]
      rfl
     ·rw [hsize.out] at h
      have := hfin.out
      omega
    ·have hl1 : 1 ≤ l := by omega
     have hl2 : decide ((l : Int) ≤ 0) = false := by simp; omega
     have hj2000 : j ≤ 2000 := by have := (hsl.out j hj).1; omega
     have cO := hid (hih l (wr.alloc (.cells #[.int .i64 k', .int .u64 u0', .int .u64 u1', .int .u64 u2', .int .u64 u3', .slice p' ks'.length cap', .int .i64 mn', .int .i64 mx', .string tx'] 27)) hl1 (by omega) hkid (hBw.alloc (Nat.le_trans hB0w (by omega)) _))
     clear hih hkid hBw hl0
     replace htk := hid htk
     replace hsj := hid hsj
     replace hlf := hid hlf
     simp only [T.cells] at cO
     go_wp2_with (first
      | (go_at_call 20; (with_reducible refine cO.out.mono ?_); rintro e w2 ⟨⟨kx, u0x, u1x, u2x, u3x, px, capx, mnx, mxx, txx, ksx⟩, rfl, hb2, hgd⟩; simp only [T.cells]; have hw2 := hb2.size; rw [World.size_alloc] at hw2; have hb2' := hid (hb2.mono (show wr.heap.size ≤ (wr.alloc (.cells #[.int .i64 k', .int .u64 u0', .int .u64 u1', .int .u64 u2', .int .u64 u3', .slice p' ks'.length cap', .int .i64 mn', .int .i64 mx', .string tx'] 27)).heap.size by simp)); have hbA := hid (((Below.refl wr.heap.size wr).alloc (Nat.le_refl _) (.cells #[.int .i64 k', .int .u64 u0', .int .u64 u1', .int .u64 u2', .int .u64 u3', .slice p' ks'.length cap', .int .i64 mn', .int .i64 mx', .string tx'] 27)).trans hb2'.out); have h62 := (hbA.out.block _ hsz3).trans hst.out.b6; have hk := cells_of h62; have v0 := (hk 0 _ rfl).1; have v1 := (hk 1 _ rfl).1; have v2 := (hk 2 _ rfl).1; have v3 := (hk 3 _ rfl).1; have v4 := (hk 4 _ rfl).1; have v5 := (hk 5 _ rfl).1; have v6 := (hk 6 _ rfl).1; have v7 := (hk 7 _ rfl).1; have v8 := (hk 8 _ rfl).1; have vf0 := (hk 0 _ rfl).2; have vf1 := (hk 1 _ rfl).2; have vf2 := (hk 2 _ rfl).2; have vf3 := (hk 3 _ rfl).2; have vf4 := (hk 4 _ rfl).2; have vf5 := (hk 5 _ rfl).2; have vf6 := (hk 6 _ rfl).2; have vf7 := (hk 7 _ rfl).2; have vf8 := (hk 8 _ rfl).2; clear hk; have s21 : w.heap.size + 1 + 1 < w2.heap.size := (by omega); replace h62 := hid h62; replace hgd := hid hgd; replace hb2 := hid hb2; replace hw2 := hid hw2)
      | (at_builtin; refine wpList_append_own_at _ rfl _ _ 30 rfl (w.heap.size + 3) 32 i0 (.agg #[.int .i64 0, .int .u64 0, .int .u64 0, .int .u64 0, .int .u64 0, .slice none 0 0, .int .i64 0, .int .i64 0, .string ⟨#[]⟩]) 9 96 Tryd.underlying30 hi.out hz0.out hz1.out hz2.out rfl (by decide) _ _ _ rfl (((ownsRow_bel hst.out.own hbA.out).alloc _).alloc _) ⟨_, 0, none⟩ 1 1 [.int .i64 kx, .int .u64 u0x, .int .u64 u1x, .int .u64 u2x, .int .u64 u3x, .slice px ksx.length capx, .int .i64 mnx, .int .i64 mxx, .string txx] rfl rfl (cells_new (by simp)) (by simp [Value.oneCell']) (by simp [maxLen]; omega) (by omega) (by simp; omega) ?_; intro v' w9 hown' hgrow hnil hat; clear hnil; obtain ⟨pv2, cv2, rfl, -⟩ := row_form hown'; have hgr : World.grownBy ((w2.alloc (.cells #[.int .i64 kx, .int .u64 u0x, .int .u64 u1x, .int .u64 u2x, .int .u64 u3x, .slice px ksx.length capx, .int .i64 mnx, .int .i64 mxx, .string txx] 32)).alloc (.cells #[.int .i64 kx, .int .u64 u0x, .int .u64 u1x, .int .u64 u2x, .int .u64 u3x, .slice px ksx.length capx, .int .i64 mnx, .int .i64 mxx, .string txx] 32)) w9 (Value.slice p2 j cap2).ownBlock := hgrow; have hat2 : (Value.slice pv2 (j + 1) cv2).ownBlock = (Value.slice p2 j cap2).ownBlock ∨ (Value.slice pv2 (j + 1) cv2).ownBlock = some ((w2.alloc (.cells #[.int .i64 kx, .int .u64 u0x, .int .u64 u1x, .int .u64 u2x, .int .u64 u3x, .slice px ksx.length capx, .int .i64 mnx, .int .i64 mxx, .string txx] 32)).alloc (.cells #[.int .i64 kx, .int .u64 u0x, .int .u64 u1x, .int .u64 u2x, .int .u64 u3x, .slice px ksx.length capx, .int .i64 mnx, .int .i64 mxx, .string txx] 32)).heap.size := hat; clear hgrow hat; have hne : ∀ b, b < w.heap.size + 3 → some b ≠ (Value.slice p2 j cap2).ownBlock := (fun b hb e => absurd (hst.out.own.lt _ e.symm).1 (by omega)); have hold : ∀ b, b < w.heap.size + 3 → w9.heap[b]? = w2.heap[b]? := (fun b hb => (hgr.block b (by simp; omega) (hne b hb)).trans ((Below.heap_alloc _ _ _ (by simp; omega)).trans (Below.heap_alloc _ _ _ (by omega)))); have h69 := (hold (w.heap.size + 1 + 1) (by omega)).trans h62.out; have h49 : Hid (w9.heap[w.heap.size + 1]? = some (.cells #[.int .i64 0, .int .u64 0, .int .u64 0, .int .u64 0, .int .u64 0, .slice none 0 0, .int .i64 0, .int .i64 0, .string ⟨#[]⟩] 32 (0, 0))) := hid ((hold (w.heap.size + 1) (by omega)).trans ((hbA.out.block _ hsz2).trans hst.out.b4)); have r5 := (cells_of h69 5 _ rfl).1; have rf5 := (cells_of h69 5 _ rfl).2; clear hne hold; replace h69 := hid h69; replace hgr := hid hgr; replace hat2 := hid hat2; replace hown' := hid hown'))
     go_roundw
     case rel =>
      have hS0 : (((w2.alloc (.cells #[.int .i64 kx, .int .u64 u0x, .int .u64 u1x, .int .u64 u2x, .int .u64 u3x, .slice px ksx.length capx, .int .i64 mnx, .int .i64 mxx, .string txx] 32)).alloc (.cells #[.int .i64 kx, .int .u64 u0x, .int .u64 u1x, .int .u64 u2x, .int .u64 u3x, .slice px ksx.length capx, .int .i64 mnx, .int .i64 mxx, .string txx] 32))).heap.size = w2.heap.size + 1 + 1 := by simp
      have hS9 := hgr.out.size
      rw [hS0] at hS9
      refine ⟨j + 1, l - (T.mk k' u0' u1' u2' u3' p' cap' mn' mx' tx' ks').size, pv2, cv2, ms ++ [T.mk kx u0x u1x u2x u3x px capx mnx mxx txx ksx], by omega, rfl, by go_num, hid ⟨by simp [hst.out.len], by rw [hsj.out]; have := hlf.out; omega, box_set h69.out 5 _, ?_, ?_, ?_, ?_, fun hg => ?_⟩⟩
      ·exact (Below.heap_setCell _ _ _ _ (by show w.heap.size + 1 ≠ w.heap.size + 1 + 1; omega)).trans h49.out
      ·have e : (ms ++ [T.mk kx u0x u1x u2x u3x px capx mnx mxx txx ksx]).flatMap T.cells = ms.flatMap T.cells ++ [.int .i64 kx, .int .u64 u0x, .int .u64 u1x, .int .u64 u2x, .int .u64 u3x, .slice px ksx.length capx, .int .i64 mnx, .int .i64 mxx, .string txx] := by
        rw [List.flatMap_append]
        simp only [List.flatMap_cons, List.flatMap_nil, List.append_nil, T.cells]
       rw [e]
       exact own_keep2 hown'.out fun g hg hgl => Below.heap_setCell _ _ _ _ (by show g ≠ w.heap.size + 1 + 1; have := (hown'.out.lt g hg).1; omega)
      ·have h3 := hst.out.bel.trans (hbA.out.mono (by omega))
       exact (((h3.alloc (by omega) _).alloc (by simp; omega) _).grown hgr.out (by simp; omega) (fun k hk => by have := (hst.out.own.lt _ hk).1; omega)).setCell (p := ⟨w.heap.size + 1 + 1, 5, none⟩) (by show w.heap.size ≤ w.heap.size + 1 + 1; omega) _
      ·rw [size_set]; omega
      ·rw [hsj.out] at hg
       have hlf2 := hlf.out
       obtain ⟨g1, g2⟩ := hst.out.good (by omega)
       obtain ⟨g3, g4⟩ := hgd.out (by omega)
       refine ⟨?_, by rw [List.map_append, g2, htk.out, List.map_cons, List.map_nil, g4]⟩
       have hKm : Kept w2 (w.heap.size + 3) (.slice p2 j cap2) (ms ++ [T.mk kx u0x u1x u2x u3x px capx mnx mxx txx ksx]) := by
        intro t ht
        rcases List.mem_append.1 ht with ht | ht
        ·exact (g1.bel hbA.out) t ht
        ·simp only [List.mem_cons, List.not_mem_nil, or_false] at ht
         subst ht
         refine g3.imp fun b hb => ⟨?_, hb.2, fun e => ?_⟩
         ·have := hb.1; rw [World.size_alloc] at this; have := hst.out.siz; omega
         ·have := (hst.out.own.lt _ e).2
          have := hb.1
          rw [World.size_alloc] at this
          omega
       exact ((((hKm.bel ((Below.refl _ w2).alloc (Nat.le_refl _) _)).bel ((Below.refl _ _).alloc (Nat.le_refl _) _)).grown hgr.out hat2.out).set (a := ⟨w.heap.size + 1 + 1, 5, none⟩) (by show w.heap.size + 1 + 1 < w.heap.size + 3; omega) _)
     case measure => simp [intOf]; omega
  ·obtain rfl : j = ks.length := by omega
   replace hlf := hid hlf
   go_wp2
   obtain ⟨q1, q2, q3, q4⟩ := set9 (w := wr) (b := w.heap.size + 1) (d0 := .int .i64 k) (d1 := .int .u64 u0) (d2 := .int .u64 u1) (d3 := .int .u64 u2) (d4 := .int .u64 u3) (d5 := .slice p2 ks.length cap2) (d6 := .int .i64 mn) (d7 := .int .i64 mx) (d8 := .string tx) hst.out.b4 _ rfl
   generalize hW : World.setCell _ (⟨w.heap.size + 1, 8, none⟩ : Addr) _ = W at *
   clear hW
   have hk := cells_of q1
   have z0 := (hk 0 _ rfl).1; have z1 := (hk 1 _ rfl).1; have z2 := (hk 2 _ rfl).1; have z3 := (hk 3 _ rfl).1; have z4 := (hk 4 _ rfl).1; have z5 := (hk 5 _ rfl).1; have z6 := (hk 6 _ rfl).1; have z7 := (hk 7 _ rfl).1; have z8 := (hk 8 _ rfl).1
   clear hk
   have hbe : Below w.heap.size w W := hst.out.bel.trans (q4 w.heap.size (by omega))
   refine bodyPost_ret (v := .tuple #[.agg #[.int .i64 k, .int .u64 u0, .int .u64 u1, .int .u64 u2, .int .u64 u3, .slice p2 ks.length cap2, .int .i64 mn, .int .i64 mx, .string tx], .int .i64 l]) (by simp [results, Tryd.results20, go_sem, z0, z1, z2, z3, z4, z5, z6, z7, z8]) rfl ?_
   rw [hG.out]
   have hln := hst.out.len
   refine ⟨.mk k u0 u1 u2 u3 p2 cap2 mn mx tx ms, ?_, hbe, fun h => ?_⟩
   ·rw [hsize.out, show left - (1 + sm ks.length) = l by have := hlf.out; omega]
    simp only [T.cells, hln]
   ·rw [hsize.out] at h
    obtain ⟨g1, g2⟩ := hst.out.good h
    have hK : Kept W (w.heap.size + 3) (.slice p2 ks.length cap2) ms := fun t ht => ((g1 t ht).keep (fun b hS => q3 b (by omega))).imp fun b hS => ⟨hS.1, by rw [q2]; exact hS.2.1, hS.2.2⟩
    refine ⟨inP_of_row hln hfit.out (own_keep2 hst.out.own fun g hg hgl => q3 g (by have := (hst.out.own.lt g hg).1; omega)) hK (by omega), ?_⟩
    rw [hstrip.out, T.strip_mk, g2, List.take_of_length_le (Nat.le_refl _)]
end Go.Proofs.YtobbifhflnlplaaDoor.S7
