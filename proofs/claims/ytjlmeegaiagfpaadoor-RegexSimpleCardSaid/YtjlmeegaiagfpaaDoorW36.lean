/- The reference's Simple. -/
import Derived.Test.YtjlmeegaiagfpaaDoorW35
import Derived.Test.YtjlmeegaiagfpaaDoorS7W25
import Derived.Deep.RegionLaw
namespace Go.Proofs.YtjlmeegaiagfpaaDoor
open Go.RowKit
open Go.Tree7
open S7
open S5 (nl nl_length nl_small at_nl nl_at Gives idx idx_at ix ix_no ix_yes)
/-- The loop's state. -/
structure SSt (w wr : World) (k u0 u1 u2 u3 mn mx : Int) (tx : ByteArray) (ks : List T) (j : Nat) (p2 : Option Addr) (cap2 : Nat) (ms : List T) : Prop where
  len : ms.length = j
  b3 : wr.heap[w.heap.size + 1 + 1]? = some (.cells #[.int .i64 k, .int .u64 u0, .int .u64 u1, .int .u64 u2, .int .u64 u3, .slice p2 j cap2, .int .i64 mn, .int .i64 mx, .string tx] 35 (0, 0))
  b2 : wr.heap[w.heap.size + 1]? = some (.cells #[.int .i64 0, .int .u64 0, .int .u64 0, .int .u64 0, .int .u64 0, .slice none 0 0, .int .i64 0, .int .i64 0, .string ⟨#[]⟩] 35 (0, 0))
  own : wr.ownsRow (w.heap.size + 3) 35 9 (.slice p2 j cap2) j (ms.flatMap T.cells)
  bel : Below w.heap.size w wr
  siz : w.heap.size + 3 ≤ wr.heap.size
  kept : Kept wr (w.heap.size + 3) (.slice p2 j cap2) ms
  str : ms.map T.strip = (ks.take j).map T.simp
set_option maxRecDepth 10000 in
set_option maxHeartbeats 8000000 in
theorem rsimple_in {w0 : World} {B0 : Nat} (hn0 : B0 ≤ w0.heap.size) : ∀ (t : T) (w : World), t.size ≤ 2000 → T.In w0 B0 t → Below B0 w0 w → Calls Tryd.prog 16 #[.agg t.cells.toArray] w (GivesSimple w (T.simp t)) := by
  refine T.ind fun k u0 u1 u2 u3 p cap mn mx tx ks ih => ?_
  intro w h2000 hT hB0
  have hks : ks.length ≤ 9223372036854775807 := by cases hT with | mk h1 h2 => unfold maxLen at h2; omega
  have hcap : cap ≤ 9223372036854775807 := by cases hT with | mk h1 h2 => unfold maxLen at h2; omega
  have hkc : ks.length ≤ cap := by cases hT with | mk h1 h2 => exact h1
  have hfit : fits k u0 u1 u2 u3 mn mx tx := by cases hT with | mk h1 h2 h3 => exact h3
  have hB0w : B0 ≤ w.heap.size := Nat.le_trans hn0 hB0.size
  have hG : ∃ G, G = GivesSimple w (T.simp (T.mk k u0 u1 u2 u3 p cap mn mx tx ks)) := ⟨_, rfl⟩
  obtain ⟨G, hG⟩ := hG
  rw [← hG]
  replace hG := Lib.hid hG
  have hbA : Below w.heap.size w ((w.alloc (.cells #[.int .i64 k, .int .u64 u0, .int .u64 u1, .int .u64 u2, .int .u64 u3, .slice p ks.length cap, .int .i64 mn, .int .i64 mx, .string tx] 35)).alloc (.cells #[.int .i64 0, .int .u64 0, .int .u64 0, .int .u64 0, .int .u64 0, .slice none 0 0, .int .i64 0, .int .i64 0, .string ⟨#[]⟩] 35)) := ((Below.refl w.heap.size w).alloc (Nat.le_refl _) _).alloc (by simp) _
  have hA : ((w.alloc (.cells #[.int .i64 k, .int .u64 u0, .int .u64 u1, .int .u64 u2, .int .u64 u3, .slice p ks.length cap, .int .i64 mn, .int .i64 mx, .string tx] 35)).alloc (.cells #[.int .i64 0, .int .u64 0, .int .u64 0, .int .u64 0, .int .u64 0, .slice none 0 0, .int .i64 0, .int .i64 0, .string ⟨#[]⟩] 35)).heap.size = w.heap.size + 2 := by simp
  have hx2 : ((w.alloc (.cells #[.int .i64 k, .int .u64 u0, .int .u64 u1, .int .u64 u2, .int .u64 u3, .slice p ks.length cap, .int .i64 mn, .int .i64 mx, .string tx] 35)).alloc (.cells #[.int .i64 0, .int .u64 0, .int .u64 0, .int .u64 0, .int .u64 0, .slice none 0 0, .int .i64 0, .int .i64 0, .string ⟨#[]⟩] 35)).heap[w.heap.size + 1]? = some (.cells #[.int .i64 0, .int .u64 0, .int .u64 0, .int .u64 0, .int .u64 0, .slice none 0 0, .int .i64 0, .int .i64 0, .string ⟨#[]⟩] 35 (0, 0)) := by have := World.alloc_heap_new (w.alloc (.cells #[.int .i64 k, .int .u64 u0, .int .u64 u1, .int .u64 u2, .int .u64 u3, .slice p ks.length cap, .int .i64 mn, .int .i64 mx, .string tx] 35)) (.cells #[.int .i64 0, .int .u64 0, .int .u64 0, .int .u64 0, .int .u64 0, .slice none 0 0, .int .i64 0, .int .i64 0, .string ⟨#[]⟩] 35); rw [World.size_alloc] at this; exact this
  rw [T.size_mk] at h2000
  by_cases hone : k = 2 ∧ ks.length = 1
  · obtain ⟨rfl, h1⟩ := hone
    obtain ⟨y, rfl⟩ := List.length_eq_one_iff.1 h1
    obtain ⟨b, o, hkid, hp, hb, hc⟩ := T.kid hT (show 0 < [y].length by simp)
    have hBw : Below B0 w0 ((w.alloc (.cells #[.int .i64 2, .int .u64 u0, .int .u64 u1, .int .u64 u2, .int .u64 u3, .slice p [y].length cap, .int .i64 mn, .int .i64 mx, .string tx] 35)).alloc (.cells #[.int .i64 0, .int .u64 0, .int .u64 0, .int .u64 0, .int .u64 0, .slice none 0 0, .int .i64 0, .int .i64 0, .string ⟨#[]⟩] 35)) := hB0.trans (hbA.mono hB0w)
    have hcl : ∀ q, q < 9 → ((w.alloc (.cells #[.int .i64 2, .int .u64 u0, .int .u64 u1, .int .u64 u2, .int .u64 u3, .slice p [y].length cap, .int .i64 mn, .int .i64 mx, .string tx] 35)).alloc (.cells #[.int .i64 0, .int .u64 0, .int .u64 0, .int .u64 0, .int .u64 0, .slice none 0 0, .int .i64 0, .int .i64 0, .string ⟨#[]⟩] 35)).cell? ⟨b, o + q, none⟩ = (y.cells)[q]? := fun q hq => by
      have h9 := hc q hq
      simp only [Nat.zero_mul, Nat.add_zero, List.getElem_cons_zero] at h9
      rw [← h9]
      exact hBw.cell (p := ⟨b, o + q, none⟩) hb
    have cO := Lib.hid (ih y (by simp) _ (by simp at h2000; omega) hkid hBw)
    have hsimp : Hid (T.simp (T.mk 2 u0 u1 u2 u3 p cap mn mx tx [y]) = T.simp y) := Lib.hid (simp_one rfl)
    replace hbA := Lib.hid hbA
    replace hA := Lib.hid hA
    replace hx2 := Lib.hid hx2
    clear hc ih hB0 hT hkid hBw h2000 hfit
    obtain ⟨k', u0', u1', u2', u3', p', cap', mn', mx', tx', ks'⟩ := y
    simp only [T.cells, List.length_cons, List.length_nil] at *
    obtain ⟨c0, c1, c2, c3, c4, c5, c6, c7, c8⟩ := nine_of hcl
    subst hp
    clear hcl
    go_enter Tryd.func16, Tryd.ntmps16
    go_wp2_with (go_at_call 16; (with_reducible refine cO.out.mono ?_); rintro e w2 ⟨⟨kx, u0x, u1x, u2x, u3x, px, capx, mnx, mxx, txx, ksx⟩, rfl, hb2, hm2, hs2⟩; simp only [T.cells]; have hb3 := Lib.hid (hbA.out.trans (hb2.mono hbA.out.size)); have h2c := (hb2.block (w.heap.size + 1) (by have := hA.out; omega)).trans hx2.out; have hk := cells_of h2c; obtain ⟨y0, f0⟩ := hk 0 _ rfl; obtain ⟨y1, f1⟩ := hk 1 _ rfl; obtain ⟨y2, f2⟩ := hk 2 _ rfl; obtain ⟨y3, f3⟩ := hk 3 _ rfl; obtain ⟨y4, f4⟩ := hk 4 _ rfl; obtain ⟨y5, f5⟩ := hk 5 _ rfl; obtain ⟨y6, f6⟩ := hk 6 _ rfl; obtain ⟨y7, f7⟩ := hk 7 _ rfl; obtain ⟨y8, f8⟩ := hk 8 _ rfl; clear hk; replace hb2 := Lib.hid hb2; replace hm2 := Lib.hid hm2; replace h2c := Lib.hid h2c; replace hs2 := Lib.hid hs2)
    obtain ⟨q1, q2, q3, q4⟩ := set9 (b := w.heap.size + 1) (d0 := .int .i64 kx) (d1 := .int .u64 u0x) (d2 := .int .u64 u1x) (d3 := .int .u64 u2x) (d4 := .int .u64 u3x) (d5 := .slice px ksx.length capx) (d6 := .int .i64 mnx) (d7 := .int .i64 mxx) (d8 := .string txx) h2c.out _ rfl
    generalize hW : World.setCell _ (⟨w.heap.size + 1, 8, none⟩ : Addr) _ = W9 at *
    clear hW
    have hk9 := cells_of q1
    obtain ⟨z0, -⟩ := hk9 0 _ rfl
    obtain ⟨z1, -⟩ := hk9 1 _ rfl
    obtain ⟨z2, -⟩ := hk9 2 _ rfl
    obtain ⟨z3, -⟩ := hk9 3 _ rfl
    obtain ⟨z4, -⟩ := hk9 4 _ rfl
    obtain ⟨z5, -⟩ := hk9 5 _ rfl
    obtain ⟨z6, -⟩ := hk9 6 _ rfl
    obtain ⟨z7, -⟩ := hk9 7 _ rfl
    obtain ⟨z8, -⟩ := hk9 8 _ rfl
    clear hk9
    refine bodyPost_ret (v := .agg #[.int .i64 kx, .int .u64 u0x, .int .u64 u1x, .int .u64 u2x, .int .u64 u3x, .slice px ksx.length capx, .int .i64 mnx, .int .i64 mxx, .string txx]) (by simp [results, Tryd.results16, go_sem, z0, z1, z2, z3, z4, z5, z6, z7, z8]) rfl ?_
    rw [hG.out]
    have hAo := hA.out
    have hl1 := (Array.getElem?_eq_some_iff.1 h2c.out).1
    refine ⟨.mk kx u0x u1x u2x u3x px capx mnx mxx txx ksx, rfl, hb3.out.trans (q4 _ (by omega)), (hm2.out.keep fun b hb => q3 b (by rw [hAo] at hb; omega)).imp fun b hb => ?_, ?_⟩
    · rw [hAo] at hb
      rw [q2]
      omega
    · rw [hs2.out, hsimp.out]
  · have hsimp : Hid (T.simp (T.mk k u0 u1 u2 u3 p cap mn mx tx ks) = .mk k u0 u1 u2 u3 none 0 mn mx tx (ks.map T.simp)) := Lib.hid (by rw [simp_mk]; exact if_neg hone)
    have hsz : Hid (∀ j (hj : j < ks.length), ks[j].size ≤ 2000) := Lib.hid fun j hj => by
      have e1 := sum_take ks hj
      have e2 := sum_le ks (j + 1)
      omega
    have hj2000 : ks.length ≤ 2000 := by have := len_sum ks (Nat.le_refl _); have := sum_le ks ks.length; omega
    obtain ⟨i0, hi, hz0, hz1, hz2⟩ := info_parts infoRN
    replace hi := Lib.hid hi
    replace hz0 := Lib.hid hz0
    replace hz1 := Lib.hid hz1
    replace hz2 := Lib.hid hz2
    have hst0 : SSt w (((w.alloc (.cells #[.int .i64 k, .int .u64 u0, .int .u64 u1, .int .u64 u2, .int .u64 u3, .slice p ks.length cap, .int .i64 mn, .int .i64 mx, .string tx] 35)).alloc (.cells #[.int .i64 0, .int .u64 0, .int .u64 0, .int .u64 0, .int .u64 0, .slice none 0 0, .int .i64 0, .int .i64 0, .string ⟨#[]⟩] 35)).alloc (.cells #[.int .i64 k, .int .u64 u0, .int .u64 u1, .int .u64 u2, .int .u64 u3, .slice none 0 0, .int .i64 mn, .int .i64 mx, .string tx] 35)) k u0 u1 u2 u3 mn mx tx ks 0 none 0 [] := by
      refine ⟨rfl, ?_, (Below.heap_alloc _ _ _ (by rw [hA]; omega)).trans hx2, World.ownsRow_nil _ _ _ _, hbA.alloc (by rw [hA]; omega) _, by simp, fun t ht => by simp at ht, rfl⟩
      have := World.alloc_heap_new ((w.alloc (.cells #[.int .i64 k, .int .u64 u0, .int .u64 u1, .int .u64 u2, .int .u64 u3, .slice p ks.length cap, .int .i64 mn, .int .i64 mx, .string tx] 35)).alloc (.cells #[.int .i64 0, .int .u64 0, .int .u64 0, .int .u64 0, .int .u64 0, .slice none 0 0, .int .i64 0, .int .i64 0, .string ⟨#[]⟩] 35)) (.cells #[.int .i64 k, .int .u64 u0, .int .u64 u1, .int .u64 u2, .int .u64 u3, .slice none 0 0, .int .i64 mn, .int .i64 mx, .string tx] 35)
      rw [hA] at this
      exact this
    replace hst0 := Lib.hid hst0
    replace hT := Lib.hid hT
    replace hfit := Lib.hid hfit
    replace hB0 := Lib.hid hB0
    replace ih := Lib.hid ih
    clear hbA hA hx2 h2000
    simp only [T.cells]
    by_cases hk2 : k = 2
    · have g1 : (k == 2) = true := by rw [beq_iff_eq]; exact hk2
      have g2 : ((ks.length : Int) == 1) = false := by rw [beq_eq_false_iff_ne]; intro h; exact hone ⟨hk2, by omega⟩
      clear hone hk2
      go_enter Tryd.func16, Tryd.ntmps16
      go_wp2
      go_loopw [34] (fun i wr => ∃ (j : Nat) (p2 : Option Addr) (cap2 : Nat) (ms : List T), j ≤ ks.length ∧ i = .int .i64 j ∧ Hid (SSt w wr k u0 u1 u2 u3 mn mx tx ks j p2 cap2 ms)) (fun i _ => ks.length - (intOf i).toNat)
      case atStart => exact ⟨0, none, 0, [], Nat.zero_le _, rfl, hst0⟩
      case round =>
        clear hst0
        obtain ⟨j, p2, cap2, ms, hj, rfl, hst⟩ := hrel
        have hsz3 : w.heap.size + 1 + 1 < wr.heap.size := hst.out.siz
        have hsz2 : w.heap.size + 1 < wr.heap.size := by omega
        have hsz1 : w.heap.size < wr.heap.size := by omega
        by_cases hlt : j < ks.length
        · obtain ⟨b, o, hkid, hp, hb, hc⟩ := T.kid hT.out hlt
          have hBw : Below B0 w0 wr := hB0.out.trans (hst.out.bel.mono hB0w)
          have hcl : ∀ q, q < 9 → wr.cell? ⟨b, o + j * 9 + q, none⟩ = (ks[j].cells)[q]? := fun q hq => by
            rw [← hc q hq]
            exact hBw.cell (p := ⟨b, o + j * 9 + q, none⟩) hb
          have hih := ih.out ks[j] (List.getElem_mem hlt)
          have htk : (ks.take (j + 1)).map T.simp = (ks.take j).map T.simp ++ [T.simp ks[j]] := by rw [List.take_succ_eq_append_getElem hlt, List.map_append]; rfl
          have hkz := hsz.out j hlt
          clear hc
          generalize ks[j] = kd at *
          obtain ⟨k', u0', u1', u2', u3', p', cap', mn', mx', tx', ks'⟩ := kd
          simp only [T.cells] at hcl
          obtain ⟨c0, c1, c2, c3, c4, c5, c6, c7, c8⟩ := nine_of hcl
          subst hp
          clear hcl
          have hb0 := Lib.hid (((Below.refl wr.heap.size wr).alloc (Nat.le_refl _) (.cells #[.int .i64 k', .int .u64 u0', .int .u64 u1', .int .u64 u2', .int .u64 u3', .slice p' ks'.length cap', .int .i64 mn', .int .i64 mx', .string tx'] 35)).drew)
          have cO := Lib.hid (hih (wr.alloc (.cells #[.int .i64 k', .int .u64 u0', .int .u64 u1', .int .u64 u2', .int .u64 u3', .slice p' ks'.length cap', .int .i64 mn', .int .i64 mx', .string tx'] 35)).drew hkz hkid ((hBw.alloc (Nat.le_trans hB0w (by omega)) _).drew))
          have x5 := (cells_of ((hb0.out.block _ hsz3).trans hst.out.b3) 5 _ rfl).1
          clear hih hkid hBw
          replace htk := Lib.hid htk
          simp only [T.cells] at cO
          go_wp2
          go_region_law (first | (refine step_append_own_at rfl _ _ 33 rfl (w.heap.size + 3) 35 i0 (.agg #[.int .i64 0, .int .u64 0, .int .u64 0, .int .u64 0, .int .u64 0, .slice none 0 0, .int .i64 0, .int .i64 0, .string ⟨#[]⟩]) 9 96 Tryd.underlying33 hi.out hz0.out hz1.out hz2.out rfl (by decide) _ _ _ rfl ((ownsRow_bel hst.out.own hbA.out).alloc _) ⟨_, 0, none⟩ 1 1 [.int .i64 kx, .int .u64 u0x, .int .u64 u1x, .int .u64 u2x, .int .u64 u3x, .slice px ksx.length capx, .int .i64 mnx, .int .i64 mxx, .string txx] rfl rfl (cells_new (by simp)) (by simp [Value.oneCell']) (by simp [maxLen]; omega) (by omega) (by simp; omega) ?_; intro v' w9 hown' hgrow hat; obtain ⟨pv2, cv2, rfl, -⟩ := row_form hown'; have hgr : World.grownBy (w2.alloc (.cells #[.int .i64 kx, .int .u64 u0x, .int .u64 u1x, .int .u64 u2x, .int .u64 u3x, .slice px ksx.length capx, .int .i64 mnx, .int .i64 mxx, .string txx] 35)) w9 (Value.slice p2 j cap2).ownBlock := hgrow; have hat2 : (Value.slice pv2 (j + 1) cv2).ownBlock = (Value.slice p2 j cap2).ownBlock ∨ (Value.slice pv2 (j + 1) cv2).ownBlock = some (w2.alloc (.cells #[.int .i64 kx, .int .u64 u0x, .int .u64 u1x, .int .u64 u2x, .int .u64 u3x, .slice px ksx.length capx, .int .i64 mnx, .int .i64 mxx, .string txx] 35)).heap.size := hat; clear hgrow hat; have hne : ∀ b, b < w.heap.size + 3 → some b ≠ (Value.slice p2 j cap2).ownBlock := (fun b hb e => absurd (hst.out.own.lt _ e.symm).1 (by omega)); have hold : ∀ b, b < w.heap.size + 3 → w9.heap[b]? = w2.heap[b]? := (fun b hb => (hgr.block b (by simp; omega) (hne b hb)).trans (Below.heap_alloc _ _ _ (by omega))); have h69 := (hold (w.heap.size + 1 + 1) (by omega)).trans h62.out; have h49 : Hid (w9.heap[w.heap.size + 1]? = some (.cells #[.int .i64 0, .int .u64 0, .int .u64 0, .int .u64 0, .int .u64 0, .slice none 0 0, .int .i64 0, .int .i64 0, .string ⟨#[]⟩] 35 (0, 0))) := Lib.hid ((hold (w.heap.size + 1) (by omega)).trans ((hbA.out.block _ hsz2).trans hst.out.b2)); have r5 := (cells_of h69 5 _ rfl).1; have rf5 := (cells_of h69 5 _ rfl).2; clear hne hold; replace h69 := Lib.hid h69; replace hgr := Lib.hid hgr; replace hat2 := Lib.hid hat2; replace hown' := Lib.hid hown') | (go_simp; (go_at_call 16; (with_reducible refine cO.out.mono ?_); rintro e w2 ⟨⟨kx, u0x, u1x, u2x, u3x, px, capx, mnx, mxx, txx, ksx⟩, rfl, hb2, hm2, hs2⟩; simp only [T.cells]; have hbA := Lib.hid (hb0.out.trans (hb2.mono hb0.out.size)); have hw2 := hbA.out.size; have h62 := (hbA.out.block _ hsz3).trans hst.out.b3; have hk := cells_of h62; have v5 := (hk 5 _ rfl).1; have s21 : w.heap.size + 1 + 1 < w2.heap.size := (by omega); clear hk; replace h62 := Lib.hid h62; replace hb2 := Lib.hid hb2; replace hm2 := Lib.hid hm2; replace hs2 := Lib.hid hs2)))
          all_goals
            go_wp2
            go_roundw
            case rel =>
              have hS0 : (w2.alloc (.cells #[.int .i64 kx, .int .u64 u0x, .int .u64 u1x, .int .u64 u2x, .int .u64 u3x, .slice px ksx.length capx, .int .i64 mnx, .int .i64 mxx, .string txx] 35)).heap.size = w2.heap.size + 1 := by simp
              have hS9 := hgr.out.size
              rw [hS0] at hS9
              refine ⟨j + 1, pv2, cv2, ms ++ [T.mk kx u0x u1x u2x u3x px capx mnx mxx txx ksx], by omega, by go_num, Lib.hid ⟨by simp [hst.out.len], box_set h69.out 5 _, ?_, ?_, ?_, ?_, ?_, ?_⟩⟩
              · exact (Below.heap_setCell _ _ _ _ (by show w.heap.size + 1 ≠ w.heap.size + 1 + 1; omega)).trans h49.out
              · have e : (ms ++ [T.mk kx u0x u1x u2x u3x px capx mnx mxx txx ksx]).flatMap T.cells = ms.flatMap T.cells ++ [.int .i64 kx, .int .u64 u0x, .int .u64 u1x, .int .u64 u2x, .int .u64 u3x, .slice px ksx.length capx, .int .i64 mnx, .int .i64 mxx, .string txx] := by
                  rw [List.flatMap_append]
                  simp only [List.flatMap_cons, List.flatMap_nil, List.append_nil, T.cells]
                rw [e]
                exact own_keep2 hown'.out fun g hg hgl => Below.heap_setCell _ _ _ _ (by show g ≠ w.heap.size + 1 + 1; have := (hown'.out.lt g hg).1; omega)
              · have h3 := hst.out.bel.trans (hbA.out.mono (by omega))
                exact ((h3.alloc (by omega) _).grown hgr.out (by simp; omega) (fun k hk => by have := (hst.out.own.lt _ hk).1; omega)).setCell (p := ⟨w.heap.size + 1 + 1, 5, none⟩) (by show w.heap.size ≤ w.heap.size + 1 + 1; omega) _
              · rw [size_set]; omega
              · have hKm : Kept w2 (w.heap.size + 3) (.slice p2 j cap2) (ms ++ [T.mk kx u0x u1x u2x u3x px capx mnx mxx txx ksx]) := by
                  intro t ht
                  rcases List.mem_append.1 ht with ht | ht
                  · exact (hst.out.kept.bel hbA.out) t ht
                  · simp only [List.mem_cons, List.not_mem_nil, or_false] at ht
                    subst ht
                    refine hm2.out.imp fun b hb => ⟨?_, hb.2, fun e => ?_⟩
                    · have := hb.1; have := hb0.out.size; have := hst.out.siz; omega
                    · have := (hst.out.own.lt _ e).2
                      have := hb.1
                      have h9 : (wr.alloc (.cells #[.int .i64 k', .int .u64 u0', .int .u64 u1', .int .u64 u2', .int .u64 u3', .slice p' ks'.length cap', .int .i64 mn', .int .i64 mx', .string tx'] 35)).drew.heap.size = wr.heap.size + 1 := by simp
                      omega
                exact ((hKm.bel ((Below.refl _ w2).alloc (Nat.le_refl _) _)).grown hgr.out hat2.out).set (a := ⟨w.heap.size + 1 + 1, 5, none⟩) (by show w.heap.size + 1 + 1 < w.heap.size + 3; omega) _
              · rw [List.map_append, hst.out.str, htk.out, List.map_cons, List.map_nil, hs2.out]
            case measure => simp [intOf]; omega
        · obtain rfl : j = ks.length := by omega
          have hk6 := cells_of hst.out.b3
          have hk4 := cells_of hst.out.b2
          obtain ⟨x0, -⟩ := hk6 0 _ rfl; obtain ⟨x1, -⟩ := hk6 1 _ rfl; obtain ⟨x2, -⟩ := hk6 2 _ rfl; obtain ⟨x3, -⟩ := hk6 3 _ rfl; obtain ⟨x4, -⟩ := hk6 4 _ rfl; obtain ⟨x5, -⟩ := hk6 5 _ rfl; obtain ⟨x6, -⟩ := hk6 6 _ rfl; obtain ⟨x7, -⟩ := hk6 7 _ rfl; obtain ⟨x8, -⟩ := hk6 8 _ rfl
          obtain ⟨y0, f0⟩ := hk4 0 _ rfl; obtain ⟨y1, f1⟩ := hk4 1 _ rfl; obtain ⟨y2, f2⟩ := hk4 2 _ rfl; obtain ⟨y3, f3⟩ := hk4 3 _ rfl; obtain ⟨y4, f4⟩ := hk4 4 _ rfl; obtain ⟨y5, f5⟩ := hk4 5 _ rfl; obtain ⟨y6, f6⟩ := hk4 6 _ rfl; obtain ⟨y7, f7⟩ := hk4 7 _ rfl; obtain ⟨y8, f8⟩ := hk4 8 _ rfl
          clear hk6 hk4
          go_wp2
          obtain ⟨q1, q2, q3, q4⟩ := set9 (b := w.heap.size + 1) (d0 := .int .i64 k) (d1 := .int .u64 u0) (d2 := .int .u64 u1) (d3 := .int .u64 u2) (d4 := .int .u64 u3) (d5 := .slice p2 ks.length cap2) (d6 := .int .i64 mn) (d7 := .int .i64 mx) (d8 := .string tx) hst.out.b2 _ rfl
          generalize hW : World.setCell _ (⟨w.heap.size + 1, 8, none⟩ : Addr) _ = W9 at *
          clear hW
          have hk9 := cells_of q1
          obtain ⟨z0, -⟩ := hk9 0 _ rfl
          obtain ⟨z1, -⟩ := hk9 1 _ rfl
          obtain ⟨z2, -⟩ := hk9 2 _ rfl
          obtain ⟨z3, -⟩ := hk9 3 _ rfl
          obtain ⟨z4, -⟩ := hk9 4 _ rfl
          obtain ⟨z5, -⟩ := hk9 5 _ rfl
          obtain ⟨z6, -⟩ := hk9 6 _ rfl
          obtain ⟨z7, -⟩ := hk9 7 _ rfl
          obtain ⟨z8, -⟩ := hk9 8 _ rfl
          clear hk9
          refine bodyPost_ret (v := .agg #[.int .i64 k, .int .u64 u0, .int .u64 u1, .int .u64 u2, .int .u64 u3, .slice p2 ks.length cap2, .int .i64 mn, .int .i64 mx, .string tx]) (by simp [results, Tryd.results16, go_sem, z0, z1, z2, z3, z4, z5, z6, z7, z8]) rfl ?_
          rw [hG.out]
          have hln := hst.out.len
          have hbe : Below w.heap.size w W9 := hst.out.bel.trans (q4 w.heap.size (by omega))
          refine ⟨.mk k u0 u1 u2 u3 p2 cap2 mn mx tx ms, by simp only [T.cells, hln], hbe, ?_, ?_⟩
          · have hK : Kept W9 (w.heap.size + 3) (.slice p2 ks.length cap2) ms := fun t ht => ((hst.out.kept t ht).keep (fun b hS => q3 b (by omega))).imp fun b hS => ⟨hS.1, by rw [q2]; exact hS.2.1, hS.2.2⟩
            exact inP_of_row hln hfit.out (own_keep2 hst.out.own fun g hg hgl => q3 g (by have := (hst.out.own.lt g hg).1; omega)) hK (by omega)
          · rw [hsimp.out, T.strip_mk, hst.out.str, List.take_of_length_le (Nat.le_refl _)]
    · have g1 : (k == 2) = false := by rw [beq_eq_false_iff_ne]; exact hk2
      clear hone hk2
      go_enter Tryd.func16, Tryd.ntmps16
      go_wp2
      go_loopw [34] (fun i wr => ∃ (j : Nat) (p2 : Option Addr) (cap2 : Nat) (ms : List T), j ≤ ks.length ∧ i = .int .i64 j ∧ Hid (SSt w wr k u0 u1 u2 u3 mn mx tx ks j p2 cap2 ms)) (fun i _ => ks.length - (intOf i).toNat)
      case atStart => exact ⟨0, none, 0, [], Nat.zero_le _, rfl, hst0⟩
      case round =>
        clear hst0
        obtain ⟨j, p2, cap2, ms, hj, rfl, hst⟩ := hrel
        have hsz3 : w.heap.size + 1 + 1 < wr.heap.size := hst.out.siz
        have hsz2 : w.heap.size + 1 < wr.heap.size := by omega
        have hsz1 : w.heap.size < wr.heap.size := by omega
        by_cases hlt : j < ks.length
        · obtain ⟨b, o, hkid, hp, hb, hc⟩ := T.kid hT.out hlt
          have hBw : Below B0 w0 wr := hB0.out.trans (hst.out.bel.mono hB0w)
          have hcl : ∀ q, q < 9 → wr.cell? ⟨b, o + j * 9 + q, none⟩ = (ks[j].cells)[q]? := fun q hq => by
            rw [← hc q hq]
            exact hBw.cell (p := ⟨b, o + j * 9 + q, none⟩) hb
          have hih := ih.out ks[j] (List.getElem_mem hlt)
          have htk : (ks.take (j + 1)).map T.simp = (ks.take j).map T.simp ++ [T.simp ks[j]] := by rw [List.take_succ_eq_append_getElem hlt, List.map_append]; rfl
          have hkz := hsz.out j hlt
          clear hc
          generalize ks[j] = kd at *
          obtain ⟨k', u0', u1', u2', u3', p', cap', mn', mx', tx', ks'⟩ := kd
          simp only [T.cells] at hcl
          obtain ⟨c0, c1, c2, c3, c4, c5, c6, c7, c8⟩ := nine_of hcl
          subst hp
          clear hcl
          have hb0 := Lib.hid (((Below.refl wr.heap.size wr).alloc (Nat.le_refl _) (.cells #[.int .i64 k', .int .u64 u0', .int .u64 u1', .int .u64 u2', .int .u64 u3', .slice p' ks'.length cap', .int .i64 mn', .int .i64 mx', .string tx'] 35)).drew)
          have cO := Lib.hid (hih (wr.alloc (.cells #[.int .i64 k', .int .u64 u0', .int .u64 u1', .int .u64 u2', .int .u64 u3', .slice p' ks'.length cap', .int .i64 mn', .int .i64 mx', .string tx'] 35)).drew hkz hkid ((hBw.alloc (Nat.le_trans hB0w (by omega)) _).drew))
          have x5 := (cells_of ((hb0.out.block _ hsz3).trans hst.out.b3) 5 _ rfl).1
          clear hih hkid hBw
          replace htk := Lib.hid htk
          simp only [T.cells] at cO
          go_wp2
          go_region_law (first | (refine step_append_own_at rfl _ _ 33 rfl (w.heap.size + 3) 35 i0 (.agg #[.int .i64 0, .int .u64 0, .int .u64 0, .int .u64 0, .int .u64 0, .slice none 0 0, .int .i64 0, .int .i64 0, .string ⟨#[]⟩]) 9 96 Tryd.underlying33 hi.out hz0.out hz1.out hz2.out rfl (by decide) _ _ _ rfl ((ownsRow_bel hst.out.own hbA.out).alloc _) ⟨_, 0, none⟩ 1 1 [.int .i64 kx, .int .u64 u0x, .int .u64 u1x, .int .u64 u2x, .int .u64 u3x, .slice px ksx.length capx, .int .i64 mnx, .int .i64 mxx, .string txx] rfl rfl (cells_new (by simp)) (by simp [Value.oneCell']) (by simp [maxLen]; omega) (by omega) (by simp; omega) ?_; intro v' w9 hown' hgrow hat; obtain ⟨pv2, cv2, rfl, -⟩ := row_form hown'; have hgr : World.grownBy (w2.alloc (.cells #[.int .i64 kx, .int .u64 u0x, .int .u64 u1x, .int .u64 u2x, .int .u64 u3x, .slice px ksx.length capx, .int .i64 mnx, .int .i64 mxx, .string txx] 35)) w9 (Value.slice p2 j cap2).ownBlock := hgrow; have hat2 : (Value.slice pv2 (j + 1) cv2).ownBlock = (Value.slice p2 j cap2).ownBlock ∨ (Value.slice pv2 (j + 1) cv2).ownBlock = some (w2.alloc (.cells #[.int .i64 kx, .int .u64 u0x, .int .u64 u1x, .int .u64 u2x, .int .u64 u3x, .slice px ksx.length capx, .int .i64 mnx, .int .i64 mxx, .string txx] 35)).heap.size := hat; clear hgrow hat; have hne : ∀ b, b < w.heap.size + 3 → some b ≠ (Value.slice p2 j cap2).ownBlock := (fun b hb e => absurd (hst.out.own.lt _ e.symm).1 (by omega)); have hold : ∀ b, b < w.heap.size + 3 → w9.heap[b]? = w2.heap[b]? := (fun b hb => (hgr.block b (by simp; omega) (hne b hb)).trans (Below.heap_alloc _ _ _ (by omega))); have h69 := (hold (w.heap.size + 1 + 1) (by omega)).trans h62.out; have h49 : Hid (w9.heap[w.heap.size + 1]? = some (.cells #[.int .i64 0, .int .u64 0, .int .u64 0, .int .u64 0, .int .u64 0, .slice none 0 0, .int .i64 0, .int .i64 0, .string ⟨#[]⟩] 35 (0, 0))) := Lib.hid ((hold (w.heap.size + 1) (by omega)).trans ((hbA.out.block _ hsz2).trans hst.out.b2)); have r5 := (cells_of h69 5 _ rfl).1; have rf5 := (cells_of h69 5 _ rfl).2; clear hne hold; replace h69 := Lib.hid h69; replace hgr := Lib.hid hgr; replace hat2 := Lib.hid hat2; replace hown' := Lib.hid hown') | (go_simp; (go_at_call 16; (with_reducible refine cO.out.mono ?_); rintro e w2 ⟨⟨kx, u0x, u1x, u2x, u3x, px, capx, mnx, mxx, txx, ksx⟩, rfl, hb2, hm2, hs2⟩; simp only [T.cells]; have hbA := Lib.hid (hb0.out.trans (hb2.mono hb0.out.size)); have hw2 := hbA.out.size; have h62 := (hbA.out.block _ hsz3).trans hst.out.b3; have hk := cells_of h62; have v5 := (hk 5 _ rfl).1; have s21 : w.heap.size + 1 + 1 < w2.heap.size := (by omega); clear hk; replace h62 := Lib.hid h62; replace hb2 := Lib.hid hb2; replace hm2 := Lib.hid hm2; replace hs2 := Lib.hid hs2)))
          all_goals
            go_wp2
            go_roundw
            case rel =>
              have hS0 : (w2.alloc (.cells #[.int .i64 kx, .int .u64 u0x, .int .u64 u1x, .int .u64 u2x, .int .u64 u3x, .slice px ksx.length capx, .int .i64 mnx, .int .i64 mxx, .string txx] 35)).heap.size = w2.heap.size + 1 := by simp
              have hS9 := hgr.out.size
              rw [hS0] at hS9
              refine ⟨j + 1, pv2, cv2, ms ++ [T.mk kx u0x u1x u2x u3x px capx mnx mxx txx ksx], by omega, by go_num, Lib.hid ⟨by simp [hst.out.len], box_set h69.out 5 _, ?_, ?_, ?_, ?_, ?_, ?_⟩⟩
              · exact (Below.heap_setCell _ _ _ _ (by show w.heap.size + 1 ≠ w.heap.size + 1 + 1; omega)).trans h49.out
              · have e : (ms ++ [T.mk kx u0x u1x u2x u3x px capx mnx mxx txx ksx]).flatMap T.cells = ms.flatMap T.cells ++ [.int .i64 kx, .int .u64 u0x, .int .u64 u1x, .int .u64 u2x, .int .u64 u3x, .slice px ksx.length capx, .int .i64 mnx, .int .i64 mxx, .string txx] := by
                  rw [List.flatMap_append]
                  simp only [List.flatMap_cons, List.flatMap_nil, List.append_nil, T.cells]
                rw [e]
                exact own_keep2 hown'.out fun g hg hgl => Below.heap_setCell _ _ _ _ (by show g ≠ w.heap.size + 1 + 1; have := (hown'.out.lt g hg).1; omega)
              · have h3 := hst.out.bel.trans (hbA.out.mono (by omega))
                exact ((h3.alloc (by omega) _).grown hgr.out (by simp; omega) (fun k hk => by have := (hst.out.own.lt _ hk).1; omega)).setCell (p := ⟨w.heap.size + 1 + 1, 5, none⟩) (by show w.heap.size ≤ w.heap.size + 1 + 1; omega) _
              · rw [size_set]; omega
              · have hKm : Kept w2 (w.heap.size + 3) (.slice p2 j cap2) (ms ++ [T.mk kx u0x u1x u2x u3x px capx mnx mxx txx ksx]) := by
                  intro t ht
                  rcases List.mem_append.1 ht with ht | ht
                  · exact (hst.out.kept.bel hbA.out) t ht
                  · simp only [List.mem_cons, List.not_mem_nil, or_false] at ht
                    subst ht
                    refine hm2.out.imp fun b hb => ⟨?_, hb.2, fun e => ?_⟩
                    · have := hb.1; have := hb0.out.size; have := hst.out.siz; omega
                    · have := (hst.out.own.lt _ e).2
                      have := hb.1
                      have h9 : (wr.alloc (.cells #[.int .i64 k', .int .u64 u0', .int .u64 u1', .int .u64 u2', .int .u64 u3', .slice p' ks'.length cap', .int .i64 mn', .int .i64 mx', .string tx'] 35)).drew.heap.size = wr.heap.size + 1 := by simp
                      omega
                exact ((hKm.bel ((Below.refl _ w2).alloc (Nat.le_refl _) _)).grown hgr.out hat2.out).set (a := ⟨w.heap.size + 1 + 1, 5, none⟩) (by show w.heap.size + 1 + 1 < w.heap.size + 3; omega) _
              · rw [List.map_append, hst.out.str, htk.out, List.map_cons, List.map_nil, hs2.out]
            case measure => simp [intOf]; omega
        · obtain rfl : j = ks.length := by omega
          have hk6 := cells_of hst.out.b3
          have hk4 := cells_of hst.out.b2
          obtain ⟨x0, -⟩ := hk6 0 _ rfl; obtain ⟨x1, -⟩ := hk6 1 _ rfl; obtain ⟨x2, -⟩ := hk6 2 _ rfl; obtain ⟨x3, -⟩ := hk6 3 _ rfl; obtain ⟨x4, -⟩ := hk6 4 _ rfl; obtain ⟨x5, -⟩ := hk6 5 _ rfl; obtain ⟨x6, -⟩ := hk6 6 _ rfl; obtain ⟨x7, -⟩ := hk6 7 _ rfl; obtain ⟨x8, -⟩ := hk6 8 _ rfl
          obtain ⟨y0, f0⟩ := hk4 0 _ rfl; obtain ⟨y1, f1⟩ := hk4 1 _ rfl; obtain ⟨y2, f2⟩ := hk4 2 _ rfl; obtain ⟨y3, f3⟩ := hk4 3 _ rfl; obtain ⟨y4, f4⟩ := hk4 4 _ rfl; obtain ⟨y5, f5⟩ := hk4 5 _ rfl; obtain ⟨y6, f6⟩ := hk4 6 _ rfl; obtain ⟨y7, f7⟩ := hk4 7 _ rfl; obtain ⟨y8, f8⟩ := hk4 8 _ rfl
          clear hk6 hk4
          go_wp2
          obtain ⟨q1, q2, q3, q4⟩ := set9 (b := w.heap.size + 1) (d0 := .int .i64 k) (d1 := .int .u64 u0) (d2 := .int .u64 u1) (d3 := .int .u64 u2) (d4 := .int .u64 u3) (d5 := .slice p2 ks.length cap2) (d6 := .int .i64 mn) (d7 := .int .i64 mx) (d8 := .string tx) hst.out.b2 _ rfl
          generalize hW : World.setCell _ (⟨w.heap.size + 1, 8, none⟩ : Addr) _ = W9 at *
          clear hW
          have hk9 := cells_of q1
          obtain ⟨z0, -⟩ := hk9 0 _ rfl
          obtain ⟨z1, -⟩ := hk9 1 _ rfl
          obtain ⟨z2, -⟩ := hk9 2 _ rfl
          obtain ⟨z3, -⟩ := hk9 3 _ rfl
          obtain ⟨z4, -⟩ := hk9 4 _ rfl
          obtain ⟨z5, -⟩ := hk9 5 _ rfl
          obtain ⟨z6, -⟩ := hk9 6 _ rfl
          obtain ⟨z7, -⟩ := hk9 7 _ rfl
          obtain ⟨z8, -⟩ := hk9 8 _ rfl
          clear hk9
          refine bodyPost_ret (v := .agg #[.int .i64 k, .int .u64 u0, .int .u64 u1, .int .u64 u2, .int .u64 u3, .slice p2 ks.length cap2, .int .i64 mn, .int .i64 mx, .string tx]) (by simp [results, Tryd.results16, go_sem, z0, z1, z2, z3, z4, z5, z6, z7, z8]) rfl ?_
          rw [hG.out]
          have hln := hst.out.len
          have hbe : Below w.heap.size w W9 := hst.out.bel.trans (q4 w.heap.size (by omega))
          refine ⟨.mk k u0 u1 u2 u3 p2 cap2 mn mx tx ms, by simp only [T.cells, hln], hbe, ?_, ?_⟩
          · have hK : Kept W9 (w.heap.size + 3) (.slice p2 ks.length cap2) ms := fun t ht => ((hst.out.kept t ht).keep (fun b hS => q3 b (by omega))).imp fun b hS => ⟨hS.1, by rw [q2]; exact hS.2.1, hS.2.2⟩
            exact inP_of_row hln hfit.out (own_keep2 hst.out.own fun g hg hgl => q3 g (by have := (hst.out.own.lt g hg).1; omega)) hK (by omega)
          · rw [hsimp.out, T.strip_mk, hst.out.str, List.take_of_length_le (Nat.le_refl _)]
end Go.Proofs.YtjlmeegaiagfpaaDoor
