/- TreeTells. -/
import Derived.Test.YtbkmoaollooomaaDoorW33
import Derived.Deep.RegionHeld3
namespace Go.Proofs.YtbkmoaollooomaaDoor
open Go.RowKit
open Go.Tree7
set_option maxRecDepth 100000 in
set_option maxHeartbeats 8000000 in
theorem treeTells_in {t : T} {w : World} (hT : T.In w w.heap.size t) (hTab : S1.Tab w) : Calls Tryd.prog 3 #[.agg t.cells.toArray] w fun e w' => e = .returned (.bool true) ∧ Below w.heap.size w w' := by
  have hb0 : Below w.heap.size w (w.alloc (.cells t.cells.toArray 27)) := (Below.refl w.heap.size w).alloc (Nat.le_refl _) _
  have hT0 := (hT.keep hb0).mono hb0.size
  have hTab0 := hTab.below hb0 hTab.1
  have hbox := Lib.hid (World.alloc_heap_new w (.cells t.cells.toArray 27))
  have hlt0 : w.heap.size < (w.alloc (.cells t.cells.toArray 27)).heap.size := by simp
  have hTw := fun w' (h : Below (w.alloc (.cells t.cells.toArray 27)).heap.size (w.alloc (.cells t.cells.toArray 27)) w') => (hT0.keep h).mono h.size
  have AL := Lib.hid (fun w' (h : Below (w.alloc (.cells t.cells.toArray 27)).heap.size (w.alloc (.cells t.cells.toArray 27)) w') => alive_in w' (hTab0.below h hTab0.1))
  have hfit := all_fits hT
  have HV := Lib.hid (fun w' (h : Below (w.alloc (.cells t.cells.toArray 27)).heap.size (w.alloc (.cells t.cells.toArray 27)) w') => heavy_in (hTw w' h) (fun s hs => by have := (hfit s hs).1.2.2.2.2; unfold maxLen at this; omega))
  have OF := fun w' (h : Below (w.alloc (.cells t.cells.toArray 27)).heap.size (w.alloc (.cells t.cells.toArray 27)) w') => of_in (Nat.le_refl _) t 2000 w' (by decide) (by decide) hT0 h
  have RT := Lib.hid (fun w' (h : Below (w.alloc (.cells t.cells.toArray 27)).heap.size (w.alloc (.cells t.cells.toArray 27)) w') => right_in (hTw w' h))
  have TX := Lib.hid (fun w' (h : Below (w.alloc (.cells t.cells.toArray 27)).heap.size (w.alloc (.cells t.cells.toArray 27)) w') => text_in (hTw w' h) (hTab0.below h hTab0.1))
  have DP := (fun w' (h : Below (w.alloc (.cells t.cells.toArray 27)).heap.size (w.alloc (.cells t.cells.toArray 27)) w') => depth_in (hTw w' h))
  have CT := (fun w' (h : Below (w.alloc (.cells t.cells.toArray 27)).heap.size (w.alloc (.cells t.cells.toArray 27)) w') => count_in (hTw w' h))
  have NM := (fun w' (h : Below (w.alloc (.cells t.cells.toArray 27)).heap.size (w.alloc (.cells t.cells.toArray 27)) w') => names_in (hTw w' h))
  rw [deep_all] at DP
  rw [count_all] at CT
  rw [show ((2000 : Nat) : Int) = 2000 from rfl] at OF
  replace hb0 := Lib.hid hb0
  obtain ⟨S, hS⟩ : ∃ S, allS t = S := ⟨_, rfl⟩
  have hSS : Hid (allS t = S) := Lib.hid hS
  have hSl : S.length ≤ 601 := by rw [← hS]; exact allS_len t
  rw [hS] at DP CT NM
  replace DP := Lib.hid DP
  replace CT := Lib.hid CT
  replace NM := Lib.hid NM
  obtain ⟨R, hR⟩ : ∃ R, rightB t = R := ⟨_, rfl⟩
  rw [hR] at RT
  have hRR := Lib.hid hR
  have hHV := heavy_no (t := t)
  generalize heavyB t = H at *
  have OA : Hid (∀ wx e w1, Below (w.alloc (.cells t.cells.toArray 27)).heap.size (w.alloc (.cells t.cells.toArray 27)) wx → GivesTree 2000 wx t e w1 → ∃ m : T, e = .returned (.tuple #[.agg m.cells.toArray, .int .i64 ((2000 - t.size : Nat) : Int)]) ∧ Below wx.heap.size wx w1 ∧ (t.size < 2000 → T.In w1 w1.heap.size m ∧ m.strip = t.strip)) := Lib.hid fun wx e w1 hx h => by
    obtain ⟨m, h1, h2, h3⟩ := h
    exact ⟨m, h1, h2, fun hlt => ⟨(h3 hlt).1.toIn fun b hb => hb.2, (h3 hlt).2⟩⟩
  obtain ⟨G, hG⟩ : ∃ G, G = fun wx => GivesTree 2000 wx t := ⟨_, rfl⟩
  have OF2 : Hid (∀ w', Below (w.alloc (.cells t.cells.toArray 27)).heap.size (w.alloc (.cells t.cells.toArray 27)) w' → Calls Tryd.prog 9 #[.agg t.cells.toArray, .int .i64 2000] w' (G w')) := Lib.hid fun w' h => by rw [hG]; exact OF w' h
  replace OA : Hid (∀ wx e w1, Below (w.alloc (.cells t.cells.toArray 27)).heap.size (w.alloc (.cells t.cells.toArray 27)) wx → G wx e w1 → ∃ m : T, e = .returned (.tuple #[.agg m.cells.toArray, .int .i64 ((2000 - t.size : Nat) : Int)]) ∧ Below wx.heap.size wx w1 ∧ (t.size < 2000 → T.In w1 w1.heap.size m ∧ m.strip = t.strip)) := Lib.hid fun wx e w1 hx h => by rw [hG] at h; exact OA.out wx e w1 hx h
  clear OF hG hS hR hT hTab hT0 hTab0 hTw hfit
  have OF := OF2
  clear OF2
  have htc : Hid (t.cells.toArray = t.cells.toArray) := Lib.hid rfl
  obtain ⟨cs, hcs⟩ : ∃ cs, t.cells.toArray = cs := ⟨_, rfl⟩
  cases H with
  | true =>
    have hHV := Lib.hid hHV
    cases t with
    | mk k u0 u1 u2 u3 p cap mn mx tx ks =>
      simp only [T.cells] at *
      clear hcs htc DP CT NM RT TX OF OA
      go_enter Tryd.func3, Tryd.ntmps3
      go_wp2_with fail
      generalize hW0 : w.alloc (.cells #[.int .i64 k, .int .u64 u0, .int .u64 u1, .int .u64 u2, .int .u64 u3, .slice p ks.length cap, .int .i64 mn, .int .i64 mx, .string tx] 27) = W0 at *
      clear hW0
      have hB := Lib.hid (Below.refl W0.heap.size W0)
      go_wp2_with (first | (go_at_call 7; (with_reducible refine (AL.out _ hB.out).mono ?_); rintro e w1 ⟨rfl, hb⟩; replace hB := Lib.hid (hB.out.trans (hb.mono hB.out.size)); clear hb; have hk := cells_of ((hB.out.block _ hlt0).trans hbox.out); have x0 := (hk 0 _ rfl).1; have x1 := (hk 1 _ rfl).1; have x2 := (hk 2 _ rfl).1; have x3 := (hk 3 _ rfl).1; have x4 := (hk 4 _ rfl).1; have x5 := (hk 5 _ rfl).1; have x6 := (hk 6 _ rfl).1; have x7 := (hk 7 _ rfl).1; have x8 := (hk 8 _ rfl).1; clear hk) | (go_at_call 8; (with_reducible refine (HV.out _ hB.out).mono ?_); rintro e w2 ⟨rfl, hb⟩; replace hB := Lib.hid (hB.out.trans (hb.mono hB.out.size)); clear hb x0 x1 x2 x3 x4 x5 x6 x7 x8; have hk := cells_of ((hB.out.block _ hlt0).trans hbox.out); have x0 := (hk 0 _ rfl).1; have x1 := (hk 1 _ rfl).1; have x2 := (hk 2 _ rfl).1; have x3 := (hk 3 _ rfl).1; have x4 := (hk 4 _ rfl).1; have x5 := (hk 5 _ rfl).1; have x6 := (hk 6 _ rfl).1; have x7 := (hk 7 _ rfl).1; have x8 := (hk 8 _ rfl).1; clear hk))
      go_ret
      exact ⟨rfl, hb0.out.trans (hB.out.mono hb0.out.size)⟩
  | false =>
    have hsz := hHV rfl
    obtain ⟨d, hd⟩ : ∃ d : Nat, 2000 - t.size = d := ⟨_, rfl⟩
    rw [hd] at OA
    replace OA : Hid (∀ wx e w1, Below (w.alloc (.cells t.cells.toArray 27)).heap.size (w.alloc (.cells t.cells.toArray 27)) wx → G wx e w1 → ∃ m : T, e = .returned (.tuple #[.agg m.cells.toArray, .int .i64 (d : Int)]) ∧ Below wx.heap.size wx w1 ∧ (T.In w1 w1.heap.size m ∧ m.strip = t.strip)) := Lib.hid fun wx e w1 hx h => by
      obtain ⟨m, h1, h2, h3⟩ := OA.out wx e w1 hx h
      exact ⟨m, h1, h2, h3 hsz⟩
    clear hHV hsz hd hcs htc
    have hstr : Hid (∀ m : T, m.strip = t.strip → rightB m = R ∧ (R = true → textS t = strN (T.txt m)) ∧ (R = false → textS t = ⟨#[]⟩)) := Lib.hid fun m h => by
      rw [right_of_strip h, hRR.out]
      refine ⟨rfl, fun h1 => ?_, fun h1 => ?_⟩
      · unfold textS; rw [hRR.out, if_pos h1, txt_of_strip h]
      · unfold textS; rw [hRR.out, if_neg (by simp [h1])]
    generalize textS t = TXS at *
    obtain ⟨ts, hts⟩ : ∃ ts, t.strip = ts := ⟨_, rfl⟩
    cases t with
    | mk k u0 u1 u2 u3 p cap mn mx tx ks =>
      simp only [T.cells] at *
      clear hts
      go_enter Tryd.func3, Tryd.ntmps3
      go_wp2_with fail
      generalize hW0 : w.alloc (.cells #[.int .i64 k, .int .u64 u0, .int .u64 u1, .int .u64 u2, .int .u64 u3, .slice p ks.length cap, .int .i64 mn, .int .i64 mx, .string tx] 27) = W0 at *
      clear hW0
      have hB := Lib.hid (Below.refl W0.heap.size W0)
      go_wp2_with (first | (go_at_call 7; (with_reducible refine (AL.out _ hB.out).mono ?_); rintro e w1 ⟨rfl, hb⟩; replace hB := Lib.hid (hB.out.trans (hb.mono hB.out.size)); clear hb; have hk := cells_of ((hB.out.block _ hlt0).trans hbox.out); have x0 := (hk 0 _ rfl).1; have x1 := (hk 1 _ rfl).1; have x2 := (hk 2 _ rfl).1; have x3 := (hk 3 _ rfl).1; have x4 := (hk 4 _ rfl).1; have x5 := (hk 5 _ rfl).1; have x6 := (hk 6 _ rfl).1; have x7 := (hk 7 _ rfl).1; have x8 := (hk 8 _ rfl).1; clear hk) | (go_at_call 8; (with_reducible refine (HV.out _ hB.out).mono ?_); rintro e w2 ⟨rfl, hb⟩; replace hB := Lib.hid (hB.out.trans (hb.mono hB.out.size)); clear hb x0 x1 x2 x3 x4 x5 x6 x7 x8; have hk := cells_of ((hB.out.block _ hlt0).trans hbox.out); have x0 := (hk 0 _ rfl).1; have x1 := (hk 1 _ rfl).1; have x2 := (hk 2 _ rfl).1; have x3 := (hk 3 _ rfl).1; have x4 := (hk 4 _ rfl).1; have x5 := (hk 5 _ rfl).1; have x6 := (hk 6 _ rfl).1; have x7 := (hk 7 _ rfl).1; have x8 := (hk 8 _ rfl).1; clear hk) | (go_at_call 9; (with_reducible refine (OF.out _ hB.out).mono ?_); intro e w3 hg; obtain ⟨⟨kx, u0x, u1x, u2x, u3x, px, capx, mnx, mxx, txx, ksx⟩, rfl, hb, hm1, hm2⟩ := OA.out _ e w3 hB.out hg; clear hg; replace hB := Lib.hid (hB.out.trans (hb.mono hB.out.size)); clear hb; have hm3 := Lib.hid ((hm1.keep ((Below.refl w3.heap.size w3).alloc (Nat.le_refl _) (.cells #[.int .i64 kx, .int .u64 u0x, .int .u64 u1x, .int .u64 u2x, .int .u64 u3x, .slice px ksx.length capx, .int .i64 mnx, .int .i64 mxx, .string txx] 32))).mono (show w3.heap.size ≤ (w3.alloc (.cells #[.int .i64 kx, .int .u64 u0x, .int .u64 u1x, .int .u64 u2x, .int .u64 u3x, .slice px ksx.length capx, .int .i64 mnx, .int .i64 mxx, .string txx] 32)).heap.size by simp)); have hm4 := Lib.hid hm2; have hbx3 := Lib.hid (World.alloc_heap_new w3 (.cells #[.int .i64 kx, .int .u64 u0x, .int .u64 u1x, .int .u64 u2x, .int .u64 u3x, .slice px ksx.length capx, .int .i64 mnx, .int .i64 mxx, .string txx] 32)); have cW := walk_all hm3.out; rw [allS_of_strip hm2] at cW; simp only [T.cells] at cW ⊢; rw [hSS.out] at cW; replace cW := Lib.hid cW; have hw3 : W0.heap.size ≤ w3.heap.size := hB.out.size; replace hB := Lib.hid (hB.out.alloc hw3 (.cells #[.int .i64 kx, .int .u64 u0x, .int .u64 u1x, .int .u64 u2x, .int .u64 u3x, .slice px ksx.length capx, .int .i64 mnx, .int .i64 mxx, .string txx] 32)); clear hm1 hm2) | (go_at_call 10; (with_reducible refine cW.out.mono ?_); rintro e w4 ⟨v, rfl, hrow, hb4⟩; obtain ⟨pv, cv, rfl, hpg, hpc⟩ := step_at hrow; clear hrow; replace hpg := Lib.hid hpg; replace hpc := Lib.hid hpc; replace hB := Lib.hid (hB.out.trans (hb4.mono hB.out.size)); replace hb4 := Lib.hid hb4))
      have hBq := hB
      have hw4 := hB.out.size
      obtain ⟨i0, hi, hz0, hz1, hz2⟩ := info_parts infoStr
      replace hi := Lib.hid hi
      replace hz0 := Lib.hid hz0
      replace hz1 := Lib.hid hz1
      replace hz2 := Lib.hid hz2
      have hrow0 : Hid ((w4.alloc (.cells #[] 9)).ownsRow w4.heap.size 9 1 (.slice (some ⟨w4.heap.size, 0, none⟩) 0 0) 0 ([].map Value.string)) := Lib.hid (own_none (World.alloc_heap_new _ _) (Nat.le_refl _))
      have hBr0 : Hid (Below w4.heap.size w4 (w4.alloc (.cells #[] 9))) := Lib.hid ((Below.refl _ w4).alloc (Nat.le_refl _) _)
      clear AL HV OF OA
      go_loopw [6, 7, 28] (fun v6 v7 i wr => ∃ (j : Nat) (p2 : Option Addr) (cap2 : Nat), j ≤ S.length ∧ v6 = .int .i64 (deepS (S.take j) : Nat) ∧ v7 = .slice p2 (namesS (S.take j)).length cap2 ∧ i = .int .i64 j ∧ Hid (wr.ownsRow w4.heap.size 9 1 (.slice p2 (namesS (S.take j)).length cap2) (namesS (S.take j)).length ((namesS (S.take j)).map Value.string)) ∧ Hid (Below w4.heap.size w4 wr)) (fun _ _ i _ => S.length - (intOf i).toNat)
      case atStart => exact ⟨0, some ⟨w4.heap.size, 0, none⟩, 0, Nat.zero_le _, rfl, rfl, rfl, hrow0, hBr0⟩
      case round =>
        clear hrow0 hBr0
        obtain ⟨j, p2, cap2, hj, rfl, rfl, rfl, hrow, hBr⟩ := hrel
        by_cases hlt : j < S.length
        · obtain ⟨g, hpv, hbase, hgl⟩ := hpg.out (by omega)
          have hc := hpc.out g hpv j hlt
          subst hpv
          have hcl : ∀ q, q < 11 → wr.cell? ⟨g, j * 11 + q, none⟩ = (scells S[j])[q]? := fun q hq => by
            rw [← hc q hq]
            exact hBr.out.cell (p := ⟨g, j * 11 + q, none⟩) hgl
          have hDs : deepS (S.take (j + 1)) = max (deepS (S.take j)) S[j].level := by rw [List.take_succ_eq_append_getElem hlt, deepS_snoc]
          have hNs : namesS (S.take (j + 1)) = addS (namesS (S.take j)) S[j] := by rw [List.take_succ_eq_append_getElem hlt, namesS_snoc]
          have hnl : (namesS (S.take j)).length ≤ 601 := by have := namesS_len (S.take j); simp at this; omega
          have hsw := hBr.out.size
          obtain ⟨p9, cap9, hv9, hSR⟩ := SRow.of_owns rfl hrow.out
          obtain ⟨rfl, rfl⟩ : p2 = p9 ∧ cap2 = cap9 := by simp only [Value.slice.injEq, true_and] at hv9; exact hv9
          clear hv9 hc
          generalize S[j] = s at *
          obtain ⟨L, hL⟩ : ∃ L, namesS (S.take j) = L := ⟨_, rfl⟩
          obtain ⟨D, hD⟩ : ∃ D, deepS (S.take j) = D := ⟨_, rfl⟩
          obtain ⟨D', hD'⟩ : ∃ D', deepS (S.take (j + 1)) = D' := ⟨_, rfl⟩
          rw [hL] at hNs hnl hrow hSR ⊢
          rw [hD, hD'] at hDs
          rw [hD]
          have hDn := Lib.hid hD'
          clear hL hD hD'
          obtain ⟨n, hn⟩ : ∃ n, L.length = n := ⟨_, rfl⟩
          rw [hn] at hrow hnl ⊢
          have hnL := Lib.hid hn
          obtain ⟨sk, ⟨su0, su1, su2, su3⟩, smn, smx, stx, slv, skids⟩ := s
          simp only [scells] at hcl
          simp only at hDs
          obtain ⟨c0, c1, c2, c3, c4, c5, c6, c7, c8, c9, c10⟩ := eleven_of hcl
          clear hcl
          obtain ⟨b0, hb0'⟩ : ∃ b0 : Bool, (sk != 5) = b0 := ⟨_, rfl⟩
          have hbz : Hid ((sk != 5) = b0) := Lib.hid hb0'
          have hkeep : Hid ((sk ≠ 5 ∨ stx ∈ L.take n) → namesS (S.take (j + 1)) = L) := Lib.hid fun h => by
            rw [hNs, ← hn] at *
            rw [List.take_of_length_le (Nat.le_refl _)] at h
            unfold addS
            rw [if_neg]
            rintro ⟨h1, h2⟩
            rcases h with h | h
            · exact h h1
            · exact h2 h
          have hadd : Hid (¬ (sk ≠ 5 ∨ stx ∈ L.take n) → namesS (S.take (j + 1)) = L ++ [stx]) := Lib.hid fun h => by
            rw [hNs, ← hn] at *
            rw [List.take_of_length_le (Nat.le_refl _)] at h
            unfold addS
            rw [if_pos]
            exact ⟨by by_cases e : sk = 5; exact e; exact absurd (.inl e) h, fun h2 => h (.inr h2)⟩
          have htake : Hid (∀ q (hq : q < L.length), L.take (q + 1) = L.take q ++ [L[q]]) := Lib.hid fun q hq => List.take_succ_eq_append_getElem hq
          replace hSR := Lib.hid (hSR.bel ((Below.refl _ wr).alloc (Nat.le_refl _) (.cells #[.int .i64 sk, .int .u64 su0, .int .u64 su1, .int .u64 su2, .int .u64 su3, .slice none 0 0, .int .i64 smn, .int .i64 smx, .string stx, .int .i64 slv, .int .i64 skids] 39)))
          clear hNs hn
          by_cases hgt : D < slv
          · have d1 : decide (D < slv) = true := by simp; omega
            have hDD : slv = D' := by omega
            clear hDs
            subst hDD
            go_wp2
            go_loop [10, 44] (fun v10 i2 => ∃ (q : Nat) (b : Bool), q ≤ n ∧ v10 = .bool b ∧ i2 = .int .i64 q ∧ Hid (b = true ↔ (sk ≠ 5 ∨ stx ∈ L.take q))) (fun _ i2 => n - (intOf i2).toNat)
            case atStart => exact ⟨0, b0, Nat.zero_le _, rfl, rfl, Lib.hid (by rw [← hbz.out]; simp)⟩
            case round =>
              obtain ⟨q, b, hq, rfl, rfl, hbq⟩ := hrel
              by_cases hq2 : q < n
              · have hql : q < L.length := by have := hnL.out; omega
                obtain ⟨g2, hp2, hg2, hcell2⟩ := hSR.out q hql
                subst hp2
                have htk := htake.out q hql
                cases b with
                | true =>
                  have hb2 : Hid (true = true ↔ (sk ≠ 5 ∨ stx ∈ L.take (q + 1))) := Lib.hid ⟨fun _ => by rw [htk]; exact (hbq.out.1 rfl).imp id (fun h => List.mem_append.2 (.inl h)), fun _ => rfl⟩
                  clear htk
                  go_wp2
                  go_round
                  case rel => exact ⟨q + 1, true, by omega, rfl, by go_num, hb2⟩
                  case measure => simp [intOf]; omega
                | false =>
                  have hbf : ¬ (sk ≠ 5 ∨ stx ∈ L.take q) := fun h => by have := hbq.out.2 h; cases this
                  obtain ⟨c, hcc⟩ : ∃ c, L[q] = c := ⟨_, rfl⟩
                  rw [hcc] at hcell2 htk
                  by_cases e : c = stx
                  · subst e
                    have heq : (c.toList == c.toList) = true := by simp
                    have hb2 : Hid (true = true ↔ (sk ≠ 5 ∨ c ∈ L.take (q + 1))) := Lib.hid (by rw [htk]; simp)
                    clear htk hcc hbf
                    go_wp2
                    go_round
                    case rel => exact ⟨q + 1, true, by omega, rfl, by go_num, hb2⟩
                    case measure => simp [intOf]; omega
                  · have heq : (c.toList == stx.toList) = false := by rw [beq_eq_false_iff_ne]; exact fun h => e (toList_inj h)
                    have hb2 : Hid (false = true ↔ (sk ≠ 5 ∨ stx ∈ L.take (q + 1))) := Lib.hid (by
                      rw [htk]
                      constructor
                      · intro h; cases h
                      · intro h
                        refine absurd ?_ hbf
                        rcases h with h | h
                        · exact .inl h
                        · rcases List.mem_append.1 h with h | h
                          · exact .inr h
                          · simp only [List.mem_cons, List.not_mem_nil, or_false] at h
                            exact absurd h.symm e)
                    clear htk hcc hbf e
                    go_wp2
                    go_round
                    case rel => exact ⟨q + 1, false, by omega, rfl, by go_num, hb2⟩
                    case measure => simp [intOf]; omega
              · obtain rfl : q = n := by omega
                cases b with
                | true =>
                  have hL1 := Lib.hid (hkeep.out (hbq.out.1 rfl))
                  clear hbq
                  go_wp2
                  go_roundw
                  case rel => exact ⟨j + 1, p2, cap2, by omega, by rw [hDn.out], by rw [hL1.out, hnL.out], by go_num, Lib.hid (by rw [hL1.out, hnL.out]; exact hrow.out.alloc _), Lib.hid (hBr.out.alloc hsw _)⟩
                  case measure => simp [intOf]; omega
                | false =>
                  have hL1 := Lib.hid (hadd.out (fun h => by have := hbq.out.2 h; cases this))
                  clear hbq
                  go_wp2_with (at_builtin; refine wpList_append_own _ rfl _ _ 37 rfl w4.heap.size 9 i0 (.string ⟨#[]⟩) 1 16 Tryd.underlying37 hi.out hz0.out hz1.out hz2.out rfl (by decide) _ _ _ rfl ((hrow.out.alloc _).alloc _) ⟨_, 0, none⟩ 1 1 [.string stx] rfl rfl (cells_new (by simp)) (by simp [Value.oneCell']) (by simp [maxLen]; omega) (by omega) (by simp; omega) ?_; intro v' w9 hown' hgrow hnil; clear hnil; obtain ⟨pv2, cv2, rfl, -⟩ := row_form hown'; have hgr : World.grownBy ((wr.alloc (.cells #[.int .i64 sk, .int .u64 su0, .int .u64 su1, .int .u64 su2, .int .u64 su3, .slice none 0 0, .int .i64 smn, .int .i64 smx, .string stx, .int .i64 slv, .int .i64 skids] 39)).alloc (.cells #[.string stx] 9)) w9 (Value.slice p2 q cap2).ownBlock := hgrow; clear hgrow; replace hgr := Lib.hid hgr; replace hown' := Lib.hid hown')
                  go_roundw
                  case rel => exact ⟨j + 1, pv2, cv2, by omega, by rw [hDn.out], by rw [hL1.out, List.length_append, hnL.out]; rfl, by go_num, Lib.hid (by rw [hL1.out, List.length_append, hnL.out, List.map_append]; exact hown'.out), Lib.hid (((hBr.out.alloc hsw _).alloc (by simp; omega) _).grown hgr.out (by simp; omega) (fun k hk => (hrow.out.lt _ hk).1))⟩
                  case measure => simp [intOf]; omega
          · have d1 : decide (D < slv) = false := by simp; omega
            have hDD : D = D' := by omega
            clear hDs
            subst hDD
            go_wp2
            go_loop [10, 44] (fun v10 i2 => ∃ (q : Nat) (b : Bool), q ≤ n ∧ v10 = .bool b ∧ i2 = .int .i64 q ∧ Hid (b = true ↔ (sk ≠ 5 ∨ stx ∈ L.take q))) (fun _ i2 => n - (intOf i2).toNat)
            case atStart => exact ⟨0, b0, Nat.zero_le _, rfl, rfl, Lib.hid (by rw [← hbz.out]; simp)⟩
            case round =>
              obtain ⟨q, b, hq, rfl, rfl, hbq⟩ := hrel
              by_cases hq2 : q < n
              · have hql : q < L.length := by have := hnL.out; omega
                obtain ⟨g2, hp2, hg2, hcell2⟩ := hSR.out q hql
                subst hp2
                have htk := htake.out q hql
                cases b with
                | true =>
                  have hb2 : Hid (true = true ↔ (sk ≠ 5 ∨ stx ∈ L.take (q + 1))) := Lib.hid ⟨fun _ => by rw [htk]; exact (hbq.out.1 rfl).imp id (fun h => List.mem_append.2 (.inl h)), fun _ => rfl⟩
                  clear htk
                  go_wp2
                  go_round
                  case rel => exact ⟨q + 1, true, by omega, rfl, by go_num, hb2⟩
                  case measure => simp [intOf]; omega
                | false =>
                  have hbf : ¬ (sk ≠ 5 ∨ stx ∈ L.take q) := fun h => by have := hbq.out.2 h; cases this
                  obtain ⟨c, hcc⟩ : ∃ c, L[q] = c := ⟨_, rfl⟩
                  rw [hcc] at hcell2 htk
                  by_cases e : c = stx
                  · subst e
                    have heq : (c.toList == c.toList) = true := by simp
                    have hb2 : Hid (true = true ↔ (sk ≠ 5 ∨ c ∈ L.take (q + 1))) := Lib.hid (by rw [htk]; simp)
                    clear htk hcc hbf
                    go_wp2
                    go_round
                    case rel => exact ⟨q + 1, true, by omega, rfl, by go_num, hb2⟩
                    case measure => simp [intOf]; omega
                  · have heq : (c.toList == stx.toList) = false := by rw [beq_eq_false_iff_ne]; exact fun h => e (toList_inj h)
                    have hb2 : Hid (false = true ↔ (sk ≠ 5 ∨ stx ∈ L.take (q + 1))) := Lib.hid (by
                      rw [htk]
                      constructor
                      · intro h; cases h
                      · intro h
                        refine absurd ?_ hbf
                        rcases h with h | h
                        · exact .inl h
                        · rcases List.mem_append.1 h with h | h
                          · exact .inr h
                          · simp only [List.mem_cons, List.not_mem_nil, or_false] at h
                            exact absurd h.symm e)
                    clear htk hcc hbf e
                    go_wp2
                    go_round
                    case rel => exact ⟨q + 1, false, by omega, rfl, by go_num, hb2⟩
                    case measure => simp [intOf]; omega
              · obtain rfl : q = n := by omega
                cases b with
                | true =>
                  have hL1 := Lib.hid (hkeep.out (hbq.out.1 rfl))
                  clear hbq
                  go_wp2
                  go_roundw
                  case rel => exact ⟨j + 1, p2, cap2, by omega, by rw [hDn.out], by rw [hL1.out, hnL.out], by go_num, Lib.hid (by rw [hL1.out, hnL.out]; exact hrow.out.alloc _), Lib.hid (hBr.out.alloc hsw _)⟩
                  case measure => simp [intOf]; omega
                | false =>
                  have hL1 := Lib.hid (hadd.out (fun h => by have := hbq.out.2 h; cases this))
                  clear hbq
                  go_wp2_with (at_builtin; refine wpList_append_own _ rfl _ _ 37 rfl w4.heap.size 9 i0 (.string ⟨#[]⟩) 1 16 Tryd.underlying37 hi.out hz0.out hz1.out hz2.out rfl (by decide) _ _ _ rfl ((hrow.out.alloc _).alloc _) ⟨_, 0, none⟩ 1 1 [.string stx] rfl rfl (cells_new (by simp)) (by simp [Value.oneCell']) (by simp [maxLen]; omega) (by omega) (by simp; omega) ?_; intro v' w9 hown' hgrow hnil; clear hnil; obtain ⟨pv2, cv2, rfl, -⟩ := row_form hown'; have hgr : World.grownBy ((wr.alloc (.cells #[.int .i64 sk, .int .u64 su0, .int .u64 su1, .int .u64 su2, .int .u64 su3, .slice none 0 0, .int .i64 smn, .int .i64 smx, .string stx, .int .i64 slv, .int .i64 skids] 39)).alloc (.cells #[.string stx] 9)) w9 (Value.slice p2 q cap2).ownBlock := hgrow; clear hgrow; replace hgr := Lib.hid hgr; replace hown' := Lib.hid hown')
                  go_roundw
                  case rel => exact ⟨j + 1, pv2, cv2, by omega, by rw [hDn.out], by rw [hL1.out, List.length_append, hnL.out]; rfl, by go_num, Lib.hid (by rw [hL1.out, List.length_append, hnL.out, List.map_append]; exact hown'.out), Lib.hid (((hBr.out.alloc hsw _).alloc (by simp; omega) _).grown hgr.out (by simp; omega) (fun k hk => (hrow.out.lt _ hk).1))⟩
                  case measure => simp [intOf]; omega
        · obtain rfl : j = S.length := by omega
          have hTk : S.take S.length = S := List.take_of_length_le (Nat.le_refl _)
          rw [hTk] at hrow ⊢
          have hn6 : (namesS S).length ≤ 100000 := by have := namesS_len S; omega
          have hbm : Hid (wr.heap[w3.heap.size]? = some (.cells #[.int .i64 kx, .int .u64 u0x, .int .u64 u1x, .int .u64 u2x, .int .u64 u3x, .slice px ksx.length capx, .int .i64 mnx, .int .i64 mxx, .string txx] 32 (0, 0))) := Lib.hid ((hBr.out.block _ (by have := hb4.out.size; simp at this; omega)).trans ((hb4.out.block _ (by simp)).trans hbx3.out))
          have hBW0 := Lib.hid (hB.out.trans (hBr.out.mono hw4))
          have hbn : Hid (wr.heap[w.heap.size]? = some (.cells #[.int .i64 k, .int .u64 u0, .int .u64 u1, .int .u64 u2, .int .u64 u3, .slice p ks.length cap, .int .i64 mn, .int .i64 mx, .string tx] 27 (0, 0))) := Lib.hid ((hBW0.out.block _ hlt0).trans hbox.out)
          have hmw : ∀ w', Below wr.heap.size wr w' → T.In w' w'.heap.size (T.mk kx u0x u1x u2x u3x px capx mnx mxx txx ksx) := fun w' h => by
            have h2 := hb4.out.trans ((hBr.out.trans (h.mono hBr.out.size)).mono hb4.out.size)
            exact (hm3.out.keep h2).mono h2.size
          obtain ⟨hR1, hR2, hR3⟩ := hstr.out _ hm4.out
          have RR := fun w' h => rright_in (hmw w' h)
          rw [hR1] at RR
          simp only [T.cells] at RR
          replace RR := Lib.hid RR
          have hSR0 : Hid (∀ w', Below wr.heap.size wr w' → SRow w' p2 (namesS S)) := Lib.hid fun w' h => by
            obtain ⟨p9, cap9, hv9, hSR⟩ := SRow.of_owns rfl hrow.out
            obtain ⟨rfl, rfl⟩ : p2 = p9 ∧ cap2 = cap9 := by simp only [Value.slice.injEq, true_and] at hv9; exact hv9
            exact hSR.bel h
          have hZ := Lib.hid (Below.refl wr.heap.size wr)
          have hk := cells_of hbm.out
          have m0 := (hk 0 _ rfl).1; have m1 := (hk 1 _ rfl).1; have m2 := (hk 2 _ rfl).1; have m3 := (hk 3 _ rfl).1; have m4 := (hk 4 _ rfl).1; have m5 := (hk 5 _ rfl).1; have m6 := (hk 6 _ rfl).1; have m7 := (hk 7 _ rfl).1; have m8 := (hk 8 _ rfl).1
          clear hk hTk
          obtain ⟨L, hL⟩ : ∃ L, namesS S = L := ⟨_, rfl⟩
          rw [hL] at NM hn6 hSR0 ⊢
          obtain ⟨DD, hDD⟩ : ∃ DD, deepS S = DD := ⟨_, rfl⟩
          rw [hDD] at DP ⊢
          obtain ⟨n, hnn⟩ : ∃ n, L.length = n := ⟨_, rfl⟩
          rw [hnn] at hn6 ⊢
          have hLn := Lib.hid hnn
          clear hL hDD hrow hnn
          cases R with
          | true =>
            have RX := fun w' h => rtext_in (hmw w' h) hR1
            rw [← hR2 rfl] at RX
            simp only [T.cells] at RX
            replace RX := Lib.hid RX
            clear hR1 hR2 hR3 hmw hstr hm3 hm4 hbx3 hB hb4 hBr hBq hSS hRR cW hpg hpc hbox
            go_wp2_with (first | (go_at_call 11; (with_reducible refine (RR.out _ hZ.out).mono ?_); rintro e w5 ⟨rfl, hb⟩; replace hZ := Lib.hid (hZ.out.trans (hb.mono hZ.out.size)); clear m0 m1 m2 m3 m4 m5 m6 m7 m8; have hk := cells_of ((hZ.out.block _ (Array.getElem?_eq_some_iff.1 hbm.out).1).trans hbm.out); have m0 := (hk 0 _ rfl).1; have m1 := (hk 1 _ rfl).1; have m2 := (hk 2 _ rfl).1; have m3 := (hk 3 _ rfl).1; have m4 := (hk 4 _ rfl).1; have m5 := (hk 5 _ rfl).1; have m6 := (hk 6 _ rfl).1; have m7 := (hk 7 _ rfl).1; have m8 := (hk 8 _ rfl).1; clear hk hb) | (go_at_call 12; (with_reducible refine (RX.out _ hZ.out).mono ?_); rintro e w6 ⟨rfl, hb⟩; replace hZ := Lib.hid (hZ.out.trans (hb.mono hZ.out.size)); clear hb))
            rename World => wz
            have hbnz := Lib.hid ((hZ.out.block _ (Array.getElem?_eq_some_iff.1 hbn.out).1).trans hbn.out)
            have hbmz := Lib.hid ((hZ.out.block _ (Array.getElem?_eq_some_iff.1 hbm.out).1).trans hbm.out)
            have C13 := Lib.hid (fun w' (h : Bel wz w') => RT.out w' (hBW0.out.trans ((hZ.out.trans (h.mono hZ.out.size)).mono hBW0.out.size)))
            have C14 := Lib.hid (fun w' (h : Bel wz w') => TX.out w' (hBW0.out.trans ((hZ.out.trans (h.mono hZ.out.size)).mono hBW0.out.size)))
            have C15 := Lib.hid (fun w' (h : Bel wz w') => DP.out w' (hBW0.out.trans ((hZ.out.trans (h.mono hZ.out.size)).mono hBW0.out.size)))
            have C16 := Lib.hid (fun w' (h : Bel wz w') => CT.out w' (hBW0.out.trans ((hZ.out.trans (h.mono hZ.out.size)).mono hBW0.out.size)))
            have C18 := Lib.hid (fun w' (h : Bel wz w') => NM.out w' (hBW0.out.trans ((hZ.out.trans (h.mono hZ.out.size)).mono hBW0.out.size)))
            have C11 := Lib.hid (fun w' (h : Bel wz w') => RR.out w' (hZ.out.trans (h.mono hZ.out.size)))
            have hSR := Lib.hid (fun w' (h : Bel wz w') => hSR0.out w' (hZ.out.trans (h.mono hZ.out.size)))
            unfold GivesStrs at C18
            clear RT TX DP CT NM RR
            have hfin := Lib.hid (hb0.out.trans ((hBW0.out.trans (hZ.out.mono hBW0.out.size)).mono hb0.out.size))
            clear hZ hBW0 hbn hbm hSR0 hb0 m0 m1 m2 m3 m4 m5 m6 m7 m8 x0 x1 x2 x3 x4 x5 x6 x7 x8 hw3 hw4 hj hlt hlt0 hi hz0 hz1 hz2 hSl
            refine wp_region_held_drew (S := Bel wz) (by kernel_rfl) (Bel.drew (Bel.refl _)) (fun hHeld => ?_)
            refine wpAnyH_take (i := 0) (v := ?v0u1) rfl (by kernel_rfl) (by kernel_rfl) (by kernel_rfl) (fun _ _ _ h => h) (Or.inl ⟨by rfl, ?h0u1⟩) hHeld ?r0u1
            case h0u1 => (intro wq hSw; have hk := cells_of (kept_row hbnz.out hSw); have y0 := (hk 0 _ rfl).1; have y1 := (hk 1 _ rfl).1; have y2 := (hk 2 _ rfl).1; have y3 := (hk 3 _ rfl).1; have y4 := (hk 4 _ rfl).1; have y5 := (hk 5 _ rfl).1; have y6 := (hk 6 _ rfl).1; have y7 := (hk 7 _ rfl).1; have y8 := (hk 8 _ rfl).1; clear hk; go_simp <;> with_reducible rfl)
            try simp only [Act.put, List.setIfInBounds_toArray]
            refine wpAnyH_take (i := 2) (v := ?v2u2) rfl (by kernel_rfl) (by kernel_rfl) (by kernel_rfl) (fun _ _ _ h => h) (Or.inl ⟨by rfl, ?h2u2⟩) hHeld ?r2u2
            case h2u2 => (intro wq hSw; have hk := cells_of (kept_row hbmz.out hSw); have y0 := (hk 0 _ rfl).1; have y1 := (hk 1 _ rfl).1; have y2 := (hk 2 _ rfl).1; have y3 := (hk 3 _ rfl).1; have y4 := (hk 4 _ rfl).1; have y5 := (hk 5 _ rfl).1; have y6 := (hk 6 _ rfl).1; have y7 := (hk 7 _ rfl).1; have y8 := (hk 8 _ rfl).1; clear hk; go_simp <;> with_reducible rfl)
            try simp only [Act.put]
            refine wpAnyH_ready (rs := [1]) (by kernel_rfl) (by simp) ?_
            refine AllReadyH.cons (o := _) rfl (fun K hK => ?_) AllReadyH.nil
            go_simp
            (go_at_call 13; (with_reducible refine (C13.out _ hHeld).mono ?_); rintro e w9 ⟨rfl, hb⟩)
            try dsimp only
            refine hK.out _ _ (Bel.step hHeld hb) (fun hHeld2 => ?_)
            clear hK K hHeld
            have hHeld := hHeld2
            clear hHeld2
            try simp only [Act.put, List.setIfInBounds_toArray, List.set_cons_zero, List.set_cons_succ]
            refine wpAnyH_ready (rs := [3]) (by kernel_rfl) (by simp) ?_
            refine AllReadyH.cons (o := _) rfl (fun K hK => ?_) AllReadyH.nil
            go_simp
            (go_at_call 11; (with_reducible refine (C11.out _ hHeld).mono ?_); rintro e w9 ⟨rfl, hb⟩)
            try dsimp only
            refine hK.out _ _ (Bel.step hHeld hb) (fun hHeld2 => ?_)
            clear hK K hHeld
            have hHeld := hHeld2
            clear hHeld2
            try simp only [Act.put, List.setIfInBounds_toArray, List.set_cons_zero, List.set_cons_succ]
            refine wpAnyH_take (i := 4) (v := ?v4u3) rfl (by kernel_rfl) (by kernel_rfl) (by kernel_rfl) (fun _ _ _ h => h) (Or.inl ⟨by rfl, ?h4u3⟩) hHeld ?r4u3
            case h4u3 => (intro wq hSw; go_simp <;> with_reducible rfl)
            try simp only [Act.put, List.setIfInBounds_toArray]
            refine wpAnyH_take (i := 5) (v := ?v5u4) rfl (by kernel_rfl) (by kernel_rfl) (by kernel_rfl) (fun _ _ _ h => h) (Or.inl ⟨by rfl, ?h5u4⟩) hHeld ?r5u4
            case h5u4 => (intro wq hSw; go_simp <;> with_reducible rfl)
            try simp only [Act.put]
            refine wpAnyH_take (i := 6) (v := ?v6u5) rfl (by kernel_rfl) (by kernel_rfl) (by kernel_rfl) (fun _ _ _ h => h) (Or.inl ⟨by rfl, ?h6u5⟩) hHeld ?r6u5
            case h6u5 => (intro wq hSw; have hk := cells_of (kept_row hbnz.out hSw); have y0 := (hk 0 _ rfl).1; have y1 := (hk 1 _ rfl).1; have y2 := (hk 2 _ rfl).1; have y3 := (hk 3 _ rfl).1; have y4 := (hk 4 _ rfl).1; have y5 := (hk 5 _ rfl).1; have y6 := (hk 6 _ rfl).1; have y7 := (hk 7 _ rfl).1; have y8 := (hk 8 _ rfl).1; clear hk; go_simp <;> with_reducible rfl)
            try simp only [Act.put]
            refine wpAnyH_take (i := 8) (v := ?v8u6) rfl (by kernel_rfl) (by kernel_rfl) (by kernel_rfl) (fun _ _ _ h => h) (Or.inl ⟨by rfl, ?h8u6⟩) hHeld ?r8u6
            case h8u6 => (intro wq hSw; go_simp <;> with_reducible rfl)
            try simp only [Act.put]
            refine wpAnyH_ready (rs := [7]) (by kernel_rfl) (by simp) ?_
            refine AllReadyH.cons (o := _) rfl (fun K hK => ?_) AllReadyH.nil
            go_simp
            (go_at_call 14; (with_reducible refine (C14.out _ hHeld).mono ?_); rintro e w9 ⟨rfl, hb⟩)
            try dsimp only
            refine hK.out _ _ (Bel.step hHeld hb) (fun hHeld2 => ?_)
            clear hK K hHeld
            have hHeld := hHeld2
            clear hHeld2
            try simp only [Act.put, List.setIfInBounds_toArray, List.set_cons_zero, List.set_cons_succ]
            refine wpAnyH_take (i := 9) (v := ?v9u7) rfl (by kernel_rfl) (by kernel_rfl) (by kernel_rfl) (fun _ _ _ h => h) (Or.inl ⟨by rfl, ?h9u7⟩) hHeld ?r9u7
            case h9u7 => (intro wq hSw; go_simp <;> with_reducible rfl)
            try simp only [Act.put, List.setIfInBounds_toArray]
            refine wpAnyH_take (i := 10) (v := ?v10u8) rfl (by kernel_rfl) (by kernel_rfl) (by kernel_rfl) (fun _ _ _ h => h) (Or.inl ⟨by rfl, ?h10u8⟩) hHeld ?r10u8
            case h10u8 => (intro wq hSw; go_simp <;> with_reducible rfl)
            try simp only [Act.put]
            refine wpAnyH_take (i := 11) (v := ?v11u9) rfl (by kernel_rfl) (by kernel_rfl) (by kernel_rfl) (fun _ _ _ h => h) (Or.inl ⟨by rfl, ?h11u9⟩) hHeld ?r11u9
            case h11u9 => (intro wq hSw; go_simp <;> with_reducible rfl)
            try simp only [Act.put]
            refine wpAnyH_take (i := 12) (v := ?v12u10) rfl (by kernel_rfl) (by kernel_rfl) (by kernel_rfl) (fun _ _ _ h => h) (Or.inl ⟨by rfl, ?h12u10⟩) hHeld ?r12u10
            case h12u10 => (intro wq hSw; have hk := cells_of (kept_row hbnz.out hSw); have y0 := (hk 0 _ rfl).1; have y1 := (hk 1 _ rfl).1; have y2 := (hk 2 _ rfl).1; have y3 := (hk 3 _ rfl).1; have y4 := (hk 4 _ rfl).1; have y5 := (hk 5 _ rfl).1; have y6 := (hk 6 _ rfl).1; have y7 := (hk 7 _ rfl).1; have y8 := (hk 8 _ rfl).1; clear hk; go_simp <;> with_reducible rfl)
            try simp only [Act.put]
            refine wpAnyH_take (i := 14) (v := ?v14u11) rfl (by kernel_rfl) (by kernel_rfl) (by kernel_rfl) (fun _ _ _ h => h) (Or.inl ⟨by rfl, ?h14u11⟩) hHeld ?r14u11
            case h14u11 => (intro wq hSw; go_simp <;> with_reducible rfl)
            try simp only [Act.put]
            refine wpAnyH_ready (rs := [13]) (by kernel_rfl) (by simp) ?_
            refine AllReadyH.cons (o := _) rfl (fun K hK => ?_) AllReadyH.nil
            go_simp
            (go_at_call 15; (with_reducible refine (C15.out _ hHeld).mono ?_); rintro e w9 ⟨rfl, hb⟩)
            try dsimp only
            refine hK.out _ _ (Bel.step hHeld hb) (fun hHeld2 => ?_)
            clear hK K hHeld
            have hHeld := hHeld2
            clear hHeld2
            try simp only [Act.put, List.setIfInBounds_toArray, List.set_cons_zero, List.set_cons_succ]
            refine wpAnyH_take (i := 15) (v := ?v15u12) rfl (by kernel_rfl) (by kernel_rfl) (by kernel_rfl) (fun _ _ _ h => h) (Or.inl ⟨by rfl, ?h15u12⟩) hHeld ?r15u12
            case h15u12 => (intro wq hSw; go_simp <;> with_reducible rfl)
            try simp only [Act.put, List.setIfInBounds_toArray]
            refine wpAnyH_take (i := 16) (v := ?v16u13) rfl (by kernel_rfl) (by kernel_rfl) (by kernel_rfl) (fun _ _ _ h => h) (Or.inl ⟨by rfl, ?h16u13⟩) hHeld ?r16u13
            case h16u13 => (intro wq hSw; go_simp <;> with_reducible rfl)
            try simp only [Act.put]
            refine wpAnyH_take (i := 17) (v := ?v17u14) rfl (by kernel_rfl) (by kernel_rfl) (by kernel_rfl) (fun _ _ _ h => h) (Or.inl ⟨by rfl, ?h17u14⟩) hHeld ?r17u14
            case h17u14 => (intro wq hSw; go_simp <;> with_reducible rfl)
            try simp only [Act.put]
            refine wpAnyH_take (i := 18) (v := ?v18u15) rfl (by kernel_rfl) (by kernel_rfl) (by kernel_rfl) (fun _ _ _ h => h) (Or.inl ⟨by rfl, ?h18u15⟩) hHeld ?r18u15
            case h18u15 => (intro wq hSw; have hk := cells_of (kept_row hbnz.out hSw); have y0 := (hk 0 _ rfl).1; have y1 := (hk 1 _ rfl).1; have y2 := (hk 2 _ rfl).1; have y3 := (hk 3 _ rfl).1; have y4 := (hk 4 _ rfl).1; have y5 := (hk 5 _ rfl).1; have y6 := (hk 6 _ rfl).1; have y7 := (hk 7 _ rfl).1; have y8 := (hk 8 _ rfl).1; clear hk; go_simp <;> with_reducible rfl)
            try simp only [Act.put]
            refine wpAnyH_take (i := 20) (v := ?v20u16) rfl (by kernel_rfl) (by kernel_rfl) (by kernel_rfl) (fun _ _ _ h => h) (Or.inl ⟨by rfl, ?h20u16⟩) hHeld ?r20u16
            case h20u16 => (intro wq hSw; go_simp <;> with_reducible rfl)
            try simp only [Act.put]
            refine wpAnyH_take (i := 21) (v := ?v21u17) rfl (by kernel_rfl) (by kernel_rfl) (by kernel_rfl) (fun _ _ _ h => h) (Or.inl ⟨by rfl, ?h21u17⟩) hHeld ?r21u17
            case h21u17 => (intro wq hSw; go_simp <;> with_reducible rfl)
            try simp only [Act.put]
            refine wpAnyH_ready (rs := [19]) (by kernel_rfl) (by simp) ?_
            refine AllReadyH.cons (o := _) rfl (fun K hK => ?_) AllReadyH.nil
            go_simp
            (go_at_call 16; (with_reducible refine (C16.out _ hHeld).mono ?_); rintro e w9 ⟨rfl, hb⟩)
            try dsimp only
            refine hK.out _ _ (Bel.step hHeld hb) (fun hHeld2 => ?_)
            clear hK K hHeld
            have hHeld := hHeld2
            clear hHeld2
            try simp only [Act.put, List.setIfInBounds_toArray, List.set_cons_zero, List.set_cons_succ]
            refine wpAnyH_take (i := 22) (v := ?v22u18) rfl (by kernel_rfl) (by kernel_rfl) (by kernel_rfl) (fun _ _ _ h => h) (Or.inl ⟨by rfl, ?h22u18⟩) hHeld ?r22u18
            case h22u18 => (intro wq hSw; go_simp <;> with_reducible rfl)
            try simp only [Act.put, List.setIfInBounds_toArray]
            refine wpAnyH_take (i := 23) (v := ?v23u19) rfl (by kernel_rfl) (by kernel_rfl) (by kernel_rfl) (fun _ _ _ h => h) (Or.inl ⟨by rfl, ?h23u19⟩) hHeld ?r23u19
            case h23u19 => (intro wq hSw; go_simp <;> with_reducible rfl)
            try simp only [Act.put]
            refine wpAnyH_take (i := 24) (v := ?v24u20) rfl (by kernel_rfl) (by kernel_rfl) (by kernel_rfl) (fun _ _ _ h => h) (Or.inl ⟨by rfl, ?h24u20⟩) hHeld ?r24u20
            case h24u20 => (intro wq hSw; go_simp <;> with_reducible rfl)
            try simp only [Act.put]
            refine wpAnyH_take (i := 25) (v := ?v25u21) rfl (by kernel_rfl) (by kernel_rfl) (by kernel_rfl) (fun _ _ _ h => h) (Or.inl ⟨by rfl, ?h25u21⟩) hHeld ?r25u21
            case h25u21 => (intro wq hSw; have hk := cells_of (kept_row hbnz.out hSw); have y0 := (hk 0 _ rfl).1; have y1 := (hk 1 _ rfl).1; have y2 := (hk 2 _ rfl).1; have y3 := (hk 3 _ rfl).1; have y4 := (hk 4 _ rfl).1; have y5 := (hk 5 _ rfl).1; have y6 := (hk 6 _ rfl).1; have y7 := (hk 7 _ rfl).1; have y8 := (hk 8 _ rfl).1; clear hk; go_simp <;> with_reducible rfl)
            try simp only [Act.put]
            refine wpAnyH_take (i := 27) (v := ?v27u22) rfl (by kernel_rfl) (by kernel_rfl) (by kernel_rfl) (fun _ _ _ h => h) (Or.inl ⟨by rfl, ?h27u22⟩) hHeld ?r27u22
            case h27u22 => (intro wq hSw; go_simp <;> with_reducible rfl)
            try simp only [Act.put]
            refine wpAnyH_ready (rs := [26]) (by kernel_rfl) (by simp) ?_
            refine AllReadyH.cons (o := _) rfl (fun K hK => ?_) AllReadyH.nil
            go_simp
            (go_at_call 18; (with_reducible refine (C18.out _ hHeld).mono ?_); rintro e w9 ⟨pN, cN, rfl, hrN, hb⟩; rw [hLn.out]; replace hrN := Lib.hid hrN)
            try dsimp only
            refine hK.out _ _ (Bel.step hHeld hb) (fun hHeld2 => ?_)
            clear hK K hHeld
            have hHeld := hHeld2
            clear hHeld2
            try simp only [Act.put, List.setIfInBounds_toArray, List.set_cons_zero, List.set_cons_succ]
            refine wpAnyH_ready (rs := [28]) (by kernel_rfl) (by simp) ?_
            refine AllReadyH.cons (o := _) rfl (fun K hK => ?_) AllReadyH.nil
            go_simp
            (go_at_call 17; (with_reducible refine (sameTexts_in _ hLn.out hn6 hrN.out (hSR.out _ hHeld)).mono ?_); rintro e w9 ⟨rfl, hb⟩)
            try dsimp only
            refine hK.out _ _ (Bel.step hHeld hb) (fun hHeld2 => ?_)
            clear hK K hHeld
            have hHeld := hHeld2
            clear hHeld2
            try simp only [Act.put, List.setIfInBounds_toArray, List.set_cons_zero, List.set_cons_succ]
            refine wpAnyH_take (i := 29) (v := ?v29u23) rfl (by kernel_rfl) (by kernel_rfl) (by kernel_rfl) (fun _ _ _ h => h) (Or.inl ⟨by rfl, ?h29u23⟩) hHeld ?r29u23
            case h29u23 => (intro wq hSw; go_simp <;> with_reducible rfl)
            try simp only [Act.put, List.setIfInBounds_toArray]
            refine wpAnyH_ready (rs := [30]) (by kernel_rfl) (by simp) ?_
            refine AllReadyH.cons (o := _) rfl (fun K hK => ?_) AllReadyH.nil
            go_simp
            try dsimp only
            refine hK.out _ _ (hHeld) (fun hHeld2 => ?_)
            clear hK K hHeld
            have hHeld := hHeld2
            clear hHeld2
            try simp only [Act.put, List.setIfInBounds_toArray, List.set_cons_zero, List.set_cons_succ]
            refine wpAnyH_done (by kernel_rfl) ?_ _
            go_wp2
            go_ret
            exact ⟨ret_bool (by simp), hfin.out.trans (Below.mono hHeld hfin.out.size)⟩

          | false =>
            have hR3' := hR3 rfl
            subst hR3'
            clear hR1 hR2 hR3 hmw hstr hm3 hm4 hbx3 hB hb4 hBr hBq hSS hRR cW hpg hpc hbox
            go_wp2_with (first | (go_at_call 11; (with_reducible refine (RR.out _ hZ.out).mono ?_); rintro e w5 ⟨rfl, hb⟩; replace hZ := Lib.hid (hZ.out.trans (hb.mono hZ.out.size)); clear m0 m1 m2 m3 m4 m5 m6 m7 m8; have hk := cells_of ((hZ.out.block _ (Array.getElem?_eq_some_iff.1 hbm.out).1).trans hbm.out); have m0 := (hk 0 _ rfl).1; have m1 := (hk 1 _ rfl).1; have m2 := (hk 2 _ rfl).1; have m3 := (hk 3 _ rfl).1; have m4 := (hk 4 _ rfl).1; have m5 := (hk 5 _ rfl).1; have m6 := (hk 6 _ rfl).1; have m7 := (hk 7 _ rfl).1; have m8 := (hk 8 _ rfl).1; clear hk hb) | (go_at_call 11; (with_reducible refine (RR.out _ hZ.out).mono ?_); rintro e w5 ⟨rfl, hb⟩; replace hZ := Lib.hid (hZ.out.trans (hb.mono hZ.out.size)); clear m0 m1 m2 m3 m4 m5 m6 m7 m8; have hk := cells_of ((hZ.out.block _ (Array.getElem?_eq_some_iff.1 hbm.out).1).trans hbm.out); have m0 := (hk 0 _ rfl).1; have m1 := (hk 1 _ rfl).1; have m2 := (hk 2 _ rfl).1; have m3 := (hk 3 _ rfl).1; have m4 := (hk 4 _ rfl).1; have m5 := (hk 5 _ rfl).1; have m6 := (hk 6 _ rfl).1; have m7 := (hk 7 _ rfl).1; have m8 := (hk 8 _ rfl).1; clear hk hb))
            rename World => wz
            have hbnz := Lib.hid ((hZ.out.block _ (Array.getElem?_eq_some_iff.1 hbn.out).1).trans hbn.out)
            have hbmz := Lib.hid ((hZ.out.block _ (Array.getElem?_eq_some_iff.1 hbm.out).1).trans hbm.out)
            have C13 := Lib.hid (fun w' (h : Bel wz w') => RT.out w' (hBW0.out.trans ((hZ.out.trans (h.mono hZ.out.size)).mono hBW0.out.size)))
            have C14 := Lib.hid (fun w' (h : Bel wz w') => TX.out w' (hBW0.out.trans ((hZ.out.trans (h.mono hZ.out.size)).mono hBW0.out.size)))
            have C15 := Lib.hid (fun w' (h : Bel wz w') => DP.out w' (hBW0.out.trans ((hZ.out.trans (h.mono hZ.out.size)).mono hBW0.out.size)))
            have C16 := Lib.hid (fun w' (h : Bel wz w') => CT.out w' (hBW0.out.trans ((hZ.out.trans (h.mono hZ.out.size)).mono hBW0.out.size)))
            have C18 := Lib.hid (fun w' (h : Bel wz w') => NM.out w' (hBW0.out.trans ((hZ.out.trans (h.mono hZ.out.size)).mono hBW0.out.size)))
            have C11 := Lib.hid (fun w' (h : Bel wz w') => RR.out w' (hZ.out.trans (h.mono hZ.out.size)))
            have hSR := Lib.hid (fun w' (h : Bel wz w') => hSR0.out w' (hZ.out.trans (h.mono hZ.out.size)))
            unfold GivesStrs at C18
            clear RT TX DP CT NM RR
            have hfin := Lib.hid (hb0.out.trans ((hBW0.out.trans (hZ.out.mono hBW0.out.size)).mono hb0.out.size))
            clear hZ hBW0 hbn hbm hSR0 hb0 m0 m1 m2 m3 m4 m5 m6 m7 m8 x0 x1 x2 x3 x4 x5 x6 x7 x8 hw3 hw4 hj hlt hlt0 hi hz0 hz1 hz2 hSl
            refine wp_region_held_drew (S := Bel wz) (by kernel_rfl) (Bel.drew (Bel.refl _)) (fun hHeld => ?_)
            refine wpAnyH_take (i := 0) (v := ?v0u24) rfl (by kernel_rfl) (by kernel_rfl) (by kernel_rfl) (fun _ _ _ h => h) (Or.inl ⟨by rfl, ?h0u24⟩) hHeld ?r0u24
            case h0u24 => (intro wq hSw; have hk := cells_of (kept_row hbnz.out hSw); have y0 := (hk 0 _ rfl).1; have y1 := (hk 1 _ rfl).1; have y2 := (hk 2 _ rfl).1; have y3 := (hk 3 _ rfl).1; have y4 := (hk 4 _ rfl).1; have y5 := (hk 5 _ rfl).1; have y6 := (hk 6 _ rfl).1; have y7 := (hk 7 _ rfl).1; have y8 := (hk 8 _ rfl).1; clear hk; go_simp <;> with_reducible rfl)
            try simp only [Act.put, List.setIfInBounds_toArray]
            refine wpAnyH_take (i := 2) (v := ?v2u25) rfl (by kernel_rfl) (by kernel_rfl) (by kernel_rfl) (fun _ _ _ h => h) (Or.inl ⟨by rfl, ?h2u25⟩) hHeld ?r2u25
            case h2u25 => (intro wq hSw; have hk := cells_of (kept_row hbmz.out hSw); have y0 := (hk 0 _ rfl).1; have y1 := (hk 1 _ rfl).1; have y2 := (hk 2 _ rfl).1; have y3 := (hk 3 _ rfl).1; have y4 := (hk 4 _ rfl).1; have y5 := (hk 5 _ rfl).1; have y6 := (hk 6 _ rfl).1; have y7 := (hk 7 _ rfl).1; have y8 := (hk 8 _ rfl).1; clear hk; go_simp <;> with_reducible rfl)
            try simp only [Act.put]
            refine wpAnyH_ready (rs := [1]) (by kernel_rfl) (by simp) ?_
            refine AllReadyH.cons (o := _) rfl (fun K hK => ?_) AllReadyH.nil
            go_simp
            (go_at_call 13; (with_reducible refine (C13.out _ hHeld).mono ?_); rintro e w9 ⟨rfl, hb⟩)
            try dsimp only
            refine hK.out _ _ (Bel.step hHeld hb) (fun hHeld2 => ?_)
            clear hK K hHeld
            have hHeld := hHeld2
            clear hHeld2
            try simp only [Act.put, List.setIfInBounds_toArray, List.set_cons_zero, List.set_cons_succ]
            refine wpAnyH_ready (rs := [3]) (by kernel_rfl) (by simp) ?_
            refine AllReadyH.cons (o := _) rfl (fun K hK => ?_) AllReadyH.nil
            go_simp
            (go_at_call 11; (with_reducible refine (C11.out _ hHeld).mono ?_); rintro e w9 ⟨rfl, hb⟩)
            try dsimp only
            refine hK.out _ _ (Bel.step hHeld hb) (fun hHeld2 => ?_)
            clear hK K hHeld
            have hHeld := hHeld2
            clear hHeld2
            try simp only [Act.put, List.setIfInBounds_toArray, List.set_cons_zero, List.set_cons_succ]
            refine wpAnyH_take (i := 4) (v := ?v4u26) rfl (by kernel_rfl) (by kernel_rfl) (by kernel_rfl) (fun _ _ _ h => h) (Or.inl ⟨by rfl, ?h4u26⟩) hHeld ?r4u26
            case h4u26 => (intro wq hSw; go_simp <;> with_reducible rfl)
            try simp only [Act.put, List.setIfInBounds_toArray]
            refine wpAnyH_take (i := 5) (v := ?v5u27) rfl (by kernel_rfl) (by kernel_rfl) (by kernel_rfl) (fun _ _ _ h => h) (Or.inl ⟨by rfl, ?h5u27⟩) hHeld ?r5u27
            case h5u27 => (intro wq hSw; go_simp <;> with_reducible rfl)
            try simp only [Act.put]
            refine wpAnyH_take (i := 6) (v := ?v6u28) rfl (by kernel_rfl) (by kernel_rfl) (by kernel_rfl) (fun _ _ _ h => h) (Or.inl ⟨by rfl, ?h6u28⟩) hHeld ?r6u28
            case h6u28 => (intro wq hSw; have hk := cells_of (kept_row hbnz.out hSw); have y0 := (hk 0 _ rfl).1; have y1 := (hk 1 _ rfl).1; have y2 := (hk 2 _ rfl).1; have y3 := (hk 3 _ rfl).1; have y4 := (hk 4 _ rfl).1; have y5 := (hk 5 _ rfl).1; have y6 := (hk 6 _ rfl).1; have y7 := (hk 7 _ rfl).1; have y8 := (hk 8 _ rfl).1; clear hk; go_simp <;> with_reducible rfl)
            try simp only [Act.put]
            refine wpAnyH_take (i := 8) (v := ?v8u29) rfl (by kernel_rfl) (by kernel_rfl) (by kernel_rfl) (fun _ _ _ h => h) (Or.inl ⟨by rfl, ?h8u29⟩) hHeld ?r8u29
            case h8u29 => (intro wq hSw; go_simp <;> with_reducible rfl)
            try simp only [Act.put]
            refine wpAnyH_ready (rs := [7]) (by kernel_rfl) (by simp) ?_
            refine AllReadyH.cons (o := _) rfl (fun K hK => ?_) AllReadyH.nil
            go_simp
            (go_at_call 14; (with_reducible refine (C14.out _ hHeld).mono ?_); rintro e w9 ⟨rfl, hb⟩)
            try dsimp only
            refine hK.out _ _ (Bel.step hHeld hb) (fun hHeld2 => ?_)
            clear hK K hHeld
            have hHeld := hHeld2
            clear hHeld2
            try simp only [Act.put, List.setIfInBounds_toArray, List.set_cons_zero, List.set_cons_succ]
            refine wpAnyH_take (i := 9) (v := ?v9u30) rfl (by kernel_rfl) (by kernel_rfl) (by kernel_rfl) (fun _ _ _ h => h) (Or.inl ⟨by rfl, ?h9u30⟩) hHeld ?r9u30
            case h9u30 => (intro wq hSw; go_simp <;> with_reducible rfl)
            try simp only [Act.put, List.setIfInBounds_toArray]
            refine wpAnyH_take (i := 10) (v := ?v10u31) rfl (by kernel_rfl) (by kernel_rfl) (by kernel_rfl) (fun _ _ _ h => h) (Or.inl ⟨by rfl, ?h10u31⟩) hHeld ?r10u31
            case h10u31 => (intro wq hSw; go_simp <;> with_reducible rfl)
            try simp only [Act.put]
            refine wpAnyH_take (i := 11) (v := ?v11u32) rfl (by kernel_rfl) (by kernel_rfl) (by kernel_rfl) (fun _ _ _ h => h) (Or.inl ⟨by rfl, ?h11u32⟩) hHeld ?r11u32
            case h11u32 => (intro wq hSw; go_simp <;> with_reducible rfl)
            try simp only [Act.put]
            refine wpAnyH_take (i := 12) (v := ?v12u33) rfl (by kernel_rfl) (by kernel_rfl) (by kernel_rfl) (fun _ _ _ h => h) (Or.inl ⟨by rfl, ?h12u33⟩) hHeld ?r12u33
            case h12u33 => (intro wq hSw; have hk := cells_of (kept_row hbnz.out hSw); have y0 := (hk 0 _ rfl).1; have y1 := (hk 1 _ rfl).1; have y2 := (hk 2 _ rfl).1; have y3 := (hk 3 _ rfl).1; have y4 := (hk 4 _ rfl).1; have y5 := (hk 5 _ rfl).1; have y6 := (hk 6 _ rfl).1; have y7 := (hk 7 _ rfl).1; have y8 := (hk 8 _ rfl).1; clear hk; go_simp <;> with_reducible rfl)
            try simp only [Act.put]
            refine wpAnyH_take (i := 14) (v := ?v14u34) rfl (by kernel_rfl) (by kernel_rfl) (by kernel_rfl) (fun _ _ _ h => h) (Or.inl ⟨by rfl, ?h14u34⟩) hHeld ?r14u34
            case h14u34 => (intro wq hSw; go_simp <;> with_reducible rfl)
            try simp only [Act.put]
            refine wpAnyH_ready (rs := [13]) (by kernel_rfl) (by simp) ?_
            refine AllReadyH.cons (o := _) rfl (fun K hK => ?_) AllReadyH.nil
            go_simp
            (go_at_call 15; (with_reducible refine (C15.out _ hHeld).mono ?_); rintro e w9 ⟨rfl, hb⟩)
            try dsimp only
            refine hK.out _ _ (Bel.step hHeld hb) (fun hHeld2 => ?_)
            clear hK K hHeld
            have hHeld := hHeld2
            clear hHeld2
            try simp only [Act.put, List.setIfInBounds_toArray, List.set_cons_zero, List.set_cons_succ]
            refine wpAnyH_take (i := 15) (v := ?v15u35) rfl (by kernel_rfl) (by kernel_rfl) (by kernel_rfl) (fun _ _ _ h => h) (Or.inl ⟨by rfl, ?h15u35⟩) hHeld ?r15u35
            case h15u35 => (intro wq hSw; go_simp <;> with_reducible rfl)
            try simp only [Act.put, List.setIfInBounds_toArray]
            refine wpAnyH_take (i := 16) (v := ?v16u36) rfl (by kernel_rfl) (by kernel_rfl) (by kernel_rfl) (fun _ _ _ h => h) (Or.inl ⟨by rfl, ?h16u36⟩) hHeld ?r16u36
            case h16u36 => (intro wq hSw; go_simp <;> with_reducible rfl)
            try simp only [Act.put]
            refine wpAnyH_take (i := 17) (v := ?v17u37) rfl (by kernel_rfl) (by kernel_rfl) (by kernel_rfl) (fun _ _ _ h => h) (Or.inl ⟨by rfl, ?h17u37⟩) hHeld ?r17u37
            case h17u37 => (intro wq hSw; go_simp <;> with_reducible rfl)
            try simp only [Act.put]
            refine wpAnyH_take (i := 18) (v := ?v18u38) rfl (by kernel_rfl) (by kernel_rfl) (by kernel_rfl) (fun _ _ _ h => h) (Or.inl ⟨by rfl, ?h18u38⟩) hHeld ?r18u38
            case h18u38 => (intro wq hSw; have hk := cells_of (kept_row hbnz.out hSw); have y0 := (hk 0 _ rfl).1; have y1 := (hk 1 _ rfl).1; have y2 := (hk 2 _ rfl).1; have y3 := (hk 3 _ rfl).1; have y4 := (hk 4 _ rfl).1; have y5 := (hk 5 _ rfl).1; have y6 := (hk 6 _ rfl).1; have y7 := (hk 7 _ rfl).1; have y8 := (hk 8 _ rfl).1; clear hk; go_simp <;> with_reducible rfl)
            try simp only [Act.put]
            refine wpAnyH_take (i := 20) (v := ?v20u39) rfl (by kernel_rfl) (by kernel_rfl) (by kernel_rfl) (fun _ _ _ h => h) (Or.inl ⟨by rfl, ?h20u39⟩) hHeld ?r20u39
            case h20u39 => (intro wq hSw; go_simp <;> with_reducible rfl)
            try simp only [Act.put]
            refine wpAnyH_take (i := 21) (v := ?v21u40) rfl (by kernel_rfl) (by kernel_rfl) (by kernel_rfl) (fun _ _ _ h => h) (Or.inl ⟨by rfl, ?h21u40⟩) hHeld ?r21u40
            case h21u40 => (intro wq hSw; go_simp <;> with_reducible rfl)
            try simp only [Act.put]
            refine wpAnyH_ready (rs := [19]) (by kernel_rfl) (by simp) ?_
            refine AllReadyH.cons (o := _) rfl (fun K hK => ?_) AllReadyH.nil
            go_simp
            (go_at_call 16; (with_reducible refine (C16.out _ hHeld).mono ?_); rintro e w9 ⟨rfl, hb⟩)
            try dsimp only
            refine hK.out _ _ (Bel.step hHeld hb) (fun hHeld2 => ?_)
            clear hK K hHeld
            have hHeld := hHeld2
            clear hHeld2
            try simp only [Act.put, List.setIfInBounds_toArray, List.set_cons_zero, List.set_cons_succ]
            refine wpAnyH_take (i := 22) (v := ?v22u41) rfl (by kernel_rfl) (by kernel_rfl) (by kernel_rfl) (fun _ _ _ h => h) (Or.inl ⟨by rfl, ?h22u41⟩) hHeld ?r22u41
            case h22u41 => (intro wq hSw; go_simp <;> with_reducible rfl)
            try simp only [Act.put, List.setIfInBounds_toArray]
            refine wpAnyH_take (i := 23) (v := ?v23u42) rfl (by kernel_rfl) (by kernel_rfl) (by kernel_rfl) (fun _ _ _ h => h) (Or.inl ⟨by rfl, ?h23u42⟩) hHeld ?r23u42
            case h23u42 => (intro wq hSw; go_simp <;> with_reducible rfl)
            try simp only [Act.put]
            refine wpAnyH_take (i := 24) (v := ?v24u43) rfl (by kernel_rfl) (by kernel_rfl) (by kernel_rfl) (fun _ _ _ h => h) (Or.inl ⟨by rfl, ?h24u43⟩) hHeld ?r24u43
            case h24u43 => (intro wq hSw; go_simp <;> with_reducible rfl)
            try simp only [Act.put]
            refine wpAnyH_take (i := 25) (v := ?v25u44) rfl (by kernel_rfl) (by kernel_rfl) (by kernel_rfl) (fun _ _ _ h => h) (Or.inl ⟨by rfl, ?h25u44⟩) hHeld ?r25u44
            case h25u44 => (intro wq hSw; have hk := cells_of (kept_row hbnz.out hSw); have y0 := (hk 0 _ rfl).1; have y1 := (hk 1 _ rfl).1; have y2 := (hk 2 _ rfl).1; have y3 := (hk 3 _ rfl).1; have y4 := (hk 4 _ rfl).1; have y5 := (hk 5 _ rfl).1; have y6 := (hk 6 _ rfl).1; have y7 := (hk 7 _ rfl).1; have y8 := (hk 8 _ rfl).1; clear hk; go_simp <;> with_reducible rfl)
            try simp only [Act.put]
            refine wpAnyH_take (i := 27) (v := ?v27u45) rfl (by kernel_rfl) (by kernel_rfl) (by kernel_rfl) (fun _ _ _ h => h) (Or.inl ⟨by rfl, ?h27u45⟩) hHeld ?r27u45
            case h27u45 => (intro wq hSw; go_simp <;> with_reducible rfl)
            try simp only [Act.put]
            refine wpAnyH_ready (rs := [26]) (by kernel_rfl) (by simp) ?_
            refine AllReadyH.cons (o := _) rfl (fun K hK => ?_) AllReadyH.nil
            go_simp
            (go_at_call 18; (with_reducible refine (C18.out _ hHeld).mono ?_); rintro e w9 ⟨pN, cN, rfl, hrN, hb⟩; rw [hLn.out]; replace hrN := Lib.hid hrN)
            try dsimp only
            refine hK.out _ _ (Bel.step hHeld hb) (fun hHeld2 => ?_)
            clear hK K hHeld
            have hHeld := hHeld2
            clear hHeld2
            try simp only [Act.put, List.setIfInBounds_toArray, List.set_cons_zero, List.set_cons_succ]
            refine wpAnyH_ready (rs := [28]) (by kernel_rfl) (by simp) ?_
            refine AllReadyH.cons (o := _) rfl (fun K hK => ?_) AllReadyH.nil
            go_simp
            (go_at_call 17; (with_reducible refine (sameTexts_in _ hLn.out hn6 hrN.out (hSR.out _ hHeld)).mono ?_); rintro e w9 ⟨rfl, hb⟩)
            try dsimp only
            refine hK.out _ _ (Bel.step hHeld hb) (fun hHeld2 => ?_)
            clear hK K hHeld
            have hHeld := hHeld2
            clear hHeld2
            try simp only [Act.put, List.setIfInBounds_toArray, List.set_cons_zero, List.set_cons_succ]
            refine wpAnyH_take (i := 29) (v := ?v29u46) rfl (by kernel_rfl) (by kernel_rfl) (by kernel_rfl) (fun _ _ _ h => h) (Or.inl ⟨by rfl, ?h29u46⟩) hHeld ?r29u46
            case h29u46 => (intro wq hSw; go_simp <;> with_reducible rfl)
            try simp only [Act.put, List.setIfInBounds_toArray]
            refine wpAnyH_ready (rs := [30]) (by kernel_rfl) (by simp) ?_
            refine AllReadyH.cons (o := _) rfl (fun K hK => ?_) AllReadyH.nil
            go_simp
            try dsimp only
            refine hK.out _ _ (hHeld) (fun hHeld2 => ?_)
            clear hK K hHeld
            have hHeld := hHeld2
            clear hHeld2
            try simp only [Act.put, List.setIfInBounds_toArray, List.set_cons_zero, List.set_cons_succ]
            refine wpAnyH_done (by kernel_rfl) ?_ _
            go_wp2
            go_ret
            exact ⟨ret_bool (by simp), hfin.out.trans (Below.mono hHeld hfin.out.size)⟩

end Go.Proofs.YtbkmoaollooomaaDoor
