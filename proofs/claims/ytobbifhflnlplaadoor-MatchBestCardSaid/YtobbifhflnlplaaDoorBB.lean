/- MatchBest: texts merged. -/
import Derived.Test.YtobbifhflnlplaaDoorBA
namespace Go.Proofs.YtobbifhflnlplaaDoor
open Lib (hid)
open Go.RowKit
open Go.Tree7
open S7
open S5 (nl nl_length nl_small at_nl nl_at Gives idx idx_at ix ix_no ix_yes)
theorem fst_range (g : Nat → Bool) : ∀ n, fst10 g n = -1 ∨ 0 ≤ fst10 g n
 | 0 => .inl rfl
 | n + 1 => by
  rw [fst10]
  have := fst_range g n
  split
  ·split <;> omega
  ·omega
set_option maxRecDepth 100000 in
set_option maxHeartbeats 8000000 in
theorem matchBest_main {w : World} {ks : List T} {p : Option Addr} {cap : Nat} (hrow : RowIn w p ks) (hin : ∀ x ∈ ks, T.In w w.heap.size x) (hk : ks.length ≤ 5) {a : Option Addr} {m c : Nat} {l : List Nat} (hs : Src w a m c l) (hm : m ≤ 12) (most : Int) (cA' : ∀ w', Bel w w' → Calls Tryd.prog 7 #[] w' fun e w'' => e = .returned (.bool true) ∧ Below w'.heap.size w' w'') :
  Calls Tryd.prog 4 #[.slice p ks.length cap, .slice a m c, .int .i64 most] w fun e w' => e = .returned (.bool true) ∧ Below w.heap.size w w' := by
 have hlm := hs.len
 have cA := hid (cA' w (Bel.refl _))
 obtain ⟨g, hg⟩ : ∃ g : Nat → Nat, ∀ j (h : j < ks.length), g j = lngT most m l ks[j] := ⟨fun j => if h : j < ks.length then lngT most m l ks[j] else 0, fun j h => by simp [h]⟩
 obtain ⟨f, hf⟩ : ∃ f : Nat → Bool, ∀ j (h : j < ks.length), f j = isB ks[j] l := ⟨fun j => if h : j < ks.length then isB ks[j] l else false, fun j h => by simp [h]⟩
 have cB : Hid (∀ W, Bel w W → Calls Tryd.prog 18 #[.slice p ks.length cap, .slice a m c, .int .i64 0, .int .i64 most] W fun e w' => e = .returned (.tuple #[.int .i64 ((bst g ks.length).1 : Nat), .int .i64 (bst g ks.length).2]) ∧ Below W.heap.size W w') := hid fun W hb =>
  best_in (fun i hi => by
   obtain ⟨b, o, e, hl, hc⟩ := hrow i hi
   exact ⟨b, o, e, Nat.lt_of_lt_of_le hl hb.size, fun j hj => (Below.cell (show Below w.heap.size w W from hb) (p := ⟨b, o + i * 9 + j, none⟩) hl).trans (hc j hj)⟩) (fun x hx => in_bel (hin x hx) hb) (by omega) (hs.bel hb) (by omega) most g hg
 have cL : Hid (∀ W, Bel w W → Calls Tryd.prog 19 #[.slice p ks.length cap, .slice a m c] W fun e w' => e = .returned (.int .i64 (fst10 f ks.length)) ∧ Below W.heap.size W w') := hid fun W hb =>
  least10_in (fun i hi => by
   obtain ⟨b, o, e, hl, hc⟩ := hrow i hi
   exact ⟨b, o, e, Nat.lt_of_lt_of_le hl hb.size, fun j hj => (Below.cell (show Below w.heap.size w W from hb) (p := ⟨b, o + i * 9 + j, none⟩) hl).trans (hc j hj)⟩) (fun x hx => in_bel (hin x hx) hb) (by omega) (hs.bel hb) (by omega) f hf
 have hb0 : Hid (bst g 0 = (0, -1)) := hid rfl
 have hbn : Hid (∀ j, bst g (j + 1) = if (bst g j).1 < g j then (g j, (j : Int)) else bst g j) := hid fun j => rfl
 have hf0 : Hid (fst10 f 0 = -1) := hid rfl
 have hfn : Hid (∀ j, fst10 f (j + 1) = if fst10 f j = -1 then (if f j = true then (j : Int) else -1) else fst10 f j) := hid fun j => rfl
 have hfr : Hid (∀ j, fst10 f j = -1 ∨ 0 ≤ fst10 f j) := hid (fst_range f)
 generalize bst g = B at *
 generalize fst10 f = E at *
 have g5 : ¬ ((ks.length : Nat) : Int) > 5 := by omega
 have g12 : ¬ ((m : Nat) : Int) > 12 := by omega
 replace hrow := hid hrow
 replace hin := hid hin
 replace hs := hid hs
 replace hg := hid hg
 replace hf := hid hf
 clear cA'
 go_enter Tryd.func4, Tryd.ntmps4
 go_wp2_with (go_at_call 7; (with_reducible refine cA.out.mono ?_); rintro e w1 ⟨rfl, hb⟩; have hq1 := hid (show Bel w w1 from hb); clear hb)
 go_loopw [7, 8, 9, 31] (fun x y z i wr => ∃ j : Nat, j ≤ ks.length ∧ i = .int .i64 j ∧ x = .int .i64 ((B j).1 : Nat) ∧ y = .int .i64 (B j).2 ∧ z = .int .i64 (E j) ∧ Hid (Bel w wr)) (fun _ _ _ i _ => ks.length - (intOf i).toNat)
 case atStart => exact ⟨0, Nat.zero_le _, rfl, by rw [hb0.out]; rfl, by rw [hb0.out], by rw [hf0.out], hq1⟩
 case round =>
  obtain ⟨j, hj, rfl, rfl, rfl, rfl, hB⟩ := hrel
  by_cases hlt : j < ks.length
  ·obtain ⟨b, o, rfl, hbl, hc⟩ := hrow.out j hlt
   have hcl : ∀ q, q < 9 → wr.cell? ⟨b, o + j * 9 + q, none⟩ = (ks[j].cells)[q]? := fun q hq => (Below.cell (show Below w.heap.size w wr from hB.out) (p := ⟨b, o + j * 9 + q, none⟩) hbl).trans (hc q hq)
   have hTk := fun W (hb : Bel w W) => in_bel (hin.out ks[j] (List.getElem_mem hlt)) hb
   have hgj := hid (hg.out j hlt)
   have hfj := hid (hf.out j hlt)
   have hbj := hbn.out j
   have hej := hfn.out j
   have her := hfr.out j
   generalize hks : ks[j] = kd at *
   generalize B j = P at *
   obtain ⟨P1, P2⟩ := P
   generalize E j = Ej at *
   generalize g j = G at *
   generalize f j = Fj at *
   dsimp only at hbj ⊢
   have cLg := fun W (hb : Bel w W) => longest_in (hTk W hb) (hs.out.bel hb) (by omega) most
   have hkd : ∃ kd', kd' = kd := ⟨_, rfl⟩
   obtain ⟨kd', hkd'⟩ := hkd
   have hqK : Bel w (wr.alloc (.cells kd.cells.toArray 27)) := Bel.alloc hB.out _
   have hk9 := World.alloc_heap_new wr (.cells kd.cells.toArray 27)
   by_cases hz : kd.size < 60
   ·have cS : Hid (Calls Tryd.prog 8 #[.agg kd.cells.toArray, .int .i64 60] (wr.alloc (.cells kd.cells.toArray 27)) fun e w'' => ∃ m : T, e = .returned (.tuple #[.agg m.cells.toArray, .bool true]) ∧ Below (wr.alloc (.cells kd.cells.toArray 27)).heap.size (wr.alloc (.cells kd.cells.toArray 27)) w'' ∧ T.In w'' w''.heap.size m ∧ m.strip = kd.strip) := hid (small_room (n := 60) (hTk _ hqK) (by decide) hz)
    obtain ⟨K, hK⟩ : ∃ K, K = worksB kd := ⟨_, rfl⟩
    obtain ⟨SK, hSK⟩ : ∃ SK, SK = kd.strip := ⟨_, rfl⟩
    rw [← hSK] at cS
    have cW : Hid (∀ (mm : T) w', T.In w' w'.heap.size mm → mm.strip = SK → Calls Tryd.prog 11 #[.agg mm.cells.toArray] w' fun e w'' => e = .returned (.bool K) ∧ Below w'.heap.size w' w'') := hid fun mm w' h1 h2 => by
     have := works_in h1
     rw [← works_strip, h2, hSK, works_strip, ← hK] at this
     exact this
    have cLg : ∀ W, Bel w W → Calls Tryd.prog 17 #[.agg kd.cells.toArray, .slice a m c, .int .i64 0, .int .i64 most] W fun e w' => e = .returned (.int .i64 (G : Nat)) ∧ Below W.heap.size W w' := fun W hb => by
     rw [hgj.out]; exact cLg W hb
    cases K with
    | false =>
     have hG0 : G = 0 := by rw [hgj.out]; exact own_not hK.symm most
     have hF0 : Fj = false := by rw [hfj.out]; exact isB_no hK.symm l
     subst hG0 hF0
     have hb2 : Hid (B (j + 1) = (P1, P2)) := hid (by rw [hbj, if_neg (by omega)])
     have he2 : Hid (E (j + 1) = Ej) := hid (by
      rw [hej]
      by_cases h : Ej = -1
      ·rw [if_pos h, if_neg (by decide), h]
      ·rw [if_neg h])
     clear hTk hgj hfj hbj hej her hkd' hz hK hSK
     obtain ⟨kc, c0, c1, c2, c3, pc, capc, mnc, mxc, txc, ksc⟩ := kd
     simp only [T.cells] at hcl cS hqK hk9 cLg
     obtain ⟨q0, q1, q2, q3, q4, q5, q6, q7, q8⟩ := nine_of hcl
     obtain ⟨k0, k1, k2, k3, k4, k5, k6, k7, k8⟩ := c9 hk9
     clear hcl
     replace hk9 := hid hk9
     replace hqK := hid hqK
     replace cLg := hid cLg
     go_wp2_with (first | (go_at_call 8; ((with_reducible refine cS.out.mono ?_); rintro e w2 ⟨⟨km, m0, m1, m2, m3, pm, capm, mnm, mxm, txm, ksm⟩, rfl, hb, hTm, hms⟩; simp only; have hq2 := hid (Bel.alloc (show Bel (wr.alloc (.cells #[.int .i64 kc, .int .u64 c0, .int .u64 c1, .int .u64 c2, .int .u64 c3, .slice pc ksc.length capc, .int .i64 mnc, .int .i64 mxc, .string txc] 27)) w2 from hb) (.cells #[.int .i64 km, .int .u64 m0, .int .u64 m1, .int .u64 m2, .int .u64 m3, .slice pm ksm.length capm, .int .i64 mnm, .int .i64 mxm, .string txm] 32)); have hba2 := hid (kept_alloc9 (kept_row hk9.out hb) (.cells #[.int .i64 km, .int .u64 m0, .int .u64 m1, .int .u64 m2, .int .u64 m3, .slice pm ksm.length capm, .int .i64 mnm, .int .i64 mxm, .string txm] 32)); have hbm2 := hid (World.alloc_heap_new w2 (.cells #[.int .i64 km, .int .u64 m0, .int .u64 m1, .int .u64 m2, .int .u64 m3, .slice pm ksm.length capm, .int .i64 mnm, .int .i64 mxm, .string txm] 32)); have hTm2 := hid (in_bel hTm (Bel.new w2 (.cells #[.int .i64 km, .int .u64 m0, .int .u64 m1, .int .u64 m2, .int .u64 m3, .slice pm ksm.length capm, .int .i64 mnm, .int .i64 mxm, .string txm] 32))); have cW2 := cW.out (T.mk km m0 m1 m2 m3 pm capm mnm mxm txm ksm) _ hTm2.out hms; simp only [T.cells] at cW2; replace cW2 := hid cW2; replace hms := hid hms; clear hb hTm; clear k0 k1 k2 k3 k4 k5 k6 k7 k8; obtain ⟨k0, k1, k2, k3, k4, k5, k6, k7, k8⟩ := c9 hba2.out; obtain ⟨z0, z1, z2, z3, z4, z5, z6, z7, z8⟩ := c9 hbm2.out)) | (go_at_call 11; ((with_reducible refine cW2.out.mono ?_); rintro e w3 ⟨rfl, hb⟩; have hq3 := hid (bel_bel hqK.out (bel_bel hq2.out (show Bel _ w3 from hb))); have hba3 := hid (kept_row hba2.out hb); have hbm3 := hid (kept_row hbm2.out hb); have cLg2 := hid (cLg.out w3 hq3.out); have hb3K := hid (show Bel _ w3 from hb); clear hb; clear k0 k1 k2 k3 k4 k5 k6 k7 k8 z0 z1 z2 z3 z4 z5 z6 z7 z8; obtain ⟨k0, k1, k2, k3, k4, k5, k6, k7, k8⟩ := c9 hba3.out; obtain ⟨z0, z1, z2, z3, z4, z5, z6, z7, z8⟩ := c9 hbm3.out)) | (go_at_call 17; ((with_reducible refine cLg2.out.mono ?_); rintro e w4 ⟨rfl, hb⟩; have hb4 := hid (show Bel w3 w4 from hb); clear hb)))
     go_roundw
     case rel => exact ⟨j + 1, by omega, by go_num, by rw [hb2.out], by rw [hb2.out], by rw [he2.out], hid (bel_bel hq3.out hb4.out)⟩
     case measure => simp [intOf]; omega
    | true =>
     have hKt := hK.symm
     obtain ⟨hKr, hKw⟩ := (worksB_iff kd).1 hKt
     have hok : T.All okd kd := okd_ok (right_all ((rightB_iff kd).1 hKr)).1
     have hF2 : Fine2 SK := by rw [hSK]; exact ⟨fine_in (hin.out kd (by rw [← hks]; exact List.getElem_mem hlt)) hKr hKw, by rw [size_strip]; omega⟩
     obtain ⟨EL, hEL⟩ : ∃ EL, EL = lens kd l := ⟨_, rfl⟩
     have hELl : EL.length ≤ 20 := by
      have := lens_le kd l l.length
      rw [hEL]
      unfold lens
      omega
     obtain ⟨V, hV⟩ : ∃ V, V = inL kd l := ⟨_, rfl⟩
     have hFV : Fj = V := by rw [hfj.out, hV]; unfold isB; rw [hKt, decide_eq_true (by omega : l.length ≤ 4096)]; rfl
     have hGo : ownF most EL = G := by rw [hgj.out, hEL]; exact own_is hKt hlm most
     have cR : Hid (∀ (mm : T) w', Bel w w' → T.In w' w'.heap.size mm → mm.strip = SK → Calls Tryd.prog 13 #[.agg mm.cells.toArray, .slice a m c, .int .i64 0] w' fun e w'' => ∃ u, e = .returned u ∧ ILst w'' w'.heap.size u EL ∧ Below w'.heap.size w' w'') := hid fun mm w' hb h1 h2 => by
      have := ref_ends h1 (h2 ▸ hF2) (hs.out.bel hb) (by omega) (F := 0) (by omega)
      rw [h2, hSK, lens_strip11 hok, List.drop_zero, ← hEL] at this
      simpa using this
     have cJ : Hid (∀ (mm : T) w', Bel w w' → T.In w' w'.heap.size mm → mm.strip = SK → Calls Tryd.prog 15 #[.agg mm.cells.toArray, .slice a m c] w' fun e w'' => e = .returned (.bool V) ∧ Below w'.heap.size w' w'') := hid fun mm w' hb h1 h2 => by
      have := ref_is h1 (h2 ▸ hF2) (hs.out.bel hb) (by omega)
      rw [h2, hSK, inL_strip11 hok, ← hV] at this
      exact this
     subst hFV
     replace hbj := hid hbj
     replace hej := hid hej
     replace hGo := hid hGo
     clear hTk hgj hfj hkd' hz hK hSK hKt hKr hKw hok hF2 hEL hV
     obtain ⟨kc, c0, c1, c2, c3, pc, capc, mnc, mxc, txc, ksc⟩ := kd
     simp only [T.cells] at hcl cS hqK hk9 cLg
     obtain ⟨q0, q1, q2, q3, q4, q5, q6, q7, q8⟩ := nine_of hcl
     obtain ⟨k0, k1, k2, k3, k4, k5, k6, k7, k8⟩ := c9 hk9
     clear hcl
     replace hk9 := hid hk9
     replace hqK := hid hqK
     replace cLg := hid cLg
     go_upto_region 14 with (first | (go_at_call 8; ((with_reducible refine cS.out.mono ?_); rintro e w2 ⟨⟨km, m0, m1, m2, m3, pm, capm, mnm, mxm, txm, ksm⟩, rfl, hb, hTm, hms⟩; simp only; have hq2 := hid (Bel.alloc (show Bel (wr.alloc (.cells #[.int .i64 kc, .int .u64 c0, .int .u64 c1, .int .u64 c2, .int .u64 c3, .slice pc ksc.length capc, .int .i64 mnc, .int .i64 mxc, .string txc] 27)) w2 from hb) (.cells #[.int .i64 km, .int .u64 m0, .int .u64 m1, .int .u64 m2, .int .u64 m3, .slice pm ksm.length capm, .int .i64 mnm, .int .i64 mxm, .string txm] 32)); have hba2 := hid (kept_alloc9 (kept_row hk9.out hb) (.cells #[.int .i64 km, .int .u64 m0, .int .u64 m1, .int .u64 m2, .int .u64 m3, .slice pm ksm.length capm, .int .i64 mnm, .int .i64 mxm, .string txm] 32)); have hbm2 := hid (World.alloc_heap_new w2 (.cells #[.int .i64 km, .int .u64 m0, .int .u64 m1, .int .u64 m2, .int .u64 m3, .slice pm ksm.length capm, .int .i64 mnm, .int .i64 mxm, .string txm] 32)); have hTm2 := hid (in_bel hTm (Bel.new w2 (.cells #[.int .i64 km, .int .u64 m0, .int .u64 m1, .int .u64 m2, .int .u64 m3, .slice pm ksm.length capm, .int .i64 mnm, .int .i64 mxm, .string txm] 32))); have cW2 := cW.out (T.mk km m0 m1 m2 m3 pm capm mnm mxm txm ksm) _ hTm2.out hms; simp only [T.cells] at cW2; replace cW2 := hid cW2; replace hms := hid hms; clear hb hTm; clear k0 k1 k2 k3 k4 k5 k6 k7 k8; obtain ⟨k0, k1, k2, k3, k4, k5, k6, k7, k8⟩ := c9 hba2.out; obtain ⟨z0, z1, z2, z3, z4, z5, z6, z7, z8⟩ := c9 hbm2.out)) | (go_at_call 11; ((with_reducible refine cW2.out.mono ?_); rintro e w3 ⟨rfl, hb⟩; have hq3 := hid (bel_bel hqK.out (bel_bel hq2.out (show Bel _ w3 from hb))); have hba3 := hid (kept_row hba2.out hb); have hbm3 := hid (kept_row hbm2.out hb); have cLg2 := hid (cLg.out w3 hq3.out); have hb3K := hid (show Bel _ w3 from hb); clear hb; clear k0 k1 k2 k3 k4 k5 k6 k7 k8 z0 z1 z2 z3 z4 z5 z6 z7 z8; obtain ⟨k0, k1, k2, k3, k4, k5, k6, k7, k8⟩ := c9 hba3.out; obtain ⟨z0, z1, z2, z3, z4, z5, z6, z7, z8⟩ := c9 hbm3.out)))
     have hTm3 := hid (in_bel hTm2.out hb3K.out)
     have cR2 := cR.out (T.mk km m0 m1 m2 m3 pm capm mnm mxm txm ksm) w3 hq3.out hTm3.out hms.out
     simp only [T.cells] at cR2
     replace cR2 := hid cR2
     go_wp2_with (go_at_call 13; ((with_reducible refine cR2.out.mono ?_); rintro e w4 ⟨u, rfl, hu, hb⟩; obtain ⟨pu, cu, rfl⟩ := hu.form; have hb4K := hid (show Bel w3 w4 from hb); replace hu := hid hu; clear hb))
     go_loopw [14, 49] (fun o i wq => ∃ q : Nat, q ≤ EL.length ∧ i = .int .i64 q ∧ o = .int .i64 (ownF most (EL.take q) : Nat) ∧ Hid (Bel w4 wq)) (fun _ i _ => EL.length - (intOf i).toNat)
     case atStart => exact ⟨0, Nat.zero_le _, rfl, rfl, hid (Bel.refl _)⟩
     case round =>
      obtain ⟨q, hq, rfl, rfl, hBq⟩ := hrel
      by_cases hlq : q < EL.length
      ·obtain ⟨gg, cg, e9, -, hgl, -, hc9⟩ := hu.out.cell hlq
       simp only [Value.slice.injEq, true_and] at e9
       obtain ⟨rfl, rfl⟩ := e9
       have hc2 := (Below.cell (show Below w4.heap.size w4 wr from hBq.out) (p := ⟨gg, q, none⟩) hgl).trans hc9.1
       have hnx : ownF most (EL.take (q + 1)) = if ownF most (EL.take q) < EL[q] ∧ ((EL[q] : Nat) : Int) ≤ most then EL[q] else ownF most (EL.take q) := by rw [List.take_succ_eq_append_getElem hlq, ownF_snoc]
       clear hc9
       generalize EL[q] = X at *
       generalize ownF most (EL.take q) = O at *
       by_cases c1 : O < X
       ·by_cases c2 : (X : Int) ≤ most
        ·have hn2 := hid (hnx.trans (if_pos ⟨c1, c2⟩))
         clear hnx
         go_wp2
         go_roundw
         case rel => exact ⟨q + 1, by omega, by go_num, by rw [hn2.out], hBq⟩
         case measure => simp [intOf]; omega
        ·have hn2 := hid (hnx.trans (if_neg fun h => c2 h.2))
         clear hnx
         go_wp2
         go_roundw
         case rel => exact ⟨q + 1, by omega, by go_num, by rw [hn2.out], hBq⟩
         case measure => simp [intOf]; omega
       ·have hn2 := hid (hnx.trans (if_neg fun h => c1 h.1))
        clear hnx
        go_wp2
        go_roundw
        case rel => exact ⟨q + 1, by omega, by go_num, by rw [hn2.out], hBq⟩
        case measure => simp [intOf]; omega
      ·obtain rfl : q = EL.length := by omega
       have hqE := hid (bel_bel hq3.out (bel_bel hb4K.out hBq.out))
       have h3E := hid (bel_bel hb4K.out hBq.out)
       have hbaE := hid (kept_row hba3.out h3E.out)
       have hbmE := hid (kept_row hbm3.out h3E.out)
       have hTmE := hid (in_bel hTm3.out h3E.out)
       have cJ2 := cJ.out (T.mk km m0 m1 m2 m3 pm capm mnm mxm txm ksm) wr hqE.out hTmE.out hms.out
       simp only [T.cells] at cJ2
       replace cJ2 := hid cJ2
       have hOG : Hid (ownF most (EL.take EL.length) = G) := hid (by rw [List.take_length]; exact hGo.out)
       generalize ownF most (EL.take EL.length) = O at *
       have hOG2 := hOG.out
       subst hOG2
       clear k0 k1 k2 k3 k4 k5 k6 k7 k8 z0 z1 z2 z3 z4 z5 z6 z7 z8
       obtain ⟨k0, k1, k2, k3, k4, k5, k6, k7, k8⟩ := c9 hbaE.out
       obtain ⟨z0, z1, z2, z3, z4, z5, z6, z7, z8⟩ := c9 hbmE.out
       by_cases hE : Ej = -1
       ·subst hE
        cases Fj
        ·have he2 : Hid (E (j + 1) = -1) := hid (by rw [hej.out, if_pos rfl, if_neg (by decide)])
         by_cases hPG : P1 < O
         ·have hb2 := hid (hbj.out.trans (if_pos hPG))
          go_wp2_with (first | (go_at_call 15; ((with_reducible refine cJ2.out.mono ?_); rintro e w5 ⟨rfl, hb⟩; have hqI := hid (bel_bel hqE.out (show Bel _ w5 from hb)); have hbaI := hid (kept_row hbaE.out hb); have cLI := hid (cLg.out w5 hqI.out); clear hb k0 k1 k2 k3 k4 k5 k6 k7 k8; obtain ⟨k0, k1, k2, k3, k4, k5, k6, k7, k8⟩ := c9 hbaI.out)) | (go_at_call 17; ((with_reducible refine cLI.out.mono ?_); rintro e w6 ⟨rfl, hb⟩; have hqL := hid (bel_bel hqI.out (show Bel _ w6 from hb)); clear hb)))
          go_roundw
          case rel => exact ⟨j + 1, by omega, by go_num, by rw [hb2.out], by rw [hb2.out], by rw [he2.out], hqL⟩
          case measure => simp [intOf]; omega
         ·have hb2 := hid (hbj.out.trans (if_neg hPG))
          go_wp2_with (first | (go_at_call 15; ((with_reducible refine cJ2.out.mono ?_); rintro e w5 ⟨rfl, hb⟩; have hqI := hid (bel_bel hqE.out (show Bel _ w5 from hb)); have hbaI := hid (kept_row hbaE.out hb); have cLI := hid (cLg.out w5 hqI.out); clear hb k0 k1 k2 k3 k4 k5 k6 k7 k8; obtain ⟨k0, k1, k2, k3, k4, k5, k6, k7, k8⟩ := c9 hbaI.out)) | (go_at_call 17; ((with_reducible refine cLI.out.mono ?_); rintro e w6 ⟨rfl, hb⟩; have hqL := hid (bel_bel hqI.out (show Bel _ w6 from hb)); clear hb)))
          go_roundw
          case rel => exact ⟨j + 1, by omega, by go_num, by rw [hb2.out], by rw [hb2.out], by rw [he2.out], hqL⟩
          case measure => simp [intOf]; omega
        ·have he2 : Hid (E (j + 1) = (j : Int)) := hid (by rw [hej.out, if_pos rfl, if_pos rfl])
         by_cases hPG : P1 < O
         ·have hb2 := hid (hbj.out.trans (if_pos hPG))
          go_wp2_with (first | (go_at_call 15; ((with_reducible refine cJ2.out.mono ?_); rintro e w5 ⟨rfl, hb⟩; have hqI := hid (bel_bel hqE.out (show Bel _ w5 from hb)); have hbaI := hid (kept_row hbaE.out hb); have cLI := hid (cLg.out w5 hqI.out); clear hb k0 k1 k2 k3 k4 k5 k6 k7 k8; obtain ⟨k0, k1, k2, k3, k4, k5, k6, k7, k8⟩ := c9 hbaI.out)) | (go_at_call 17; ((with_reducible refine cLI.out.mono ?_); rintro e w6 ⟨rfl, hb⟩; have hqL := hid (bel_bel hqI.out (show Bel _ w6 from hb)); clear hb)))
          go_roundw
          case rel => exact ⟨j + 1, by omega, by go_num, by rw [hb2.out], by rw [hb2.out], by rw [he2.out], hqL⟩
          case measure => simp [intOf]; omega
         ·have hb2 := hid (hbj.out.trans (if_neg hPG))
          go_wp2_with (first | (go_at_call 15; ((with_reducible refine cJ2.out.mono ?_); rintro e w5 ⟨rfl, hb⟩; have hqI := hid (bel_bel hqE.out (show Bel _ w5 from hb)); have hbaI := hid (kept_row hbaE.out hb); have cLI := hid (cLg.out w5 hqI.out); clear hb k0 k1 k2 k3 k4 k5 k6 k7 k8; obtain ⟨k0, k1, k2, k3, k4, k5, k6, k7, k8⟩ := c9 hbaI.out)) | (go_at_call 17; ((with_reducible refine cLI.out.mono ?_); rintro e w6 ⟨rfl, hb⟩; have hqL := hid (bel_bel hqI.out (show Bel _ w6 from hb)); clear hb)))
          go_roundw
          case rel => exact ⟨j + 1, by omega, by go_num, by rw [hb2.out], by rw [hb2.out], by rw [he2.out], hqL⟩
          case measure => simp [intOf]; omega
       ·have he2 : Hid (E (j + 1) = Ej) := hid (by rw [hej.out, if_neg hE])
        have gE : ¬ Ej < 0 := by omega
        have hqI := hqE
        have cLI := hid (cLg.out _ hqI.out)
        by_cases hPG : P1 < O
        ·have hb2 := hid (hbj.out.trans (if_pos hPG))
         go_wp2_with ((go_at_call 17; ((with_reducible refine cLI.out.mono ?_); rintro e w6 ⟨rfl, hb⟩; have hqL := hid (bel_bel hqI.out (show Bel _ w6 from hb)); clear hb)))
         go_roundw
         case rel => exact ⟨j + 1, by omega, by go_num, by rw [hb2.out], by rw [hb2.out], by rw [he2.out], hqL⟩
         case measure => simp [intOf]; omega
        ·have hb2 := hid (hbj.out.trans (if_neg hPG))
         go_wp2_with ((go_at_call 17; ((with_reducible refine cLI.out.mono ?_); rintro e w6 ⟨rfl, hb⟩; have hqL := hid (bel_bel hqI.out (show Bel _ w6 from hb)); clear hb)))
         go_roundw
         case rel => exact ⟨j + 1, by omega, by go_num, by rw [hb2.out], by rw [hb2.out], by rw [he2.out], hqL⟩
         case measure => simp [intOf]; omega
   ·have cS : Hid (Calls Tryd.prog 8 #[.agg kd.cells.toArray, .int .i64 60] (wr.alloc (.cells kd.cells.toArray 27)) fun e w'' => ∃ m : T, e = .returned (.tuple #[.agg m.cells.toArray, .bool false]) ∧ Below (wr.alloc (.cells kd.cells.toArray 27)).heap.size (wr.alloc (.cells kd.cells.toArray 27)) w'') := hid (small_full (n := 60) (hTk _ hqK) (by decide) (by decide) (by omega))
    clear cLg hTk hgj hfj hbj hej her hkd' hz
    obtain ⟨kc, c0, c1, c2, c3, pc, capc, mnc, mxc, txc, ksc⟩ := kd
    simp only [T.cells] at hcl cS hqK hk9
    obtain ⟨q0, q1, q2, q3, q4, q5, q6, q7, q8⟩ := nine_of hcl
    obtain ⟨k0, k1, k2, k3, k4, k5, k6, k7, k8⟩ := c9 hk9
    clear hcl hk9
    replace hqK := hid hqK
    go_wp2_with (go_at_call 8; (with_reducible refine cS.out.mono ?_); rintro e w2 ⟨⟨km, m0, m1, m2, m3, pm, capm, mnm, mxm, txm, ksm⟩, rfl, hb⟩; simp only; have hq2 := hid (Bel.alloc (show Bel _ w2 from hb) (.cells #[.int .i64 km, .int .u64 m0, .int .u64 m1, .int .u64 m2, .int .u64 m3, .slice pm ksm.length capm, .int .i64 mnm, .int .i64 mxm, .string txm] 32)); clear hb)
    go_ret
    exact ⟨rfl, bel_bel hqK.out hq2.out⟩
  ·obtain rfl : j = ks.length := by omega
   have cB2 := hid (cB.out wr hB.out)
   go_wp2_with (first | (go_at_call 18; (with_reducible refine cB2.out.mono ?_); rintro e w2 ⟨rfl, hb⟩; dsimp only; have hq2 := hid (Bel.step hB.out hb); have cL2 := hid (cL.out w2 hq2.out); clear hb) | (go_at_call 19; (with_reducible refine cL2.out.mono ?_); rintro e w3 ⟨rfl, hb⟩; have hq3 := hid (Bel.step hq2.out hb); clear hb))
   go_ret
   exact ⟨rfl, hq3.out⟩
end Go.Proofs.YtobbifhflnlplaaDoor

namespace Go.Proofs.YtobbifhflnlplaaDoor
open Lib (hid)
open Go.RowKit
open Go.Tree7
open S7
open S5 (nl nl_length nl_small at_nl nl_at Gives idx idx_at ix ix_no ix_yes)
set_option maxHeartbeats 4000000 in
theorem matchBest_in (w : World) {ks : List T} {p : Option Addr} {cap : Nat} (hrow : RowIn w p ks) (hin : ∀ x ∈ ks, T.In w w.heap.size x) (hk2 : ks.length ≤ 9223372036854775807) {a : Option Addr} {m c : Nat} {l : List Nat} (hs : Src w a m c l) (hm2 : m ≤ 9223372036854775807) (most : Int) (cA' : ∀ w', Bel w w' → Calls Tryd.prog 7 #[] w' fun e w'' => e = .returned (.bool true) ∧ Below w'.heap.size w' w'') :
  Calls Tryd.prog 4 #[.slice p ks.length cap, .slice a m c, .int .i64 most] w fun e w' => e = .returned (.bool true) ∧ Below w.heap.size w w' := by
 by_cases hk : ks.length ≤ 5
 ·by_cases hm : m ≤ 12
  ·exact matchBest_main hrow hin hk hs hm most cA'
  ·have cA := hid (cA' w (Bel.refl _))
   have g5 : ¬ ((ks.length : Nat) : Int) > 5 := by omega
   have g12 : ((m : Nat) : Int) > 12 := by omega
   clear hrow hin hs cA'
   go_enter Tryd.func4, Tryd.ntmps4
   go_wp2_with (go_at_call 7; (with_reducible refine cA.out.mono ?_); rintro e w1 ⟨rfl, hb⟩; have hq1 := hid (show Bel w w1 from hb); clear hb)
   go_ret
   exact ⟨rfl, hq1.out⟩
 ·have cA := hid (cA' w (Bel.refl _))
  have g5 : ((ks.length : Nat) : Int) > 5 := by omega
  clear hrow hin hs cA'
  go_enter Tryd.func4, Tryd.ntmps4
  go_wp2_with (go_at_call 7; (with_reducible refine cA.out.mono ?_); rintro e w1 ⟨rfl, hb⟩; have hq1 := hid (show Bel w w1 from hb); clear hb)
  go_ret
  exact ⟨rfl, hq1.out⟩
end Go.Proofs.YtobbifhflnlplaaDoor
