/- Texts merged: S9V7, S9V9b. -/
import Derived.Deep.CutBlock
import Derived.Deep.DeepCutAuto
import Derived.Test.YtobbifhflnlplaaDoorVA
import Derived.Test.YtobbifhflnlplaaDoorLL
import Derived.Test.YtobbifhflnlplaaDoorWS
namespace Go.Proofs.YtobbifhflnlplaaDoor
open Lib (hid)
open Go.RowKit
open Go.Tree7
open S7
open S5 (nl nl_length nl_small at_nl nl_at Gives idx idx_at ix ix_no ix_yes)
def cop9 (k mn mx : Int) : Int := if k = 4 then (if mx = -1 then mn + 1 else mx) else 1
set_option maxHeartbeats 2000000 in
theorem copies9_in {k u0 u1 u2 u3 : Int} {sl : Value} {mn mx : Int} {tx : ByteArray} (h : k = 4 → 0 ≤ mn ∧ mn ≤ 40) (w : World) : Calls Tryd.prog 81 #[.agg #[.int .i64 k, .int .u64 u0, .int .u64 u1, .int .u64 u2, .int .u64 u3, sl, .int .i64 mn, .int .i64 mx, .string tx]] w fun e w' => e = .returned (.int .i64 (cop9 k mn mx)) ∧ Below w.heap.size w w' := by
 unfold cop9
 by_cases hk : k = 4
 ·have g1 : (k == 4) = true := by rw [beq_iff_eq]; exact hk
  rw [if_pos hk]
  have hw := h hk
  have k1 : IntKind.i64.wrap (mn + 1) = mn + 1 := IntWalk.i64_in _ ⟨by omega, by omega⟩
  clear h hw
  subst hk
  by_cases hm : mx = -1
  ·have g2 : (mx == -1) = true := by rw [beq_iff_eq]; exact hm
   rw [if_pos hm]
   clear hm
   go_enter Tryd.func81, Tryd.ntmps81
   go_wp2
   go_ret
   exact ⟨rfl, (Below.refl _ _).alloc (Nat.le_refl _) _⟩
  ·have g2 : (mx == -1) = false := by rw [beq_eq_false_iff_ne]; exact hm
   rw [if_neg hm]
   clear hm
   go_enter Tryd.func81, Tryd.ntmps81
   go_wp2
   go_ret
   exact ⟨rfl, (Below.refl _ _).alloc (Nat.le_refl _) _⟩
 ·have g1 : (k == 4) = false := by rw [beq_eq_false_iff_ne]; exact hk
  rw [if_neg hk]
  clear hk h
  go_enter Tryd.func81, Tryd.ntmps81
  go_wp2
  go_ret
  exact ⟨rfl, (Below.refl _ _).alloc (Nat.le_refl _) _⟩
set_option maxRecDepth 10000 in
set_option maxHeartbeats 4000000 in
theorem weight9_in {w0 : World} {B0 : Nat} (hn0 : B0 ≤ w0.heap.size) : ∀ t : T, T.All (fun t => T.ok t = true) t → T.In w0 B0 t → ∀ w, Below B0 w0 w → Calls Tryd.prog 56 #[.agg t.cells.toArray] w fun e w' => e = .returned (.int .i64 (weightT t)) ∧ Below w.heap.size w w' := by
 refine T.ind fun k u0 u1 u2 u3 p cap mn mx tx ks ih => ?_
 intro hA hT w hB0
 have hks : ks.length ≤ 9223372036854775807 := by cases hT with | mk h1 h2 => unfold maxLen at h2; omega
 have hfit : fits k u0 u1 u2 u3 mn mx tx := by cases hT with | mk h1 h2 h3 => exact h3
 have hB0w : B0 ≤ w.heap.size := Nat.le_trans hn0 hB0.size
 obtain ⟨ho, hAk⟩ : T.ok (.mk k u0 u1 u2 u3 p cap mn mx tx ks) = true ∧ ∀ t ∈ ks, T.All (fun t => T.ok t = true) t := by cases hA with | mk h1 h2 => exact ⟨h1, h2⟩
 have hok := okn_of ho
 replace hT := hid hT
 replace hB0 := hid hB0
 replace ih := hid ih
 clear hA ho
 obtain ⟨Wt, hW0, hWs, hWb, hWe⟩ := weights_of hAk hok
 rw [weightT_mk, ← hWe]
 have hmn : k = 4 → 0 ≤ mn ∧ mn ≤ 40 := fun e => by cases hok with | rep _ _ _ h3 h4 => exact h3 | bytes h => omega | cat h => omega | alt h => omega | name h => omega
 have hcb : 0 ≤ cop9 k mn mx ∧ cop9 k mn mx ≤ 41 := by
  unfold cop9
  cases hok with
  | rep e _ _ h3 h4 => rw [if_pos e]; split <;> omega
  | _ => rw [if_neg (by omega)]; omega
 have cC := hid fun w => copies9_in (k := k) (u0 := u0) (u1 := u1) (u2 := u2) (u3 := u3) (sl := .slice p ks.length cap) (mn := mn) (mx := mx) (tx := tx) hmn w
 have hWs' : ∀ j (hj : j < ks.length), Wt (j + 1) = cut20 (Wt j + cop9 k mn mx * weightT ks[j]) := hWs
 replace hWs := hid hWs'
 replace hWb := hid hWb
 replace hAk := hid hAk
 replace hfit := hid hfit
 replace hok := hid hok
 clear hWs' hWe hmn
 generalize cop9 k mn mx = C at *
 replace hcb := hid hcb
 simp only [T.cells]
 have hbn := hid (World.alloc_heap_new w (.cells #[.int .i64 k, .int .u64 u0, .int .u64 u1, .int .u64 u2, .int .u64 u3, .slice p ks.length cap, .int .i64 mn, .int .i64 mx, .string tx] 27))
 go_enter Tryd.func56, Tryd.ntmps56
 go_wp2
 have h0 : Hid (Below w.heap.size w (w.alloc (.cells #[.int .i64 k, .int .u64 u0, .int .u64 u1, .int .u64 u2, .int .u64 u3, .slice p ks.length cap, .int .i64 mn, .int .i64 mx, .string tx] 27))) := hid ((Below.refl _ _).alloc (Nat.le_refl _) _)
 go_loopw [3, 9] (fun m i wr => ∃ j : Nat, j ≤ ks.length ∧ m = .int .i64 (Wt j) ∧ i = .int .i64 j ∧ Hid (Below w.heap.size w wr) ∧ Hid (wr.heap[w.heap.size]? = some (.cells #[.int .i64 k, .int .u64 u0, .int .u64 u1, .int .u64 u2, .int .u64 u3, .slice p ks.length cap, .int .i64 mn, .int .i64 mx, .string tx] 27))) (fun _ i _ => ks.length - (intOf i).toNat)
 case atStart => exact ⟨0, Nat.zero_le _, by rw [hW0], rfl, h0, hbn⟩
 case round =>
  clear h0 hbn hW0
  obtain ⟨j, hj, rfl, rfl, hbel, hbx⟩ := hrel
  have hsz := lt_box hbx.out
  by_cases hlt : j < ks.length
  ·obtain ⟨b, o, hkid, hp, hb, hc⟩ := T.kid hT.out hlt
   have hBw : Below B0 w0 wr := hB0.out.trans (hbel.out.mono hB0w)
   have hcl : ∀ q, q < 9 → wr.cell? ⟨b, o + j * 9 + q, none⟩ = (ks[j].cells)[q]? := fun q hq => by
    rw [← hc q hq]
    exact hBw.cell (p := ⟨b, o + j * 9 + q, none⟩) hb
   have cK := ih.out ks[j] (List.getElem_mem hlt) (hAk.out _ (List.getElem_mem hlt)) hkid
   have hs := hWs.out j hlt
   have hw1 := hWb.out j
   have hx1 := weight_within (hAk.out _ (List.getElem_mem hlt))
   clear hc hkid
   subst hp
   generalize ks[j] = kd at *
   generalize weightT kd = X at *
   obtain ⟨P, hP⟩ : ∃ P, C * X = P := ⟨_, rfl⟩
   have hPb : 0 ≤ P ∧ P ≤ 41 * 1048576 := by rw [← hP]; exact ⟨Int.mul_nonneg hcb.out.1 (by omega), Int.mul_le_mul hcb.out.2 hx1.2 (by omega) (by omega)⟩
   rw [hP] at hs
   have kP : IntKind.i64.wrap P = P := IntWalk.i64_in P ⟨by omega, by omega⟩
   obtain ⟨S, hS⟩ : ∃ S, Wt j + P = S := ⟨_, rfl⟩
   have kS : IntKind.i64.wrap S = S := IntWalk.i64_in S ⟨by omega, by omega⟩
   rw [hS] at hs
   replace hs := hid hs
   have cL := hid fun w => lim_in S w
   clear hw1 hx1 hPb
   cases kd with
   | mk k' u0' u1' u2' u3' p' cap' mn' mx' tx' ks' =>
    simp only [T.cells] at hcl cK
    obtain ⟨c0, c1, c2, c3, c4, c5, c6, c7, c8⟩ := nine_of hcl
    clear hcl
    replace cK := hid cK
    obtain ⟨z5, -⟩ := cells_of hbx.out 5 _ rfl
    go_upto_region 5 with (fail)
    have hS3 : (wr.alloc (.cells #[.int .i64 k', .int .u64 u0', .int .u64 u1', .int .u64 u2', .int .u64 u3', .slice p' ks'.length cap', .int .i64 mn', .int .i64 mx', .string tx'] 27)).drew.heap[w.heap.size]? = some (.cells #[.int .i64 k, .int .u64 u0, .int .u64 u1, .int .u64 u2, .int .u64 u3, .slice (some ⟨b, o, none⟩) ks.length cap, .int .i64 mn, .int .i64 mx, .string tx] 27) ∧ (wr.alloc (.cells #[.int .i64 k', .int .u64 u0', .int .u64 u1', .int .u64 u2', .int .u64 u3', .slice p' ks'.length cap', .int .i64 mn', .int .i64 mx', .string tx'] 27)).drew.heap[wr.heap.size]? = some (.cells #[.int .i64 k', .int .u64 u0', .int .u64 u1', .int .u64 u2', .int .u64 u3', .slice p' ks'.length cap', .int .i64 mn', .int .i64 mx', .string tx'] 27) := ⟨kept_alloc9 hbx.out _, World.alloc_heap_new _ _⟩
    replace hBw := hid (show Below B0 w0 (wr.alloc (.cells #[.int .i64 k', .int .u64 u0', .int .u64 u1', .int .u64 u2', .int .u64 u3', .slice p' ks'.length cap', .int .i64 mn', .int .i64 mx', .string tx'] 27)).drew from (hBw.alloc (Nat.le_trans hB0w (by omega)) _).trans (Below.refl _ _).drew)
    replace hbel := hid (show Below w.heap.size w (wr.alloc (.cells #[.int .i64 k', .int .u64 u0', .int .u64 u1', .int .u64 u2', .int .u64 u3', .slice p' ks'.length cap', .int .i64 mn', .int .i64 mx', .string tx'] 27)).drew from (hbel.out.alloc (Nat.le_of_lt hsz) _).trans (Below.refl _ _).drew)
    clear hbx c0 c1 c2 c3 c4 c5 c6 c7 c8 z5
    refine wp_region_held_drew (S := fun W => W.heap[w.heap.size]? = some (.cells #[.int .i64 k, .int .u64 u0, .int .u64 u1, .int .u64 u2, .int .u64 u3, .slice (some ⟨b, o, none⟩) ks.length cap, .int .i64 mn, .int .i64 mx, .string tx] 27) ∧ W.heap[wr.heap.size]? = some (.cells #[.int .i64 k', .int .u64 u0', .int .u64 u1', .int .u64 u2', .int .u64 u3', .slice p' ks'.length cap', .int .i64 mn', .int .i64 mx', .string tx'] 27)) (by kernel_rfl) hS3 (fun hHeld => ?_)
    clear hS3
    generalize (wr.alloc (.cells #[.int .i64 k', .int .u64 u0', .int .u64 u1', .int .u64 u2', .int .u64 u3', .slice p' ks'.length cap', .int .i64 mn', .int .i64 mx', .string tx'] 27)).drew = wd at *
    refine wpAnyH_take (i := 0) (v := ?v0u1) rfl (by kernel_rfl) (by kernel_rfl) (by kernel_rfl) (fun _ _ _ h => h) (Or.inl ⟨by rfl, ?h0u1⟩) hHeld ?r0u1
    case h0u1 => (intro wq hSw; go_simp <;> with_reducible rfl)
    try simp only [Go.Last.pt]
    refine wpAnyH_take (i := 1) (v := ?v1u2) rfl (by kernel_rfl) (by kernel_rfl) (by kernel_rfl) (fun _ _ _ h => h) (Or.inl ⟨by rfl, ?h1u2⟩) hHeld ?r1u2
    case h1u2 => (intro wq hSw; obtain ⟨n0, n1, n2, n3, n4, n5, n6, n7, n8⟩ := c9 hSw.1; go_simp <;> with_reducible rfl)
    try simp only [Go.Last.pt]
    refine wpAnyH_take (i := 3) (v := ?v3u3) rfl (by kernel_rfl) (by kernel_rfl) (by kernel_rfl) (fun _ _ _ h => h) (Or.inl ⟨by rfl, ?h3u3⟩) hHeld ?r3u3
    case h3u3 => (intro wq hSw; obtain ⟨x0, x1, x2, x3, x4, x5, x6, x7, x8⟩ := c9 hSw.2; go_simp <;> with_reducible rfl)
    try simp only [Go.Last.pt]
    refine Go.Last.held 2 (by kernel_rfl) rfl (fun K hK => ?_)
    go_simp
    (go_at_call 81; (with_reducible refine (cC.out _).mono ?_); rintro e w2 ⟨rfl, hb2⟩; have hbel := hid (hbel.out.trans (hb2.mono hbel.out.size)); have hBw := hid (hBw.out.trans (hb2.mono (Nat.le_trans hn0 hBw.out.size))))
    try dsimp only
    refine hK.out _ _ (⟨kept_row hHeld.1 hb2, kept_row hHeld.2 hb2⟩) (fun hHeld2 => ?_)
    clear hK K hHeld
    have hHeld := hHeld2
    clear hHeld2
    try simp only [Go.Last.pt]
    refine Go.Last.held 4 (by kernel_rfl) rfl (fun K hK => ?_)
    go_simp
    (go_at_call 56; (with_reducible refine (cK.out _ (hBw.out)).mono ?_); rintro e w4 ⟨rfl, hb4⟩; have hbel := hid (hbel.out.trans (hb4.mono hbel.out.size)); have hBw := hid (hBw.out.trans (hb4.mono (Nat.le_trans hn0 hBw.out.size))))
    try dsimp only
    refine hK.out _ _ (⟨kept_row hHeld.1 hb4, kept_row hHeld.2 hb4⟩) (fun hHeld2 => ?_)
    clear hK K hHeld
    have hHeld := hHeld2
    clear hHeld2
    try simp only [Go.Last.pt]
    refine Go.Last.held 5 (by kernel_rfl) rfl (fun K hK => ?_)
    go_simp
    try dsimp only
    refine hK.out _ _ (hHeld) (fun hHeld2 => ?_)
    clear hK K hHeld
    have hHeld := hHeld2
    clear hHeld2
    try simp only [Go.Last.pt]
    refine Go.Last.held 6 (by kernel_rfl) rfl (fun K hK => ?_)
    go_simp
    try dsimp only
    refine hK.out _ _ (hHeld) (fun hHeld2 => ?_)
    clear hK K hHeld
    have hHeld := hHeld2
    clear hHeld2
    try simp only [Go.Last.pt]
    refine Go.Last.held 7 (by kernel_rfl) rfl (fun K hK => ?_)
    go_simp
    (go_at_call 80; (with_reducible refine (cL.out _).mono ?_); rintro e w7 ⟨rfl, hb7⟩; have hbel := hid (hbel.out.trans (hb7.mono hbel.out.size)); have hBw := hid (hBw.out.trans (hb7.mono (Nat.le_trans hn0 hBw.out.size))))
    try dsimp only
    refine hK.out _ _ (⟨kept_row hHeld.1 hb7, kept_row hHeld.2 hb7⟩) (fun hHeld2 => ?_)
    clear hK K hHeld
    have hHeld := hHeld2
    clear hHeld2
    try simp only [Go.Last.pt]
    refine Go.Last.held 8 (by kernel_rfl) rfl (fun K hK => ?_)
    go_simp
    try dsimp only
    refine hK.out _ _ (hHeld) (fun hHeld2 => ?_)
    clear hK K hHeld
    have hHeld := hHeld2
    clear hHeld2
    try simp only [Go.Last.pt]
    refine wpAnyH_done (by kernel_rfl) ?_ _
    go_wp2
    go_roundw
    case rel => exact ⟨j + 1, by omega, by rw [hs.out], by go_num, hbel, hid hHeld.1⟩
    case measure => simp [intOf]; omega
  ·obtain rfl : j = ks.length := by omega
   obtain ⟨z5, -⟩ := cells_of hbx.out 5 _ rfl
   go_wp2
   go_ret
   exact ⟨rfl, hbel.out⟩
end Go.Proofs.YtobbifhflnlplaaDoor
namespace Go.Proofs.YtobbifhflnlplaaDoor
open Lib (hid)
open Go.RowKit
open Go.Tree7
open S7
open S5 (nl nl_length nl_small at_nl nl_at Gives idx idx_at ix ix_no ix_yes)
theorem all_right {n : T} (h : rightB n = true) : T.All (fun t => T.ok t = true) n := (right_all ((rightB_iff n).1 h)).1
set_option maxRecDepth 100000 in
set_option maxHeartbeats 2000000 in
theorem weight_in : weight_holds := by
 intro n w hT
 have hR := fun W (hb : Bel w W) => right_in (in_bel hT hb)
 unfold weightR
 cases hr : rightB n with
 | false =>
  rw [hr] at hR
  rw [if_neg (by simp)]
  clear hT hr
  cases n with
  | mk k u0 u1 u2 u3 p cap mn mx tx ks =>
   simp only [T.cells] at hR ⊢
   have hq := hid (Bel.new w (.cells #[.int .i64 k, .int .u64 u0, .int .u64 u1, .int .u64 u2, .int .u64 u3, .slice p ks.length cap, .int .i64 mn, .int .i64 mx, .string tx] 27))
   have hbel := hid (show Below w.heap.size w (w.alloc (.cells #[.int .i64 k, .int .u64 u0, .int .u64 u1, .int .u64 u2, .int .u64 u3, .slice p ks.length cap, .int .i64 mn, .int .i64 mx, .string tx] 27)) from (Below.refl _ _).alloc (Nat.le_refl _) _)
   replace hR := hid hR
   go_enter Tryd.func35, Tryd.ntmps35
   go_wp2_with (go_at_call 55; (with_reducible refine (hR.out _ hq.out).mono ?_); rintro e w1 ⟨rfl, hb1⟩; replace hbel := hid (hbel.out.trans (hb1.mono hbel.out.size)))
   go_ret
   exact ⟨rfl, hbel.out⟩
 | true =>
  have cD := fun W (hb : Below w.heap.size w W) => weight9_in (Nat.le_refl _) n (all_right hr) hT W hb
  rw [hr] at hR
  rw [if_pos rfl]
  clear hT hr
  generalize weightT n = X at *
  cases n with
  | mk k u0 u1 u2 u3 p cap mn mx tx ks =>
   simp only [T.cells] at hR cD ⊢
   have hbn := hid (World.alloc_heap_new w (.cells #[.int .i64 k, .int .u64 u0, .int .u64 u1, .int .u64 u2, .int .u64 u3, .slice p ks.length cap, .int .i64 mn, .int .i64 mx, .string tx] 27))
   have hq := hid (Bel.new w (.cells #[.int .i64 k, .int .u64 u0, .int .u64 u1, .int .u64 u2, .int .u64 u3, .slice p ks.length cap, .int .i64 mn, .int .i64 mx, .string tx] 27))
   have hbel := hid (show Below w.heap.size w (w.alloc (.cells #[.int .i64 k, .int .u64 u0, .int .u64 u1, .int .u64 u2, .int .u64 u3, .slice p ks.length cap, .int .i64 mn, .int .i64 mx, .string tx] 27)) from (Below.refl _ _).alloc (Nat.le_refl _) _)
   replace hR := hid hR
   replace cD := hid cD
   go_enter Tryd.func35, Tryd.ntmps35
   go_wp2_with (first | (go_at_call 55; (with_reducible refine (hR.out _ hq.out).mono ?_); rintro e w1 ⟨rfl, hb1⟩; replace hbn := hid (kept_row hbn.out hb1); replace hbel := hid (hbel.out.trans (hb1.mono hbel.out.size)); clear hb1; obtain ⟨n0, n1, n2, n3, n4, n5, n6, n7, n8⟩ := c9 hbn.out) | (go_at_call 56; (with_reducible refine (cD.out _ hbel.out).mono ?_); rintro e w2 ⟨rfl, hb2⟩; replace hbel := hid (hbel.out.trans (hb2.mono hbel.out.size))))
   go_ret
   exact ⟨rfl, hbel.out⟩
end Go.Proofs.YtobbifhflnlplaaDoor
