/- SizesOften, one way. -/
import Derived.WalkLawsBesides
import Derived.Deep.RegionHeld3
import Derived.Deep.RegionLaw
import Derived.Test.YtaebhbcamhmhoaaDoorS9W11
import Derived.Test.YtaebhbcamhmhoaaDoorLL
namespace Go.Proofs.YtaebhbcamhmhoaaDoor
open Go.RowKit
open Go.Tree7
open S7
open S5 (nl nl_length nl_small at_nl nl_at Gives idx idx_at ix ix_no ix_yes)
set_option maxRecDepth 100000 in
set_option maxHeartbeats 8000000 in
theorem often_l1b {n : T} {l b : Int} (hl : (Lit.int .i64 l).wf = true) (hbw : (Lit.int .i64 b).wf = true) (w : World) (hT : T.In w w.heap.size n) (cA9 : ∀ w', Bel w w' → Calls Tryd.prog 6 #[] w' fun e w'' => e = .returned (.bool true) ∧ Below w'.heap.size w' w'')
    (hV : void_holds) (hN : nullable_holds) (hW : weight_holds) (hLe : least_holds) (hMo : most_holds) (hF : first_holds) (hA : alphabet_holds) (h3 : ¬ 300 ≤ n.size) (hRb : rightB (.mk 4 0 0 0 0 none 0 l b ⟨#[]⟩ [n.strip]) = true) (hva : voidT n = false) (l0 : ¬ l = 0) (b1 : ¬ b = -1) :
    Calls Tryd.prog 5 #[.agg n.cells.toArray, .int .i64 l, .int .i64 b] w fun e w' => e = .returned (.bool true) ∧ Below w.heap.size w w' := by
  have hq0 : Bel w (w.alloc (.cells n.cells.toArray 27)) := Bel.new _ _
  have cA := Lib.hid (cA9 _ hq0)
  have hbn := Lib.hid (World.alloc_heap_new w (.cells n.cells.toArray 27))
  replace hq0 := Lib.hid hq0
  clear cA9
  have cO := Lib.hid (of_room hT (n := 300) (c := 300) (by decide) rfl (by omega))
  have hRI : ∀ (W : World) (rb : Nat), Bel w W → W.heap[rb]? = some (.cells (n.cells).toArray 27 (0, 0)) → T.In W W.heap.size (.mk 4 0 0 0 0 (some ⟨rb, 0, none⟩) 1 l b ⟨#[]⟩ [n]) := fun W rb h1 h2 =>
    node_in (k := 4) (ks := [n]) (fun t ht => by simp only [List.mem_cons, List.not_mem_nil, or_false] at ht; subst ht; exact hT) h1 (by simpa using h2) (by simp [maxLen]) ⟨by decide, hl, hbw⟩
  have hTn := fun (W : World) (h : Bel w W) => in_bel hT h
  have hRR : ∀ rb : Nat, rightB (.mk 4 0 0 0 0 (some ⟨rb, 0, none⟩) 1 l b ⟨#[]⟩ [n]) = true := fun rb => by rw [← right_strip, T.strip_mk]; exact hRb
  have cC := fun (W : World) (rb : Nat) (h1 : Bel w W) (h2 : W.heap[rb]? = some (.cells (n.cells).toArray 27 (0, 0))) => often_calls hV hN hW hLe hMo hF hA (hRI W rb h1 h2) (hTn W h1) (hRR rb) (often_of (hRR rb))
  have hOf := often_of (hRR 0)
  have r1 := hOf.rl
  have r2 := hOf.rb
  have r3 := hOf.ww
  have r4 := hOf.mw
  have r5 := hOf.lw
  clear hOf
  generalize weightT n = Wn at *
  generalize leastT n = Ln at *
  generalize mostT n = Mn at *
  generalize nullT n = na at *
  generalize firstR false n = F at *
  generalize alphaR n = G at *
  rw [hva] at cC r5
  replace r5 := r5 rfl
  clear hva
  have he0 := fun w => same4 (S1.wd F 0) (S1.wd F 1) (S1.wd F 2) (S1.wd F 3) w
  have he1 := fun w => same4 (S1.wd G 0) (S1.wd G 1) (S1.wd G 2) (S1.wd G 3) w
  have g1 : (l == 0) = false := by rw [beq_eq_false_iff_ne]; exact l0
  have g2 : decide (l > 0) = true := by rw [decide_eq_true_eq]; omega
  have g5 : decide (0 < l) = true := by rw [decide_eq_true_eq]; omega
  have g3 : decide (l = 0) = false := by rw [decide_eq_false_iff_not]; exact l0
  simp only [g3, g5, if_neg l0, Bool.true_and, Bool.false_or] at cC
  clear g3 g5
  have g4 : (b == -1) = false := by rw [beq_eq_false_iff_ne]; exact b1
  simp only [if_neg b1] at cC
  obtain ⟨P, hP⟩ : ∃ P, Wn * b = P := ⟨_, rfl⟩
  rw [hP] at cC
  have hP0 : 0 ≤ P := by rw [← hP]; exact Int.mul_nonneg (by omega) (by omega)
  have hP1 : P ≤ 1048576 * 41 := by rw [← hP]; exact Int.mul_le_mul (by omega) (by omega) (by omega) (by omega)
  have k1 : IntKind.i64.wrap P = P := IntWalk.i64_in P ⟨by omega, by omega⟩
  obtain ⟨Q, hQ⟩ : ∃ Q, (if 1048576 < P then 1048576 else P) = Q := ⟨_, rfl⟩
  have hQ9 : 0 ≤ Q ∧ Q ≤ 1048576 := by rw [← hQ]; split <;> omega
  have k2 : IntKind.i64.wrap (1 + Q) = 1 + Q := IntWalk.i64_in _ ⟨by omega, by omega⟩
  obtain ⟨R, hRq⟩ : ∃ R, (if 1048576 < 1 + Q then 1048576 else 1 + Q) = R := ⟨_, rfl⟩
  have hRm : min (1 + min P 1048576) 1048576 = R := by rw [← hRq, ← hQ]; split <;> split <;> omega
  rw [hRm] at cC
  clear hRm
  obtain ⟨P4, hP4⟩ : ∃ P4, Ln * l = P4 := ⟨_, rfl⟩
  have bP4 : -1048576 ≤ P4 ∧ P4 ≤ 1048576 * 41 := by rw [← hP4]; exact ⟨by have := Int.mul_nonneg (a := Ln) (b := l) (by omega) (by omega); omega, by have := Int.mul_le_mul (a := Ln) (b := l) (c := 1048576) (d := 41) (by omega) (by omega) (by omega) (by omega); omega⟩
  have kP4 : IntKind.i64.wrap P4 = P4 := IntWalk.i64_in _ ⟨by omega, by omega⟩
  obtain ⟨S4, hS4⟩ : ∃ S4, (if 1048576 < P4 then 1048576 else P4) = S4 := ⟨_, rfl⟩
  have mS4 : min P4 1048576 = S4 := by rw [← hS4]; split <;> omega
  rw [hP4, mS4] at cC
  clear mS4
  obtain ⟨P2, hP2⟩ : ∃ P2, Mn * b = P2 := ⟨_, rfl⟩
  have bP2 : -1048576 ≤ P2 ∧ P2 ≤ 1048576 * 41 := by rw [← hP2]; exact ⟨by have := Int.mul_nonneg (a := Mn) (b := b) (by omega) (by omega); omega, by have := Int.mul_le_mul (a := Mn) (b := b) (c := 1048576) (d := 41) (by omega) (by omega) (by omega) (by omega); omega⟩
  have kP2 : IntKind.i64.wrap P2 = P2 := IntWalk.i64_in _ ⟨by omega, by omega⟩
  obtain ⟨S2, hS2⟩ : ∃ S2, (if 1048576 < P2 then 1048576 else P2) = S2 := ⟨_, rfl⟩
  have mS2 : min P2 1048576 = S2 := by rw [← hS2]; split <;> omega
  rw [hP2, mS2] at cC
  clear mS2
  replace l0 := Lib.hid l0
  replace b1 := Lib.hid b1
  clear hRb hRR hRI hTn hT h3 hV hN hW hLe hMo hF hA hl hbw
  replace cC := Lib.hid cC
  obtain ⟨ns, hns⟩ : ∃ ns, n.strip = ns := ⟨_, rfl⟩
  rw [hns] at cO
  clear hns
  obtain ⟨k, u0, u1, u2, u3, p, cap, mn, mx, tx, ks⟩ := n
  simp only [T.cells, List.length_cons, List.length_nil, Nat.zero_add] at *
  go_enter Tryd.func5, Tryd.ntmps5
  go_wp2_with (first | (go_at_call 6; (with_reducible refine cA.out.mono ?_); rintro e w1 ⟨rfl, hb⟩; replace hbn := Lib.hid (kept_row hbn.out hb); have hln := lt_box hbn.out; obtain ⟨n0, n1, n2, n3, n4, n5, n6, n7, n8⟩ := c9 hbn.out; have hq1 := Lib.hid (Bel.step hq0.out hb); clear hb) | (go_at_call 7; (with_reducible refine (cO.out _ hq1.out).mono ?_); rintro e w2 ⟨⟨km, u0m, u1m, u2m, u3m, pm, capm, mnm, mxm, txm, ksm⟩, d, hd, rfl, hb, hmi, hms⟩; simp only; clear n0 n1 n2 n3 n4 n5 n6 n7 n8; replace hbn := Lib.hid (kept_row hbn.out hb); have hln2 := lt_box hbn.out; obtain ⟨n0, n1, n2, n3, n4, n5, n6, n7, n8⟩ := c9 hbn.out; have gd : decide (d ≤ 0) = false := (by rw [decide_eq_false_iff_not]; omega); obtain ⟨WQ, hWQ, hbm, hb1, hb2, hbl⟩ := three_new w2 #[.int .i64 km, .int .u64 u0m, .int .u64 u1m, .int .u64 u2m, .int .u64 u3m, .slice pm ksm.length capm, .int .i64 mnm, .int .i64 mxm, .string txm] #[.int .i64 k, .int .u64 u0, .int .u64 u1, .int .u64 u2, .int .u64 u3, .slice p ks.length cap, .int .i64 mn, .int .i64 mx, .string tx] #[.int .i64 4, .int .u64 0, .int .u64 0, .int .u64 0, .int .u64 0, .slice (some ⟨w2.heap.size + 1, 0, none⟩) 1 1, .int .i64 l, .int .i64 b, .string ⟨#[]⟩] 31 27 27; replace hbn := Lib.hid (kept_row hbn.out hbl); have cR := fun W (hW : Bel WQ W) => cC.out WQ (w2.heap.size + 1) (Bel.step (Bel.step hq1.out hb) hbl) hb1 W hW; have hqW := Lib.hid (Bel.step (Bel.step hq1.out hb) hbl); (try simp only [T.cells] at cR); replace cR := Lib.hid cR; replace hbm := Lib.hid hbm; replace hb1 := Lib.hid hb1; replace hb2 := Lib.hid hb2; replace hWQ := Lib.hid hWQ; obtain ⟨x0, x1, x2, x3, x4, x5, x6, x7, x8⟩ := c9 hb2.out; clear hb hbl hmi hd hq1 hms hbm) | (go_at_call 15; (try rw [hWQ.out]); clear hWQ; clear n0 n1 n2 n3 n4 n5 n6 n7 n8 x0 x1 x2 x3 x4 x5 x6 x7 x8; (with_reducible refine (cR.out _ (Bel.refl _)).1.mono ?_); rintro e w3 ⟨rfl, hb⟩; replace hbn := Lib.hid (kept_row hbn.out hb); replace hb2 := Lib.hid (kept_row hb2.out hb); obtain ⟨n0, n1, n2, n3, n4, n5, n6, n7, n8⟩ := c9 hbn.out; obtain ⟨x0, x1, x2, x3, x4, x5, x6, x7, x8⟩ := c9 hb2.out; have hqr := Lib.hid (show Bel WQ w3 from hb); have hq4 := Lib.hid (Bel.step hqW.out hb); clear hb hqW))
  have hS9 : w3.drew.heap[w.heap.size]? = some (.cells #[.int .i64 k, .int .u64 u0, .int .u64 u1, .int .u64 u2, .int .u64 u3, .slice p ks.length cap, .int .i64 mn, .int .i64 mx, .string tx] 27) ∧ w3.drew.heap[w2.heap.size + 1 + 1]? = some (.cells #[.int .i64 4, .int .u64 0, .int .u64 0, .int .u64 0, .int .u64 0, .slice (some ⟨w2.heap.size + 1, 0, none⟩) 1 1, .int .i64 l, .int .i64 b, .string ⟨#[]⟩] 27) := ⟨hbn.out, hb2.out⟩
  replace hqr := Lib.hid (show Bel WQ w3.drew from Below.trans hqr.out (Below.refl _ _).drew)
  replace hq4 := Lib.hid (show Bel w w3.drew from Below.trans hq4.out (Below.refl _ _).drew)
  clear hbn hb2
  clear n0 n1 n2 n3 n4 n5 n6 n7 n8 x0 x1 x2 x3 x4 x5 x6 x7 x8
  refine wp_region_held_drew (S := fun W => W.heap[w.heap.size]? = some (.cells #[.int .i64 k, .int .u64 u0, .int .u64 u1, .int .u64 u2, .int .u64 u3, .slice p ks.length cap, .int .i64 mn, .int .i64 mx, .string tx] 27) ∧ W.heap[w2.heap.size + 1 + 1]? = some (.cells #[.int .i64 4, .int .u64 0, .int .u64 0, .int .u64 0, .int .u64 0, .slice (some ⟨w2.heap.size + 1, 0, none⟩) 1 1, .int .i64 l, .int .i64 b, .string ⟨#[]⟩] 27)) (by kernel_rfl) hS9 (fun hHeld => ?_)
  clear hS9
  generalize w3.drew = wd9 at *
  refine wpAnyH_take (i := 0) (v := ?v0u102) rfl (by kernel_rfl) (by kernel_rfl) (by kernel_rfl) (fun _ _ _ h => h) (Or.inl ⟨by rfl, ?h0u102⟩) hHeld ?r0u102
  case h0u102 => (intro wq hSw; obtain ⟨z0, z1, z2, z3, z4, z5, z6, z7, z8⟩ := c9 hSw.2; go_simp <;> with_reducible rfl)
  try simp only [Go.Last.pt]
  refine wpAnyH_take (i := 2) (v := ?v2u103) rfl (by kernel_rfl) (by kernel_rfl) (by kernel_rfl) (fun _ _ _ h => h) (Or.inl ⟨by rfl, ?h2u103⟩) hHeld ?r2u103
  case h2u103 => (intro wq hSw; obtain ⟨z0, z1, z2, z3, z4, z5, z6, z7, z8⟩ := c9 hSw.1; go_simp <;> with_reducible rfl)
  try simp only [Go.Last.pt]
  refine wpAnyH_take (i := 4) (v := ?v4u104) rfl (by kernel_rfl) (by kernel_rfl) (by kernel_rfl) (fun _ _ _ h => h) (Or.inl ⟨by rfl, ?h4u104⟩) hHeld ?r4u104
  case h4u104 => (intro wq hSw; go_simp <;> with_reducible rfl)
  try simp only [Go.Last.pt]
  refine Go.Last.held 1 (by kernel_rfl) rfl (fun K hK => ?_)
  go_simp
  (first | (go_at_call 19; (first | (with_reducible refine (cR.out _ hqr.out).2.2.2.2.2.1.mono ?_) | (with_reducible refine (cR.out _ hqr.out).2.2.2.2.2.2.1.mono ?_)); rintro e w9 ⟨rfl, hb⟩; replace hqr := Lib.hid (Bel.step hqr.out hb); replace hq4 := Lib.hid (Bel.step hq4.out hb)) | skip)
  try dsimp only
  refine hK.out _ _ (by first | exact ⟨kept_row hHeld.1 hb, kept_row hHeld.2 hb⟩ | exact hHeld) (fun hHeld2 => ?_)
  clear hK K hHeld
  have hHeld := hHeld2
  clear hHeld2
  try simp only [Go.Last.pt]
  refine Go.Last.held 3 (by kernel_rfl) rfl (fun K hK => ?_)
  go_simp
  (first | (go_at_call 19; (first | (with_reducible refine (cR.out _ hqr.out).2.2.2.2.2.1.mono ?_) | (with_reducible refine (cR.out _ hqr.out).2.2.2.2.2.2.1.mono ?_)); rintro e w9 ⟨rfl, hb⟩; replace hqr := Lib.hid (Bel.step hqr.out hb); replace hq4 := Lib.hid (Bel.step hq4.out hb)) | skip)
  try dsimp only
  refine hK.out _ _ (by first | exact ⟨kept_row hHeld.1 hb, kept_row hHeld.2 hb⟩ | exact hHeld) (fun hHeld2 => ?_)
  clear hK K hHeld
  have hHeld := hHeld2
  clear hHeld2
  try simp only [Go.Last.pt]
  refine Go.Last.held 5 (by kernel_rfl) rfl (fun K hK => ?_)
  go_simp
  try dsimp only
  refine hK.out _ _ (hHeld) (fun hHeld2 => ?_)
  clear hK K hHeld
  have hHeld := hHeld2
  clear hHeld2
  try simp only [Go.Last.pt]
  refine Go.Last.held 6 (by kernel_rfl) rfl (fun K hK => ?_)
  go_simp
  try dsimp only
  refine hK.out _ _ (hHeld) (fun hHeld2 => ?_)
  clear hK K hHeld
  have hHeld := hHeld2
  clear hHeld2
  try simp only [Go.Last.pt]
  refine Go.Last.held 7 (by kernel_rfl) rfl (fun K hK => ?_)
  go_simp
  try dsimp only
  refine hK.out _ _ (hHeld) (fun hHeld2 => ?_)
  clear hK K hHeld
  have hHeld := hHeld2
  clear hHeld2
  try simp only [Go.Last.pt]
  refine Go.Last.held 8 (by kernel_rfl) rfl (fun K hK => ?_)
  go_simp
  try dsimp only
  refine hK.out _ _ (hHeld) (fun hHeld2 => ?_)
  clear hK K hHeld
  have hHeld := hHeld2
  clear hHeld2
  try simp only [Go.Last.pt]
  refine Go.Last.held 9 (by kernel_rfl) rfl (fun K hK => ?_)
  go_simp
  try dsimp only
  refine hK.out _ _ (hHeld) (fun hHeld2 => ?_)
  clear hK K hHeld
  have hHeld := hHeld2
  clear hHeld2
  try simp only [Go.Last.pt]
  refine Go.Last.held 10 (by kernel_rfl) rfl (fun K hK => ?_)
  go_simp
  try dsimp only
  refine hK.out _ _ (hHeld) (fun hHeld2 => ?_)
  clear hK K hHeld
  have hHeld := hHeld2
  clear hHeld2
  try simp only [Go.Last.pt]
  refine wpAnyH_take (i := 11) (v := ?v11u105) rfl (by kernel_rfl) (by kernel_rfl) (by kernel_rfl) (fun _ _ _ h => h) (Or.inl ⟨by rfl, ?h11u105⟩) hHeld ?r11u105
  case h11u105 => (intro wq hSw; obtain ⟨z0, z1, z2, z3, z4, z5, z6, z7, z8⟩ := c9 hSw.2; go_simp <;> with_reducible rfl)
  try simp only [Go.Last.pt]
  refine wpAnyH_take (i := 13) (v := ?v13u106) rfl (by kernel_rfl) (by kernel_rfl) (by kernel_rfl) (fun _ _ _ h => h) (Or.inl ⟨by rfl, ?h13u106⟩) hHeld ?r13u106
  case h13u106 => (intro wq hSw; go_simp <;> with_reducible rfl)
  try simp only [Go.Last.pt]
  refine wpAnyH_ready (rs := [12, 14]) (by kernel_rfl) (by simp) ?_
  refine (AllReadyH.cons (o := _) rfl (fun K hK => ?_) (AllReadyH.cons (o := _) rfl (fun K hK => ?_) AllReadyH.nil))
  · go_simp
    (first | (go_at_call 17; (first | (with_reducible refine (cR.out _ hqr.out).2.2.2.1.mono ?_) | (with_reducible refine (cR.out _ hqr.out).2.2.2.2.1.mono ?_)); rintro e w9 ⟨rfl, hb⟩; replace hqr := Lib.hid (Bel.step hqr.out hb); replace hq4 := Lib.hid (Bel.step hq4.out hb)) | skip)
    try dsimp only
    refine hK.out _ _ (by first | exact ⟨kept_row hHeld.1 hb, kept_row hHeld.2 hb⟩ | exact hHeld) (fun hHeld2 => ?_)
    clear hK K hHeld
    have hHeld := hHeld2
    clear hHeld2
    try simp only [Go.Last.pt]
    refine Go.Last.held 14 (by kernel_rfl) rfl (fun K hK => ?_)
    go_simp
    try dsimp only
    refine hK.out _ _ (hHeld) (fun hHeld2 => ?_)
    clear hK K hHeld
    have hHeld := hHeld2
    clear hHeld2
    try simp only [Go.Last.pt]
    refine Go.Last.held 15 (by kernel_rfl) rfl (fun K hK => ?_)
    go_simp
    try dsimp only
    refine hK.out _ _ (hHeld) (fun hHeld2 => ?_)
    clear hK K hHeld
    have hHeld := hHeld2
    clear hHeld2
    try simp only [Go.Last.pt]
    refine wpAnyH_take (i := 16) (v := ?v16u107) rfl (by kernel_rfl) (by kernel_rfl) (by kernel_rfl) (fun _ _ _ h => h) (Or.inl ⟨by rfl, ?h16u107⟩) hHeld ?r16u107
    case h16u107 => (intro wq hSw; obtain ⟨z0, z1, z2, z3, z4, z5, z6, z7, z8⟩ := c9 hSw.1; go_simp <;> with_reducible rfl)
    try simp only [Go.Last.pt]
    refine Go.Last.held 17 (by kernel_rfl) rfl (fun K hK => ?_)
    go_simp
    (first | (go_at_call 17; (first | (with_reducible refine (cR.out _ hqr.out).2.2.2.1.mono ?_) | (with_reducible refine (cR.out _ hqr.out).2.2.2.2.1.mono ?_)); rintro e w9 ⟨rfl, hb⟩; replace hqr := Lib.hid (Bel.step hqr.out hb); replace hq4 := Lib.hid (Bel.step hq4.out hb)) | skip)
    try dsimp only
    refine hK.out _ _ (by first | exact ⟨kept_row hHeld.1 hb, kept_row hHeld.2 hb⟩ | exact hHeld) (fun hHeld2 => ?_)
    clear hK K hHeld
    have hHeld := hHeld2
    clear hHeld2
    try simp only [Go.Last.pt]
    refine Go.Last.held 18 (by kernel_rfl) rfl (fun K hK => ?_)
    go_simp
    try dsimp only
    refine hK.out _ _ (hHeld) (fun hHeld2 => ?_)
    clear hK K hHeld
    have hHeld := hHeld2
    clear hHeld2
    try simp only [Go.Last.pt]
    refine Go.Last.held 19 (by kernel_rfl) rfl (fun K hK => ?_)
    go_simp
    try dsimp only
    refine hK.out _ _ (hHeld) (fun hHeld2 => ?_)
    clear hK K hHeld
    have hHeld := hHeld2
    clear hHeld2
    try simp only [Go.Last.pt]
    refine Go.Last.held 20 (by kernel_rfl) rfl (fun K hK => ?_)
    go_simp
    try dsimp only
    refine hK.out _ _ (hHeld) (fun hHeld2 => ?_)
    clear hK K hHeld
    have hHeld := hHeld2
    clear hHeld2
    try simp only [Go.Last.pt]
    refine wpAnyH_done (by kernel_rfl) ?_ _
    have hbn := Lib.hid hHeld.1
    have hb2 := Lib.hid hHeld.2
    obtain ⟨n0, n1, n2, n3, n4, n5, n6, n7, n8⟩ := c9 hbn.out; obtain ⟨x0, x1, x2, x3, x4, x5, x6, x7, x8⟩ := c9 hb2.out
    go_wp2_with (first | (go_at_call 16; clear n0 n1 n2 n3 n4 n5 n6 n7 n8 x0 x1 x2 x3 x4 x5 x6 x7 x8; (first | (with_reducible refine (cR.out _ hqr.out).2.1.mono ?_) | (with_reducible refine (cR.out _ hqr.out).2.2.1.mono ?_)); rintro e w9 ⟨rfl, hb⟩; replace hbn := Lib.hid (kept_row hbn.out hb); replace hb2 := Lib.hid (kept_row hb2.out hb); obtain ⟨n0, n1, n2, n3, n4, n5, n6, n7, n8⟩ := c9 hbn.out; obtain ⟨x0, x1, x2, x3, x4, x5, x6, x7, x8⟩ := c9 hb2.out; replace hqr := Lib.hid (Bel.step hqr.out hb); replace hq4 := Lib.hid (Bel.step hq4.out hb); clear hb) | (go_at_call 21; clear n0 n1 n2 n3 n4 n5 n6 n7 n8 x0 x1 x2 x3 x4 x5 x6 x7 x8; (first | (with_reducible refine ((cR.out _ hqr.out).2.2.2.2.2.2.2.2 (by simp)).2.2.1.mono ?_) | (with_reducible refine ((cR.out _ hqr.out).2.2.2.2.2.2.2.2 (by simp)).2.2.2.1.mono ?_)); rintro e w9 ⟨rfl, hb⟩; replace hbn := Lib.hid (kept_row hbn.out hb); replace hb2 := Lib.hid (kept_row hb2.out hb); obtain ⟨n0, n1, n2, n3, n4, n5, n6, n7, n8⟩ := c9 hbn.out; obtain ⟨x0, x1, x2, x3, x4, x5, x6, x7, x8⟩ := c9 hb2.out; replace hqr := Lib.hid (Bel.step hqr.out hb); replace hq4 := Lib.hid (Bel.step hq4.out hb); clear hb))
    have hS9 : w9.drew.heap[w.heap.size]? = some (.cells #[.int .i64 k, .int .u64 u0, .int .u64 u1, .int .u64 u2, .int .u64 u3, .slice p ks.length cap, .int .i64 mn, .int .i64 mx, .string tx] 27) ∧ w9.drew.heap[w2.heap.size + 1 + 1]? = some (.cells #[.int .i64 4, .int .u64 0, .int .u64 0, .int .u64 0, .int .u64 0, .slice (some ⟨w2.heap.size + 1, 0, none⟩) 1 1, .int .i64 l, .int .i64 b, .string ⟨#[]⟩] 27) := ⟨hbn.out, hb2.out⟩
    replace hqr := Lib.hid (show Bel WQ w9.drew from Below.trans hqr.out (Below.refl _ _).drew)
    replace hq4 := Lib.hid (show Bel w w9.drew from Below.trans hq4.out (Below.refl _ _).drew)
    clear hbn hb2
    clear n0 n1 n2 n3 n4 n5 n6 n7 n8 x0 x1 x2 x3 x4 x5 x6 x7 x8
    refine wp_region_held_drew (S := fun W => W.heap[w.heap.size]? = some (.cells #[.int .i64 k, .int .u64 u0, .int .u64 u1, .int .u64 u2, .int .u64 u3, .slice p ks.length cap, .int .i64 mn, .int .i64 mx, .string tx] 27) ∧ W.heap[w2.heap.size + 1 + 1]? = some (.cells #[.int .i64 4, .int .u64 0, .int .u64 0, .int .u64 0, .int .u64 0, .slice (some ⟨w2.heap.size + 1, 0, none⟩) 1 1, .int .i64 l, .int .i64 b, .string ⟨#[]⟩] 27)) (by kernel_rfl) hS9 (fun hHeld => ?_)
    clear hS9
    generalize w9.drew = wd8 at *
    refine wpAnyH_take (i := 0) (v := ?v0u108) rfl (by kernel_rfl) (by kernel_rfl) (by kernel_rfl) (fun _ _ _ h => h) (Or.inl ⟨by rfl, ?h0u108⟩) hHeld ?r0u108
    case h0u108 => (intro wq hSw; obtain ⟨z0, z1, z2, z3, z4, z5, z6, z7, z8⟩ := c9 hSw.2; go_simp <;> with_reducible rfl)
    try simp only [Go.Last.pt]
    refine Go.Last.held 1 (by kernel_rfl) rfl (fun K hK => ?_)
    go_simp
    (first | (go_at_call 16; (first | (with_reducible refine (cR.out _ hqr.out).2.1.mono ?_) | (with_reducible refine (cR.out _ hqr.out).2.2.1.mono ?_)); rintro e w9 ⟨rfl, hb⟩; replace hqr := Lib.hid (Bel.step hqr.out hb); replace hq4 := Lib.hid (Bel.step hq4.out hb)) | skip)
    try dsimp only
    refine hK.out _ _ (by first | exact ⟨kept_row hHeld.1 hb, kept_row hHeld.2 hb⟩ | exact hHeld) (fun hHeld2 => ?_)
    clear hK K hHeld
    have hHeld := hHeld2
    clear hHeld2
    try simp only [Go.Last.pt]
    refine Go.Last.held 2 (by kernel_rfl) rfl (fun K hK => ?_)
    go_simp
    try dsimp only
    refine hK.out _ _ (hHeld) (fun hHeld2 => ?_)
    clear hK K hHeld
    have hHeld := hHeld2
    clear hHeld2
    try simp only [Go.Last.pt]
    refine Go.Last.held 3 (by kernel_rfl) rfl (fun K hK => ?_)
    go_simp
    try dsimp only
    refine hK.out _ _ (hHeld) (fun hHeld2 => ?_)
    clear hK K hHeld
    have hHeld := hHeld2
    clear hHeld2
    try simp only [Go.Last.pt]
    refine wpAnyH_take (i := 4) (v := ?v4u109) rfl (by kernel_rfl) (by kernel_rfl) (by kernel_rfl) (fun _ _ _ h => h) (Or.inl ⟨by rfl, ?h4u109⟩) hHeld ?r4u109
    case h4u109 => (intro wq hSw; obtain ⟨z0, z1, z2, z3, z4, z5, z6, z7, z8⟩ := c9 hSw.2; go_simp <;> with_reducible rfl)
    try simp only [Go.Last.pt]
    refine wpAnyH_take (i := 6) (v := ?v6u110) rfl (by kernel_rfl) (by kernel_rfl) (by kernel_rfl) (fun _ _ _ h => h) (Or.inl ⟨by rfl, ?h6u110⟩) hHeld ?r6u110
    case h6u110 => (intro wq hSw; obtain ⟨z0, z1, z2, z3, z4, z5, z6, z7, z8⟩ := c9 hSw.1; go_simp <;> with_reducible rfl)
    try simp only [Go.Last.pt]
    refine wpAnyH_take (i := 8) (v := ?v8u111) rfl (by kernel_rfl) (by kernel_rfl) (by kernel_rfl) (fun _ _ _ h => h) (Or.inl ⟨by rfl, ?h8u111⟩) hHeld ?r8u111
    case h8u111 => (intro wq hSw; go_simp <;> with_reducible rfl)
    try simp only [Go.Last.pt]
    refine Go.Last.held 5 (by kernel_rfl) rfl (fun K hK => ?_)
    go_simp
    (first | (go_at_call 20; (first | (with_reducible refine ((cR.out _ hqr.out).2.2.2.2.2.2.2.2 (by simp)).1.mono ?_) | (with_reducible refine ((cR.out _ hqr.out).2.2.2.2.2.2.2.2 (by simp)).2.1.mono ?_)); rintro e w9 ⟨rfl, hb⟩; replace hqr := Lib.hid (Bel.step hqr.out hb); replace hq4 := Lib.hid (Bel.step hq4.out hb)) | skip)
    try dsimp only
    refine hK.out _ _ (by first | exact ⟨kept_row hHeld.1 hb, kept_row hHeld.2 hb⟩ | exact hHeld) (fun hHeld2 => ?_)
    clear hK K hHeld
    have hHeld := hHeld2
    clear hHeld2
    try simp only [Go.Last.pt]
    refine Go.Last.held 7 (by kernel_rfl) rfl (fun K hK => ?_)
    go_simp
    (first | (go_at_call 20; (first | (with_reducible refine ((cR.out _ hqr.out).2.2.2.2.2.2.2.2 (by simp)).1.mono ?_) | (with_reducible refine ((cR.out _ hqr.out).2.2.2.2.2.2.2.2 (by simp)).2.1.mono ?_)); rintro e w9 ⟨rfl, hb⟩; replace hqr := Lib.hid (Bel.step hqr.out hb); replace hq4 := Lib.hid (Bel.step hq4.out hb)) | skip)
    try dsimp only
    refine hK.out _ _ (by first | exact ⟨kept_row hHeld.1 hb, kept_row hHeld.2 hb⟩ | exact hHeld) (fun hHeld2 => ?_)
    clear hK K hHeld
    have hHeld := hHeld2
    clear hHeld2
    try simp only [Go.Last.pt]
    refine Go.Last.held 9 (by kernel_rfl) rfl (fun K hK => ?_)
    go_simp
    try dsimp only
    refine hK.out _ _ (hHeld) (fun hHeld2 => ?_)
    clear hK K hHeld
    have hHeld := hHeld2
    clear hHeld2
    try simp only [Go.Last.pt]
    refine Go.Last.held 10 (by kernel_rfl) rfl (fun K hK => ?_)
    go_simp
    try dsimp only
    refine hK.out _ _ (hHeld) (fun hHeld2 => ?_)
    clear hK K hHeld
    have hHeld := hHeld2
    clear hHeld2
    try simp only [Go.Last.pt]
    refine Go.Last.held 11 (by kernel_rfl) rfl (fun K hK => ?_)
    go_simp
    try dsimp only
    refine hK.out _ _ (hHeld) (fun hHeld2 => ?_)
    clear hK K hHeld
    have hHeld := hHeld2
    clear hHeld2
    try simp only [Go.Last.pt]
    refine Go.Last.held 12 (by kernel_rfl) rfl (fun K hK => ?_)
    go_simp
    try dsimp only
    refine hK.out _ _ (hHeld) (fun hHeld2 => ?_)
    clear hK K hHeld
    have hHeld := hHeld2
    clear hHeld2
    try simp only [Go.Last.pt]
    refine Go.Last.held 13 (by kernel_rfl) rfl (fun K hK => ?_)
    go_simp
    try dsimp only
    refine hK.out _ _ (hHeld) (fun hHeld2 => ?_)
    clear hK K hHeld
    have hHeld := hHeld2
    clear hHeld2
    try simp only [Go.Last.pt]
    refine wpAnyH_take (i := 14) (v := ?v14u112) rfl (by kernel_rfl) (by kernel_rfl) (by kernel_rfl) (fun _ _ _ h => h) (Or.inl ⟨by rfl, ?h14u112⟩) hHeld ?r14u112
    case h14u112 => (intro wq hSw; obtain ⟨z0, z1, z2, z3, z4, z5, z6, z7, z8⟩ := c9 hSw.2; go_simp <;> with_reducible rfl)
    try simp only [Go.Last.pt]
    refine wpAnyH_take (i := 16) (v := ?v16u113) rfl (by kernel_rfl) (by kernel_rfl) (by kernel_rfl) (fun _ _ _ h => h) (Or.inl ⟨by rfl, ?h16u113⟩) hHeld ?r16u113
    case h16u113 => (intro wq hSw; go_simp <;> with_reducible rfl)
    try simp only [Go.Last.pt]
    refine Go.Last.held 15 (by kernel_rfl) rfl (fun K hK => ?_)
    go_simp
    (first | (go_at_call 21; (first | (with_reducible refine ((cR.out _ hqr.out).2.2.2.2.2.2.2.2 (by simp)).2.2.1.mono ?_) | (with_reducible refine ((cR.out _ hqr.out).2.2.2.2.2.2.2.2 (by simp)).2.2.2.1.mono ?_)); rintro e w9 ⟨rfl, hb⟩; replace hqr := Lib.hid (Bel.step hqr.out hb); replace hq4 := Lib.hid (Bel.step hq4.out hb)) | skip)
    try dsimp only
    refine hK.out _ _ (by first | exact ⟨kept_row hHeld.1 hb, kept_row hHeld.2 hb⟩ | exact hHeld) (fun hHeld2 => ?_)
    clear hK K hHeld
    have hHeld := hHeld2
    clear hHeld2
    try simp only [Go.Last.pt]
    refine Go.Last.held 17 (by kernel_rfl) rfl (fun K hK => ?_)
    go_simp
    try dsimp only
    refine hK.out _ _ (hHeld) (fun hHeld2 => ?_)
    clear hK K hHeld
    have hHeld := hHeld2
    clear hHeld2
    try simp only [Go.Last.pt]
    refine Go.Last.held 18 (by kernel_rfl) rfl (fun K hK => ?_)
    go_simp
    try dsimp only
    refine hK.out _ _ (hHeld) (fun hHeld2 => ?_)
    clear hK K hHeld
    have hHeld := hHeld2
    clear hHeld2
    try simp only [Go.Last.pt]
    refine Go.Last.held 19 (by kernel_rfl) rfl (fun K hK => ?_)
    go_simp
    try dsimp only
    refine hK.out _ _ (hHeld) (fun hHeld2 => ?_)
    clear hK K hHeld
    have hHeld := hHeld2
    clear hHeld2
    try simp only [Go.Last.pt]
    refine wpAnyH_take (i := 20) (v := ?v20u114) rfl (by kernel_rfl) (by kernel_rfl) (by kernel_rfl) (fun _ _ _ h => h) (Or.inl ⟨by rfl, ?h20u114⟩) hHeld ?r20u114
    case h20u114 => (intro wq hSw; obtain ⟨z0, z1, z2, z3, z4, z5, z6, z7, z8⟩ := c9 hSw.2; go_simp <;> with_reducible rfl)
    try simp only [Go.Last.pt]
    refine wpAnyH_take (i := 22) (v := ?v22u115) rfl (by kernel_rfl) (by kernel_rfl) (by kernel_rfl) (fun _ _ _ h => h) (Or.inl ⟨by rfl, ?h22u115⟩) hHeld ?r22u115
    case h22u115 => (intro wq hSw; obtain ⟨z0, z1, z2, z3, z4, z5, z6, z7, z8⟩ := c9 hSw.1; go_simp <;> with_reducible rfl)
    try simp only [Go.Last.pt]
    refine Go.Last.held 21 (by kernel_rfl) rfl (fun K hK => ?_)
    go_simp
    (first | (go_at_call 12; (first | (with_reducible refine ((cR.out _ hqr.out).2.2.2.2.2.2.2.2 (by simp)).2.2.2.2.1.mono ?_) | (with_reducible refine ((cR.out _ hqr.out).2.2.2.2.2.2.2.2 (by simp)).2.2.2.2.2.1.mono ?_)); rintro e w9 ⟨rfl, hb⟩; replace hqr := Lib.hid (Bel.step hqr.out hb); replace hq4 := Lib.hid (Bel.step hq4.out hb)) | skip)
    try dsimp only
    refine hK.out _ _ (by first | exact ⟨kept_row hHeld.1 hb, kept_row hHeld.2 hb⟩ | exact hHeld) (fun hHeld2 => ?_)
    clear hK K hHeld
    have hHeld := hHeld2
    clear hHeld2
    try simp only [Go.Last.pt]
    refine Go.Last.held 23 (by kernel_rfl) rfl (fun K hK => ?_)
    go_simp
    (first | (go_at_call 12; (first | (with_reducible refine ((cR.out _ hqr.out).2.2.2.2.2.2.2.2 (by simp)).2.2.2.2.1.mono ?_) | (with_reducible refine ((cR.out _ hqr.out).2.2.2.2.2.2.2.2 (by simp)).2.2.2.2.2.1.mono ?_)); rintro e w9 ⟨rfl, hb⟩; replace hqr := Lib.hid (Bel.step hqr.out hb); replace hq4 := Lib.hid (Bel.step hq4.out hb)) | skip)
    try dsimp only
    refine hK.out _ _ (by first | exact ⟨kept_row hHeld.1 hb, kept_row hHeld.2 hb⟩ | exact hHeld) (fun hHeld2 => ?_)
    clear hK K hHeld
    have hHeld := hHeld2
    clear hHeld2
    try simp only [Go.Last.pt]
    refine Go.Last.held 24 (by kernel_rfl) rfl (fun K hK => ?_)
    go_simp
    try dsimp only
    refine hK.out _ _ (hHeld) (fun hHeld2 => ?_)
    clear hK K hHeld
    have hHeld := hHeld2
    clear hHeld2
    try simp only [Go.Last.pt]
    refine Go.Last.held 25 (by kernel_rfl) rfl (fun K hK => ?_)
    go_simp
    try dsimp only
    refine hK.out _ _ (hHeld) (fun hHeld2 => ?_)
    clear hK K hHeld
    have hHeld := hHeld2
    clear hHeld2
    try simp only [Go.Last.pt]
    refine Go.Last.held 26 (by kernel_rfl) rfl (fun K hK => ?_)
    go_simp
    try dsimp only
    refine hK.out _ _ (hHeld) (fun hHeld2 => ?_)
    clear hK K hHeld
    have hHeld := hHeld2
    clear hHeld2
    try simp only [Go.Last.pt]
    refine wpAnyH_take (i := 27) (v := ?v27u116) rfl (by kernel_rfl) (by kernel_rfl) (by kernel_rfl) (fun _ _ _ h => h) (Or.inl ⟨by rfl, ?h27u116⟩) hHeld ?r27u116
    case h27u116 => (intro wq hSw; obtain ⟨z0, z1, z2, z3, z4, z5, z6, z7, z8⟩ := c9 hSw.2; go_simp <;> with_reducible rfl)
    try simp only [Go.Last.pt]
    refine wpAnyH_take (i := 29) (v := ?v29u117) rfl (by kernel_rfl) (by kernel_rfl) (by kernel_rfl) (fun _ _ _ h => h) (Or.inl ⟨by rfl, ?h29u117⟩) hHeld ?r29u117
    case h29u117 => (intro wq hSw; obtain ⟨z0, z1, z2, z3, z4, z5, z6, z7, z8⟩ := c9 hSw.1; go_simp <;> with_reducible rfl)
    try simp only [Go.Last.pt]
    refine Go.Last.held 28 (by kernel_rfl) rfl (fun K hK => ?_)
    go_simp
    (first | (go_at_call 14; (first | (with_reducible refine ((cR.out _ hqr.out).2.2.2.2.2.2.2.2 (by simp)).2.2.2.2.2.2.1.mono ?_) | (with_reducible refine ((cR.out _ hqr.out).2.2.2.2.2.2.2.2 (by simp)).2.2.2.2.2.2.2.mono ?_)); rintro e w9 ⟨rfl, hb⟩; replace hqr := Lib.hid (Bel.step hqr.out hb); replace hq4 := Lib.hid (Bel.step hq4.out hb)) | skip)
    try dsimp only
    refine hK.out _ _ (by first | exact ⟨kept_row hHeld.1 hb, kept_row hHeld.2 hb⟩ | exact hHeld) (fun hHeld2 => ?_)
    clear hK K hHeld
    have hHeld := hHeld2
    clear hHeld2
    try simp only [Go.Last.pt]
    refine Go.Last.held 30 (by kernel_rfl) rfl (fun K hK => ?_)
    go_simp
    (first | (go_at_call 14; (first | (with_reducible refine ((cR.out _ hqr.out).2.2.2.2.2.2.2.2 (by simp)).2.2.2.2.2.2.1.mono ?_) | (with_reducible refine ((cR.out _ hqr.out).2.2.2.2.2.2.2.2 (by simp)).2.2.2.2.2.2.2.mono ?_)); rintro e w9 ⟨rfl, hb⟩; replace hqr := Lib.hid (Bel.step hqr.out hb); replace hq4 := Lib.hid (Bel.step hq4.out hb)) | skip)
    try dsimp only
    refine hK.out _ _ (by first | exact ⟨kept_row hHeld.1 hb, kept_row hHeld.2 hb⟩ | exact hHeld) (fun hHeld2 => ?_)
    clear hK K hHeld
    have hHeld := hHeld2
    clear hHeld2
    try simp only [Go.Last.pt]
    refine Go.Last.held 31 (by kernel_rfl) rfl (fun K hK => ?_)
    go_simp
    try dsimp only
    refine hK.out _ _ (hHeld) (fun hHeld2 => ?_)
    clear hK K hHeld
    have hHeld := hHeld2
    clear hHeld2
    try simp only [Go.Last.pt]
    refine Go.Last.held 32 (by kernel_rfl) rfl (fun K hK => ?_)
    go_simp
    try dsimp only
    refine hK.out _ _ (hHeld) (fun hHeld2 => ?_)
    clear hK K hHeld
    have hHeld := hHeld2
    clear hHeld2
    try simp only [Go.Last.pt]
    refine Go.Last.held 33 (by kernel_rfl) rfl (fun K hK => ?_)
    go_simp
    try dsimp only
    refine hK.out _ _ (hHeld) (fun hHeld2 => ?_)
    clear hK K hHeld
    have hHeld := hHeld2
    clear hHeld2
    try simp only [Go.Last.pt]
    refine wpAnyH_done (by kernel_rfl) ?_ _
    go_wp2
    go_ret
    exact ⟨rfl, hq4.out⟩

  · go_simp
    try dsimp only
    refine hK.out _ _ (hHeld) (fun hHeld2 => ?_)
    clear hK K hHeld
    have hHeld := hHeld2
    clear hHeld2
    try simp only [Go.Last.pt]
    refine Go.Last.held 12 (by kernel_rfl) rfl (fun K hK => ?_)
    go_simp
    (first | (go_at_call 17; (first | (with_reducible refine (cR.out _ hqr.out).2.2.2.1.mono ?_) | (with_reducible refine (cR.out _ hqr.out).2.2.2.2.1.mono ?_)); rintro e w9 ⟨rfl, hb⟩; replace hqr := Lib.hid (Bel.step hqr.out hb); replace hq4 := Lib.hid (Bel.step hq4.out hb)) | skip)
    try dsimp only
    refine hK.out _ _ (by first | exact ⟨kept_row hHeld.1 hb, kept_row hHeld.2 hb⟩ | exact hHeld) (fun hHeld2 => ?_)
    clear hK K hHeld
    have hHeld := hHeld2
    clear hHeld2
    try simp only [Go.Last.pt]
    refine Go.Last.held 15 (by kernel_rfl) rfl (fun K hK => ?_)
    go_simp
    try dsimp only
    refine hK.out _ _ (hHeld) (fun hHeld2 => ?_)
    clear hK K hHeld
    have hHeld := hHeld2
    clear hHeld2
    try simp only [Go.Last.pt]
    refine wpAnyH_take (i := 16) (v := ?v16u118) rfl (by kernel_rfl) (by kernel_rfl) (by kernel_rfl) (fun _ _ _ h => h) (Or.inl ⟨by rfl, ?h16u118⟩) hHeld ?r16u118
    case h16u118 => (intro wq hSw; obtain ⟨z0, z1, z2, z3, z4, z5, z6, z7, z8⟩ := c9 hSw.1; go_simp <;> with_reducible rfl)
    try simp only [Go.Last.pt]
    refine Go.Last.held 17 (by kernel_rfl) rfl (fun K hK => ?_)
    go_simp
    (first | (go_at_call 17; (first | (with_reducible refine (cR.out _ hqr.out).2.2.2.1.mono ?_) | (with_reducible refine (cR.out _ hqr.out).2.2.2.2.1.mono ?_)); rintro e w9 ⟨rfl, hb⟩; replace hqr := Lib.hid (Bel.step hqr.out hb); replace hq4 := Lib.hid (Bel.step hq4.out hb)) | skip)
    try dsimp only
    refine hK.out _ _ (by first | exact ⟨kept_row hHeld.1 hb, kept_row hHeld.2 hb⟩ | exact hHeld) (fun hHeld2 => ?_)
    clear hK K hHeld
    have hHeld := hHeld2
    clear hHeld2
    try simp only [Go.Last.pt]
    refine Go.Last.held 18 (by kernel_rfl) rfl (fun K hK => ?_)
    go_simp
    try dsimp only
    refine hK.out _ _ (hHeld) (fun hHeld2 => ?_)
    clear hK K hHeld
    have hHeld := hHeld2
    clear hHeld2
    try simp only [Go.Last.pt]
    refine Go.Last.held 19 (by kernel_rfl) rfl (fun K hK => ?_)
    go_simp
    try dsimp only
    refine hK.out _ _ (hHeld) (fun hHeld2 => ?_)
    clear hK K hHeld
    have hHeld := hHeld2
    clear hHeld2
    try simp only [Go.Last.pt]
    refine Go.Last.held 20 (by kernel_rfl) rfl (fun K hK => ?_)
    go_simp
    try dsimp only
    refine hK.out _ _ (hHeld) (fun hHeld2 => ?_)
    clear hK K hHeld
    have hHeld := hHeld2
    clear hHeld2
    try simp only [Go.Last.pt]
    refine wpAnyH_done (by kernel_rfl) ?_ _
    have hbn := Lib.hid hHeld.1
    have hb2 := Lib.hid hHeld.2
    obtain ⟨n0, n1, n2, n3, n4, n5, n6, n7, n8⟩ := c9 hbn.out; obtain ⟨x0, x1, x2, x3, x4, x5, x6, x7, x8⟩ := c9 hb2.out
    go_wp2_with (first | (go_at_call 16; clear n0 n1 n2 n3 n4 n5 n6 n7 n8 x0 x1 x2 x3 x4 x5 x6 x7 x8; (first | (with_reducible refine (cR.out _ hqr.out).2.1.mono ?_) | (with_reducible refine (cR.out _ hqr.out).2.2.1.mono ?_)); rintro e w9 ⟨rfl, hb⟩; replace hbn := Lib.hid (kept_row hbn.out hb); replace hb2 := Lib.hid (kept_row hb2.out hb); obtain ⟨n0, n1, n2, n3, n4, n5, n6, n7, n8⟩ := c9 hbn.out; obtain ⟨x0, x1, x2, x3, x4, x5, x6, x7, x8⟩ := c9 hb2.out; replace hqr := Lib.hid (Bel.step hqr.out hb); replace hq4 := Lib.hid (Bel.step hq4.out hb); clear hb) | (go_at_call 21; clear n0 n1 n2 n3 n4 n5 n6 n7 n8 x0 x1 x2 x3 x4 x5 x6 x7 x8; (first | (with_reducible refine ((cR.out _ hqr.out).2.2.2.2.2.2.2.2 (by simp)).2.2.1.mono ?_) | (with_reducible refine ((cR.out _ hqr.out).2.2.2.2.2.2.2.2 (by simp)).2.2.2.1.mono ?_)); rintro e w9 ⟨rfl, hb⟩; replace hbn := Lib.hid (kept_row hbn.out hb); replace hb2 := Lib.hid (kept_row hb2.out hb); obtain ⟨n0, n1, n2, n3, n4, n5, n6, n7, n8⟩ := c9 hbn.out; obtain ⟨x0, x1, x2, x3, x4, x5, x6, x7, x8⟩ := c9 hb2.out; replace hqr := Lib.hid (Bel.step hqr.out hb); replace hq4 := Lib.hid (Bel.step hq4.out hb); clear hb))
    have hS9 : w9.drew.heap[w.heap.size]? = some (.cells #[.int .i64 k, .int .u64 u0, .int .u64 u1, .int .u64 u2, .int .u64 u3, .slice p ks.length cap, .int .i64 mn, .int .i64 mx, .string tx] 27) ∧ w9.drew.heap[w2.heap.size + 1 + 1]? = some (.cells #[.int .i64 4, .int .u64 0, .int .u64 0, .int .u64 0, .int .u64 0, .slice (some ⟨w2.heap.size + 1, 0, none⟩) 1 1, .int .i64 l, .int .i64 b, .string ⟨#[]⟩] 27) := ⟨hbn.out, hb2.out⟩
    replace hqr := Lib.hid (show Bel WQ w9.drew from Below.trans hqr.out (Below.refl _ _).drew)
    replace hq4 := Lib.hid (show Bel w w9.drew from Below.trans hq4.out (Below.refl _ _).drew)
    clear hbn hb2
    clear n0 n1 n2 n3 n4 n5 n6 n7 n8 x0 x1 x2 x3 x4 x5 x6 x7 x8
    refine wp_region_held_drew (S := fun W => W.heap[w.heap.size]? = some (.cells #[.int .i64 k, .int .u64 u0, .int .u64 u1, .int .u64 u2, .int .u64 u3, .slice p ks.length cap, .int .i64 mn, .int .i64 mx, .string tx] 27) ∧ W.heap[w2.heap.size + 1 + 1]? = some (.cells #[.int .i64 4, .int .u64 0, .int .u64 0, .int .u64 0, .int .u64 0, .slice (some ⟨w2.heap.size + 1, 0, none⟩) 1 1, .int .i64 l, .int .i64 b, .string ⟨#[]⟩] 27)) (by kernel_rfl) hS9 (fun hHeld => ?_)
    clear hS9
    generalize w9.drew = wd8 at *
    refine wpAnyH_take (i := 0) (v := ?v0u119) rfl (by kernel_rfl) (by kernel_rfl) (by kernel_rfl) (fun _ _ _ h => h) (Or.inl ⟨by rfl, ?h0u119⟩) hHeld ?r0u119
    case h0u119 => (intro wq hSw; obtain ⟨z0, z1, z2, z3, z4, z5, z6, z7, z8⟩ := c9 hSw.2; go_simp <;> with_reducible rfl)
    try simp only [Go.Last.pt]
    refine Go.Last.held 1 (by kernel_rfl) rfl (fun K hK => ?_)
    go_simp
    (first | (go_at_call 16; (first | (with_reducible refine (cR.out _ hqr.out).2.1.mono ?_) | (with_reducible refine (cR.out _ hqr.out).2.2.1.mono ?_)); rintro e w9 ⟨rfl, hb⟩; replace hqr := Lib.hid (Bel.step hqr.out hb); replace hq4 := Lib.hid (Bel.step hq4.out hb)) | skip)
    try dsimp only
    refine hK.out _ _ (by first | exact ⟨kept_row hHeld.1 hb, kept_row hHeld.2 hb⟩ | exact hHeld) (fun hHeld2 => ?_)
    clear hK K hHeld
    have hHeld := hHeld2
    clear hHeld2
    try simp only [Go.Last.pt]
    refine Go.Last.held 2 (by kernel_rfl) rfl (fun K hK => ?_)
    go_simp
    try dsimp only
    refine hK.out _ _ (hHeld) (fun hHeld2 => ?_)
    clear hK K hHeld
    have hHeld := hHeld2
    clear hHeld2
    try simp only [Go.Last.pt]
    refine Go.Last.held 3 (by kernel_rfl) rfl (fun K hK => ?_)
    go_simp
    try dsimp only
    refine hK.out _ _ (hHeld) (fun hHeld2 => ?_)
    clear hK K hHeld
    have hHeld := hHeld2
    clear hHeld2
    try simp only [Go.Last.pt]
    refine wpAnyH_take (i := 4) (v := ?v4u120) rfl (by kernel_rfl) (by kernel_rfl) (by kernel_rfl) (fun _ _ _ h => h) (Or.inl ⟨by rfl, ?h4u120⟩) hHeld ?r4u120
    case h4u120 => (intro wq hSw; obtain ⟨z0, z1, z2, z3, z4, z5, z6, z7, z8⟩ := c9 hSw.2; go_simp <;> with_reducible rfl)
    try simp only [Go.Last.pt]
    refine wpAnyH_take (i := 6) (v := ?v6u121) rfl (by kernel_rfl) (by kernel_rfl) (by kernel_rfl) (fun _ _ _ h => h) (Or.inl ⟨by rfl, ?h6u121⟩) hHeld ?r6u121
    case h6u121 => (intro wq hSw; obtain ⟨z0, z1, z2, z3, z4, z5, z6, z7, z8⟩ := c9 hSw.1; go_simp <;> with_reducible rfl)
    try simp only [Go.Last.pt]
    refine wpAnyH_take (i := 8) (v := ?v8u122) rfl (by kernel_rfl) (by kernel_rfl) (by kernel_rfl) (fun _ _ _ h => h) (Or.inl ⟨by rfl, ?h8u122⟩) hHeld ?r8u122
    case h8u122 => (intro wq hSw; go_simp <;> with_reducible rfl)
    try simp only [Go.Last.pt]
    refine Go.Last.held 5 (by kernel_rfl) rfl (fun K hK => ?_)
    go_simp
    (first | (go_at_call 20; (first | (with_reducible refine ((cR.out _ hqr.out).2.2.2.2.2.2.2.2 (by simp)).1.mono ?_) | (with_reducible refine ((cR.out _ hqr.out).2.2.2.2.2.2.2.2 (by simp)).2.1.mono ?_)); rintro e w9 ⟨rfl, hb⟩; replace hqr := Lib.hid (Bel.step hqr.out hb); replace hq4 := Lib.hid (Bel.step hq4.out hb)) | skip)
    try dsimp only
    refine hK.out _ _ (by first | exact ⟨kept_row hHeld.1 hb, kept_row hHeld.2 hb⟩ | exact hHeld) (fun hHeld2 => ?_)
    clear hK K hHeld
    have hHeld := hHeld2
    clear hHeld2
    try simp only [Go.Last.pt]
    refine Go.Last.held 7 (by kernel_rfl) rfl (fun K hK => ?_)
    go_simp
    (first | (go_at_call 20; (first | (with_reducible refine ((cR.out _ hqr.out).2.2.2.2.2.2.2.2 (by simp)).1.mono ?_) | (with_reducible refine ((cR.out _ hqr.out).2.2.2.2.2.2.2.2 (by simp)).2.1.mono ?_)); rintro e w9 ⟨rfl, hb⟩; replace hqr := Lib.hid (Bel.step hqr.out hb); replace hq4 := Lib.hid (Bel.step hq4.out hb)) | skip)
    try dsimp only
    refine hK.out _ _ (by first | exact ⟨kept_row hHeld.1 hb, kept_row hHeld.2 hb⟩ | exact hHeld) (fun hHeld2 => ?_)
    clear hK K hHeld
    have hHeld := hHeld2
    clear hHeld2
    try simp only [Go.Last.pt]
    refine Go.Last.held 9 (by kernel_rfl) rfl (fun K hK => ?_)
    go_simp
    try dsimp only
    refine hK.out _ _ (hHeld) (fun hHeld2 => ?_)
    clear hK K hHeld
    have hHeld := hHeld2
    clear hHeld2
    try simp only [Go.Last.pt]
    refine Go.Last.held 10 (by kernel_rfl) rfl (fun K hK => ?_)
    go_simp
    try dsimp only
    refine hK.out _ _ (hHeld) (fun hHeld2 => ?_)
    clear hK K hHeld
    have hHeld := hHeld2
    clear hHeld2
    try simp only [Go.Last.pt]
    refine Go.Last.held 11 (by kernel_rfl) rfl (fun K hK => ?_)
    go_simp
    try dsimp only
    refine hK.out _ _ (hHeld) (fun hHeld2 => ?_)
    clear hK K hHeld
    have hHeld := hHeld2
    clear hHeld2
    try simp only [Go.Last.pt]
    refine Go.Last.held 12 (by kernel_rfl) rfl (fun K hK => ?_)
    go_simp
    try dsimp only
    refine hK.out _ _ (hHeld) (fun hHeld2 => ?_)
    clear hK K hHeld
    have hHeld := hHeld2
    clear hHeld2
    try simp only [Go.Last.pt]
    refine Go.Last.held 13 (by kernel_rfl) rfl (fun K hK => ?_)
    go_simp
    try dsimp only
    refine hK.out _ _ (hHeld) (fun hHeld2 => ?_)
    clear hK K hHeld
    have hHeld := hHeld2
    clear hHeld2
    try simp only [Go.Last.pt]
    refine wpAnyH_take (i := 14) (v := ?v14u123) rfl (by kernel_rfl) (by kernel_rfl) (by kernel_rfl) (fun _ _ _ h => h) (Or.inl ⟨by rfl, ?h14u123⟩) hHeld ?r14u123
    case h14u123 => (intro wq hSw; obtain ⟨z0, z1, z2, z3, z4, z5, z6, z7, z8⟩ := c9 hSw.2; go_simp <;> with_reducible rfl)
    try simp only [Go.Last.pt]
    refine wpAnyH_take (i := 16) (v := ?v16u124) rfl (by kernel_rfl) (by kernel_rfl) (by kernel_rfl) (fun _ _ _ h => h) (Or.inl ⟨by rfl, ?h16u124⟩) hHeld ?r16u124
    case h16u124 => (intro wq hSw; go_simp <;> with_reducible rfl)
    try simp only [Go.Last.pt]
    refine Go.Last.held 15 (by kernel_rfl) rfl (fun K hK => ?_)
    go_simp
    (first | (go_at_call 21; (first | (with_reducible refine ((cR.out _ hqr.out).2.2.2.2.2.2.2.2 (by simp)).2.2.1.mono ?_) | (with_reducible refine ((cR.out _ hqr.out).2.2.2.2.2.2.2.2 (by simp)).2.2.2.1.mono ?_)); rintro e w9 ⟨rfl, hb⟩; replace hqr := Lib.hid (Bel.step hqr.out hb); replace hq4 := Lib.hid (Bel.step hq4.out hb)) | skip)
    try dsimp only
    refine hK.out _ _ (by first | exact ⟨kept_row hHeld.1 hb, kept_row hHeld.2 hb⟩ | exact hHeld) (fun hHeld2 => ?_)
    clear hK K hHeld
    have hHeld := hHeld2
    clear hHeld2
    try simp only [Go.Last.pt]
    refine Go.Last.held 17 (by kernel_rfl) rfl (fun K hK => ?_)
    go_simp
    try dsimp only
    refine hK.out _ _ (hHeld) (fun hHeld2 => ?_)
    clear hK K hHeld
    have hHeld := hHeld2
    clear hHeld2
    try simp only [Go.Last.pt]
    refine Go.Last.held 18 (by kernel_rfl) rfl (fun K hK => ?_)
    go_simp
    try dsimp only
    refine hK.out _ _ (hHeld) (fun hHeld2 => ?_)
    clear hK K hHeld
    have hHeld := hHeld2
    clear hHeld2
    try simp only [Go.Last.pt]
    refine Go.Last.held 19 (by kernel_rfl) rfl (fun K hK => ?_)
    go_simp
    try dsimp only
    refine hK.out _ _ (hHeld) (fun hHeld2 => ?_)
    clear hK K hHeld
    have hHeld := hHeld2
    clear hHeld2
    try simp only [Go.Last.pt]
    refine wpAnyH_take (i := 20) (v := ?v20u125) rfl (by kernel_rfl) (by kernel_rfl) (by kernel_rfl) (fun _ _ _ h => h) (Or.inl ⟨by rfl, ?h20u125⟩) hHeld ?r20u125
    case h20u125 => (intro wq hSw; obtain ⟨z0, z1, z2, z3, z4, z5, z6, z7, z8⟩ := c9 hSw.2; go_simp <;> with_reducible rfl)
    try simp only [Go.Last.pt]
    refine wpAnyH_take (i := 22) (v := ?v22u126) rfl (by kernel_rfl) (by kernel_rfl) (by kernel_rfl) (fun _ _ _ h => h) (Or.inl ⟨by rfl, ?h22u126⟩) hHeld ?r22u126
    case h22u126 => (intro wq hSw; obtain ⟨z0, z1, z2, z3, z4, z5, z6, z7, z8⟩ := c9 hSw.1; go_simp <;> with_reducible rfl)
    try simp only [Go.Last.pt]
    refine Go.Last.held 21 (by kernel_rfl) rfl (fun K hK => ?_)
    go_simp
    (first | (go_at_call 12; (first | (with_reducible refine ((cR.out _ hqr.out).2.2.2.2.2.2.2.2 (by simp)).2.2.2.2.1.mono ?_) | (with_reducible refine ((cR.out _ hqr.out).2.2.2.2.2.2.2.2 (by simp)).2.2.2.2.2.1.mono ?_)); rintro e w9 ⟨rfl, hb⟩; replace hqr := Lib.hid (Bel.step hqr.out hb); replace hq4 := Lib.hid (Bel.step hq4.out hb)) | skip)
    try dsimp only
    refine hK.out _ _ (by first | exact ⟨kept_row hHeld.1 hb, kept_row hHeld.2 hb⟩ | exact hHeld) (fun hHeld2 => ?_)
    clear hK K hHeld
    have hHeld := hHeld2
    clear hHeld2
    try simp only [Go.Last.pt]
    refine Go.Last.held 23 (by kernel_rfl) rfl (fun K hK => ?_)
    go_simp
    (first | (go_at_call 12; (first | (with_reducible refine ((cR.out _ hqr.out).2.2.2.2.2.2.2.2 (by simp)).2.2.2.2.1.mono ?_) | (with_reducible refine ((cR.out _ hqr.out).2.2.2.2.2.2.2.2 (by simp)).2.2.2.2.2.1.mono ?_)); rintro e w9 ⟨rfl, hb⟩; replace hqr := Lib.hid (Bel.step hqr.out hb); replace hq4 := Lib.hid (Bel.step hq4.out hb)) | skip)
    try dsimp only
    refine hK.out _ _ (by first | exact ⟨kept_row hHeld.1 hb, kept_row hHeld.2 hb⟩ | exact hHeld) (fun hHeld2 => ?_)
    clear hK K hHeld
    have hHeld := hHeld2
    clear hHeld2
    try simp only [Go.Last.pt]
    refine Go.Last.held 24 (by kernel_rfl) rfl (fun K hK => ?_)
    go_simp
    try dsimp only
    refine hK.out _ _ (hHeld) (fun hHeld2 => ?_)
    clear hK K hHeld
    have hHeld := hHeld2
    clear hHeld2
    try simp only [Go.Last.pt]
    refine Go.Last.held 25 (by kernel_rfl) rfl (fun K hK => ?_)
    go_simp
    try dsimp only
    refine hK.out _ _ (hHeld) (fun hHeld2 => ?_)
    clear hK K hHeld
    have hHeld := hHeld2
    clear hHeld2
    try simp only [Go.Last.pt]
    refine Go.Last.held 26 (by kernel_rfl) rfl (fun K hK => ?_)
    go_simp
    try dsimp only
    refine hK.out _ _ (hHeld) (fun hHeld2 => ?_)
    clear hK K hHeld
    have hHeld := hHeld2
    clear hHeld2
    try simp only [Go.Last.pt]
    refine wpAnyH_take (i := 27) (v := ?v27u127) rfl (by kernel_rfl) (by kernel_rfl) (by kernel_rfl) (fun _ _ _ h => h) (Or.inl ⟨by rfl, ?h27u127⟩) hHeld ?r27u127
    case h27u127 => (intro wq hSw; obtain ⟨z0, z1, z2, z3, z4, z5, z6, z7, z8⟩ := c9 hSw.2; go_simp <;> with_reducible rfl)
    try simp only [Go.Last.pt]
    refine wpAnyH_take (i := 29) (v := ?v29u128) rfl (by kernel_rfl) (by kernel_rfl) (by kernel_rfl) (fun _ _ _ h => h) (Or.inl ⟨by rfl, ?h29u128⟩) hHeld ?r29u128
    case h29u128 => (intro wq hSw; obtain ⟨z0, z1, z2, z3, z4, z5, z6, z7, z8⟩ := c9 hSw.1; go_simp <;> with_reducible rfl)
    try simp only [Go.Last.pt]
    refine Go.Last.held 28 (by kernel_rfl) rfl (fun K hK => ?_)
    go_simp
    (first | (go_at_call 14; (first | (with_reducible refine ((cR.out _ hqr.out).2.2.2.2.2.2.2.2 (by simp)).2.2.2.2.2.2.1.mono ?_) | (with_reducible refine ((cR.out _ hqr.out).2.2.2.2.2.2.2.2 (by simp)).2.2.2.2.2.2.2.mono ?_)); rintro e w9 ⟨rfl, hb⟩; replace hqr := Lib.hid (Bel.step hqr.out hb); replace hq4 := Lib.hid (Bel.step hq4.out hb)) | skip)
    try dsimp only
    refine hK.out _ _ (by first | exact ⟨kept_row hHeld.1 hb, kept_row hHeld.2 hb⟩ | exact hHeld) (fun hHeld2 => ?_)
    clear hK K hHeld
    have hHeld := hHeld2
    clear hHeld2
    try simp only [Go.Last.pt]
    refine Go.Last.held 30 (by kernel_rfl) rfl (fun K hK => ?_)
    go_simp
    (first | (go_at_call 14; (first | (with_reducible refine ((cR.out _ hqr.out).2.2.2.2.2.2.2.2 (by simp)).2.2.2.2.2.2.1.mono ?_) | (with_reducible refine ((cR.out _ hqr.out).2.2.2.2.2.2.2.2 (by simp)).2.2.2.2.2.2.2.mono ?_)); rintro e w9 ⟨rfl, hb⟩; replace hqr := Lib.hid (Bel.step hqr.out hb); replace hq4 := Lib.hid (Bel.step hq4.out hb)) | skip)
    try dsimp only
    refine hK.out _ _ (by first | exact ⟨kept_row hHeld.1 hb, kept_row hHeld.2 hb⟩ | exact hHeld) (fun hHeld2 => ?_)
    clear hK K hHeld
    have hHeld := hHeld2
    clear hHeld2
    try simp only [Go.Last.pt]
    refine Go.Last.held 31 (by kernel_rfl) rfl (fun K hK => ?_)
    go_simp
    try dsimp only
    refine hK.out _ _ (hHeld) (fun hHeld2 => ?_)
    clear hK K hHeld
    have hHeld := hHeld2
    clear hHeld2
    try simp only [Go.Last.pt]
    refine Go.Last.held 32 (by kernel_rfl) rfl (fun K hK => ?_)
    go_simp
    try dsimp only
    refine hK.out _ _ (hHeld) (fun hHeld2 => ?_)
    clear hK K hHeld
    have hHeld := hHeld2
    clear hHeld2
    try simp only [Go.Last.pt]
    refine Go.Last.held 33 (by kernel_rfl) rfl (fun K hK => ?_)
    go_simp
    try dsimp only
    refine hK.out _ _ (hHeld) (fun hHeld2 => ?_)
    clear hK K hHeld
    have hHeld := hHeld2
    clear hHeld2
    try simp only [Go.Last.pt]
    refine wpAnyH_done (by kernel_rfl) ?_ _
    go_wp2
    go_ret
    exact ⟨rfl, hq4.out⟩


end Go.Proofs.YtaebhbcamhmhoaaDoor
