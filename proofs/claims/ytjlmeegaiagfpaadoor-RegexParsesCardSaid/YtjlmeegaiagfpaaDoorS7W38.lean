/- The reference's Same. -/
import Derived.Test.YtjlmeegaiagfpaaDoorS7E
import Derived.Deep.RegionHeld3
import Derived.Deep.DeepCutAuto
import Derived.Deep.CutBlock
import Derived.BigQuiet
namespace Go.Proofs.YtjlmeegaiagfpaaDoor.S7
open Go.RowKit
open Go.Tree7
theorem two_boxes (w : World) (A B : Obj) : ((w.alloc A).alloc B).drew.heap[w.heap.size]? = some A ∧ ((w.alloc A).alloc B).drew.heap[w.heap.size + 1]? = some B ∧ Bel w ((w.alloc A).alloc B).drew := by
  refine ⟨(Below.heap_alloc (w.alloc A) B w.heap.size (by simp)).trans (World.alloc_heap_new w A), ?_, (((Below.refl _ w).alloc (Nat.le_refl _) _).alloc (by simp) _).drew⟩
  have := World.alloc_heap_new (w.alloc A) B
  rw [World.size_alloc] at this
  exact this
set_option maxRecDepth 100000 in
set_option maxHeartbeats 8000000 in
theorem rsame_in {w : World} {a b : T} (hT : T.In w w.heap.size a) (hT' : T.In w w.heap.size b) : Calls Tryd.prog 11 #[.agg a.cells.toArray, .agg b.cells.toArray] w fun e w' => e = .returned (.bool (rsameT a b)) ∧ Below w.heap.size w w' := by
  have hB2 : Below w.heap.size w ((w.alloc (.cells a.cells.toArray 35)).alloc (.cells b.cells.toArray 35)) := ((Below.refl w.heap.size w).alloc (Nat.le_refl _) _).alloc (by simp) _
  have hA2 := (hT.keep hB2).mono hB2.size
  have hA2' := (hT'.keep hB2).mono hB2.size
  have hbA : ((w.alloc (.cells a.cells.toArray 35)).alloc (.cells b.cells.toArray 35)).heap[w.heap.size]? = some (.cells a.cells.toArray 35 (0, 0)) := (Below.heap_alloc _ _ _ (by simp)).trans (World.alloc_heap_new _ _)
  have hbB : ((w.alloc (.cells a.cells.toArray 35)).alloc (.cells b.cells.toArray 35)).heap[w.heap.size + 1]? = some (.cells b.cells.toArray 35 (0, 0)) := by have := World.alloc_heap_new (w.alloc (.cells a.cells.toArray 35)) (.cells b.cells.toArray 35); rw [World.size_alloc] at this; exact this
  have WA := fun w' (h : Bel ((w.alloc (.cells a.cells.toArray 35)).alloc (.cells b.cells.toArray 35)) w') => walk_all ((hA2.keep h).mono h.size)
  have WB := fun w' (h : Bel ((w.alloc (.cells a.cells.toArray 35)).alloc (.cells b.cells.toArray 35)) w') => walk_all ((hA2'.keep h).mono h.size)
  have RA := fun w' (h : Bel ((w.alloc (.cells a.cells.toArray 35)).alloc (.cells b.cells.toArray 35)) w') => rright_in ((hA2.keep h).mono h.size)
  have RB := fun w' (h : Bel ((w.alloc (.cells a.cells.toArray 35)).alloc (.cells b.cells.toArray 35)) w') => rright_in ((hA2'.keep h).mono h.size)
  have hSl := allS_len a
  have hSl' := allS_len b
  unfold rsameT
  generalize allS a = S at *
  generalize allS b = S' at *
  generalize rightB a = R at *
  generalize rightB b = R' at *
  obtain ⟨E, hE⟩ : ∃ E, @decide (R = true ∧ R' = true ∧ S = S') (Classical.propDecidable _) = E := ⟨_, rfl⟩
  have hE2 : E = true ↔ (R = true ∧ R' = true ∧ S = S') := by rw [← hE, @decide_eq_true_iff _ (Classical.propDecidable _)]
  rw [hE]
  replace hE2 := Lib.hid hE2
  replace hB2 := Lib.hid hB2
  unfold GivesSteps at WA WB
  replace WA := Lib.hid WA
  replace WB := Lib.hid WB
  replace RA := Lib.hid RA
  replace RB := Lib.hid RB
  replace hbA := Lib.hid hbA
  replace hbB := Lib.hid hbB
  clear hE hT hT' hA2 hA2'
  cases a with
  | mk k u0 u1 u2 u3 p cap mn mx tx ks =>
  cases b with
  | mk k' u0' u1' u2' u3' p' cap' mn' mx' tx' ks' =>
  simp only [T.cells] at *
  go_enter Tryd.func11, Tryd.ntmps11
  go_wp2
  have hw1 : w.heap.size + 1 < ((w.alloc (.cells #[.int .i64 k, .int .u64 u0, .int .u64 u1, .int .u64 u2, .int .u64 u3, .slice p ks.length cap, .int .i64 mn, .int .i64 mx, .string tx] 35)).alloc (.cells #[.int .i64 k', .int .u64 u0', .int .u64 u1', .int .u64 u2', .int .u64 u3', .slice p' ks'.length cap', .int .i64 mn', .int .i64 mx', .string tx'] 35)).heap.size := by simp
  generalize ((w.alloc (.cells #[.int .i64 k, .int .u64 u0, .int .u64 u1, .int .u64 u2, .int .u64 u3, .slice p ks.length cap, .int .i64 mn, .int .i64 mx, .string tx] 35)).alloc (.cells #[.int .i64 k', .int .u64 u0', .int .u64 u1', .int .u64 u2', .int .u64 u3', .slice p' ks'.length cap', .int .i64 mn', .int .i64 mx', .string tx'] 35)) = w1 at *
  refine wp_region_held_drew (S := Bel w1) (by kernel_rfl) (Bel.drew (Bel.refl _)) (fun hHeld => ?_)
  refine wpAnyH_take (i := 0) (v := ?v0u1) rfl (by kernel_rfl) (by kernel_rfl) (by kernel_rfl) (fun _ _ _ h => h) (Or.inl ⟨by rfl, ?h0u1⟩) hHeld ?r0u1
  case h0u1 => (intro wq hSw; have hk := cells_of (kept_row hbA.out hSw); have y0 := (hk 0 _ rfl).1; have y1 := (hk 1 _ rfl).1; have y2 := (hk 2 _ rfl).1; have y3 := (hk 3 _ rfl).1; have y4 := (hk 4 _ rfl).1; have y5 := (hk 5 _ rfl).1; have y6 := (hk 6 _ rfl).1; have y7 := (hk 7 _ rfl).1; have y8 := (hk 8 _ rfl).1; clear hk; go_simp <;> with_reducible rfl)
  try simp only [Act.put, List.setIfInBounds_toArray]
  refine wpAnyH_take (i := 2) (v := ?v2u2) rfl (by kernel_rfl) (by kernel_rfl) (by kernel_rfl) (fun _ _ _ h => h) (Or.inl ⟨by rfl, ?h2u2⟩) hHeld ?r2u2
  case h2u2 => (intro wq hSw; have hk := cells_of (kept_row hbB.out hSw); have y0 := (hk 0 _ rfl).1; have y1 := (hk 1 _ rfl).1; have y2 := (hk 2 _ rfl).1; have y3 := (hk 3 _ rfl).1; have y4 := (hk 4 _ rfl).1; have y5 := (hk 5 _ rfl).1; have y6 := (hk 6 _ rfl).1; have y7 := (hk 7 _ rfl).1; have y8 := (hk 8 _ rfl).1; clear hk; go_simp <;> with_reducible rfl)
  try simp only [Act.put]
  refine wpAnyH_ready (rs := [1]) (by kernel_rfl) (by simp) ?_
  refine AllReadyH.cons (o := _) rfl (fun K hK => ?_) AllReadyH.nil
  go_simp
  (go_at_call 27; (with_reducible refine (WA.out _ hHeld).mono ?_); rintro e w9 ⟨va, rfl, hrow, hb⟩; obtain ⟨pva, cva, rfl, hpga, hpca⟩ := step_at hrow; clear hrow; replace hpga := Lib.hid hpga; replace hpca := Lib.hid hpca; have hbA9 := Lib.hid (Bel.step hHeld hb); have hlA := Lib.hid (Below.size hHeld))
  try dsimp only
  refine hK.out _ _ (Bel.step hHeld hb) (fun hHeld2 => ?_)
  clear hK K hHeld
  have hHeld := hHeld2
  clear hHeld2
  try simp only [Act.put, List.setIfInBounds_toArray, List.set_cons_zero, List.set_cons_succ]
  refine wpAnyH_ready (rs := [3]) (by kernel_rfl) (by simp) ?_
  refine AllReadyH.cons (o := _) rfl (fun K hK => ?_) AllReadyH.nil
  go_simp
  (go_at_call 27; (with_reducible refine (WB.out _ hHeld).mono ?_); rintro e w10 ⟨vb, rfl, hrow, hb10⟩; obtain ⟨pvb, cvb, rfl, hpgb, hpcb⟩ := step_at hrow; clear hrow; replace hpgb := Lib.hid hpgb; replace hpcb := Lib.hid hpcb; replace hb10 := Lib.hid hb10)
  try dsimp only
  refine hK.out _ _ (Bel.step hHeld hb10.out) (fun hHeld2 => ?_)
  clear hK K hHeld
  have hHeld := hHeld2
  clear hHeld2
  try simp only [Act.put, List.setIfInBounds_toArray, List.set_cons_zero, List.set_cons_succ]
  refine wpAnyH_ready (rs := [4]) (by kernel_rfl) (by simp) ?_
  refine AllReadyH.cons (o := _) rfl (fun K hK => ?_) AllReadyH.nil
  go_simp
  try dsimp only
  refine hK.out _ _ (hHeld) (fun hHeld2 => ?_)
  clear hK K hHeld
  have hHeld := hHeld2
  clear hHeld2
  try simp only [Act.put, List.setIfInBounds_toArray, List.set_cons_zero, List.set_cons_succ]
  refine wpAnyH_ready (rs := [5]) (by kernel_rfl) (by simp) ?_
  refine AllReadyH.cons (o := _) rfl (fun K hK => ?_) AllReadyH.nil
  go_simp
  try dsimp only
  refine hK.out _ _ (hHeld) (fun hHeld2 => ?_)
  clear hK K hHeld
  have hHeld := hHeld2
  clear hHeld2
  try simp only [Act.put, List.setIfInBounds_toArray, List.set_cons_zero, List.set_cons_succ]
  refine wpAnyH_done (by kernel_rfl) ?_ _
  replace hpga : Hid (0 < S.length → ∃ g, pva = some ⟨g, 0, none⟩ ∧ g < w9.heap.size) := Lib.hid fun h => by
    obtain ⟨g, h1, -, h2⟩ := hpga.out h
    exact ⟨g, h1, h2⟩
  replace hpgb : Hid (0 < S'.length → ∃ g, pvb = some ⟨g, 0, none⟩ ∧ g < w10.heap.size) := Lib.hid fun h => by
    obtain ⟨g, h1, -, h2⟩ := hpgb.out h
    exact ⟨g, h1, h2⟩
  have hZ := Lib.hid hHeld
  have hZ0 := Lib.hid hHeld
  have hV := Lib.hid (Bel.refl w10)
  have hk := cells_of (kept_row hbA.out hHeld)
  have x0 := (hk 0 _ rfl).1; have x1 := (hk 1 _ rfl).1; have x2 := (hk 2 _ rfl).1; have x3 := (hk 3 _ rfl).1; have x4 := (hk 4 _ rfl).1; have x5 := (hk 5 _ rfl).1; have x6 := (hk 6 _ rfl).1; have x7 := (hk 7 _ rfl).1; have x8 := (hk 8 _ rfl).1
  clear hk
  have hk := cells_of (kept_row hbB.out hHeld)
  have y0 := (hk 0 _ rfl).1; have y1 := (hk 1 _ rfl).1; have y2 := (hk 2 _ rfl).1; have y3 := (hk 3 _ rfl).1; have y4 := (hk 4 _ rfl).1; have y5 := (hk 5 _ rfl).1; have y6 := (hk 6 _ rfl).1; have y7 := (hk 7 _ rfl).1; have y8 := (hk 8 _ rfl).1
  clear hk
  clear WA WB hb hbA9 hlA
  cases R with
  | false =>
    have hEf : E = false := by
      cases E with
      | false => rfl
      | true => exact absurd (hE2.out.1 rfl).1 (by simp)
    subst hEf
    clear hE2
    go_wp2_with (go_at_call 14; first | ((with_reducible refine (RA.out _ hZ.out).mono ?_); rintro e w11 ⟨rfl, hb⟩; replace hZ := Lib.hid (Bel.step hZ.out hb); replace hV := Lib.hid (Bel.step hV.out hb); clear hb; have hk := cells_of (kept_row hbB.out hZ.out); have y0 := (hk 0 _ rfl).1; have y1 := (hk 1 _ rfl).1; have y2 := (hk 2 _ rfl).1; have y3 := (hk 3 _ rfl).1; have y4 := (hk 4 _ rfl).1; have y5 := (hk 5 _ rfl).1; have y6 := (hk 6 _ rfl).1; have y7 := (hk 7 _ rfl).1; have y8 := (hk 8 _ rfl).1; clear hk) | ((with_reducible refine (RB.out _ hZ.out).mono ?_); rintro e w12 ⟨rfl, hb⟩; replace hZ := Lib.hid (Bel.step hZ.out hb); replace hV := Lib.hid (Bel.step hV.out hb); clear hb))
    go_ret
    exact ⟨rfl, hB2.out.trans (hZ.out.mono hB2.out.size)⟩
  | true =>
  cases R' with
  | false =>
    have hEf : E = false := by
      cases E with
      | false => rfl
      | true => exact absurd (hE2.out.1 rfl).2.1 (by simp)
    subst hEf
    clear hE2
    go_wp2_with (go_at_call 14; first | ((with_reducible refine (RA.out _ hZ.out).mono ?_); rintro e w11 ⟨rfl, hb⟩; replace hZ := Lib.hid (Bel.step hZ.out hb); replace hV := Lib.hid (Bel.step hV.out hb); clear hb; have hk := cells_of (kept_row hbB.out hZ.out); have y0 := (hk 0 _ rfl).1; have y1 := (hk 1 _ rfl).1; have y2 := (hk 2 _ rfl).1; have y3 := (hk 3 _ rfl).1; have y4 := (hk 4 _ rfl).1; have y5 := (hk 5 _ rfl).1; have y6 := (hk 6 _ rfl).1; have y7 := (hk 7 _ rfl).1; have y8 := (hk 8 _ rfl).1; clear hk) | ((with_reducible refine (RB.out _ hZ.out).mono ?_); rintro e w12 ⟨rfl, hb⟩; replace hZ := Lib.hid (Bel.step hZ.out hb); replace hV := Lib.hid (Bel.step hV.out hb); clear hb))
    go_ret
    exact ⟨rfl, hB2.out.trans (hZ.out.mono hB2.out.size)⟩
  | true =>
  by_cases hl : ¬ S.length = S'.length
  · have hEf : E = false := by
      cases E with
      | false => rfl
      | true => exact absurd (congrArg List.length (hE2.out.1 rfl).2.2) hl
    subst hEf
    have d0 : ((S.length : Int) != S'.length) = true := by rw [bne_iff_ne]; omega
    clear hE2 hl
    go_wp2_with (go_at_call 14; first | ((with_reducible refine (RA.out _ hZ.out).mono ?_); rintro e w11 ⟨rfl, hb⟩; replace hZ := Lib.hid (Bel.step hZ.out hb); replace hV := Lib.hid (Bel.step hV.out hb); clear hb; have hk := cells_of (kept_row hbB.out hZ.out); have y0 := (hk 0 _ rfl).1; have y1 := (hk 1 _ rfl).1; have y2 := (hk 2 _ rfl).1; have y3 := (hk 3 _ rfl).1; have y4 := (hk 4 _ rfl).1; have y5 := (hk 5 _ rfl).1; have y6 := (hk 6 _ rfl).1; have y7 := (hk 7 _ rfl).1; have y8 := (hk 8 _ rfl).1; clear hk) | ((with_reducible refine (RB.out _ hZ.out).mono ?_); rintro e w12 ⟨rfl, hb⟩; replace hZ := Lib.hid (Bel.step hZ.out hb); replace hV := Lib.hid (Bel.step hV.out hb); clear hb))
    go_ret
    exact ⟨rfl, hB2.out.trans (hZ.out.mono hB2.out.size)⟩
  replace hl : S.length = S'.length := Classical.not_not.1 hl
  have hyes : Hid ((∀ i (h1 : i < S.length) (h2 : i < S'.length), S[i] = S'[i]) → E = true) := Lib.hid fun h => hE2.out.2 ⟨rfl, rfl, List.ext_getElem hl fun i h1 h2 => h i h1 h2⟩
  have hno : Hid (∀ i (h1 : i < S.length) (h2 : i < S'.length), S[i] ≠ S'[i] → E = false) := Lib.hid fun i h1 h2 h => by
    cases E with
    | false => rfl
    | true =>
      have h3 := (hE2.out.1 rfl).2.2
      subst h3
      exact absurd rfl h
  obtain ⟨n, hn⟩ : ∃ n, S.length = n := ⟨_, rfl⟩
  have hn' : S'.length = n := by omega
  rw [hn] at hSl ⊢
  rw [hn'] at ⊢
  have h1n := Lib.hid hn
  have h2n := Lib.hid hn'
  have d0 : ((n : Int) != n) = false := by simp
  clear hl hn hn' hSl' hE2
  go_wp2_with (go_at_call 14; first | ((with_reducible refine (RA.out _ hZ.out).mono ?_); rintro e w11 ⟨rfl, hb⟩; replace hZ := Lib.hid (Bel.step hZ.out hb); replace hV := Lib.hid (Bel.step hV.out hb); clear hb; have hk := cells_of (kept_row hbB.out hZ.out); have y0 := (hk 0 _ rfl).1; have y1 := (hk 1 _ rfl).1; have y2 := (hk 2 _ rfl).1; have y3 := (hk 3 _ rfl).1; have y4 := (hk 4 _ rfl).1; have y5 := (hk 5 _ rfl).1; have y6 := (hk 6 _ rfl).1; have y7 := (hk 7 _ rfl).1; have y8 := (hk 8 _ rfl).1; clear hk) | ((with_reducible refine (RB.out _ hZ.out).mono ?_); rintro e w12 ⟨rfl, hb⟩; replace hZ := Lib.hid (Bel.step hZ.out hb); replace hV := Lib.hid (Bel.step hV.out hb); clear hb))
  go_loopw [31] (fun i wr => ∃ j : Nat, j ≤ n ∧ i = .int .i64 j ∧ Hid (Bel w10 wr) ∧ Hid (∀ i (h1 : i < S.length) (h2 : i < S'.length), i < j → S[i] = S'[i])) (fun i _ => n - (intOf i).toNat)
  case atStart => exact ⟨0, Nat.zero_le _, rfl, hV, Lib.hid fun i h1 h2 h => by omega⟩
  case round =>
    obtain ⟨j, hj, rfl, hB, hso⟩ := hrel
    by_cases hlt : j < n
    · have hj1 : j < S.length := by have := h1n.out; omega
      have hj2 : j < S'.length := by have := h2n.out; omega
      obtain ⟨ga, hpa, hga⟩ := hpga.out (by omega)
      obtain ⟨gb, hpb, hgb⟩ := hpgb.out (by omega)
      have hca := hpca.out ga hpa j hj1
      have hcb := hpcb.out gb hpb j hj2
      subst hpa hpb
      have hB9 : Below w9.heap.size w9 wr := hb10.out.trans (hB.out.mono hb10.out.size)
      have hno2 := Lib.hid (hno.out j hj1 hj2)
      have hso2 : Hid (S[j] = S'[j] → ∀ i (h1 : i < S.length) (h2 : i < S'.length), i < j + 1 → S[i] = S'[i]) := Lib.hid fun h i h1 h2 h3 => by
        by_cases e : i = j
        · subst e; exact h
        · exact hso.out i h1 h2 (by omega)
      have hcla : ∀ q, q < 11 → wr.cell? ⟨ga, j * 11 + q, none⟩ = (scells S[j])[q]? := fun q hq => by
        rw [← hca q hq]
        exact hB9.cell (p := ⟨ga, j * 11 + q, none⟩) hga
      have hclb : ∀ q, q < 11 → wr.cell? ⟨gb, j * 11 + q, none⟩ = (scells S'[j])[q]? := fun q hq => by
        rw [← hcb q hq]
        exact Below.cell hB.out (p := ⟨gb, j * 11 + q, none⟩) hgb
      have lta : ga < wr.heap.size := Nat.lt_of_lt_of_le hga hB9.size
      have ltb : gb < wr.heap.size := Nat.lt_of_lt_of_le hgb hB.out.size
      clear hca hcb hso hB9
      generalize S[j] = s at *
      generalize S'[j] = s' at *
      obtain ⟨sk, ⟨su0, su1, su2, su3⟩, smn, smx, stx, slv, skids⟩ := s
      obtain ⟨sk', ⟨su0', su1', su2', su3'⟩, smn', smx', stx', slv', skids'⟩ := s'
      simp only [scells] at hcla hclb
      obtain ⟨a0, a1, a2, a3, a4, a5, a6, a7, a8, a9, a10⟩ := eleven_of hcla
      obtain ⟨b0, b1, b2, b3, b4, b5, b6, b7, b8, b9, b10⟩ := eleven_of hclb
      clear hcla hclb
      go_upto_region 7 with (fail)
      go_cut [8, 9] (fun s8 s9 wx => ∃ c8 c9, s8 = .pointer (some ⟨c8, 0, none⟩) ∧ s9 = .pointer (some ⟨c9, 0, none⟩) ∧ Hid (wx.heap[c8]? = some (.cells #[.int .i64 sk, .int .u64 su0, .int .u64 su1, .int .u64 su2, .int .u64 su3, .slice none 0 0, .int .i64 smn, .int .i64 smx, .string stx] 35 (0, 0)) ∧ wx.heap[c9]? = some (.cells #[.int .i64 sk', .int .u64 su0', .int .u64 su1', .int .u64 su2', .int .u64 su3', .slice none 0 0, .int .i64 smn', .int .i64 smx', .string stx'] 35 (0, 0)) ∧ Bel wr wx))
      case first =>
        clear hno2 hso2
        go_region
        all_goals
          go_wp2_with fail
          go_meet
          first
            | exact ⟨_, _, rfl, rfl, Lib.hid ⟨(two_boxes wr _ _).1, (two_boxes wr _ _).2.1, (two_boxes wr _ _).2.2⟩⟩
            | exact ⟨_, _, rfl, rfl, Lib.hid ⟨(two_boxes wr _ _).2.1, (two_boxes wr _ _).1, (two_boxes wr _ _).2.2⟩⟩
      case rest =>
        obtain ⟨c8, c9, rfl, rfl, hf⟩ := hcut
        obtain ⟨f8, f9, f3⟩ := hf.out
        have hf3 := Lib.hid f3
        have hk := cells_of f8
        have xa0 := (hk 0 _ rfl).1; have xa1 := (hk 1 _ rfl).1; have xa2 := (hk 2 _ rfl).1; have xa3 := (hk 3 _ rfl).1; have xa4 := (hk 4 _ rfl).1; have xa5 := (hk 5 _ rfl).1; have xa6 := (hk 6 _ rfl).1; have xa7 := (hk 7 _ rfl).1; have xa8 := (hk 8 _ rfl).1
        clear hk
        have hk := cells_of f9
        have yb0 := (hk 0 _ rfl).1; have yb1 := (hk 1 _ rfl).1; have yb2 := (hk 2 _ rfl).1; have yb3 := (hk 3 _ rfl).1; have yb4 := (hk 4 _ rfl).1; have yb5 := (hk 5 _ rfl).1; have yb6 := (hk 6 _ rfl).1; have yb7 := (hk 7 _ rfl).1; have yb8 := (hk 8 _ rfl).1
        clear hk
        have r9 := (Below.cell f3 (p := ⟨ga, j * 11 + 9, none⟩) lta).trans a9
        have r10 := (Below.cell f3 (p := ⟨ga, j * 11 + 10, none⟩) lta).trans a10
        have q9 := (Below.cell f3 (p := ⟨gb, j * 11 + 9, none⟩) ltb).trans b9
        have q10 := (Below.cell f3 (p := ⟨gb, j * 11 + 10, none⟩) ltb).trans b10
        have hfin0 : Hid (Below w.heap.size w wc) := Lib.hid (hB2.out.trans ((Bel.step (Bel.step hZ0.out hB.out) f3).mono hB2.out.size))
        have he : ∀ w, (Op.equalIn 10000 24 (.agg #[.int .u64 su0, .int .u64 su1, .int .u64 su2, .int .u64 su3]) (.agg #[.int .u64 su0', .int .u64 su1', .int .u64 su2', .int .u64 su3'])).run Tryd.prog w = .ok ((su0 == su0') && (su1 == su1') && (su2 == su2') && (su3 == su3')) w := fun w => eqW4 _ _ _ _ _ _ _ _ w
        clear f8 f9 f3 hf a0 a1 a2 a3 a4 a5 a6 a7 a8 a9 a10 b0 b1 b2 b3 b4 b5 b6 b7 b8 b9 b10
        by_cases hlv : ¬ slv = slv'
        · have hq : (((slv : Nat) : Int) == ((slv' : Nat) : Int)) = false := by rw [beq_eq_false_iff_ne]; omega
          have hq2 : (((slv : Nat) : Int) != ((slv' : Nat) : Int)) = true := by rw [bne_iff_ne]; omega
          have hEf := Lib.hid (hno2.out fun h => by
            simp only [Step.mk.injEq] at h
            exact hlv h.2.2.2.2.2.1)
          clear hno2 hso2 hlv
          go_wp2
          go_quiet (fail)
          go_wp2
          go_ret
          exact ⟨by rw [hEf.out]; rfl, hfin0.out.trans ((below_drewN (Below.refl _ _) _).mono hfin0.out.size)⟩
        replace hlv := Classical.not_not.1 hlv
        subst hlv
        by_cases hkd : ¬ skids = skids'
        · have hq : (((skids : Nat) : Int) == ((skids' : Nat) : Int)) = false := by rw [beq_eq_false_iff_ne]; omega
          have hq2 : (((skids : Nat) : Int) != ((skids' : Nat) : Int)) = true := by rw [bne_iff_ne]; omega
          have hEf := Lib.hid (hno2.out fun h => by
            simp only [Step.mk.injEq] at h
            exact hkd h.2.2.2.2.2.2)
          clear hno2 hso2 hkd
          go_wp2
          go_quiet (fail)
          go_wp2
          go_ret
          exact ⟨by rw [hEf.out]; rfl, hfin0.out.trans ((below_drewN (Below.refl _ _) _).mono hfin0.out.size)⟩
        replace hkd := Classical.not_not.1 hkd
        subst hkd
        by_cases hk5 : ¬ sk = sk'
        · have hq : (sk == sk') = false := by rw [beq_eq_false_iff_ne]; exact hk5
          have hq2 : (sk != sk') = true := by rw [bne_iff_ne]; exact hk5
          have hEf := Lib.hid (hno2.out fun h => by
            simp only [Step.mk.injEq] at h
            exact hk5 h.1)
          clear hno2 hso2 hk5
          go_wp2
          go_quiet (fail)
          go_wp2
          go_ret
          exact ⟨by rw [hEf.out]; rfl, hfin0.out.trans ((below_drewN (Below.refl _ _) _).mono hfin0.out.size)⟩
        replace hk5 := Classical.not_not.1 hk5
        subst hk5
        obtain ⟨SQ, hSQ⟩ : ∃ SQ, ((su0 == su0') && (su1 == su1') && (su2 == su2') && (su3 == su3')) = SQ := ⟨_, rfl⟩
        rw [hSQ] at he
        cases SQ with
        | false =>
          have hEf := Lib.hid (hno2.out fun h => by
            simp only [Step.mk.injEq, Prod.mk.injEq] at h
            obtain ⟨-, ⟨h1, h2, h3, h4⟩, -⟩ := h
            subst h1 h2 h3 h4
            simp at hSQ)
          clear hno2 hso2 hSQ
          go_wp2
          go_quiet (fail)
          go_wp2
          go_ret
          exact ⟨by rw [hEf.out]; rfl, hfin0.out.trans ((below_drewN (Below.refl _ _) _).mono hfin0.out.size)⟩
        | true =>
          simp only [Bool.and_eq_true, beq_iff_eq] at hSQ
          replace hSQ := Lib.hid hSQ
          by_cases hmn : ¬ smn = smn'
          · have hq : (smn == smn') = false := by rw [beq_eq_false_iff_ne]; exact hmn
            have hq2 : (smn != smn') = true := by rw [bne_iff_ne]; exact hmn
            have hEf := Lib.hid (hno2.out fun h => by
              simp only [Step.mk.injEq] at h
              exact hmn h.2.2.1)
            clear hno2 hso2 hmn hSQ
            go_wp2
            go_quiet (fail)
            go_wp2
            go_ret
            exact ⟨by rw [hEf.out]; rfl, hfin0.out.trans ((below_drewN (Below.refl _ _) _).mono hfin0.out.size)⟩
          replace hmn := Classical.not_not.1 hmn
          subst hmn
          by_cases hmx : ¬ smx = smx'
          · have hq : (smx == smx') = false := by rw [beq_eq_false_iff_ne]; exact hmx
            have hq2 : (smx != smx') = true := by rw [bne_iff_ne]; exact hmx
            have hEf := Lib.hid (hno2.out fun h => by
              simp only [Step.mk.injEq] at h
              exact hmx h.2.2.2.1)
            clear hno2 hso2 hmx hSQ
            go_wp2
            go_quiet (fail)
            go_wp2
            go_ret
            exact ⟨by rw [hEf.out]; rfl, hfin0.out.trans ((below_drewN (Below.refl _ _) _).mono hfin0.out.size)⟩
          replace hmx := Classical.not_not.1 hmx
          subst hmx
          by_cases htx : stx = stx'
          · subst htx
            have hq : (stx.toList == stx.toList) = true := by simp
            have hso3 := Lib.hid (hso2.out (by
              obtain ⟨⟨⟨s0, s1⟩, s2⟩, s3⟩ := hSQ.out
              rw [s0, s1, s2, s3]))
            clear hno2 hso2 hSQ
            go_wp2
            go_quiet (fail)
            go_wp2
            go_roundw
            case rel => exact ⟨j + 1, by omega, by go_num, Lib.hid (Bel.step (Bel.step hB.out hf3.out) (below_drewN (Below.refl _ _) _)), hso3⟩
            case measure => simp [intOf]; omega
          · have hq : (stx.toList == stx'.toList) = false := by rw [beq_eq_false_iff_ne]; exact fun h => htx (toList_inj2 h)
            have hEf := Lib.hid (hno2.out fun h => by
              simp only [Step.mk.injEq] at h
              exact htx h.2.2.2.2.1)
            clear hno2 hso2 hSQ htx
            go_wp2
            go_quiet (fail)
            go_wp2
            go_ret
            exact ⟨by rw [hEf.out]; rfl, hfin0.out.trans ((below_drewN (Below.refl _ _) _).mono hfin0.out.size)⟩
    · have hEt := Lib.hid (hyes.out fun i h1 h2 => hso.out i h1 h2 (by have := h1n.out; omega))
      clear hso
      go_wp2
      go_ret
      exact ⟨by rw [hEt.out]; rfl, hB2.out.trans ((Below.trans hZ0.out (Below.mono hB.out (Below.size hZ0.out))).mono hB2.out.size)⟩

end Go.Proofs.YtjlmeegaiagfpaaDoor.S7
