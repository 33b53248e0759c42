/- TreeBounds. -/
import Derived.Test.YtbkmoaollooomaaDoorW22a
namespace Go.Proofs.YtbkmoaollooomaaDoor
open Go.RowKit
open Go.Tree7
theorem rem_nat (x : Int) (m : Nat) (hm : 0 < m) (hm2 : m ≤ 1000) : ∃ L : Nat, wrap64 ((IntKind.u64.wrap x).tmod m) = L ∧ L < m := by
  have h0 : 0 ≤ IntKind.u64.wrap x := by simp [IntKind.wrap, IntKind.signed, IntKind.bits]; omega
  have h1 := Int.tmod_lt_of_pos (IntKind.u64.wrap x) (b := (m : Int)) (by omega)
  have h2 := Int.tmod_nonneg (m : Int) h0
  refine ⟨((IntKind.u64.wrap x).tmod m).toNat, ?_, by omega⟩
  rw [Int.toNat_of_nonneg h2]
  simp [wrap64]
  omega
theorem infoN : (Tryd.prog.info? 27).map (fun i => (i.zero, i.size, i.bytes)) = some (some (.agg #[.int .i64 0, .int .u64 0, .int .u64 0, .int .u64 0, .int .u64 0, .slice none 0 0, .int .i64 0, .int .i64 0, .string ⟨#[]⟩]), 9, 96) := by kernel_rfl
theorem own_keep {w w' : World} {base size n : Nat} {e : TypeId} {v : Value} {xs : List Value} (h : w.ownsRow base e size v n xs) (hk : ∀ g, v.ownBlock = some g → g < w.heap.size → w'.heap[g]? = w.heap[g]?) : w'.ownsRow base e size v n xs := by
  refine ⟨h.1, ?_⟩
  rcases h.2 with h2 | ⟨g, cap, cur, rfl, h3, h4, h5⟩
  · exact .inl h2
  · exact .inr ⟨g, cap, cur, rfl, h3, (hk g rfl (Array.getElem?_eq_some_iff.1 h4).1).trans h4, h5⟩
theorem flat_snoc (j : Nat) (c : List Value) : (List.replicate (j + 1) c).flatten = (List.replicate j c).flatten ++ c := by
  rw [List.replicate_succ']
  simp
set_option maxRecDepth 10000 in
set_option maxHeartbeats 4000000 in
theorem treeBounds_in (lv mn : Int) (w : World) (hTab : S1.Tab w) : Calls Tryd.prog 6 #[.int .i64 lv, .int .i64 mn] w fun e w' => e = .returned (.bool true) ∧ Below w.heap.size w w' := by
  have AL := Lib.hid (alive_in w hTab)
  have C := fun w => S1.one_in 97 (by decide) w
  obtain ⟨f, hf⟩ : ∃ f, S1.oneS 97 = f := ⟨_, rfl⟩
  rw [hf] at C
  obtain ⟨u0, h0⟩ : ∃ u0, S1.wd f 0 = u0 := ⟨_, rfl⟩
  obtain ⟨u1, h1⟩ : ∃ u1, S1.wd f 1 = u1 := ⟨_, rfl⟩
  obtain ⟨u2, h2⟩ : ∃ u2, S1.wd f 2 = u2 := ⟨_, rfl⟩
  obtain ⟨u3, h3⟩ : ∃ u3, S1.wd f 3 = u3 := ⟨_, rfl⟩
  rw [h0, h1, h2, h3] at C
  have hleaf : Hid ((leafT f).cells = [.int .i64 1, .int .u64 u0, .int .u64 u1, .int .u64 u2, .int .u64 u3, .slice none 0 0, .int .i64 0, .int .i64 0, .string ⟨#[]⟩]) := Lib.hid (by simp [leafT, T.cells, h0, h1, h2, h3])
  replace C := Lib.hid C
  clear hf h0 h1 h2 h3 hTab
  obtain ⟨L, hL, hL40⟩ := rem_nat lv 40 (by decide) (by decide)
  obtain ⟨M, hM, hM700⟩ := rem_nat mn 700 (by decide) (by decide)
  simp only [show ((40 : Nat) : Int) = 40 from rfl, show ((700 : Nat) : Int) = 700 from rfl] at hL hM
  obtain ⟨i0, hi, hz0, hz1, hz2⟩ := info_parts infoN
  replace hi := Lib.hid hi
  replace hz0 := Lib.hid hz0
  replace hz1 := Lib.hid hz1
  replace hz2 := Lib.hid hz2
  go_enter Tryd.func6, Tryd.ntmps6
  go_wp2_with (first
    | (go_at_call 7; (with_reducible refine AL.out.mono ?_); rintro e w1 ⟨rfl, hb1⟩; replace hb1 := Lib.hid hb1)
    | (go_at_call 24; refine (C.out _).mono ?_; rintro e w2 ⟨rfl, hb2⟩; replace hb2 := Lib.hid hb2))
  clear hL hM AL C
  have hB2 := Lib.hid (hb1.out.trans (hb2.out.mono hb1.out.size))
  clear hb1 hb2
  have hbox : ((w2.alloc (.cells #[.int .i64 1, .int .u64 u0, .int .u64 u1, .int .u64 u2, .int .u64 u3, .slice none 0 0, .int .i64 0, .int .i64 0, .string ⟨#[]⟩] 27)).alloc (.cells #[.int .i64 1, .int .u64 u0, .int .u64 u1, .int .u64 u2, .int .u64 u3, .slice none 0 0, .int .i64 0, .int .i64 0, .string ⟨#[]⟩] 27)).heap[w2.heap.size]? = some (.cells #[.int .i64 1, .int .u64 u0, .int .u64 u1, .int .u64 u2, .int .u64 u3, .slice none 0 0, .int .i64 0, .int .i64 0, .string ⟨#[]⟩] 27 (0, 0)) := (Below.heap_alloc _ _ _ (by simp)).trans (World.alloc_heap_new _ _)
  have hbox2 : ((w2.alloc (.cells #[.int .i64 1, .int .u64 u0, .int .u64 u1, .int .u64 u2, .int .u64 u3, .slice none 0 0, .int .i64 0, .int .i64 0, .string ⟨#[]⟩] 27)).alloc (.cells #[.int .i64 1, .int .u64 u0, .int .u64 u1, .int .u64 u2, .int .u64 u3, .slice none 0 0, .int .i64 0, .int .i64 0, .string ⟨#[]⟩] 27)).heap[w2.heap.size + 1]? = some (.cells #[.int .i64 1, .int .u64 u0, .int .u64 u1, .int .u64 u2, .int .u64 u3, .slice none 0 0, .int .i64 0, .int .i64 0, .string ⟨#[]⟩] 27 (0, 0)) := by have := World.alloc_heap_new (w2.alloc (.cells #[.int .i64 1, .int .u64 u0, .int .u64 u1, .int .u64 u2, .int .u64 u3, .slice none 0 0, .int .i64 0, .int .i64 0, .string ⟨#[]⟩] 27)) (.cells #[.int .i64 1, .int .u64 u0, .int .u64 u1, .int .u64 u2, .int .u64 u3, .slice none 0 0, .int .i64 0, .int .i64 0, .string ⟨#[]⟩] 27); rw [World.size_alloc] at this; exact this
  have hBa : Below w2.heap.size w2 ((w2.alloc (.cells #[.int .i64 1, .int .u64 u0, .int .u64 u1, .int .u64 u2, .int .u64 u3, .slice none 0 0, .int .i64 0, .int .i64 0, .string ⟨#[]⟩] 27)).alloc (.cells #[.int .i64 1, .int .u64 u0, .int .u64 u1, .int .u64 u2, .int .u64 u3, .slice none 0 0, .int .i64 0, .int .i64 0, .string ⟨#[]⟩] 27)) := ((Below.refl _ w2).alloc (Nat.le_refl _) _).alloc (by simp) _
  replace hbox := Lib.hid hbox
  replace hbox2 := Lib.hid hbox2
  replace hBa := Lib.hid hBa
  go_loopw [22] (fun i wr => ∃ (j : Nat) (t : T), j ≤ L ∧ i = .int .i64 j ∧ Hid (IsChain (leafT f) j t ∧ T.InP wr (fun b => w2.heap.size + 1 < b ∧ b < wr.heap.size) t ∧ wr.heap[w2.heap.size + 1]? = some (.cells t.cells.toArray 27 (0, 0)) ∧ wr.heap[w2.heap.size]? = some (.cells #[.int .i64 1, .int .u64 u0, .int .u64 u1, .int .u64 u2, .int .u64 u3, .slice none 0 0, .int .i64 0, .int .i64 0, .string ⟨#[]⟩] 27 (0, 0)) ∧ Below w2.heap.size w2 wr)) (fun i _ => L - (intOf i).toNat)
  case atStart => exact ⟨0, leafT f, Nat.zero_le _, rfl, Lib.hid ⟨.zero, (leaf_in f _ 0).toP.imp (fun b hb => by omega), by rw [hleaf.out]; exact hbox2.out, hbox.out, hBa.out⟩⟩
  case round =>
    clear hbox hbox2 hBa
    obtain ⟨j, t, hj, rfl, hrl⟩ := hrel
    by_cases hlt : j < L
    · obtain ⟨g1, g2, g3, g4, g5⟩ := hrl.out
      have hs2 : w2.heap.size + 1 < wr.heap.size := (Array.getElem?_eq_some_iff.1 g3).1
      cases t with
      | mk k' u0' u1' u2' u3' p' cap' mn' mx' tx' ks' =>
        simp only [T.cells] at g3
        have hk := cells_of g3
        have x0 := (hk 0 _ rfl).1
        have x1 := (hk 1 _ rfl).1
        have x2 := (hk 2 _ rfl).1
        have x3 := (hk 3 _ rfl).1
        have x4 := (hk 4 _ rfl).1
        have x5 := (hk 5 _ rfl).1
        have x6 := (hk 6 _ rfl).1
        have x7 := (hk 7 _ rfl).1
        have x8 := (hk 8 _ rfl).1
        have f0 := (hk 0 _ rfl).2
        have f1 := (hk 1 _ rfl).2
        have f2 := (hk 2 _ rfl).2
        have f3 := (hk 3 _ rfl).2
        have f4 := (hk 4 _ rfl).2
        have f5 := (hk 5 _ rfl).2
        have f6 := (hk 6 _ rfl).2
        have f7 := (hk 7 _ rfl).2
        have f8 := (hk 8 _ rfl).2
        clear hk
        have g3' := g3
        replace g1 := Lib.hid g1
        replace g2 := Lib.hid g2
        replace g3 := Lib.hid g3
        replace g4 := Lib.hid g4
        replace g5 := Lib.hid g5
        clear g3' hrl
        go_wp2
        go_roundw
        case rel =>
          obtain ⟨q1, q2, q3, q4⟩ := set9 (w := wr) (b := w2.heap.size + 1) (d0 := .int .i64 2) (d1 := .int .u64 0) (d2 := .int .u64 0) (d3 := .int .u64 0) (d4 := .int .u64 0) (d5 := .slice (some ⟨wr.heap.size, 0, none⟩) 1 1) (d6 := .int .i64 0) (d7 := .int .i64 0) (d8 := .string ⟨#[]⟩) g3.out _ rfl
          generalize hW : World.setCell _ (⟨w2.heap.size + 1, 8, none⟩ : Addr) _ = W at *
          clear hW
          have hnew := World.alloc_heap_new W (.cells #[.int .i64 k', .int .u64 u0', .int .u64 u1', .int .u64 u2', .int .u64 u3', .slice p' ks'.length cap', .int .i64 mn', .int .i64 mx', .string tx'] 27)
          have hold : ∀ k, k < W.heap.size → (W.alloc (.cells #[.int .i64 k', .int .u64 u0', .int .u64 u1', .int .u64 u2', .int .u64 u3', .slice p' ks'.length cap', .int .i64 mn', .int .i64 mx', .string tx'] 27)).heap[k]? = W.heap[k]? := fun k hk => Below.heap_alloc _ _ _ hk
          have hsz : (W.alloc (.cells #[.int .i64 k', .int .u64 u0', .int .u64 u1', .int .u64 u2', .int .u64 u3', .slice p' ks'.length cap', .int .i64 mn', .int .i64 mx', .string tx'] 27)).heap.size = wr.heap.size + 1 := by rw [World.size_alloc, q2]
          have hbe : Below w2.heap.size w2 (W.alloc (.cells #[.int .i64 k', .int .u64 u0', .int .u64 u1', .int .u64 u2', .int .u64 u3', .slice p' ks'.length cap', .int .i64 mn', .int .i64 mx', .string tx'] 27)) := g5.out.trans ((q4 w2.heap.size (by omega)).alloc (by omega) _)
          generalize W.alloc (.cells #[.int .i64 k', .int .u64 u0', .int .u64 u1', .int .u64 u2', .int .u64 u3', .slice p' ks'.length cap', .int .i64 mn', .int .i64 mx', .string tx'] 27) = V at *
          rw [q2] at hnew hold
          refine ⟨j + 1, .mk 2 0 0 0 0 (some ⟨wr.heap.size, 0, none⟩) 1 0 0 ⟨#[]⟩ [T.mk k' u0' u1' u2' u3' p' cap' mn' mx' tx' ks'], by omega, by go_num, Lib.hid ⟨.succ _ g1.out, ?_, (hold _ hs2).trans q1, (hold _ (by omega)).trans ((q3 _ (by omega)).trans g4.out), hbe⟩⟩
          refine .mk (by simp) (by decide) ⟨by decide, ⟨by decide, by decide, by decide, by decide⟩, by decide, by decide, by decide⟩ (fun i hi => ⟨_, rfl, ⟨by simp only []; omega, by rw [hsz]; exact Nat.lt_succ_self _⟩, fun q hq => ?_⟩) (fun t ht => ?_)
          · simp only [List.length_cons, List.length_nil] at hi
            obtain rfl : i = 0 := by omega
            have e : (⟨wr.heap.size, 0, none⟩ : Addr).add (0 * 9 + q) = ⟨wr.heap.size, q, none⟩ := by unfold Addr.add; split <;> simp_all
            rw [e, cell_of_row _ _ _ _ _ (0, 0) hnew]
            simp [T.cells]
          · simp only [List.mem_cons, List.not_mem_nil, or_false] at ht
            subst ht
            refine (g2.out.keep (fun b hb => ?_)).imp (fun b hb => ⟨hb.1, by rw [hsz]; omega⟩)
            rw [hold b hb.2, q3 b (by omega)]
        case measure => simp [intOf]; omega
    · obtain rfl : j = L := by omega
      rename World => wa
      obtain ⟨g1, g2, g3, g4, g5⟩ := hrl.out
      have hs2 : w2.heap.size + 1 < wa.heap.size := (Array.getElem?_eq_some_iff.1 g3).1
      have hTc : T.In wa wa.heap.size t := g2.toIn fun b hb => hb.2
      have hrt := chain_right g1
      have hdp := chain_deep g1
      replace hrt := Lib.hid hrt
      replace hdp := Lib.hid hdp
      replace hTc := Lib.hid hTc
      replace g3 := Lib.hid g3
      replace g4 := Lib.hid g4
      replace g5 := Lib.hid g5
      clear g1 g2 hrl hlt hj
      go_wp2
      have hz : (wa.alloc (.cells #[.int .i64 2, .int .u64 0, .int .u64 0, .int .u64 0, .int .u64 0, .slice none 0 0, .int .i64 0, .int .i64 0, .string ⟨#[]⟩] 27)).heap[wa.heap.size]? = some (.cells #[.int .i64 2, .int .u64 0, .int .u64 0, .int .u64 0, .int .u64 0, .slice none 0 0, .int .i64 0, .int .i64 0, .string ⟨#[]⟩] 27 (0, 0)) := World.alloc_heap_new _ _
      have hBz : Below wa.heap.size wa (wa.alloc (.cells #[.int .i64 2, .int .u64 0, .int .u64 0, .int .u64 0, .int .u64 0, .slice none 0 0, .int .i64 0, .int .i64 0, .string ⟨#[]⟩] 27)) := (Below.refl _ _).alloc (Nat.le_refl _) _
      replace hz := Lib.hid hz
      replace hBz := Lib.hid hBz
      go_loopw [30] (fun i wr => ∃ (q : Nat) (p2 : Option Addr) (cap2 : Nat), q ≤ M ∧ i = .int .i64 q ∧ Hid (wr.heap[wa.heap.size]? = some (.cells #[.int .i64 2, .int .u64 0, .int .u64 0, .int .u64 0, .int .u64 0, .slice p2 q cap2, .int .i64 0, .int .i64 0, .string ⟨#[]⟩] 27 (0, 0)) ∧ wr.ownsRow (wa.heap.size + 1) 27 9 (.slice p2 q cap2) q (List.replicate q (leafT f).cells).flatten ∧ Below wa.heap.size wa wr)) (fun i _ => M - (intOf i).toNat)
      case atStart => exact ⟨0, none, 0, Nat.zero_le _, rfl, Lib.hid ⟨hz.out, World.ownsRow_nil _ _ _ _, hBz.out⟩⟩
      case round =>
        clear hz hBz
        obtain ⟨q, p2, cap2, hq, rfl, hrl⟩ := hrel
        by_cases hlt : q < M
        · obtain ⟨e1, e2, e3⟩ := hrl.out
          have hk := cells_of ((e3.block _ (by omega)).trans g4.out)
          have x0 := (hk 0 _ rfl).1; have x1 := (hk 1 _ rfl).1; have x2 := (hk 2 _ rfl).1; have x3 := (hk 3 _ rfl).1; have x4 := (hk 4 _ rfl).1; have x5 := (hk 5 _ rfl).1; have x6 := (hk 6 _ rfl).1; have x7 := (hk 7 _ rfl).1; have x8 := (hk 8 _ rfl).1
          clear hk
          have hk := cells_of e1
          have y5 := (hk 5 _ rfl).1
          clear hk
          replace e1 := Lib.hid e1
          replace e2 := Lib.hid e2
          replace e3 := Lib.hid e3
          have hlt7 := Lib.hid (Array.getElem?_eq_some_iff.1 e1.out).1
          clear hrl
          have hll : Hid (∀ k u, [.int .i64 1, .int .u64 u0, .int .u64 u1, .int .u64 u2, .int .u64 u3, .slice none 0 0, .int .i64 0, .int .i64 0, .string ⟨#[]⟩][k]? = some u → (wr.alloc (.cells #[.int .i64 1, .int .u64 u0, .int .u64 u1, .int .u64 u2, .int .u64 u3, .slice none 0 0, .int .i64 0, .int .i64 0, .string ⟨#[]⟩] 27)).cell? ((⟨wr.heap.size, 0, none⟩ : Addr).add k) = some u) := Lib.hid (cells_new rfl)
          go_wp2_with (at_builtin; refine wpList_append_own _ rfl _ _ 25 rfl (wa.heap.size + 1) 27 i0 (.agg #[.int .i64 0, .int .u64 0, .int .u64 0, .int .u64 0, .int .u64 0, .slice none 0 0, .int .i64 0, .int .i64 0, .string ⟨#[]⟩]) 9 96 Tryd.underlying25 hi.out hz0.out hz1.out hz2.out rfl (by decide) _ _ _ rfl (e2.out.alloc _) ⟨_, 0, none⟩ 1 1 [.int .i64 1, .int .u64 u0, .int .u64 u1, .int .u64 u2, .int .u64 u3, .slice none 0 0, .int .i64 0, .int .i64 0, .string ⟨#[]⟩] rfl rfl hll.out (by simp [Value.oneCell']) (by simp [maxLen]; omega) (by omega) (by simp; have := hlt7.out; omega) ?_; intro v' w9 hown' hgrow _; obtain ⟨pv2, cv2, rfl, -⟩ := row_form hown'; have h79 : w9.heap[wa.heap.size]? = some (.cells #[.int .i64 2, .int .u64 0, .int .u64 0, .int .u64 0, .int .u64 0, .slice p2 q cap2, .int .i64 0, .int .i64 0, .string ⟨#[]⟩] 27 (0, 0)) := (hgrow.block _ (by simp; have := hlt7.out; omega) (fun e => by have := ((e2.out.alloc (.cells #[.int .i64 1, .int .u64 u0, .int .u64 u1, .int .u64 u2, .int .u64 u3, .slice none 0 0, .int .i64 0, .int .i64 0, .string ⟨#[]⟩] 27)).lt _ e.symm).1; omega)).trans ((Below.heap_alloc _ _ _ hlt7.out).trans e1.out); have z5 := (cells_of h79 5 _ rfl).2; have z5c := (cells_of h79 5 _ rfl).1; replace h79 := Lib.hid h79; replace hown' := Lib.hid hown'; replace hgrow := Lib.hid hgrow)
          go_roundw
          case rel =>
            refine ⟨q + 1, pv2, cv2, by omega, by go_num, Lib.hid ⟨box_set h79.out 5 _, ?_, ?_⟩⟩
            · rw [flat_snoc, hleaf.out]
              rw [hleaf.out] at hown'
              exact own_keep hown'.out fun g hg hgl => Below.heap_setCell _ _ _ _ (by show g ≠ wa.heap.size; have := (hown'.out.lt g hg).1; omega)
            · exact ((e3.out.alloc (by have := hlt7.out; omega) _).grown hgrow.out (by simp; have := hlt7.out; omega) (fun k hk => by have := ((e2.out.alloc (.cells #[.int .i64 1, .int .u64 u0, .int .u64 u1, .int .u64 u2, .int .u64 u3, .slice none 0 0, .int .i64 0, .int .i64 0, .string ⟨#[]⟩] 27)).lt _ hk).1; omega)).setCell (p := ⟨wa.heap.size, 5, none⟩) (Nat.le_refl _) _
          case measure => simp [intOf]; omega
        · obtain rfl : q = M := by omega
          obtain ⟨e1, e2, e3⟩ := hrl.out
          obtain ⟨p3, cap3, hp3, hTw⟩ := wide_in e2
          obtain ⟨rfl, rfl⟩ : p3 = p2 ∧ cap3 = cap2 := by
            simp only [Value.slice.injEq, true_and] at hp3
            exact ⟨hp3.1.symm, hp3.2.symm⟩
          have b6 := (e3.block _ (by omega)).trans g3.out
          have hTc2 : T.In wr wr.heap.size t := (hTc.out.keep e3).mono e3.size
          have hB9 := Lib.hid (hB2.out.trans ((g5.out.mono hB2.out.size).trans (e3.mono (Nat.le_trans hB2.out.size (by omega)))))
          have RT := Lib.hid (fun w' (h : Below wr.heap.size wr w') => right_in ((hTc2.keep h).mono h.size))
          have DT := Lib.hid (fun w' (h : Below wr.heap.size wr w') => depth_in ((hTc2.keep h).mono h.size))
          have RW := Lib.hid (fun w' (h : Below wr.heap.size wr w') => right_in ((hTw.keep h).mono h.size))
          have CW := Lib.hid (fun w' (h : Below wr.heap.size wr w') => count_in ((hTw.keep h).mono h.size))
          rw [hrt.out] at RT
          rw [hdp.out] at DT
          rw [wide_right] at RW
          rw [wide_len] at CW
          have lenq : (List.replicate q (leafT f)).length = q := by simp
          simp only [wideT, T.cells, lenq] at RW CW
          clear hrt hdp hTc hrl hp3 hTw e2 lenq hleaf hi hz0 hz1 hz2 hTc2 hs2
          have hR0 : Hid (Below wr.heap.size wr wr) := Lib.hid (Below.refl _ _)
          have H7 := Lib.hid e1
          have b6' := Lib.hid b6
          cases t with
          | mk k' u0' u1' u2' u3' p' cap' mn' mx' tx' ks' =>
            simp only [T.cells] at *
            have hk := cells_of b6
            have x0 := (hk 0 _ rfl).1; have x1 := (hk 1 _ rfl).1; have x2 := (hk 2 _ rfl).1; have x3 := (hk 3 _ rfl).1; have x4 := (hk 4 _ rfl).1; have x5 := (hk 5 _ rfl).1; have x6 := (hk 6 _ rfl).1; have x7 := (hk 7 _ rfl).1; have x8 := (hk 8 _ rfl).1
            clear hk b6 e1 e3 hlt hq g3 g4 g5
            by_cases h24 : j < 24
            · have d1 : decide (j < 24) = true := by simp; omega
              have d2 : min (j + 1) 25 = j + 1 := by omega
              rw [d1] at RT
              rw [d2] at DT
              clear d1 d2
              go_wp2_with (first | (go_at_call 13; (with_reducible refine (RT.out _ hR0.out).mono ?_); rintro e wa1 ⟨rfl, hc⟩; replace hR0 := Lib.hid (hR0.out.trans (hc.mono hR0.out.size)); have hk := cells_of ((Below.block hR0.out _ (Array.getElem?_eq_some_iff.1 b6'.out).1).trans b6'.out); have y0 := (hk 0 _ rfl).1; have y1 := (hk 1 _ rfl).1; have y2 := (hk 2 _ rfl).1; have y3 := (hk 3 _ rfl).1; have y4 := (hk 4 _ rfl).1; have y5 := (hk 5 _ rfl).1; have y6 := (hk 6 _ rfl).1; have y7 := (hk 7 _ rfl).1; have y8 := (hk 8 _ rfl).1; clear hk; clear hc) | (go_at_call 15; (with_reducible refine (DT.out _ hR0.out).mono ?_); rintro e wa2 ⟨rfl, hc⟩; replace hR0 := Lib.hid (hR0.out.trans (hc.mono hR0.out.size)); have hk := cells_of ((Below.block hR0.out _ (Array.getElem?_eq_some_iff.1 H7.out).1).trans H7.out); have y0 := (hk 0 _ rfl).1; have y1 := (hk 1 _ rfl).1; have y2 := (hk 2 _ rfl).1; have y3 := (hk 3 _ rfl).1; have y4 := (hk 4 _ rfl).1; have y5 := (hk 5 _ rfl).1; have y6 := (hk 6 _ rfl).1; have y7 := (hk 7 _ rfl).1; have y8 := (hk 8 _ rfl).1; clear hk; clear hc) | (go_at_call 13; (with_reducible refine (RW.out _ hR0.out).mono ?_); rintro e wa3 ⟨rfl, hc⟩; replace hR0 := Lib.hid (hR0.out.trans (hc.mono hR0.out.size)); have hk := cells_of ((Below.block hR0.out _ (Array.getElem?_eq_some_iff.1 H7.out).1).trans H7.out); have z0 := (hk 0 _ rfl).1; have z1 := (hk 1 _ rfl).1; have z2 := (hk 2 _ rfl).1; have z3 := (hk 3 _ rfl).1; have z4 := (hk 4 _ rfl).1; have z5 := (hk 5 _ rfl).1; have z6 := (hk 6 _ rfl).1; have z7 := (hk 7 _ rfl).1; have z8 := (hk 8 _ rfl).1; clear hk; clear hc) | (go_at_call 16; (with_reducible refine (CW.out _ hR0.out).mono ?_); rintro e wa4 ⟨rfl, hc⟩; replace hR0 := Lib.hid (hR0.out.trans (hc.mono hR0.out.size)); skip; clear hc))
              all_goals
                go_ret
                exact ⟨ret_bool (by first | rfl | (simp; omega) | omega | (exfalso; rename_i hx; rcases hx with hx | hx; · omega; · revert hx; rw [bne_iff_ne]; split <;> omega) | (exfalso; simp_all; omega) | (exfalso; rename_i hx h; revert hx; rw [bne_iff_ne]; split <;> omega)), hB9.out.trans (hR0.out.mono hB9.out.size)⟩
            · have d1 : decide (j < 24) = false := by simp; omega
              have d2 : min (j + 1) 25 = 25 := by omega
              rw [d1] at RT
              rw [d2] at DT
              clear d1 d2
              go_wp2_with (first | (go_at_call 13; (with_reducible refine (RT.out _ hR0.out).mono ?_); rintro e wa1 ⟨rfl, hc⟩; replace hR0 := Lib.hid (hR0.out.trans (hc.mono hR0.out.size)); have hk := cells_of ((Below.block hR0.out _ (Array.getElem?_eq_some_iff.1 b6'.out).1).trans b6'.out); have y0 := (hk 0 _ rfl).1; have y1 := (hk 1 _ rfl).1; have y2 := (hk 2 _ rfl).1; have y3 := (hk 3 _ rfl).1; have y4 := (hk 4 _ rfl).1; have y5 := (hk 5 _ rfl).1; have y6 := (hk 6 _ rfl).1; have y7 := (hk 7 _ rfl).1; have y8 := (hk 8 _ rfl).1; clear hk; clear hc) | (go_at_call 15; (with_reducible refine (DT.out _ hR0.out).mono ?_); rintro e wa2 ⟨rfl, hc⟩; replace hR0 := Lib.hid (hR0.out.trans (hc.mono hR0.out.size)); have hk := cells_of ((Below.block hR0.out _ (Array.getElem?_eq_some_iff.1 H7.out).1).trans H7.out); have y0 := (hk 0 _ rfl).1; have y1 := (hk 1 _ rfl).1; have y2 := (hk 2 _ rfl).1; have y3 := (hk 3 _ rfl).1; have y4 := (hk 4 _ rfl).1; have y5 := (hk 5 _ rfl).1; have y6 := (hk 6 _ rfl).1; have y7 := (hk 7 _ rfl).1; have y8 := (hk 8 _ rfl).1; clear hk; clear hc) | (go_at_call 13; (with_reducible refine (RW.out _ hR0.out).mono ?_); rintro e wa3 ⟨rfl, hc⟩; replace hR0 := Lib.hid (hR0.out.trans (hc.mono hR0.out.size)); have hk := cells_of ((Below.block hR0.out _ (Array.getElem?_eq_some_iff.1 H7.out).1).trans H7.out); have z0 := (hk 0 _ rfl).1; have z1 := (hk 1 _ rfl).1; have z2 := (hk 2 _ rfl).1; have z3 := (hk 3 _ rfl).1; have z4 := (hk 4 _ rfl).1; have z5 := (hk 5 _ rfl).1; have z6 := (hk 6 _ rfl).1; have z7 := (hk 7 _ rfl).1; have z8 := (hk 8 _ rfl).1; clear hk; clear hc) | (go_at_call 16; (with_reducible refine (CW.out _ hR0.out).mono ?_); rintro e wa4 ⟨rfl, hc⟩; replace hR0 := Lib.hid (hR0.out.trans (hc.mono hR0.out.size)); skip; clear hc))
              all_goals
                go_ret
                exact ⟨ret_bool (by first | rfl | (simp; omega) | omega | (exfalso; rename_i hx; rcases hx with hx | hx; · omega; · revert hx; rw [bne_iff_ne]; split <;> omega) | (exfalso; simp_all; omega) | (exfalso; rename_i hx h; revert hx; rw [bne_iff_ne]; split <;> omega)), hB9.out.trans (hR0.out.mono hB9.out.size)⟩
end Go.Proofs.YtbkmoaollooomaaDoor
