/- The program's Names. -/
import Derived.Test.YtbkmoaollooomaaDoorW31
import Derived.Test.YtbkmoaollooomaaDoorW27
import Derived.OwnWalkIn
import Derived.Maps.OwnIn
namespace Go.Proofs.YtbkmoaollooomaaDoor
open Go.RowKit
open Go.Tree7
attribute [local go_sem] Oper.semAt_some
/-- The names of the nodes that have come. -/
noncomputable def namesT (pre : List (Nat × T)) : List ByteArray := namesS (pre.map fun x => x.2.step x.1)
theorem namesT_snoc (pre : List (Nat × T)) (x : Nat × T) : namesT (pre ++ [x]) = addS (namesT pre) (x.2.step x.1) := by unfold namesT; rw [List.map_append]; exact namesS_snoc _ _
theorem namesT_all (t : T) : namesT (allT t) = namesS (allS t) := by unfold namesT; rw [allS_map]
theorem namesT_len (pre : List (Nat × T)) : (namesT pre).length ≤ pre.length := by have := namesS_len (pre.map fun x => x.2.step x.1); simpa [namesT] using this
/-- What Names gives back. -/
def GivesStrs (w : World) (l : List ByteArray) (e : Ending) (w' : World) : Prop := ∃ (p : Option Addr) (cap : Nat), e = .returned (.slice p l.length cap) ∧ SRow w' p l ∧ Below w.heap.size w w'
/-- The state: the names so far in a row of one's own, the box that holds it. -/
structure NSt (w W : World) (l : List ByteArray) : Prop where
  box : ∃ (p : Option Addr) (cap : Nat), W.heap[w.heap.size + 1]? = some (.cells #[.slice p l.length cap] 37 (0, 0)) ∧ W.ownsRow (w.heap.size + 6) 9 1 (.slice p l.length cap) l.length (l.map Value.string)
  bel : Below w.heap.size w W
theorem NSt.stays {w : World} : Stays (w.heap.size + 3) (fun (pre : List (Nat × T)) W => NSt w W (namesT pre)) := fun s X Y row hs hg hr => by
  obtain ⟨⟨p, cap, h1, h2⟩, h3⟩ := hs
  refine ⟨⟨p, cap, (hg.block _ (Array.getElem?_eq_some_iff.1 h1).1 (fun e => by have := (hr _ e.symm).1; omega)).trans h1, h2.kept hg ?_⟩, h3.grown hg h3.size (fun k e => by have := (hr k e).1; omega)⟩
  cases hv : (Value.slice p (namesT s).length cap).ownBlock with
  | none => exact .inl rfl
  | some g =>
    refine .inr fun e => ?_
    have h4 := (h2.lt g hv).1
    have h5 := (hr g e.symm).2
    omega
theorem infoStr : (Tryd.prog.info? 9).map (fun i => (i.zero, i.size, i.bytes)) = some (some (.string ⟨#[]⟩), 1, 16) := by kernel_rfl
set_option maxRecDepth 100000 in
set_option maxHeartbeats 4000000 in
theorem names_in {t : T} {w : World} (hT : T.In w w.heap.size t) : Calls Tryd.prog 18 #[.agg t.cells.toArray] w (GivesStrs w (namesS (allS t))) := by
  rw [← namesT_all]
  refine (callsIn_wide (n := 6)).1 ?_
  obtain ⟨i0, hi, hz0, hz1, hz2⟩ := info_parts infoStr
  replace hi := Lib.hid hi
  replace hz0 := Lib.hid hz0
  replace hz1 := Lib.hid hz1
  replace hz2 := Lib.hid hz2
  cases t with
  | mk k u0 u1 u2 u3 p cap mn mx tx ks =>
    have hw := walk2_in 5 (T.mk k u0 u1 u2 u3 p cap mn mx tx ks) ((w.alloc (.cells #[.int .i64 k, .int .u64 u0, .int .u64 u1, .int .u64 u2, .int .u64 u3, .slice p ks.length cap, .int .i64 mn, .int .i64 mx, .string tx] 27)).alloc (.cells #[.slice none 0 0] 37))
    have hB0 : Below w.heap.size w (((w.alloc (.cells #[.int .i64 k, .int .u64 u0, .int .u64 u1, .int .u64 u2, .int .u64 u3, .slice p ks.length cap, .int .i64 mn, .int .i64 mx, .string tx] 27)).alloc (.cells #[.slice none 0 0] 37)).alloc (.cells #[.int .i64 k, .int .u64 u0, .int .u64 u1, .int .u64 u2, .int .u64 u3, .slice p ks.length cap, .int .i64 mn, .int .i64 mx, .string tx] 27)) := (((Below.refl _ w).alloc (Nat.le_refl _) _).alloc (by simp) _).alloc (by simp; omega) _
    have bC := (Boxed.new (w.alloc (.cells #[.int .i64 k, .int .u64 u0, .int .u64 u1, .int .u64 u2, .int .u64 u3, .slice p ks.length cap, .int .i64 mn, .int .i64 mx, .string tx] 27)) 37 (.slice none 0 0)).alloc (.cells #[.int .i64 k, .int .u64 u0, .int .u64 u1, .int .u64 u2, .int .u64 u3, .slice p ks.length cap, .int .i64 mn, .int .i64 mx, .string tx] 27)
    rw [World.size_alloc] at bC
    have hst := walk_seq 5 hT hB0 (Nat.le_refl _) (World.alloc_heap_new _ _)
    simp only [World.size_alloc] at hst
    simp only [T.cells, World.size_alloc] at hw ⊢
    generalize allT (T.mk k u0 u1 u2 u3 p cap mn mx tx ks) = ys at *
    have hT' := Lib.hid hT
    replace hw := Lib.hid hw
    clear hT
    refine callsIn_of_wp_marks Tryd.func18 rfl trivial ?_ rfl
    simp only [Tryd.ntmps18, List.size_toArray, List.length_cons, List.length_nil, Nat.reduceAdd, Nat.reduceSub, Array.replicate_succ, Array.replicate_zero, List.push_toArray, List.append_toArray, List.nil_append, List.cons_append]
    gi_wp2_with (refine ⟨trivial, ?_⟩; gi_at_call 31; refine hw.out.mono ?_; rintro e w' ⟨rfl, rfl⟩)
    refine rangeV (by omega) rfl (enters_of Tryd.func42 (by kernel_rfl) rfl) hst Kp.trans (kp_b (by simp; omega)) (Below.refl _ _) (fun _ => rfl)
      (fun pre W => NSt w W (namesT pre)) (fun _ _ _ => False) (by have := NSt.stays (w := w); simpa using this) (fun _ _ _ _ _ h _ _ => h) ⟨⟨none, 0, bC, World.ownsRow_nil _ _ _ _⟩, hB0⟩
      (fun x a' W => ∃ Bx, w.heap.size + 5 ≤ Bx ∧ W.heap[Bx]? = some (.cells x.2.cells.toArray 27 (0, 0)) ∧ a' = { tmps := #[.agg #[.int .i64 k, .int .u64 u0, .int .u64 u1, .int .u64 u2, .int .u64 u3, .slice p ks.length cap, .int .i64 mn, .int .i64 mx, .string tx], .pointer (some ⟨w.heap.size, 0, none⟩), .slice none 0 0, .pointer (some ⟨w.heap.size + 1, 0, none⟩), undef, .pointer (some ⟨Bx, 0, none⟩), .agg #[.int .i64 k, .int .u64 u0, .int .u64 u1, .int .u64 u2, .int .u64 u3, .slice p ks.length cap, .int .i64 mn, .int .i64 mx, .string tx], .func (.func 42) #[] #[.pointer (some ⟨w.heap.size + 1 + 1, 0, none⟩)], .int .i64 x.1, .agg x.2.cells.toArray, undef, undef, undef, undef, undef, undef, undef, undef, undef, undef, undef, undef, undef, undef, undef, undef], defers := [] })
      (fun x a' W o ⟨Bx, h1, h2, h3⟩ => ⟨Bx, h1, (World.putObj_heap_other (by simp; omega)).trans h2, h3⟩) ?assign ?body ?done ?stop
    case assign =>
      rintro l pre ⟨lv, t⟩ W K hok hsz hi hK
      have hsW : w.heap.size + 5 ≤ W.heap.size := by simp at hsz; omega
      simp only [encK]
      cases t with
      | mk k' u0' u1' u2' u3' p' cap' mn' mx' tx' ks' =>
        simp only [T.cells]
        simp only [T.cells] at hK
        gi_wp2
        refine hK _ _ ((KeepsOthers.alloc _ _).from _) ((Kp.refl _ _).alloc (by omega) _) ?_ ⟨W.heap.size, hsW, World.alloc_heap_new W _, by simp⟩
        exact NSt.stays.alloc _ hi
    case body =>
      rintro l pre ⟨lv, t⟩ a' W hok hsz hst2 ⟨Bx, hBx, hbx, rfl⟩ hlt
      have hl6 := namesT_len pre
      have hadd := namesT_snoc pre (lv, t)
      obtain ⟨p2, cap2, hbox, hown⟩ := hst2.box
      have hB := hst2.bel
      have hsW : w.heap.size + 6 ≤ W.heap.size := by have := (Array.getElem?_eq_some_iff.1 hbx).1; omega
      obtain ⟨p9, cap9, hv9, hrow⟩ := SRow.of_owns rfl hown
      obtain ⟨rfl, rfl⟩ : p2 = p9 ∧ cap2 = cap9 := by simp only [Value.slice.injEq, true_and] at hv9; exact hv9
      clear hv9
      generalize namesT pre = L at *
      obtain ⟨n, hn⟩ : ∃ n, L.length = n := ⟨_, rfl⟩
      have hn6 : n ≤ 601 := by omega
      have hc0 := (cells_of hbox 0 _ rfl).1
      have hf0 := (cells_of hbox 0 _ rfl).2
      rw [hn] at hc0 hbox hown
      cases t with
      | mk k' u0' u1' u2' u3' p' cap' mn' mx' tx' ks' =>
        have hk := cells_of hbx
        have x0 := (hk 0 _ rfl).1
        have x8 := (hk 8 _ rfl).1
        clear hk
        simp only [T.cells, T.step] at *
        by_cases hk5 : k' = 5
        · obtain ⟨q, hq⟩ : ∃ q : Bool, q = true ↔ tx' ∈ L := ⟨open Classical in decide (tx' ∈ L), by simp⟩
          have C := Lib.hid (cStrs_in (cap := cap2) W hn (by omega) hrow hq)
          cases q with
          | true =>
            have hL : addS L ⟨k', (u0', u1', u2', u3'), mn', mx', tx', lv, ks'.length⟩ = L := by unfold addS; rw [if_neg (fun h => h.2 (hq.1 rfl))]
            rw [hL] at hadd
            have hI : Hid (NSt w W (namesT (pre ++ [(lv, T.mk k' u0' u1' u2' u3' p' cap' mn' mx' tx' ks')]))) := Lib.hid (by rw [hadd]; exact hst2)
            subst hk5
            clear hL hadd hst2 hbx hbox hown hrow hq hlt hok
            gi_wp2_with (refine ⟨trivial, ?_⟩; gi_at_call 34; refine (CallsIn.inRound l (callsIn_wide.2 C.out)).mono ?_; rintro e W3 ⟨rfl, rfl⟩)
            exact ⟨KeepsFrom.refl _ _, Kp.refl _ _, hI.out⟩
          | false =>
            have hL : addS L ⟨k', (u0', u1', u2', u3'), mn', mx', tx', lv, ks'.length⟩ = L ++ [tx'] := by unfold addS; rw [if_pos ⟨hk5, fun h => by have := hq.2 h; cases this⟩]
            rw [hL] at hadd
            subst hk5
            have hown' := Lib.hid hown
            have hbox' := Lib.hid hbox
            have hB' := Lib.hid hB
            have hn' := Lib.hid hn
            have hadd' := Lib.hid hadd
            clear hL hadd hst2 hbx hbox hown hrow hq hlt hok hn hB
            gi_wp2_with (first
              | (refine ⟨trivial, ?_⟩; gi_at_call 34; refine (CallsIn.inRound l (callsIn_wide.2 C.out)).mono ?_; rintro e W3 ⟨rfl, rfl⟩)
              | (gi_at_builtin; refine wpListIn_append_own _ rfl _ _ 37 rfl (w.heap.size + 6) 9 i0 (.string ⟨#[]⟩) 1 16 Tryd.underlying37 hi.out hz0.out hz1.out hz2.out rfl (by decide) _ _ _ rfl (hown'.out.alloc _) ⟨W.heap.size, 0, none⟩ 1 1 [.string tx'] rfl rfl (cell_one_new _ _ _) (by simp [Value.oneCell']) (by simp [maxLen]; omega) (by omega) (by simp; omega) ?_; intro v' w9 hown2 hgrow hnil; clear hnil; obtain ⟨pv2, cv2, rfl, -⟩ := row_form hown2; have hgr : World.grownBy (W.alloc (.cells #[.string tx'] 9)) w9 (Value.slice p2 n cap2).ownBlock := hgrow; clear hgrow; have hne : ∀ b, b < w.heap.size + 6 → some b ≠ (Value.slice p2 n cap2).ownBlock := (fun b hb e => absurd (hown'.out.lt _ e.symm).1 (by omega)); have h1b : w9.heap[w.heap.size + 1]? = some (.cells #[.slice p2 n cap2] 37 (0, 0)) := (hgr.block _ (by simp; omega) (hne _ (by omega))).trans ((Below.heap_alloc _ _ _ (by omega)).trans hbox'.out); have hc9 := (cells_of h1b 0 _ rfl).1; have hf9 := (cells_of h1b 0 _ rfl).2; replace h1b := Lib.hid h1b; replace hgr := Lib.hid hgr; replace hown2 := Lib.hid hown2))
            have hBig : Below w.heap.size w (w9.setCell ⟨w.heap.size + 1, 0, none⟩ (.slice pv2 (n + 1) cv2)) := ((hB'.out.alloc (by omega) _).grown hgr.out (by simp; omega) (fun k hk => by have := (hown'.out.lt _ hk).1; omega)).setCell (p := ⟨w.heap.size + 1, 0, none⟩) (by show w.heap.size ≤ w.heap.size + 1; omega) _
            have hKp : Kp w.heap.size W w9 := ((Kp.refl _ W).alloc (by omega) _).grown hgr.out (by simp; omega) (fun r e => by
              refine ⟨by have := (hown'.out.lt _ e).1; omega, fun cs t fr h => ?_⟩
              rcases (hown'.out.alloc (.cells #[.string tx'] 9)).2 with ⟨e2, -⟩ | ⟨g, cap', cur, e2, -, hg, -⟩
              · rw [e2] at e; cases e
              · rw [e2] at e
                simp only [Value.ownBlock, Option.some.injEq] at e
                subst e
                rw [hg] at h
                cases h
                decide)
            have hKf : KeepsFrom (w.heap.size + 3) W (w9.setCell ⟨w.heap.size + 1, 0, none⟩ (.slice pv2 (n + 1) cv2)) := by
              have k1 : KeepsFrom (w.heap.size + 3) W (W.alloc (.cells #[.string tx'] 9)) := (KeepsOthers.alloc _ _).from _
              have k2 : KeepsFrom (w.heap.size + 3) (W.alloc (.cells #[.string tx'] 9)) w9 := ⟨hgr.out.size, fun k o hk ho hcl => by
                by_cases e : some k = (Value.slice p2 n cap2).ownBlock
                · rcases (hown'.out.alloc (.cells #[.string tx'] 9)).2 with ⟨e2, -⟩ | ⟨g, cap', cur, e2, -, hg, -⟩
                  · rw [e2] at e; cases e
                  · rw [e2] at e
                    simp only [Value.ownBlock, Option.some.injEq] at e
                    subst e
                    rw [hg] at ho
                    cases ho
                    cases hcl
                · exact (hgr.out.block k (Array.getElem?_eq_some_iff.1 ho).1 e).trans ho⟩
              exact (k1.trans k2).trans ((KeepsOthers.setCell _ _ _).from _)
            have hKp2 : Kp w.heap.size W (w9.setCell ⟨w.heap.size + 1, 0, none⟩ (.slice pv2 (n + 1) cv2)) := hKp.trans (kp_set (v := .slice p2 n cap2) h1b.out (by omega) (by decide))
            have hSt : NSt w (w9.setCell ⟨w.heap.size + 1, 0, none⟩ (.slice pv2 (n + 1) cv2)) (namesT (pre ++ [(lv, T.mk 5 u0' u1' u2' u3' p' cap' mn' mx' tx' ks')])) := by
              rw [hadd'.out]
              have hl : (L ++ [tx']).length = n + 1 := by simp [hn'.out]
              refine ⟨⟨pv2, cv2, ?_, ?_⟩, hBig⟩
              · rw [hl]; exact boxed_set (v := .slice p2 n cap2) h1b.out _
              · rw [hl, List.map_append]
                exact own_keep2 hown2.out fun g hg hgl => Below.heap_setCell _ _ _ _ (by show g ≠ w.heap.size + 1; have := (hown2.out.lt g hg).1; omega)
            exact ⟨by simpa using hKf, hKp2, hSt⟩
        · have hL : addS L ⟨k', (u0', u1', u2', u3'), mn', mx', tx', lv, ks'.length⟩ = L := by unfold addS; rw [if_neg (fun h => hk5 h.1)]
          rw [hL] at hadd
          have hI : Hid (NSt w W (namesT (pre ++ [(lv, T.mk k' u0' u1' u2' u3' p' cap' mn' mx' tx' ks')]))) := Lib.hid (by rw [hadd]; exact hst2)
          have d5 : (k' == (5 : Int)) = false := by rw [beq_eq_false_iff_ne]; exact hk5
          clear hL hadd hst2 hbx hbox hown hrow hlt hok hk5
          gi_wp2
          refine ⟨trivial, ?_⟩
          gi_wp2
          exact ⟨KeepsFrom.refl _ _, Kp.refl _ _, hI.out⟩
    case done =>
      rintro D zs W hD rfl hst2 hK
      obtain ⟨p2, cap2, hbox, hown⟩ := hst2.box
      obtain ⟨p9, cap9, hv9, hrow⟩ := SRow.of_owns rfl hown
      obtain ⟨rfl, rfl⟩ : p2 = p9 ∧ cap2 = cap9 := by simp only [Value.slice.injEq, true_and] at hv9; exact hv9
      clear hv9
      have hB := Lib.hid hst2.bel
      have hc0 := (cells_of hbox 0 _ rfl).1
      have hbox' := Lib.hid hbox
      have hown' := Lib.hid hown
      have hK' := Lib.hid hK
      clear hst2 hrow hbox hown
      simp only [World.size_alloc] at hD
      gi_wp2
      refine ⟨by simp, .inl ⟨_, _, rfl, run_takeDeferred hK'.out, ?_⟩⟩
      have hB3 := hB.out.trans (belowK_b (w := w) (Nat.le_refl _) W D _ (.deferred none) (by omega) hK'.out rfl rfl)
      refine ⟨_, results_tmp rfl _ _ _, ?_⟩
      have hown3 : (W.putObj D (.deferred none)).ownsRow (w.heap.size + 6) 9 1 (.slice p2 (namesT zs).length cap2) (namesT zs).length ((namesT zs).map Value.string) := own_keep2 hown'.out fun g hg hgl => World.putObj_heap_other (fun e => by
        subst e
        rcases hown'.out.2 with ⟨e2, -⟩ | ⟨g', cap', cur, e2, -, hg', -⟩
        · rw [e2] at hg; cases hg
        · rw [e2] at hg
          simp only [Value.ownBlock, Option.some.injEq] at hg
          subst hg
          rw [hK'.out] at hg'
          cases hg')
      obtain ⟨p9, cap9, hv9, hrow⟩ := SRow.of_owns (by simp) hown3
      obtain ⟨rfl, rfl⟩ : p2 = p9 ∧ cap2 = cap9 := by simp only [Value.slice.injEq, true_and] at hv9; exact hv9
      exact ⟨p2, cap2, rfl, hrow, hB3⟩
    case stop =>
      rintro D c pre W _ _ h _
      exact h.elim
end Go.Proofs.YtbkmoaollooomaaDoor
