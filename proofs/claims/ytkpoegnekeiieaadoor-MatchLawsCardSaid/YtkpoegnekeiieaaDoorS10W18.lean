/- MatchEmpty: the empty Cat, an empty set, a tree alone in a Cat. -/

import Derived.Test.YtkpoegnekeiieaaDoorPG
import Derived.Test.YtkpoegnekeiieaaDoorWS
namespace Go.Proofs.YtkpoegnekeiieaaDoor
open Go.RowKit
open Go.Tree7
open S7
open S5 (nl nl_length nl_small at_nl nl_at Gives idx idx_at ix ix_no ix_yes)
theorem flat_in (w : World) (k : Int) (hk : (Lit.int .i64 k).wf = true) : T.In w w.heap.size (.mk k 0 0 0 0 none 0 0 0 ⟨#[]⟩ []) :=
  .mk (Nat.le_refl _) (Nat.zero_le _) ⟨hk, ⟨by decide, by decide, by decide, by decide⟩, by decide, by decide, by decide⟩ (fun i hi => by simp at hi) (fun t ht => by simp at ht)
theorem flat_right {k : Int} (ho : T.ok (.mk k 0 0 0 0 none 0 0 0 ⟨#[]⟩ []) = true) : rightB (.mk k 0 0 0 0 none 0 0 0 ⟨#[]⟩ []) = true := by
  rw [rightB_iff, right_iff]
  refine ⟨.mk ho (fun t ht => by simp at ht), ?_, ?_⟩
  · rw [deep_mk]; decide
  · rw [T.size_mk]; decide
theorem flat_weight (k : Int) : weightT (.mk k 0 0 0 0 none 0 0 0 ⟨#[]⟩ []) = 1 := by rw [weightT_mk]; rfl
theorem plain0 : S7.plainB (S1.mem4 0 0 0 0) 0 0 ⟨#[]⟩ = true := by decide +kernel
theorem ok2 : T.ok (.mk 2 0 0 0 0 none 0 0 0 ⟨#[]⟩ []) = true := by
  show okB _ 2 0 0 0 ⟨#[]⟩ = true
  unfold okB
  rw [if_neg (by decide), if_pos rfl]
  exact plain0
theorem ok1 : T.ok (.mk 1 0 0 0 0 none 0 0 0 ⟨#[]⟩ []) = true := by
  show okB _ 1 0 0 0 ⟨#[]⟩ = true
  unfold okB
  rw [if_pos rfl]
  decide +kernel
theorem isB_of {n : T} (hw : worksB n = true) {l : List Nat} (hl : l.length ≤ 4096) : isB n l = true ↔ lang n l := by
  unfold isB
  rw [decide_eq_true hl, hw, Bool.true_and, Bool.true_and]
  exact inL_iff (okd_ok (right_all ((rightB_iff n).1 ((worksB_iff n).1 hw).1)).1) l
theorem is_two {l : List Nat} (hl : l.length ≤ 4096) : isB (.mk 2 0 0 0 0 none 0 0 0 ⟨#[]⟩ []) l = decide (l.length = 0) := by
  have hw : worksB (.mk 2 0 0 0 0 none 0 0 0 ⟨#[]⟩ []) = true := (worksB_iff _).2 ⟨flat_right ok2, by rw [flat_weight]; decide⟩
  rw [Bool.eq_iff_iff, isB_of hw hl, lang_empty, decide_eq_true_eq, List.length_eq_zero_iff]
theorem is_one {l : List Nat} (hl : l.length ≤ 4096) : isB (.mk 1 0 0 0 0 none 0 0 0 ⟨#[]⟩ []) l = false := by
  have hw : worksB (.mk 1 0 0 0 0 none 0 0 0 ⟨#[]⟩ []) = true := (worksB_iff _).2 ⟨flat_right ok1, by rw [flat_weight]; decide⟩
  cases h : isB (.mk 1 0 0 0 0 none 0 0 0 ⟨#[]⟩ []) l with
  | false => rfl
  | true =>
    have h2 := (isB_of hw hl).1 h
    rw [lang_mk, if_pos rfl] at h2
    obtain ⟨c, -, h3⟩ := h2
    replace h3 : S1.mem4 0 0 0 0 c = true := h3
    rw [mem_noS (u0 := 0) (u1 := 0) (u2 := 0) (u3 := 0) (by decide +kernel)] at h3
    cases h3
theorem works_one {p : Option Addr} {cap : Nat} {t : T} (h : worksB (.mk 2 0 0 0 0 p cap 0 0 ⟨#[]⟩ [t]) = true) : worksB t = true := by
  obtain ⟨h1, h2⟩ := (worksB_iff _).1 h
  have hr := right_kid h1 (t := t) (by simp)
  refine (worksB_iff _).2 ⟨hr, ?_⟩
  rw [weightT_mk] at h2
  simp only [List.foldl_cons, List.foldl_nil] at h2
  unfold kidW at h2
  rw [if_neg (by decide), if_neg (by decide)] at h2
  unfold cut20 at h2
  split at h2 <;> omega
theorem is_single {p : Option Addr} {cap : Nat} {t : T} (h : worksB (.mk 2 0 0 0 0 p cap 0 0 ⟨#[]⟩ [t]) = true) {l : List Nat} (hl : l.length ≤ 4096) : isB (.mk 2 0 0 0 0 p cap 0 0 ⟨#[]⟩ [t]) l = isB t l := by
  rw [Bool.eq_iff_iff, isB_of h hl, isB_of (works_one h) hl, lang_one]
theorem works_strip (t : T) : worksB t.strip = worksB t := by unfold worksB; rw [right_strip, weight_strip]
set_option maxRecDepth 100000 in
set_option maxHeartbeats 8000000 in
theorem empty_full {w : World} {t : T} (hT : T.In w w.heap.size t) {a : Option Addr} {m c : Nat} (hz : 60 ≤ t.size) (cA' : ∀ w', Bel w w' → Calls Tryd.prog 7 #[] w' fun e w'' => e = .returned (.bool true) ∧ Below w'.heap.size w' w'') :
    Calls Tryd.prog 6 #[.agg t.cells.toArray, .slice a m c] w fun e w' => e = .returned (.bool true) ∧ Below w.heap.size w w' := by
  have hq0 := Bel.new w (.cells t.cells.toArray 27)
  have hba := World.alloc_heap_new w (.cells t.cells.toArray 27)
  have cO := Lib.hid (of_full hT (by decide : 1 ≤ 60) (by decide) (rfl : (60 : Int) = _) hz)
  have cA := Lib.hid (cA' _ hq0)
  clear hT hz cA'
  cases t with
  | mk k s0 s1 s2 s3 p cap mn mx tx ks =>
  simp only [T.cells] at hq0 hba cO cA ⊢
  obtain ⟨n0, n1, n2, n3, n4, n5, n6, n7, n8⟩ := c9 hba
  replace hq0 := Lib.hid hq0
  replace hba := Lib.hid hba
  go_enter Tryd.func6, Tryd.ntmps6
  go_wp2_with (first | (go_at_call 7; (with_reducible refine cA.out.mono ?_); rintro e w1 ⟨rfl, hb⟩; have hba1 := kept_row hba.out hb; have hl1 := lt_box hba1; clear n0 n1 n2 n3 n4 n5 n6 n7 n8; obtain ⟨n0, n1, n2, n3, n4, n5, n6, n7, n8⟩ := c9 hba1; replace hba1 := Lib.hid hba1; have hq1 := Lib.hid (Bel.step hq0.out hb); clear hb) | (go_at_call 20; (with_reducible refine (cO.out _ hq1.out).mono ?_); rintro e w2 ⟨⟨km, m0, m1, m2, m3, pm, capm, mnm, mxm, txm, ksm⟩, rfl, hb⟩; simp only; have hq2 := Lib.hid (Bel.alloc (Bel.step hq1.out hb) (.cells #[.int .i64 km, .int .u64 m0, .int .u64 m1, .int .u64 m2, .int .u64 m3, .slice pm ksm.length capm, .int .i64 mnm, .int .i64 mxm, .string txm] 32)); clear hb))
  go_ret
  exact ⟨rfl, hq2.out⟩
set_option maxRecDepth 100000 in
set_option maxHeartbeats 8000000 in
theorem empty_long {w : World} {t : T} (hT : T.In w w.heap.size t) {a : Option Addr} {m c : Nat} (hz : t.size < 60) (hm : ¬ m ≤ 12) (hm2 : m ≤ 9223372036854775807) (cA' : ∀ w', Bel w w' → Calls Tryd.prog 7 #[] w' fun e w'' => e = .returned (.bool true) ∧ Below w'.heap.size w' w'') :
    Calls Tryd.prog 6 #[.agg t.cells.toArray, .slice a m c] w fun e w' => e = .returned (.bool true) ∧ Below w.heap.size w w' := by
  have hq0 := Bel.new w (.cells t.cells.toArray 27)
  have hba := World.alloc_heap_new w (.cells t.cells.toArray 27)
  have cO : Hid (∀ w', Bel w w' → Calls Tryd.prog 20 #[.agg t.cells.toArray, .int .i64 60] w' fun e w'' => ∃ (m : T) (d : Int), 0 < d ∧ e = .returned (.tuple #[.agg m.cells.toArray, .int .i64 d]) ∧ Below w'.heap.size w' w'') := Lib.hid fun w' hb => (of_room hT (by decide : 60 ≤ 2000) (rfl : (60 : Int) = _) hz w' hb).mono fun e w'' h => by
    obtain ⟨m, d, h1, h2, h3, -⟩ := h
    exact ⟨m, d, h1, h2, h3⟩
  have cA := Lib.hid (cA' _ hq0)
  clear hT hz cA'
  cases t with
  | mk k s0 s1 s2 s3 p cap mn mx tx ks =>
  simp only [T.cells] at hq0 hba cO cA ⊢
  obtain ⟨n0, n1, n2, n3, n4, n5, n6, n7, n8⟩ := c9 hba
  replace hq0 := Lib.hid hq0
  replace hba := Lib.hid hba
  go_enter Tryd.func6, Tryd.ntmps6
  go_wp2_with (first | (go_at_call 7; (with_reducible refine cA.out.mono ?_); rintro e w1 ⟨rfl, hb⟩; have hba1 := kept_row hba.out hb; have hl1 := lt_box hba1; clear n0 n1 n2 n3 n4 n5 n6 n7 n8; obtain ⟨n0, n1, n2, n3, n4, n5, n6, n7, n8⟩ := c9 hba1; replace hba1 := Lib.hid hba1; have hq1 := Lib.hid (Bel.step hq0.out hb); clear hb) | (go_at_call 20; (with_reducible refine (cO.out _ hq1.out).mono ?_); rintro e w2 ⟨⟨km, m0, m1, m2, m3, pm, capm, mnm, mxm, txm, ksm⟩, d, hd, rfl, hb⟩; simp only; have hba2 := kept_row hba1.out hb; have hl2 := lt_box hba2; have gd : decide (d ≤ 0) = false := (by rw [decide_eq_false_iff_not]; omega); clear n0 n1 n2 n3 n4 n5 n6 n7 n8; obtain ⟨n0, n1, n2, n3, n4, n5, n6, n7, n8⟩ := c9 hba2; replace hba2 := Lib.hid hba2; have hq2 := Lib.hid (Bel.step hq1.out hb); clear hb hd))
  go_ret
  exact ⟨rfl, Bel.alloc hq2.out _⟩
end Go.Proofs.YtkpoegnekeiieaaDoor
