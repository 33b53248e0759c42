/- The program's walk: what it hands back; Count, Depth. -/

import Derived.Test.YtobbifhflnlplaaDoorS7W3
namespace Go.Proofs.YtobbifhflnlplaaDoor.S7
open Lib (hid)
open Go.RowKit
open Go.Tree7
attribute [local go_sem] Oper.semAt_some
theorem run_store_func {P : Program} {w : World} {a : Addr} {m : Mode} (f : Fn) (r l : Array Value) : (store a (.func f r l) m).run P w = stored P w a (.func f r l) m := run_store P w a _ m rfl
attribute [local go_sem] run_store_func
def allT (t : T) : List (Nat × T) := (preT 24 1 t).take 601
set_option maxRecDepth 100000 in
set_option maxHeartbeats 1000000 in
theorem walk_seq (n : Nat) {t : T} {n₀ Bn : Nat} {w0 w : World} (hT : T.In w0 n₀ t) (hB0 : Below n₀ w0 w) (hn0 : n₀ ≤ w0.heap.size) (hbox : w.heap[Bn]? = some (.cells t.cells.toArray 27 (0, 0))) :
  SeqV n Tryd.prog 77 #[.pointer (some ⟨Bn, 0, none⟩)] (fun x : Nat × T => T.In w0 n₀ x.2) encK (Kp n₀) (fun ys => ys = allT t) (fun q => q <+: preT 24 1 t ∧ q.length ≤ 601) 601 w := by
 intro l J Jx W hW hJ _ hY h0
 have hbn : Bn < w.heap.size := (Array.getElem?_eq_some_iff.1 hbox).1
 have hbx : W.heap[Bn]? = some (.cells t.cells.toArray 27 (0, 0)) := (hW.block _ hbn).trans hbox
 have hs : n₀ ≤ W.heap.size := by have := hB0.size; have := hW.size; omega
 have hB : Below n₀ w0 W := hB0.trans (hW.mono (by have := hB0.size; omega))
 have hJ' : Bears W.heap.size J := hJ
 have hv : Vis (W.alloc (.cells #[.int .i64 601, .func (.yield l) #[] #[]] 121)) W.heap.size l (601 - (([] : List (Nat × T)).length : Int)) := World.alloc_heap_new W _
 have hc := visit_in (Jx := Jx) hJ' hY hn0 hs 24 t 1 (n - 1) [] _ rfl hT (hB.alloc hs _) hv (by simp) (hJ'.alloc _ h0)
 rw [List.nil_append, show ((1 : Nat) : Int) = 1 from rfl] at hc
 replace hc := hid (hc.mono (R' := fun e W' => ∃ b : Bool, e = .returned (.bool b) ∧ ((∃ xs, xs = allT t ∧ J xs W') ∨ ∃ q, (q <+: preT 24 1 t ∧ q.length ≤ 601) ∧ Jx q W')) (fun e W' h => by
  rcases h with ⟨rfl, h1, h2, -, -⟩ | ⟨rfl, (⟨h1, h2⟩ | ⟨q, h1, h2, h3⟩)⟩
  ·exact ⟨true, rfl, .inl ⟨_, rfl, by unfold allT; rwa [List.take_of_length_le h1]⟩⟩
  ·exact ⟨false, rfl, .inl ⟨_, rfl, h2⟩⟩
  ·exact ⟨false, rfl, .inr ⟨q, ⟨h1, h2⟩, h3⟩⟩))
 clear hT hB hW hB0 hbox hv hJ hY h0 hs hJ'
 cases t with
 | mk k u0 u1 u2 u3 p cap mn mx tx ks =>
  simp only [T.cells] at *
  have hl := (Array.getElem?_eq_some_iff.1 hbx).1
  have hc0 : ∀ q v, #[.int .i64 k, .int .u64 u0, .int .u64 u1, .int .u64 u2, .int .u64 u3, .slice p ks.length cap, .int .i64 mn, .int .i64 mx, .string tx][q]? = some v → W.cell? ⟨Bn, q, none⟩ = some v := fun q v h => by
   rw [cell_of_row _ _ _ _ _ (0, 0) hbx]; exact h
  have c0 := hc0 0 _ rfl
  have c1 := hc0 1 _ rfl
  have c2 := hc0 2 _ rfl
  have c3 := hc0 3 _ rfl
  have c4 := hc0 4 _ rfl
  have c5 := hc0 5 _ rfl
  have c6 := hc0 6 _ rfl
  have c7 := hc0 7 _ rfl
  have c8 := hc0 8 _ rfl
  clear hc0 hbx hbn
  refine callsIn_of_wp Tryd.func77 rfl trivial ?_ rfl
  simp only [Tryd.ntmps77, List.size_toArray, List.length_cons, List.length_nil, Nat.reduceAdd, Nat.reduceSub, Array.replicate_succ, Array.replicate_zero, List.push_toArray, List.append_toArray, List.nil_append, List.cons_append]
  gi_wp2_with (refine ⟨trivial, fun h => (by cases h), ?_⟩; (with_reducible refine hc.out.mono ?_); rintro e W' ⟨b, rfl, h⟩)
  go_end0
  exact ⟨⟨_, rfl⟩, h⟩
set_option maxHeartbeats 1000000 in
theorem walk2_in (n : Nat) (t : T) (w : World) :
  CallsIn Fence.wide n Tryd.prog 54 #[.agg t.cells.toArray] w fun e w' => e = .returned (.func (.func 77) #[] #[.pointer (some ⟨w.heap.size, 0, none⟩)]) ∧ w' = w.alloc (.cells t.cells.toArray 27) := by
 cases t with
 | mk k u0 u1 u2 u3 p cap mn mx tx ks =>
  simp only [T.cells]
  refine callsIn_of_wp Tryd.func54 rfl trivial ?_ rfl
  simp only [Tryd.ntmps54, List.size_toArray, List.length_cons, List.length_nil, Nat.reduceAdd, Nat.reduceSub, Array.replicate_succ, Array.replicate_zero, List.push_toArray, List.append_toArray, List.nil_append, List.cons_append]
  gi_wp2
  go_ret
  exact ⟨rfl, rfl⟩
theorem kp_set {n₀ : Nat} {W : World} {b : Nat} {v u : Value} {t : TypeId} (h : Boxed W b t v) (hb : n₀ ≤ b) (ht : t ≠ 27 ∧ t ≠ 121) : Kp n₀ W (W.setCell ⟨b, 0, none⟩ u) :=
 (Kp.refl n₀ W).grown (grownBy_setCell' W b u) (by have := h.lt; omega) (fun r e => by
  cases e
  refine ⟨hb, fun cs t' fr h' => ?_⟩
  rw [show W.heap[b]? = _ from h] at h'
  cases h'
  exact ht)
theorem boxed_set {W : World} {b : Nat} {v : Value} {t : TypeId} (h : Boxed W b t v) (u : Value) : Boxed (W.setCell ⟨b, 0, none⟩ u) b t u := by
 unfold Boxed at *
 exact Go.one_setCell h
set_option maxRecDepth 100000 in
set_option maxHeartbeats 2000000 in
theorem count_in {t : T} {w : World} (hT : T.In w w.heap.size t) :
  Calls Tryd.prog 34 #[.agg t.cells.toArray] w fun e w' => e = .returned (.int .i64 (allT t).length) ∧ Below w.heap.size w w' := by
 refine (callsIn_wide (n := 6)).1 ?_
 have hlen : (allT t).length ≤ 601 := by unfold allT; simp; omega
 cases t with
 | mk k u0 u1 u2 u3 p cap mn mx tx ks =>
  have hw := walk2_in 5 (T.mk k u0 u1 u2 u3 p cap mn mx tx ks) ((w.alloc (.cells #[.int .i64 k, .int .u64 u0, .int .u64 u1, .int .u64 u2, .int .u64 u3, .slice p ks.length cap, .int .i64 mn, .int .i64 mx, .string tx] 27)).alloc (.cells #[.int .i64 0] 3))
  have hB0 : Below w.heap.size w (((w.alloc (.cells #[.int .i64 k, .int .u64 u0, .int .u64 u1, .int .u64 u2, .int .u64 u3, .slice p ks.length cap, .int .i64 mn, .int .i64 mx, .string tx] 27)).alloc (.cells #[.int .i64 0] 3)).alloc (.cells #[.int .i64 k, .int .u64 u0, .int .u64 u1, .int .u64 u2, .int .u64 u3, .slice p ks.length cap, .int .i64 mn, .int .i64 mx, .string tx] 27)) := (((Below.refl _ w).alloc (Nat.le_refl _) _).alloc (by simp) _).alloc (by simp; omega) _
  have bC := (Boxed.new (w.alloc (.cells #[.int .i64 k, .int .u64 u0, .int .u64 u1, .int .u64 u2, .int .u64 u3, .slice p ks.length cap, .int .i64 mn, .int .i64 mx, .string tx] 27)) 3 (.int .i64 0)).alloc (.cells #[.int .i64 k, .int .u64 u0, .int .u64 u1, .int .u64 u2, .int .u64 u3, .slice p ks.length cap, .int .i64 mn, .int .i64 mx, .string tx] 27)
  rw [World.size_alloc] at bC
  have hst := walk_seq 5 hT hB0 (Nat.le_refl _) (World.alloc_heap_new _ _)
  simp only [World.size_alloc] at hst
  simp only [T.cells, World.size_alloc] at hw ⊢
  generalize allT (T.mk k u0 u1 u2 u3 p cap mn mx tx ks) = ys at *
  have hT' := hid hT
  replace hw := hid hw
  clear hT
  refine callsIn_of_wp_marks Tryd.func34 rfl trivial ?_ rfl
  simp only [Tryd.ntmps34, List.size_toArray, List.length_cons, List.length_nil, Nat.reduceAdd, Nat.reduceSub, Array.replicate_succ, Array.replicate_zero, List.push_toArray, List.append_toArray, List.nil_append, List.cons_append]
  gi_wp2_with (refine ⟨trivial, ?_⟩; gi_at_call 54; refine hw.out.mono ?_; rintro e w' ⟨rfl, rfl⟩)
  refine rangeV (by omega) rfl (enters_of Tryd.func77 (by kernel_rfl) rfl) hst Kp.trans (kp_b (by simp; omega)) (Below.refl _ _) (fun _ => rfl)
   (fun pre W => W.heap[w.heap.size + 1]? = some (.cells #[.int .i64 pre.length] 3 (0, 0)) ∧ Below w.heap.size w W) (fun _ _ _ => False)
   ((Stays.block (by simp) (fun pre : List (Nat × T) => .cells #[.int .i64 pre.length] 3 (0, 0))).and (Stays.below (by simp; omega) (Nat.le_refl _))) (fun _ _ _ _ _ h _ _ => h) ⟨bC, hB0⟩
   (fun x a' _ => a' = { tmps := #[.agg #[.int .i64 k, .int .u64 u0, .int .u64 u1, .int .u64 u2, .int .u64 u3, .slice p ks.length cap, .int .i64 mn, .int .i64 mx, .string tx], .pointer (some ⟨w.heap.size, 0, none⟩), .int .i64 0, .pointer (some ⟨w.heap.size + 1, 0, none⟩), .agg #[.int .i64 k, .int .u64 u0, .int .u64 u1, .int .u64 u2, .int .u64 u3, .slice p ks.length cap, .int .i64 mn, .int .i64 mx, .string tx], .func (.func 77) #[] #[.pointer (some ⟨w.heap.size + 1 + 1, 0, none⟩)], .int .i64 x.1, .agg x.2.cells.toArray, undef, undef, undef], defers := [] }) (fun _ _ _ _ h => h) ?assign ?body ?done ?stop
  case assign =>
   intro l pre x W K _ _ hi hK
   have e : (#[6, 7] : Array Tmp).size = 2 := rfl
   simp only [encK]
   gi_wp2
   exact hK _ _ (KeepsFrom.refl _ _) (Kp.refl _ _) hi (by simp)
  case body =>
   rintro l pre x a' W _ _ ⟨hb, hB⟩ rfl hlt
   have hb' : Boxed W (w.heap.size + 1) 3 (.int .i64 pre.length) := hb
   have hc := hb'.cell
   have hf := hb'.frozen
   gi_wp2
   exact ⟨(KeepsOthers.setCell _ _ _).from _, kp_set hb' (by omega) (by decide), (by have := boxed_set hb' (.int .i64 ((pre.length : Int) + 1)); unfold Boxed at this; rw [this]; simp), hB.setCell (p := ⟨w.heap.size + 1, 0, none⟩) (by simp) _⟩
  case done =>
   rintro D zs W hD rfl ⟨hb, hB⟩ hK
   have hb' : Boxed W (w.heap.size + 1) 3 (.int .i64 zs.length) := hb
   have hc := hb'.cell
   gi_wp2
   refine ⟨by simp, .inl ⟨_, _, rfl, run_takeDeferred hK, ?_⟩⟩
   exact ⟨_, results_tmp rfl _ _ _, rfl, hB.trans (belowK_b (w := w) (Nat.le_refl _) W D _ _ (by simp at hD; omega) hK rfl rfl)⟩
  case stop =>
   rintro D c pre W _ _ h _
   exact h.elim
def deepOf (l : List (Nat × T)) : Nat := (l.map Prod.fst).foldl max 0
theorem deepOf_snoc (l : List (Nat × T)) (x : Nat × T) : deepOf (l ++ [x]) = max (deepOf l) x.1 := by simp [deepOf]
set_option maxRecDepth 100000 in
set_option maxHeartbeats 2000000 in
theorem depth_in {t : T} {w : World} (hT : T.In w w.heap.size t) :
  Calls Tryd.prog 33 #[.agg t.cells.toArray] w fun e w' => e = .returned (.int .i64 (deepOf (allT t))) ∧ Below w.heap.size w w' := by
 refine (callsIn_wide (n := 6)).1 ?_
 cases t with
 | mk k u0 u1 u2 u3 p cap mn mx tx ks =>
  have hw := walk2_in 5 (T.mk k u0 u1 u2 u3 p cap mn mx tx ks) ((w.alloc (.cells #[.int .i64 k, .int .u64 u0, .int .u64 u1, .int .u64 u2, .int .u64 u3, .slice p ks.length cap, .int .i64 mn, .int .i64 mx, .string tx] 27)).alloc (.cells #[.int .i64 0] 3))
  have hB0 : Below w.heap.size w (((w.alloc (.cells #[.int .i64 k, .int .u64 u0, .int .u64 u1, .int .u64 u2, .int .u64 u3, .slice p ks.length cap, .int .i64 mn, .int .i64 mx, .string tx] 27)).alloc (.cells #[.int .i64 0] 3)).alloc (.cells #[.int .i64 k, .int .u64 u0, .int .u64 u1, .int .u64 u2, .int .u64 u3, .slice p ks.length cap, .int .i64 mn, .int .i64 mx, .string tx] 27)) := (((Below.refl _ w).alloc (Nat.le_refl _) _).alloc (by simp) _).alloc (by simp; omega) _
  have bC := (Boxed.new (w.alloc (.cells #[.int .i64 k, .int .u64 u0, .int .u64 u1, .int .u64 u2, .int .u64 u3, .slice p ks.length cap, .int .i64 mn, .int .i64 mx, .string tx] 27)) 3 (.int .i64 0)).alloc (.cells #[.int .i64 k, .int .u64 u0, .int .u64 u1, .int .u64 u2, .int .u64 u3, .slice p ks.length cap, .int .i64 mn, .int .i64 mx, .string tx] 27)
  rw [World.size_alloc] at bC
  have hst := walk_seq 5 hT hB0 (Nat.le_refl _) (World.alloc_heap_new _ _)
  simp only [World.size_alloc] at hst
  simp only [T.cells, World.size_alloc] at hw ⊢
  generalize allT (T.mk k u0 u1 u2 u3 p cap mn mx tx ks) = ys at *
  have hT' := hid hT
  replace hw := hid hw
  clear hT
  refine callsIn_of_wp_marks Tryd.func33 rfl trivial ?_ rfl
  simp only [Tryd.ntmps33, List.size_toArray, List.length_cons, List.length_nil, Nat.reduceAdd, Nat.reduceSub, Array.replicate_succ, Array.replicate_zero, List.push_toArray, List.append_toArray, List.nil_append, List.cons_append]
  gi_wp2_with (refine ⟨trivial, ?_⟩; gi_at_call 54; refine hw.out.mono ?_; rintro e w' ⟨rfl, rfl⟩)
  refine rangeV (by omega) rfl (enters_of Tryd.func77 (by kernel_rfl) rfl) hst Kp.trans (kp_b (by simp; omega)) (Below.refl _ _) (fun _ => rfl)
   (fun pre W => W.heap[w.heap.size + 1]? = some (.cells #[.int .i64 (deepOf pre)] 3 (0, 0)) ∧ Below w.heap.size w W) (fun _ _ _ => False)
   ((Stays.block (by simp) (fun pre : List (Nat × T) => .cells #[.int .i64 (deepOf pre)] 3 (0, 0))).and (Stays.below (by simp; omega) (Nat.le_refl _))) (fun _ _ _ _ _ h _ _ => h) ⟨bC, hB0⟩
   (fun x a' _ => a' = { tmps := #[.agg #[.int .i64 k, .int .u64 u0, .int .u64 u1, .int .u64 u2, .int .u64 u3, .slice p ks.length cap, .int .i64 mn, .int .i64 mx, .string tx], .pointer (some ⟨w.heap.size, 0, none⟩), .int .i64 0, .pointer (some ⟨w.heap.size + 1, 0, none⟩), .int .i64 x.1, .agg #[.int .i64 k, .int .u64 u0, .int .u64 u1, .int .u64 u2, .int .u64 u3, .slice p ks.length cap, .int .i64 mn, .int .i64 mx, .string tx], .func (.func 77) #[] #[.pointer (some ⟨w.heap.size + 1 + 1, 0, none⟩)], .int .i64 x.1, .agg x.2.cells.toArray, undef, undef, undef, undef], defers := [] }) (fun _ _ _ _ h => h) ?assign ?body ?done ?stop
  case assign =>
   intro l pre x W K _ _ hi hK
   have e : (#[7, 8] : Array Tmp).size = 2 := rfl
   simp only [encK]
   gi_wp2
   exact hK _ _ (KeepsFrom.refl _ _) (Kp.refl _ _) hi (by simp)
  case body =>
   rintro l pre x a' W _ _ ⟨hb, hB⟩ rfl hlt
   have hb' : Boxed W (w.heap.size + 1) 3 (.int .i64 (deepOf pre)) := hb
   have hc := hb'.cell
   have hf := hb'.frozen
   gi_wp2
   all_goals
    refine ⟨(KeepsOthers.setCell _ _ _).from _, kp_set hb' (by omega) (by decide), ?_, hB.setCell (p := ⟨w.heap.size + 1, 0, none⟩) (by simp) _⟩
    rw [boxed_set hb', deepOf_snoc]
    first
     | rw [show max (deepOf pre) x.1 = x.1 by omega]
     | rw [show max (deepOf pre) x.1 = deepOf pre by omega]
  case done =>
   rintro D zs W hD rfl ⟨hb, hB⟩ hK
   have hb' : Boxed W (w.heap.size + 1) 3 (.int .i64 (deepOf zs)) := hb
   have hc := hb'.cell
   gi_wp2
   refine ⟨by simp, .inl ⟨_, _, rfl, run_takeDeferred hK, ?_⟩⟩
   exact ⟨_, results_tmp rfl _ _ _, rfl, hB.trans (belowK_b (w := w) (Nat.le_refl _) W D _ _ (by simp at hD; omega) hK rfl rfl)⟩
  case stop =>
   rintro D c pre W _ _ h _
   exact h.elim

end Go.Proofs.YtobbifhflnlplaaDoor.S7
