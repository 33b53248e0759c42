/- The program's Right. -/

import Derived.Test.YtobbifhflnlplaaDoorS7W4
import Derived.Test.YtobbifhflnlplaaDoorS7B
namespace Go.Proofs.YtobbifhflnlplaaDoor.S7
open Lib (hid)
open Go.RowKit
open Go.Tree7
attribute [local go_sem] Oper.semAt_some
def T.f : T → Nat → Bool
 | .mk _ u0 u1 u2 u3 _ _ _ _ _ _ => S1.mem4 u0.toNat u1.toNat u2.toNat u3.toNat
noncomputable def T.ok (t : T) : Bool := match t with
 | .mk k _ _ _ _ _ _ mn mx tx ks => okB (T.f t) k ks.length mn mx tx
theorem wd_f {u0 u1 u2 u3 : Int} (h : (Lit.int .u64 u0).wf = true ∧ (Lit.int .u64 u1).wf = true ∧ (Lit.int .u64 u2).wf = true ∧ (Lit.int .u64 u3).wf = true) :
  ((S1.wd (S1.mem4 u0.toNat u1.toNat u2.toNat u3.toNat) 0 : Nat) : Int) = u0 ∧ ((S1.wd (S1.mem4 u0.toNat u1.toNat u2.toNat u3.toNat) 1 : Nat) : Int) = u1 ∧ ((S1.wd (S1.mem4 u0.toNat u1.toNat u2.toNat u3.toNat) 2 : Nat) : Int) = u2 ∧ ((S1.wd (S1.mem4 u0.toNat u1.toNat u2.toNat u3.toNat) 3 : Nat) : Int) = u3 := by
 obtain ⟨h0, h1, h2, h3⟩ := h
 have b0 := bounds_u64 h0
 have b1 := bounds_u64 h1
 have b2 := bounds_u64 h2
 have b3 := bounds_u64 h3
 obtain ⟨n0, rfl⟩ := Int.eq_ofNat_of_zero_le b0.1
 obtain ⟨n1, rfl⟩ := Int.eq_ofNat_of_zero_le b1.1
 obtain ⟨n2, rfl⟩ := Int.eq_ofNat_of_zero_le b2.1
 obtain ⟨n3, rfl⟩ := Int.eq_ofNat_of_zero_le b3.1
 simp only [Int.toNat_natCast]
 obtain ⟨q0, q1, q2, q3⟩ := S1.wd_mem4 (a := n0) (b := n1) (c := n2) (d := n3) (by omega) (by omega) (by omega) (by omega)
 rw [q0, q1, q2, q3]
 exact ⟨rfl, rfl, rfl, rfl⟩
theorem sound_T {w0 : World} {B : Nat} {t : T} (h : T.In w0 B t) (w : World) : Calls Tryd.prog 79 #[.agg t.cells.toArray] w fun e w' => e = .returned (.bool (T.ok t)) ∧ Below w.heap.size w w' := by
 cases h with
 | @mk k u0 u1 u2 u3 p cap mn mx tx ks hb hm hf _ _ =>
  have := sound_in (S1.mem4 u0.toNat u1.toNat u2.toNat u3.toNat) k p ks.length cap mn mx tx (by unfold maxLen at hm; omega) (by have := hf.2.2.2.2; unfold maxLen at this; omega) w
  unfold NCells at this
  obtain ⟨e0, e1, e2, e3⟩ := wd_f hf.2.1
  rw [e0, e1, e2, e3] at this
  exact this
def RightP (t : T) : Prop := (∀ x ∈ allT t, x.1 ≤ 24 ∧ T.ok x.2 = true) ∧ (allT t).length ≤ 600
open Classical in
noncomputable def rightB (t : T) : Bool := decide (RightP t)
theorem rightB_iff (t : T) : rightB t = true ↔ RightP t := by unfold rightB; simp
def OkAt (i : Nat) (x : Nat × T) : Prop := x.1 ≤ 24 ∧ i + 1 ≤ 600 ∧ T.ok x.2 = true
theorem right_yes {t : T} (h : ∀ (i : Nat) (x : Nat × T), (allT t)[i]? = some x → OkAt i x) : rightB t = true := (rightB_iff t).2 ⟨fun x hx => by
  obtain ⟨i, hi⟩ := List.mem_iff_getElem?.1 hx
  have := h i x hi
  exact ⟨this.1, this.2.2⟩, by
  rcases Nat.lt_or_ge 600 (allT t).length with h1 | h1
  ·have := (h 600 _ (List.getElem?_eq_getElem h1)).2.1
   omega
  ·exact h1⟩
theorem right_no {t : T} {q : List (Nat × T)} {i : Nat} {x : Nat × T} (hq : q <+: preT 24 1 t) (hl : q.length ≤ 601) (hx : q[i]? = some x) (hn : ¬ OkAt i x) : rightB t = false := by
 have hi : i < q.length := (List.getElem?_eq_some_iff.1 hx).1
 have ha : (allT t)[i]? = some x := by
  obtain ⟨r, hr⟩ := hq
  unfold allT
  rw [List.getElem?_take_of_lt (by omega), ← hr, List.getElem?_append_left hi]
  exact hx
 cases h : rightB t with
 | false => rfl
 | true =>
  exfalso
  obtain ⟨h1, h2⟩ := (rightB_iff t).1 h
  have hlen := (List.getElem?_eq_some_iff.1 ha).1
  exact hn ⟨(h1 x (List.mem_of_getElem? ha)).1, by omega, (h1 x (List.mem_of_getElem? ha)).2⟩
theorem Kp.of_below {n₀ : Nat} {W W' : World} (h : Below W.heap.size W W') (hn : n₀ ≤ W.heap.size) : Kp n₀ W W' := ⟨h.mono hn, fun b _ _ _ hb _ => h.block b (Array.getElem?_eq_some_iff.1 hb).1⟩
theorem keeps_of_below {B : Nat} {W W' : World} (h : Below W.heap.size W W') : KeepsFrom B W W' := ⟨h.size, fun k _ _ hk _ => (h.block k (Array.getElem?_eq_some_iff.1 hk).1).trans hk⟩
theorem kept_row {W W' : World} {b : Nat} {o : Obj} (h : W.heap[b]? = some o) (hb : Below W.heap.size W W') : W'.heap[b]? = some o := (hb.block b (Array.getElem?_eq_some_iff.1 h).1).trans h
theorem boxed_other {W : World} {b b' : Nat} {o : Obj} {u : Value} (h : W.heap[b]? = some o) (hne : b ≠ b') : (W.setCell ⟨b', 0, none⟩ u).heap[b]? = some o := (Below.heap_setCell _ _ _ _ hne).trans h
theorem results_right {tmps : Array Value} {w : World} {b : Nat} {r : Bool} (hp : tmps.getD 2 undef = .pointer (some ⟨b, 0, none⟩)) (hc : w.cell? ⟨b, 0, none⟩ = some (.bool r)) : (results Tryd.f55 tmps).run Tryd.prog w = .ok (.bool r) w := by
 have h : Tryd.f55.results = #[.cell 2 4] := rfl
 have hp' : tmps[2]?.getD undef = .pointer (some ⟨b, 0, none⟩) := by simpa using hp
 simp [results, loadVar, go_sem, hp', hc, Result.andThen]
set_option maxRecDepth 100000 in
set_option maxHeartbeats 4000000 in
theorem right_in {t : T} {w : World} (hT : T.In w w.heap.size t) :
  Calls Tryd.prog 55 #[.agg t.cells.toArray] w fun e w' => e = .returned (.bool (rightB t)) ∧ Below w.heap.size w w' := by
 refine (callsIn_wide (n := 6)).1 ?_
 have hyes := hid (fun h => @right_yes t h)
 have hno := hid (fun (q : List (Nat × T)) (i : Nat) (x : Nat × T) (h1 : q <+: preT 24 1 t) (h2 : q.length ≤ 601) (h3 : q[i]? = some x) (h4 : ¬ OkAt i x) => right_no h1 h2 h3 h4)
 cases t with
 | mk k u0 u1 u2 u3 p cap mn mx tx ks =>
  obtain ⟨X, hX⟩ : ∃ X, ((w.alloc (.cells #[.int .i64 k, .int .u64 u0, .int .u64 u1, .int .u64 u2, .int .u64 u3, .slice p ks.length cap, .int .i64 mn, .int .i64 mx, .string tx] 27)).alloc (.cells #[.bool false] 4)).alloc (.cells #[.int .i64 0] 3) = X := ⟨_, rfl⟩
  have hXs : X.heap.size = w.heap.size + 3 := by rw [← hX]; simp
  have hX0 : Below w.heap.size w X := by rw [← hX]; exact (((Below.refl _ w).alloc (Nat.le_refl _) _).alloc (by simp) _).alloc (by simp; omega) _
  have hXr : X.heap[w.heap.size + 1]? = some (.cells #[.bool false] 4 (0, 0)) := by
   have := World.alloc_heap_new (w.alloc (.cells #[.int .i64 k, .int .u64 u0, .int .u64 u1, .int .u64 u2, .int .u64 u3, .slice p ks.length cap, .int .i64 mn, .int .i64 mx, .string tx] 27)) (.cells #[.bool false] 4)
   rw [World.size_alloc] at this
   rw [← hX]; exact (Below.heap_alloc _ _ _ (by simp)).trans this
  have hXc : X.heap[w.heap.size + 2]? = some (.cells #[.int .i64 0] 3 (0, 0)) := by
   have := World.alloc_heap_new ((w.alloc (.cells #[.int .i64 k, .int .u64 u0, .int .u64 u1, .int .u64 u2, .int .u64 u3, .slice p ks.length cap, .int .i64 mn, .int .i64 mx, .string tx] 27)).alloc (.cells #[.bool false] 4)) (.cells #[.int .i64 0] 3)
   rw [World.size_alloc, World.size_alloc] at this
   rw [← hX]; exact this
  have hw := walk2_in 5 (T.mk k u0 u1 u2 u3 p cap mn mx tx ks) X
  have hB0 : Below w.heap.size w (X.alloc (.cells #[.int .i64 k, .int .u64 u0, .int .u64 u1, .int .u64 u2, .int .u64 u3, .slice p ks.length cap, .int .i64 mn, .int .i64 mx, .string tx] 27)) := hX0.alloc (by omega) _
  have bR : (X.alloc (.cells #[.int .i64 k, .int .u64 u0, .int .u64 u1, .int .u64 u2, .int .u64 u3, .slice p ks.length cap, .int .i64 mn, .int .i64 mx, .string tx] 27)).heap[w.heap.size + 1]? = some (.cells #[.bool false] 4 (0, 0)) := (Below.heap_alloc _ _ _ (by omega)).trans hXr
  have bC : (X.alloc (.cells #[.int .i64 k, .int .u64 u0, .int .u64 u1, .int .u64 u2, .int .u64 u3, .slice p ks.length cap, .int .i64 mn, .int .i64 mx, .string tx] 27)).heap[w.heap.size + 2]? = some (.cells #[.int .i64 0] 3 (0, 0)) := (Below.heap_alloc _ _ _ (by omega)).trans hXc
  have hst := walk_seq 5 hT hB0 (Nat.le_refl _) (World.alloc_heap_new _ _)
  rw [hXs] at hst
  simp only [T.cells] at hw ⊢
  generalize rightB (T.mk k u0 u1 u2 u3 p cap mn mx tx ks) = R at *
  generalize preT 24 1 (T.mk k u0 u1 u2 u3 p cap mn mx tx ks) = pp at *
  generalize allT (T.mk k u0 u1 u2 u3 p cap mn mx tx ks) = ys at *
  have hT' := hid hT
  replace hw := hid hw
  replace hX0 := hid hX0
  replace hB0 := hid hB0
  replace hXr := hid hXr
  replace hXc := hid hXc
  clear hT
  have hw2 : Hid (∀ Y, Y = ((w.alloc (.cells #[.int .i64 k, .int .u64 u0, .int .u64 u1, .int .u64 u2, .int .u64 u3, .slice p ks.length cap, .int .i64 mn, .int .i64 mx, .string tx] 27)).alloc (.cells #[.bool false] 4)).alloc (.cells #[.int .i64 0] 3) → CallsIn Fence.wide 5 Tryd.prog 54 #[.agg #[.int .i64 k, .int .u64 u0, .int .u64 u1, .int .u64 u2, .int .u64 u3, .slice p ks.length cap, .int .i64 mn, .int .i64 mx, .string tx]] Y fun e w' => e = .returned (.func (.func 77) #[] #[.pointer (some ⟨X.heap.size, 0, none⟩)]) ∧ w' = X.alloc (.cells #[.int .i64 k, .int .u64 u0, .int .u64 u1, .int .u64 u2, .int .u64 u3, .slice p ks.length cap, .int .i64 mn, .int .i64 mx, .string tx] 27)) := hid fun Y hY => by rw [hY, hX]; exact hw.out
  replace hX := hid hX
  refine callsIn_of_wp_marks Tryd.func55 rfl trivial ?_ rfl
  simp only [Tryd.ntmps55, List.size_toArray, List.length_cons, List.length_nil, Nat.reduceAdd, Nat.reduceSub, Array.replicate_succ, Array.replicate_zero, List.push_toArray, List.append_toArray, List.nil_append, List.cons_append]
  gi_wp2_with (refine ⟨trivial, ?_⟩; gi_at_call 54; refine (hw2.out _ rfl).mono ?_; rintro e w' ⟨rfl, rfl⟩)
  have hDB : ∀ W : World, w.heap.size ≤ W.heap.size → True := fun _ _ => trivial
  have hyes' : Hid (∀ zs : List (Nat × T), zs = ys → (∀ (i : Nat) (x : Nat × T), zs[i]? = some x → OkAt i x) → R = true) := hid fun zs e h => by subst e; exact hyes.out h
  clear hyes hw hw2
  refine rangeV (by omega) rfl (enters_of Tryd.func77 (by kernel_rfl) rfl) hst Kp.trans (kp_b (by simp; omega)) (Below.refl _ _) (fun _ => rfl)
   (fun pre W => (W.heap[w.heap.size + 1]? = some (.cells #[.bool false] 4 (0, 0)) ∧ W.heap[w.heap.size + 2]? = some (.cells #[.int .i64 pre.length] 3 (0, 0))) ∧ Below w.heap.size w W ∧ ∀ (i : Nat) (x : Nat × T), pre[i]? = some x → OkAt i x)
   (fun c q W => (W.heap[w.heap.size + 1]? = some (.cells #[.bool false] 4 (0, 0)) ∧ c = Code.ret) ∧ Below w.heap.size w W ∧ ∃ (i : Nat) (x : Nat × T), q[i]? = some x ∧ ¬ OkAt i x)
   (((Stays.block (by simp; omega) (fun _ => .cells #[.bool false] 4 (0, 0))).and (Stays.block (by simp; omega) (fun pre : List (Nat × T) => .cells #[.int .i64 pre.length] 3 (0, 0)))).and ((Stays.below (by simp; omega) (Nat.le_refl _)).and (Stays.pure _ _)))
   (fun c => ((Stays.block (by simp; omega) (fun _ => .cells #[.bool false] 4 (0, 0))).and (Stays.pure _ _)).and ((Stays.below (by simp; omega) (Nat.le_refl _)).and (Stays.pure _ _)))
   ⟨⟨bR, bC⟩, hB0.out, fun i x h => by simp at h⟩
   (fun x a' W => ∃ Bx, w.heap.size + 6 ≤ Bx ∧ W.heap[Bx]? = some (.cells x.2.cells.toArray 27 (0, 0)) ∧ a' = { tmps := #[.agg #[.int .i64 k, .int .u64 u0, .int .u64 u1, .int .u64 u2, .int .u64 u3, .slice p ks.length cap, .int .i64 mn, .int .i64 mx, .string tx], .pointer (some ⟨w.heap.size, 0, none⟩), .pointer (some ⟨w.heap.size + 1, 0, none⟩), .pointer (some ⟨w.heap.size + 1 + 1, 0, none⟩), .int .i64 x.1, .pointer (some ⟨Bx, 0, none⟩), .agg #[.int .i64 k, .int .u64 u0, .int .u64 u1, .int .u64 u2, .int .u64 u3, .slice p ks.length cap, .int .i64 mn, .int .i64 mx, .string tx], .func (.func 77) #[] #[.pointer (some ⟨w.heap.size + 3, 0, none⟩)], .int .i64 x.1, .agg x.2.cells.toArray, undef, undef, undef, undef, undef, undef, undef, undef, undef, undef, undef, undef, undef], defers := [] })
   (fun x a' W o ⟨Bx, h1, h2, h3⟩ => ⟨Bx, h1, (World.putObj_heap_other (by simp; omega)).trans h2, h3⟩) ?assign ?body ?done ?stop
  case assign =>
   rintro l pre ⟨lv, t⟩ W K hok hsz hi hK
   have hsW : w.heap.size + 6 ≤ W.heap.size := by simp at hsz; omega
   simp only [encK]
   cases t with
   | mk k' u0' u1' u2' u3' p' cap' mn' mx' tx' ks' =>
    simp only [T.cells]
    simp only [T.cells] at hK
    gi_wp2
    refine hK _ _ ((KeepsOthers.alloc _ _).from _) ((Kp.refl _ _).alloc (by omega) _) ?_ ⟨W.heap.size, hsW, World.alloc_heap_new W _, by simp⟩
    exact ⟨⟨(Below.heap_alloc _ _ _ (by omega)).trans hi.1.1, (Below.heap_alloc _ _ _ (by omega)).trans hi.1.2⟩, hi.2.1.alloc (by omega) _, hi.2.2⟩
  case body =>
   rintro l pre ⟨lv, t⟩ a' W hok hsz ⟨⟨hr, hc⟩, hB, hpre⟩ ⟨Bx, hBx, hbx, rfl⟩ hlt
   have bc : Boxed W (w.heap.size + 2) 3 (.int .i64 pre.length) := hc
   have br : Boxed W (w.heap.size + 1) 4 (.bool false) := hr
   have cc := bc.cell
   have cf := bc.frozen
   have rc := br.cell
   have rf := br.frozen
   have hs2 : w.heap.size + 6 ≤ W.heap.size := by have := (Array.getElem?_eq_some_iff.1 hbx).1; omega
   -- the world behind the count
   obtain ⟨W2, hW2⟩ : ∃ W2, W.setCell ⟨w.heap.size + 2, 0, none⟩ (.int .i64 ((pre.length : Int) + 1)) = W2 := ⟨_, rfl⟩
   have s2 : W2.heap.size = W.heap.size := by rw [← hW2]; simp [World.setCell]
   have kf2 : KeepsFrom (w.heap.size + 4) W W2 := by rw [← hW2]; exact (KeepsOthers.setCell _ _ _).from _
   have kp2 : Kp w.heap.size W W2 := by rw [← hW2]; exact kp_set bc (by omega) (by decide)
   have c2 : W2.heap[w.heap.size + 2]? = some (.cells #[.int .i64 ((pre.length : Int) + 1)] 3 (0, 0)) := by rw [← hW2]; exact boxed_set bc _
   have r2 : W2.heap[w.heap.size + 1]? = some (.cells #[.bool false] 4 (0, 0)) := by rw [← hW2]; exact boxed_other hr (by omega)
   have b2 : Below w.heap.size w W2 := by rw [← hW2]; exact hB.setCell (p := ⟨w.heap.size + 2, 0, none⟩) (by simp) _
   have x2 : W2.heap[Bx]? = some (.cells t.cells.toArray 27 (0, 0)) := by rw [← hW2]; exact boxed_other hbx (by omega)
   have br2 : Boxed W2 (w.heap.size + 1) 4 (.bool false) := r2
   have last : ∀ (i : Nat) (x : Nat × T), (pre ++ [(lv, t)])[i]? = some x → ¬ i < pre.length → i = pre.length ∧ x = (lv, t) := fun i x h hi => by
    rw [List.getElem?_append_right (by omega)] at h
    rcases e : i - pre.length with _ | m
    ·rw [e] at h; simp at h; exact ⟨by omega, h.symm⟩
    ·rw [e] at h; simp at h
   have good : OkAt pre.length (lv, t) → ∀ (i : Nat) (x : Nat × T), (pre ++ [(lv, t)])[i]? = some x → OkAt i x := fun h i x hx => by
    by_cases hi : i < pre.length
    ·rw [List.getElem?_append_left hi] at hx; exact hpre i x hx
    ·obtain ⟨rfl, rfl⟩ := last i x hx hi; exact h
   have bad : ¬ OkAt pre.length (lv, t) → ∃ (i : Nat) (x : Nat × T), (pre ++ [(lv, t)])[i]? = some x ∧ ¬ OkAt i x := fun h => ⟨pre.length, (lv, t), by simp, h⟩
   -- leaving behind a store of false
   have leave : Hid (¬ OkAt pre.length (lv, t) → ∀ Z, Below W2.heap.size W2 Z → KeepsFrom (w.heap.size + 4) W (Z.setCell ⟨w.heap.size + 1, 0, none⟩ (.bool false)) ∧ ((Z.setCell ⟨w.heap.size + 1, 0, none⟩ (.bool false)).heap[w.heap.size + 1]? = some (.cells #[.bool false] 4 (0, 0))) ∧ Below w.heap.size w (Z.setCell ⟨w.heap.size + 1, 0, none⟩ (.bool false)) ∧ ∃ (i : Nat) (x : Nat × T), (pre ++ [(lv, t)])[i]? = some x ∧ ¬ OkAt i x) := hid fun hn Z hZ => by
    have rZ : Boxed Z (w.heap.size + 1) 4 (.bool false) := kept_row r2 hZ
    exact ⟨(kf2.trans (keeps_of_below hZ)).trans ((KeepsOthers.setCell _ _ _).from _), boxed_set rZ _, (b2.trans (hZ.mono b2.size)).setCell (p := ⟨w.heap.size + 1, 0, none⟩) (by simp) _, bad hn⟩
   have stay : Hid (OkAt pre.length (lv, t) → ∀ Z, Below W2.heap.size W2 Z → KeepsFrom (w.heap.size + 4) W Z ∧ Kp w.heap.size W Z ∧ (Z.heap[w.heap.size + 1]? = some (.cells #[.bool false] 4 (0, 0)) ∧ Z.heap[w.heap.size + 2]? = some (.cells #[.int .i64 (pre ++ [(lv, t)]).length] 3 (0, 0))) ∧ Below w.heap.size w Z ∧ ∀ (i : Nat) (x : Nat × T), (pre ++ [(lv, t)])[i]? = some x → OkAt i x) := hid fun hy Z hZ => by
    refine ⟨kf2.trans (keeps_of_below hZ), kp2.trans (Kp.of_below hZ (by omega)), ⟨kept_row r2 hZ, ?_⟩, b2.trans (hZ.mono b2.size), good hy⟩
    rw [kept_row c2 hZ]; simp
   have C := hid (fun W => sound_T hok W)
   have hks := hid hok
   obtain ⟨q, hq⟩ : ∃ q, T.ok t = q := ⟨_, rfl⟩
   have ho : OkAt pre.length (lv, t) ↔ lv ≤ 24 ∧ pre.length + 1 ≤ 600 ∧ q = true := by unfold OkAt; rw [hq]
   rw [hq] at C
   have cc' : W.cell? ⟨w.heap.size + 1 + 1, 0, none⟩ = some (.int .i64 pre.length) := cc
   have cf' : W.frozen? ⟨w.heap.size + 1 + 1, 0, none⟩ = false := cf
   have hW2' : Hid (W.setCell ⟨w.heap.size + 1 + 1, 0, none⟩ (.int .i64 ((pre.length : Int) + 1)) = W2) := hid hW2
   have br3 : Hid (∀ Z, Below W2.heap.size W2 Z → Z.cell? ⟨w.heap.size + 1, 0, none⟩ = some (.bool false) ∧ Z.frozen? ⟨w.heap.size + 1, 0, none⟩ = false) := hid fun Z hZ => by
    have h : Boxed Z (w.heap.size + 1) 4 (.bool false) := kept_row r2 hZ
    exact ⟨h.cell, h.frozen⟩
   simp only [World.size_alloc, hXs]
   clear hr hc hpre bad good last kf2 kp2 r2 c2 b2 hok hX hXr hXc hT' hX0 hB0 bR bC hst hyes' hno hsz x2 br2 br bc cc cf hB hW2 hs2 s2
   cases t with
   | mk k' u0' u1' u2' u3' p' cap' mn' mx' tx' ks' =>
    have hbx' : ∀ q v, (T.mk k' u0' u1' u2' u3' p' cap' mn' mx' tx' ks').cells.toArray[q]? = some v → W.cell? ⟨Bx, q, none⟩ = some v := fun q v h => by
     rw [cell_of_row _ _ _ _ _ (0, 0) hbx]; exact h
    have x0 := hbx' 0 _ rfl
    have x1 := hbx' 1 _ rfl
    have x2 := hbx' 2 _ rfl
    have x3 := hbx' 3 _ rfl
    have x4 := hbx' 4 _ rfl
    have x5 := hbx' 5 _ rfl
    have x6 := hbx' 6 _ rfl
    have x7 := hbx' 7 _ rfl
    have x8 := hbx' 8 _ rfl
    clear hbx' hbx
    simp only [T.cells] at *
    have hlv : (lv : Int) = lv := rfl
    replace leave := hid (fun (h : ¬ (lv ≤ 24 ∧ pre.length + 1 ≤ 600 ∧ q = true)) => leave.out (fun h' => h (ho.1 h')))
    replace stay := hid (fun (h : lv ≤ 24 ∧ pre.length + 1 ≤ 600 ∧ q = true) => stay.out (ho.2 h))
    clear ho
    by_cases h24 : 24 < lv
    ·have d1 : decide ((24 : Int) < lv) = true := by simp; omega
     have lv' := hid (leave.out (fun h => by have := h.1; omega) _ (Below.refl _ _))
     clear leave stay br3 C
     rw [← hW2'.out] at lv'
     gi_wp2
     refine ⟨trivial, ?_⟩
     gi_wp2
     exact ⟨lv'.out.1, ⟨lv'.out.2.1, rfl⟩, lv'.out.2.2⟩
    ·have d1 : decide ((24 : Int) < lv) = false := by simp; omega
     by_cases h600 : 600 < pre.length + 1
     ·have d2 : decide ((600 : Int) < (pre.length : Int) + 1) = true := by simp; omega
      have lv' := hid (leave.out (fun h => by have := h.2.1; omega) _ (Below.refl _ _))
      clear leave stay br3 C
      rw [← hW2'.out] at lv'
      gi_wp2
      refine ⟨trivial, ?_⟩
      gi_wp2
      exact ⟨lv'.out.1, ⟨lv'.out.2.1, rfl⟩, lv'.out.2.2⟩
     ·have d2 : decide ((600 : Int) < (pre.length : Int) + 1) = false := by simp; omega
      cases q with
      | true =>
       replace stay := hid (stay.out ⟨by omega, by omega, rfl⟩)
       clear leave br3
       gi_wp2_with (refine ⟨trivial, ?_⟩; gi_at_call 79; refine (CallsIn.inRound l (callsIn_wide.2 (C.out _))).mono ?_; rintro e W3 ⟨rfl, hb⟩; rw [hW2'.out] at hb; replace hb := hid hb)
       exact stay.out _ hb.out
      | false =>
       replace leave := hid (leave.out (fun h => by have := h.2.2; cases this))
       clear stay
       gi_wp2_with (refine ⟨trivial, ?_⟩; gi_at_call 79; refine (CallsIn.inRound l (callsIn_wide.2 (C.out _))).mono ?_; rintro e W3 ⟨rfl, hb⟩; rw [hW2'.out] at hb; obtain ⟨rc3, rf3⟩ := br3.out _ hb; replace hb := hid hb)
       exact ⟨(leave.out _ hb.out).1, ⟨(leave.out _ hb.out).2.1, rfl⟩, (leave.out _ hb.out).2.2⟩
  case done =>
   rintro D zs W hD hz ⟨⟨hr, hc⟩, hB, hpre⟩ hK
   have hR := hid (hyes'.out zs hz hpre)
   have br : Boxed W (w.heap.size + 1) 4 (.bool false) := hr
   have rc := br.cell
   have rf := br.frozen
   have hD' : w.heap.size + 3 < D := by simp at hD; omega
   have hr2 := hid (boxed_set br (.bool true))
   replace hB := hid (hB.setCell (p := ⟨w.heap.size + 1, 0, none⟩) (by simp) (.bool true))
   have hK2 := hid (boxed_other (u := .bool true) hK (show D ≠ w.heap.size + 1 by omega))
   clear br hr hc hpre hX hXr hXc hT' hX0 hB0 bR bC hst hyes' hno hz
   gi_wp2
   refine ⟨by simp, .inl ⟨_, _, rfl, run_takeDeferred hK2.out, ?_⟩⟩
   have hr3 : ((W.setCell ⟨w.heap.size + 1, 0, none⟩ (.bool true)).putObj D (.deferred none)).heap[w.heap.size + 1]? = some (.cells #[.bool true] 4 (0, 0)) := (World.putObj_heap_other (by omega)).trans hr2.out
   have rc3 := cell_of_row _ _ 0 _ _ (0, 0) hr3
   have hB3 := hB.out.trans (belowK_b (w := w) (Nat.le_refl _) _ D _ (.deferred none) (by omega) hK2.out rfl rfl)
   refine ⟨.bool true, ?_, ret_bool hR.out.symm, hB3⟩
   exact results_right rfl rc3
  case stop =>
   rintro D c pre W hD ⟨hp1, hp2⟩ ⟨⟨hr, rfl⟩, hB, i, x, hx, hnx⟩ hK
   have hR := hno.out pre i x hp1 hp2 hx hnx
   subst hR
   have br : Boxed W (w.heap.size + 1) 4 (.bool false) := hr
   have rc := br.cell
   have rf := br.frozen
   have hD' : w.heap.size + 3 < D := by simp at hD; omega
   clear br hX hXr hXc hT' hX0 hB0 bR bC hst hyes' hno hx hnx hp1 hp2
   gi_wp2
   refine ⟨by simp, .inl ⟨_, _, rfl, run_takeDeferred hK, ?_⟩⟩
   have hr3 : (W.putObj D (.deferred none)).heap[w.heap.size + 1]? = some (.cells #[.bool false] 4 (0, 0)) := (World.putObj_heap_other (by omega)).trans hr
   have rc3 := cell_of_row _ _ 0 _ _ (0, 0) hr3
   have hB3 := hB.trans (belowK_b (w := w) (Nat.le_refl _) _ D _ (.deferred none) (by omega) hK rfl rfl)
   refine ⟨.bool false, ?_, rfl, hB3⟩
   exact results_right rfl rc3
end Go.Proofs.YtobbifhflnlplaaDoor.S7
