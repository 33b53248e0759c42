/- The program's walk: visit. -/
import Derived.OwnWalkIn
import Derived.TacticsInMore
import Derived.WalkKit
import Derived.LoopNIn
import Derived.LoopIn
import Derived.Shelf.RegionOpen
import Derived.Stop.RegionWithIn
import Derived.Lib.Hide
import Derived.Test.YtobbifhflnlplaaDoorS7K
namespace Go.Proofs.YtobbifhflnlplaaDoor.S7
open Lib (hid)
open Go.RowKit
open Go.Tree7
attribute [local go_sem] Oper.semAt_some
def preT : Nat → Nat → T → List (Nat × T)
 | 0, lv, t => [(lv, t)]
 | d + 1, lv, t => (lv, t) :: t.kids.flatMap (preT d (lv + 1))
theorem preT_map : ∀ (d lv : Nat) (t : T), (preT d lv t).map (fun x => x.2.step x.1) = pre d lv t := by
 intro d
 induction d with
 | zero => intro lv t; rfl
 | succ d ih =>
  intro lv t
  simp only [preT, pre, List.map_cons, List.map_flatMap]
  congr 1
  congr 1
  funext k
  exact ih _ _
def Vis (W : World) (Bv l : Nat) (z : Int) : Prop := W.heap[Bv]? = some (.cells #[.int .i64 z, .func (.yield l) #[] #[]] 121 (0, 0))
structure Kp (n₀ : Nat) (W W' : World) : Prop where
 below : Below n₀ W W'
 kept : ∀ (b : Nat) (cs : Array Value) (t : TypeId) (fr : Nat × Nat), W.heap[b]? = some (.cells cs t fr) → t = 27 ∨ t = 121 → W'.heap[b]? = W.heap[b]?
theorem Kp.trans {n₀ : Nat} {A B C : World} (h : Kp n₀ A B) (k : Kp n₀ B C) : Kp n₀ A C :=
 ⟨h.below.trans k.below, fun b cs t fr hb ht => by
  have h1 := h.kept b cs t fr hb ht
  exact (k.kept b cs t fr (h1.trans hb) ht).trans h1⟩
theorem Kp.refl (n₀ : Nat) (W : World) : Kp n₀ W W := ⟨Below.refl _ _, fun _ _ _ _ _ _ => rfl⟩
theorem Kp.grown {n₀ : Nat} {A B C : World} {row : Option Nat} (h : Kp n₀ A B) (hg : B.grownBy C row) (hB : n₀ ≤ B.heap.size) (hr : ∀ r, row = some r → n₀ ≤ r ∧ ∀ cs t fr, B.heap[r]? = some (.cells cs t fr) → t ≠ 27 ∧ t ≠ 121) : Kp n₀ A C :=
 h.trans ⟨(Below.refl n₀ B).grown hg hB (fun k e => (hr k e).1), fun b cs t fr hb ht => hg.block b (Array.getElem?_eq_some_iff.1 hb).1 (fun e => by
  obtain ⟨h1, h2⟩ := (hr b e.symm).2 cs t fr hb
  rcases ht with h | h
  ·exact h1 h
  ·exact h2 h)⟩
theorem Kp.alloc {n₀ : Nat} {A B : World} (h : Kp n₀ A B) (hB : n₀ ≤ B.heap.size) (o : Obj) : Kp n₀ A (B.alloc o) := h.grown (World.grownBy_alloc B o none) hB (fun r e => by cases e)
theorem kp_b {n₀ : Nat} {w : World} (hn : n₀ ≤ w.heap.size) (W : World) (l : Nat) (o o' : Obj) (hl : w.heap.size ≤ l) (h : W.heap[l]? = some o) (hc : o.isCells = false) (_ : o.isWalk = false) : Kp n₀ W (W.putObj l o') :=
 (Kp.refl n₀ W).grown (grownBy_putObj' W l o') (by have := (Array.getElem?_eq_some_iff.1 h).1; omega) (fun r e => by
  cases e
  refine ⟨by omega, fun cs t fr hb => ?_⟩
  rw [h] at hb; cases hb; cases hc)
theorem Vis.kp {n₀ : Nat} {W W' : World} {Bv l : Nat} {z : Int} (h : Vis W Bv l z) (k : Kp n₀ W W') : Vis W' Bv l z := (k.kept _ _ _ _ h (.inr rfl)).trans h
theorem Vis.grown {W W' : World} {Bv l : Nat} {z : Int} {row : Option Nat} (h : Vis W Bv l z) (hg : W.grownBy W' row) (hr : row ≠ some Bv) : Vis W' Bv l z :=
 (hg.block _ (Array.getElem?_eq_some_iff.1 h).1 (fun e => hr e.symm)).trans h
theorem Vis.alloc {W : World} {Bv l : Nat} {z : Int} (h : Vis W Bv l z) (o : Obj) : Vis (W.alloc o) Bv l z := h.grown (World.grownBy_alloc W o none) (by simp)
theorem Vis.cells {W : World} {Bv l : Nat} {z : Int} (h : Vis W Bv l z) : W.cell? ⟨Bv, 0, none⟩ = some (.int .i64 z) ∧ W.cell? ⟨Bv, 1, none⟩ = some (.func (.yield l) #[] #[]) ∧ W.frozen? ⟨Bv, 0, none⟩ = false := by
 unfold Vis at h
 refine ⟨?_, ?_, ?_⟩ <;> simp [World.cell?, World.frozen?, h]
theorem Vis.lt {W : World} {Bv l : Nat} {z : Int} (h : Vis W Bv l z) : Bv < W.heap.size := (Array.getElem?_eq_some_iff.1 h).1
theorem Vis.set {W : World} {Bv l : Nat} {z : Int} (h : Vis W Bv l z) (z' : Int) : Vis (W.setCell ⟨Bv, 0, none⟩ (.int .i64 z')) Bv l z' := by
 unfold Vis at *
 simp [World.setCell, Array.getElem?_modify, h]
def VOut (n₀ Bv l : Nat) (J Jx : List (Nat × T) → World → Prop) (L : List (Nat × T)) (W : World) (e : Ending) (W' : World) : Prop :=
 (e = .returned (.bool true) ∧ L.length ≤ 601 ∧ J L W' ∧ Vis W' Bv l (601 - (L.length : Int)) ∧ Below n₀ W W') ∨
 (e = .returned (.bool false) ∧ ((601 < L.length ∧ J (L.take 601) W') ∨ ∃ q, q <+: L ∧ q.length ≤ 601 ∧ Jx q W'))
theorem VOut.stop {J Jx : List (Nat × T) → World → Prop} {L M : List (Nat × T)} {W' : World} (hLM : L <+: M) (h : (601 < L.length ∧ J (L.take 601) W') ∨ ∃ q, q <+: L ∧ q.length ≤ 601 ∧ Jx q W') : (601 < M.length ∧ J (M.take 601) W') ∨ ∃ q, q <+: M ∧ q.length ≤ 601 ∧ Jx q W' := by
 rcases h with ⟨h1, h2⟩ | ⟨q, h1, h2, h3⟩
 ·obtain ⟨r, rfl⟩ := hLM
  refine .inl ⟨by simp; omega, ?_⟩
  rwa [List.take_append_of_le_length (by omega)]
 ·exact .inr ⟨q, h1.trans hLM, h2, h3⟩
def encK (x : Nat × T) : Array Value := #[.int .i64 x.1, .agg x.2.cells.toArray]
section
variable {w0 : World} {n₀ Bv l : Nat} {J Jx : List (Nat × T) → World → Prop}
def Rounds (w0 : World) (n₀ l : Nat) (J Jx : List (Nat × T) → World → Prop) : Prop :=
 ∀ m pre x W1, T.In w0 n₀ x.2 → J pre W1 → pre.length < 601 → YieldAt Fence.wide m Tryd.prog l (encK x) W1 fun e W' => (e = .returned (.bool true) ∧ J (pre ++ [x]) W' ∧ Kp n₀ W1 W') ∨ (e = .returned (.bool false) ∧ Jx (pre ++ [x]) W')
def Bears (Bv : Nat) (J : List (Nat × T) → World → Prop) : Prop := ∀ s X Y row, J s X → X.grownBy Y row → (∀ r, row = some r → r = Bv) → J s Y
theorem Bears.alloc (h : Bears Bv J) {s : List (Nat × T)} {X : World} (o : Obj) (hs : J s X) : J s (X.alloc o) := h s X _ none hs (World.grownBy_alloc X o none) (fun r e => by cases e)
theorem Bears.drew (h : Bears Bv J) {s : List (Nat × T)} {X : World} (hs : J s X) : J s X.drew := h s X _ none hs ⟨rfl, rfl, rfl, Nat.le_refl _, fun _ _ _ => rfl⟩ (fun r e => by cases e)
theorem Bears.set (h : Bears Bv J) {s : List (Nat × T)} {X : World} (v : Value) (hs : J s X) : J s (X.setCell ⟨Bv, 0, none⟩ v) := h s X _ (some Bv) hs (grownBy_setCell' X Bv v) (fun r e => by cases e; rfl)
set_option maxRecDepth 100000 in
set_option maxHeartbeats 4000000 in
theorem visit_in (hJ : Bears Bv J) (hY : Rounds w0 n₀ l J Jx) (hn : n₀ ≤ w0.heap.size) (hnB : n₀ ≤ Bv) : ∀ (d : Nat) (t : T) (lv n : Nat) (pre : List (Nat × T)) (W : World), lv + d = 25 → T.In w0 n₀ t → Below n₀ w0 W → Vis W Bv l (601 - (pre.length : Int)) → pre.length ≤ 601 → J pre W →
  CallsIn Fence.wide n Tryd.prog 78 #[.pointer (some ⟨Bv, 0, none⟩), .agg t.cells.toArray, .int .i64 lv] W (VOut n₀ Bv l J Jx (pre ++ preT d lv t) W) := by
 intro d
 induction d with
 | zero =>
  intro t lv n pre W hd hT hB hv hlen hp
  have hlv : decide ((24 : Int) < lv) = true := by simp; omega
  clear hd
  obtain ⟨c0, c1, f0⟩ := hv.cells
  have hle := hv.lt
  by_cases hz : pre.length = 601
  ·have hz0 : (601 - (pre.length : Int)) = 0 := by omega
   rw [hz0] at c0
   have hpp := hid (hJ.alloc (.cells t.cells.toArray 27) hp)
   have hout : Hid (∀ W', J pre W' → VOut n₀ Bv l J Jx (pre ++ preT 0 lv t) W (.returned (.bool false)) W') := hid fun W' h => .inr ⟨rfl, .inl ⟨by simp [hz, preT], by rwa [List.take_append_of_le_length (by omega), List.take_of_length_le (by omega)]⟩⟩
   clear hv hT hlen hp hz hz0
   cases t with
   | mk k u0 u1 u2 u3 p cap mn mx tx ks =>
    simp only [T.cells] at *
    refine callsIn_of_wp Tryd.func78 rfl trivial ?_ rfl
    simp only [Tryd.ntmps78, List.size_toArray, List.length_cons, List.length_nil, Nat.reduceAdd, Nat.reduceSub, Array.replicate_succ, Array.replicate_zero, List.push_toArray, List.append_toArray, List.nil_append, List.cons_append]
    gi_wp2
    go_ret
    exact hout.out _ hpp.out
  ·obtain ⟨z, hz1⟩ : ∃ z : Int, 601 - (pre.length : Int) = z := ⟨_, rfl⟩
   have hz2 : 0 < z := by omega
   have hz3 : z ≤ 601 := by omega
   rw [hz1] at c0 hv
   have hs0 : n₀ ≤ W.heap.size := Nat.le_trans hn hB.size
   have hW : ∀ X, X = ((W.setCell ⟨Bv, 0, none⟩ (.int .i64 (z - 1))).alloc (.cells t.cells.toArray 27)).drew → J pre X ∧ Vis X Bv l (z - 1) ∧ Below n₀ W X := fun X e => by
    subst e
    exact ⟨hJ.drew (hJ.alloc _ (hJ.set _ hp)), ((hv.set _).alloc _), (((Below.refl n₀ W).setCell (p := ⟨Bv, 0, none⟩) hnB _).alloc (Nat.le_trans hs0 (Nat.le_of_eq (by simp [World.setCell]))) _).drew⟩
   obtain ⟨h1, h2, h3⟩ := hW _ rfl
   have hR := hY (n - 1) pre (lv, t) _ hT h1 (by omega)
   replace hR := hR.mono (R' := VOut n₀ Bv l J Jx (pre ++ preT 0 lv t) W) (fun e W' h => by
    rcases h with ⟨rfl, ha, hb⟩ | ⟨rfl, ha⟩
    ·refine .inl ⟨rfl, (by have h8 : (preT 0 lv t).length = 1 := rfl; have h9 : (pre ++ preT 0 lv t).length = pre.length + (preT 0 lv t).length := List.length_append; omega), ha, ?_, h3.trans hb.below⟩
     have := h2.kp hb
     rw [← hz1] at this
     simp only [preT, List.length_append, List.length_cons, List.length_nil]
     rw [show (601 - ((pre.length + (0 + 1) : Nat) : Int)) = 601 - (pre.length : Int) - 1 by omega]
     exact this
    ·exact .inr ⟨rfl, .inr ⟨_, List.prefix_refl _, (by have h8 : (preT 0 lv t).length = 1 := rfl; have h9 : (pre ++ preT 0 lv t).length = pre.length + (preT 0 lv t).length := List.length_append; omega), ha⟩⟩)
   obtain ⟨fn, tmps, assign, body, hy, hR⟩ := hR
   replace hR := hid (hR.mono (R' := fun e W' => ∃ b : Bool, e = .returned (.bool b) ∧ VOut n₀ Bv l J Jx (pre ++ preT 0 lv t) W (.returned (.bool b)) W') (fun e W' h => by
    rcases h with ⟨rfl, h⟩ | ⟨rfl, h⟩
    ·exact ⟨true, rfl, .inl ⟨rfl, h⟩⟩
    ·exact ⟨false, rfl, .inr ⟨rfl, h⟩⟩))
   have hm : Tryd.prog.follows .mixedOrders = true := by kernel_rfl
   clear h1 h2 h3 hW hv hT hlen hp hB hs0 hz1 hz hn hnB hY hJ
   cases t with
   | mk k u0 u1 u2 u3 p cap mn mx tx ks =>
    simp only [T.cells, encK] at *
    refine callsIn_of_wp Tryd.func78 rfl trivial ?_ rfl
    simp only [Tryd.ntmps78, List.size_toArray, List.length_cons, List.length_nil, Nat.reduceAdd, Nat.reduceSub, Array.replicate_succ, Array.replicate_zero, List.push_toArray, List.append_toArray, List.nil_append, List.cons_append]
    gi_wp2
    gi_region_with_o (refine ⟨fun h => (by cases h), ?_⟩; refine hR.out.mono ?_; rintro e W' ⟨r, rfl, h⟩)
    all_goals
     cases r
     ·gi_wp2
      go_ret
      exact h
     ·gi_wp2
      go_ret
      exact h
 | succ d ih =>
  intro t lv n pre W hd hT hB hv hlen hp
  have hlv : decide ((24 : Int) < lv) = false := by simp; omega
  obtain ⟨c0, c1, f0⟩ := hv.cells
  have hle := hv.lt
  by_cases hz : pre.length = 601
  ·have hz0 : (601 - (pre.length : Int)) = 0 := by omega
   rw [hz0] at c0
   have hpp := hid (hJ.alloc (.cells t.cells.toArray 27) hp)
   have hout : Hid (∀ W', J pre W' → VOut n₀ Bv l J Jx (pre ++ preT (d + 1) lv t) W (.returned (.bool false)) W') := hid fun W' h => .inr ⟨rfl, .inl ⟨by simp [hz, preT], by rwa [List.take_append_of_le_length (by omega), List.take_of_length_le (by omega)]⟩⟩
   clear hv hT hlen hp hz hz0 ih
   cases t with
   | mk k u0 u1 u2 u3 p cap mn mx tx ks =>
    simp only [T.cells] at *
    refine callsIn_of_wp Tryd.func78 rfl trivial ?_ rfl
    simp only [Tryd.ntmps78, List.size_toArray, List.length_cons, List.length_nil, Nat.reduceAdd, Nat.reduceSub, Array.replicate_succ, Array.replicate_zero, List.push_toArray, List.append_toArray, List.nil_append, List.cons_append]
    gi_wp2
    go_ret
    exact hout.out _ hpp.out
  ·obtain ⟨z, hz1⟩ : ∃ z : Int, 601 - (pre.length : Int) = z := ⟨_, rfl⟩
   have hz2 : 0 < z := by omega
   have hz3 : z ≤ 601 := by omega
   rw [hz1] at c0 hv
   have hs0 : n₀ ≤ W.heap.size := Nat.le_trans hn hB.size
   obtain ⟨L, hL⟩ : ∃ L : Nat → List (Nat × T), ∀ j, L j = pre ++ (lv, t) :: (t.kids.take j).flatMap (preT d (lv + 1)) := ⟨_, fun _ => rfl⟩
   have hL0 : L 0 = pre ++ [(lv, t)] := by rw [hL]; simp
   have hLs : ∀ j (hj : j < t.kids.length), L (j + 1) = L j ++ preT d (lv + 1) t.kids[j] := fun j hj => by
    rw [hL, hL, List.take_succ_eq_append_getElem hj]
    simp only [List.flatMap_append, List.flatMap_cons, List.flatMap_nil, List.append_nil, List.append_assoc, List.cons_append]
   have hLe : pre ++ preT (d + 1) lv t = L t.kids.length := by
    rw [hL, List.take_of_length_le (Nat.le_refl _)]
    rfl
   have hLp : ∀ j, L j <+: L t.kids.length := fun j => by
    rw [hL, hL, List.take_of_length_le (Nat.le_refl _)]
    refine (List.prefix_append_right_inj _).2 (List.cons_prefix_cons.2 ⟨rfl, ?_⟩)
    refine ⟨(t.kids.drop j).flatMap (preT d (lv + 1)), ?_⟩
    rw [← List.flatMap_append, List.take_append_drop]
   rw [hLe]
   have hl0 : (L 0).length = pre.length + 1 := by rw [hL0]; simp
   have hW : ∀ X, X = ((W.setCell ⟨Bv, 0, none⟩ (.int .i64 (z - 1))).alloc (.cells t.cells.toArray 27)).drew → J pre X ∧ Vis X Bv l (z - 1) ∧ Below n₀ W X ∧ X.heap[W.heap.size]? = some (.cells t.cells.toArray 27 (0, 0)) := fun X e => by
    subst e
    refine ⟨hJ.drew (hJ.alloc _ (hJ.set _ hp)), ((hv.set _).alloc _), (((Below.refl n₀ W).setCell (p := ⟨Bv, 0, none⟩) hnB _).alloc (Nat.le_trans hs0 (Nat.le_of_eq (by simp [World.setCell]))) _).drew, ?_⟩
    have := World.alloc_heap_new (W.setCell ⟨Bv, 0, none⟩ (.int .i64 (z - 1))) (.cells t.cells.toArray 27)
    rw [show (W.setCell ⟨Bv, 0, none⟩ (.int .i64 (z - 1))).heap.size = W.heap.size by simp [World.setCell]] at this
    exact this
   obtain ⟨h1, h2, h3, h4⟩ := hW _ rfl
   have hR := hY (n - 1) pre (lv, t) _ hT h1 (by omega)
   replace hR := hR.mono (R' := fun e W' => ∃ b : Bool, e = .returned (.bool b) ∧ (b = false → Jx (L 0) W') ∧ (b = true → J (L 0) W' ∧ Vis W' Bv l (601 - ((L 0).length : Int)) ∧ Below n₀ W W') ∧ (b = true → W'.heap[W.heap.size]? = some (.cells t.cells.toArray 27 (0, 0)))) (fun e W' h => by
    rcases h with ⟨rfl, ha, hb⟩ | ⟨rfl, ha⟩
    ·refine ⟨true, rfl, fun h => (by cases h), fun _ => ⟨by rw [hL0]; exact ha, ?_, h3.trans hb.below⟩, fun _ => (hb.kept _ _ _ _ h4 (.inl rfl)).trans h4⟩
     have := h2.kp hb
     rw [← hz1] at this
     rw [hl0, show (601 - ((pre.length + 1 : Nat) : Int)) = 601 - (pre.length : Int) - 1 by omega]
     exact this
    ·exact ⟨false, rfl, fun _ => by rw [hL0]; exact ha, fun h => (by cases h), fun h => (by cases h)⟩)
   obtain ⟨fn, tmps, assign, body, hy, hR⟩ := hR
   replace hR := hid hR
   have hm : Tryd.prog.follows .mixedOrders = true := by kernel_rfl
   have hT' := hid hT
   have hB' := hid hB
   have hl1 : (L 0).length ≤ 601 := by omega
   replace hl1 := hid hl1
   have hls : (L 0) <+: L t.kids.length := hLp 0
   have hd' : lv + 1 + d = 25 := by omega
   replace hd := hid hd'
   clear h1 h2 h3 h4 hW hv hT hlen hp hs0 hz1 hz hY hL hL0 hLe hl0 hB hd'
   cases t with
   | mk k u0 u1 u2 u3 p cap mn mx tx ks =>
    have hks : ks.length ≤ 9223372036854775807 := by cases hT'.out with | mk h1 h2 => unfold maxLen at h2; omega
    simp only [T.cells, encK, T.kids] at *
    replace hLs := hid hLs
    replace hLp := hid hLp
    replace hls := hid hls
    refine callsIn_of_wp Tryd.func78 rfl trivial ?_ rfl
    simp only [Tryd.ntmps78, List.size_toArray, List.length_cons, List.length_nil, Nat.reduceAdd, Nat.reduceSub, Array.replicate_succ, Array.replicate_zero, List.push_toArray, List.append_toArray, List.nil_append, List.cons_append]
    gi_wp2
    gi_region_with_o (refine ⟨fun h => (by cases h), ?_⟩; refine hR.out.mono ?_; rintro e W3 ⟨r, rfl, hf, ht, hbx⟩)
    all_goals
     cases r
     ·replace hf := hid (hf rfl)
      clear ht hbx
      gi_wp2
      go_ret
      exact .inr ⟨rfl, .inr ⟨_, hls.out, hl1.out, hf.out⟩⟩
     ·replace ht := hid (ht rfl)
      replace hbx := hbx rfl
      have hb2 : W3.cell? ⟨W.heap.size, 5, none⟩ = some (.slice p ks.length cap) := by rw [cell_of_row _ _ _ _ _ (0, 0) hbx]; rfl
      clear hbx hR hf
      gi_wp2
      gi_loopw [34] (fun i wr => ∃ j : Nat, j ≤ ks.length ∧ i = .int .i64 j ∧ Hid ((L j).length ≤ 601 ∧ J (L j) wr ∧ Vis wr Bv l (601 - ((L j).length : Int)) ∧ Below n₀ W wr)) (fun i _ => ks.length - (intOf i).toNat)
      case atStart => exact ⟨0, Nat.zero_le _, rfl, hid ⟨hl1.out, ht.out⟩⟩
      case round =>
       clear ht hb2 hl1 hls c0 c1 f0 hlv hy
       obtain ⟨j, hj, rfl, hrl⟩ := hrel
       by_cases hlt : j < ks.length
       ·obtain ⟨h1, h2, h3, h4⟩ := hrl.out
        obtain ⟨b, o, hkid, hp, hb, hc⟩ := T.kid hT'.out hlt
        have hLs2 := hLs.out j hlt
        have hLp2 := hid (hLp.out (j + 1))
        have hB2 : Below n₀ w0 wr := hB'.out.trans h4
        have hsz : n₀ ≤ wr.heap.size := Nat.le_trans hn hB2.size
        have hcl : ∀ q, q < 9 → wr.cell? ⟨b, o + j * 9 + q, none⟩ = (ks[j].cells)[q]? := fun q hq => by
         rw [← hc q hq]
         exact hB2.cell (p := ⟨b, o + j * 9 + q, none⟩) hb
        have cK := ih ks[j] (lv + 1) (n - 1) (L j) (wr.alloc (.cells (ks[j]).cells.toArray 27)) hd.out hkid (hB2.alloc hsz _) (h3.alloc _) h1 (hJ.alloc _ h2)
        rw [← hLs2, show ((lv + 1 : Nat) : Int) = (lv : Int) + 1 by omega] at cK
        have hlk : (lv : Int) ≤ 25 := by have := hd.out; omega
        clear hkid hc hLs2 h1 h2 h3 hrl
        generalize ks[j] = kd at *
        cases kd with
        | mk k' u0' u1' u2' u3' p' cap' mn' mx' tx' ks' =>
         simp only [T.cells] at hcl cK
         obtain ⟨c0, c1, c2, c3, c4, c5, c6, c7, c8⟩ := nine_of hcl
         subst hp
         clear hcl
         replace cK := hid cK
         replace h4 := hid h4
         replace hB2 := hid hB2
         gi_wp2_with (refine ⟨trivial, fun h => (by cases h), ?_⟩; (with_reducible refine cK.out.mono ?_); rintro e w2 (⟨rfl, k1, k2, k3, k4⟩ | ⟨rfl, k1⟩))
         ·go_roundw
          case rel => exact ⟨j + 1, by omega, by go_num, hid ⟨k1, k2, k3, (h4.out.alloc hsz _).trans k4⟩⟩
          case measure => simp [intOf]; omega
         ·go_ret
          exact .inr ⟨rfl, VOut.stop hLp2.out k1⟩
       ·obtain rfl : j = ks.length := by omega
        gi_wp2
        go_ret
        obtain ⟨h1, h2, h3, h4⟩ := hrl.out
        exact .inl ⟨rfl, h1, h2, h3, h4⟩
end
end Go.Proofs.YtobbifhflnlplaaDoor.S7
