/- Texts merged: W10, W11, W12, W13, W14. -/
import Derived.Maps.AppendAt
import Derived.Laws.AppendOwnNone
import Derived.Deep.RegionHeld3
import Derived.Test.YtobbifhflnlplaaDoorWA
import Derived.Test.YtobbifhflnlplaaDoorS7D
namespace Go.Proofs.YtobbifhflnlplaaDoor
open Lib (hid)
open Go.RowKit
open Go.Tree7
open S7
open S5 (nl nl_length nl_small at_nl nl_at Gives idx idx_at ix ix_no ix_yes)
structure Fr (X : Nat → Prop) (w w' : World) : Prop where
 os : w'.os = w.os
 tape : w'.tape = w.tape
 output : w'.output = w.output
 size : w.heap.size ≤ w'.heap.size
 block : ∀ k, k < w.heap.size → ¬ X k → w'.heap[k]? = w.heap[k]?
section
variable {X Y : Nat → Prop} {w w1 w2 : World}
theorem Fr.refl (X : Nat → Prop) (w : World) : Fr X w w := ⟨rfl, rfl, rfl, Nat.le_refl _, fun _ _ _ => rfl⟩
theorem Fr.of_bel (h : Below w.heap.size w w1) : Fr X w w1 := ⟨h.os, h.tape, h.output, h.size, fun k hk _ => h.block k hk⟩
theorem Fr.of_grown {row : Option Nat} (h : w.grownBy w1 row) (hX : ∀ g, row = some g → X g) : Fr X w w1 :=
 ⟨h.os, h.tape, h.output, h.size, fun k hk hn => h.block k hk (fun e => hn (hX k e.symm))⟩
theorem Fr.trans (h : Fr X w w1) (h' : Fr Y w1 w2) (hY : ∀ k, Y k → X k ∨ w.heap.size ≤ k) : Fr X w w2 :=
 ⟨h'.os.trans h.os, h'.tape.trans h.tape, h'.output.trans h.output, Nat.le_trans h.size h'.size, fun k hk hn => (h'.block k (Nat.lt_of_lt_of_le hk h.size) (fun hy => by
  rcases hY k hy with h1 | h1
  ·exact hn h1
  ·omega)).trans (h.block k hk hn)⟩
theorem Fr.mono (h : Fr X w w1) (hX : ∀ k, X k → Y k) : Fr Y w w1 := ⟨h.os, h.tape, h.output, h.size, fun k hk hn => h.block k hk (fun hx => hn (hX k hx))⟩
theorem Fr.step (h : Fr X w w1) (h' : Below w1.heap.size w1 w2) : Fr X w w2 := h.trans (Y := fun _ => False) (Fr.of_bel h') (fun _ h => h.elim)
theorem Fr.drew (h : Fr X w w1) : Fr X w w1.drew := h.step (Below.refl _ _).drew
theorem Fr.drewN (h : Fr X w w1) (n : Nat) : Fr X w (w1.drewN n) := h.step (below_drewN (Below.refl _ _) n)
theorem Fr.alloc (h : Fr X w w1) (o : Obj) : Fr X w (w1.alloc o) := h.step ((Below.refl _ _).alloc (Nat.le_refl _) _)
theorem Fr.set (h : Fr X w w1) {a : Addr} (ha : X a.block ∨ w.heap.size ≤ a.block) (v : Value) : Fr X w (w1.setCell a v) :=
 h.trans (Y := fun k => k = a.block) ⟨rfl, rfl, rfl, by rw [size_set]; exact Nat.le_refl _, fun k _ hn => Below.heap_setCell _ _ _ _ hn⟩ (fun k e => by subst e; exact ha)
theorem Fr.below (h : Fr X w w1) {n : Nat} (hn : n ≤ w.heap.size) (hX : ∀ k, X k → n ≤ k) : Below n w w1 :=
 ⟨h.os, h.tape, h.output, h.size, fun k hk => h.block k (by omega) (fun hx => by have := hX k hx; omega)⟩
end
def Lst (w : World) (B : Nat) (v : Value) (ks : List T) : Prop := w.ownsRow B 27 9 v ks.length (ks.flatMap T.cells)
theorem Lst.keep {w w' : World} {B : Nat} {v : Value} {ks : List T} (h : Lst w B v ks) (hk : ∀ g, v.ownBlock = some g → g < w.heap.size → w'.heap[g]? = w.heap[g]?) : Lst w' B v ks := own_keep2 h hk
theorem Lst.fr {w w' : World} {B : Nat} {v : Value} {ks : List T} {X : Nat → Prop} (h : Lst w B v ks) (hf : Fr X w w') (hX : ∀ g, v.ownBlock = some g → ¬ X g) : Lst w' B v ks :=
 h.keep fun g hg hl => hf.block g hl (hX g hg)
theorem Lst.nil (w : World) (B : Nat) : Lst w B (.slice none 0 0) [] := World.ownsRow_nil _ _ _ _
theorem Lst.lt {w : World} {B : Nat} {v : Value} {ks : List T} (h : Lst w B v ks) {g : Nat} (hg : v.ownBlock = some g) : B ≤ g ∧ g < w.heap.size := World.ownsRow.lt h g hg
theorem cells_len9 (ks : List T) : (ks.flatMap T.cells).length = ks.length * 9 := by
 induction ks with
 | nil => rfl
 | cons t l ih => rw [List.flatMap_cons, List.length_append, T.cells_length, ih, List.length_cons]; omega
theorem Lst.form {w : World} {B : Nat} {v : Value} {ks : List T} (h : Lst w B v ks) : (v = .slice none 0 0 ∧ ks = []) ∨ ∃ g cap, v = .slice (some ⟨g, 0, none⟩) ks.length cap ∧ B ≤ g ∧ g < w.heap.size ∧ ks.length ≤ cap ∧ cap ≤ maxLen := by
 rcases h.2 with ⟨e, h0⟩ | ⟨g, cap', cur, e, hb, hg, h1, h2, h3, h4⟩
 ·exact .inl ⟨e, List.eq_nil_of_length_eq_zero h0⟩
 ·exact .inr ⟨g, cap', e, hb, (Array.getElem?_eq_some_iff.1 hg).1, h1, h2⟩
theorem Lst.take {w : World} {B : Nat} {g cap : Nat} {ks : List T} (h : Lst w B (.slice (some ⟨g, 0, none⟩) ks.length cap) ks) (m : Nat) (hm : m ≤ ks.length) : Lst w B (.slice (some ⟨g, 0, none⟩) m cap) (ks.take m) := by
 have hl : (ks.take m).length = m := by rw [List.length_take]; omega
 refine ⟨by rw [cells_len9, hl], ?_⟩
 rcases h.2 with ⟨e, h0⟩ | ⟨g', cap', cur, e, hb, hg, h1, h2, h3, h4⟩
 ·simp at e
 ·simp only [Value.slice.injEq, Option.some.injEq, Addr.mk.injEq, and_true, true_and] at e
  obtain ⟨rfl, rfl⟩ := e
  rw [hl]
  refine .inr ⟨g, cap, cur, rfl, hb, hg, by omega, h2, h3, ?_⟩
  have e2 : ∀ (l : List T) (m : Nat), m ≤ l.length → (l.take m).flatMap T.cells = (l.flatMap T.cells).take (m * 9) := by
   intro l
   induction l with
   | nil => intro m _; simp
   | cons t l ih =>
    intro m hm
    cases m with
    | zero => simp
    | succ m =>
     rw [List.take_succ_cons, List.flatMap_cons, List.flatMap_cons, ih m (by simpa using hm), show (m + 1) * 9 = 9 + m * 9 by omega, List.take_append, T.cells_length, List.take_of_length_le (l := t.cells) (by rw [T.cells_length]; omega), Nat.add_sub_cancel_left]
  have h9 := Nat.mul_le_mul_right 9 hm
  rw [e2 ks m hm, ← h4, List.take_take, Nat.min_eq_left h9]
theorem step_append_own_at {P : Program} {w : World} {ops : Array Oper} {o : Oper} {a : Act} {K : Act → World → Prop} {Q : Exit → Act → World → Prop} {E : Prop} (hgd : o.guard = none) (s x : Operand) (t : TypeId)
  (ho : o.op = .call { callee := .builtin .append, args := #[s, x], argTypes := #[t, t] })
  (base : Nat) (e : TypeId) (i : TypeInfo) (z : Value) (size bytes : Nat) (ht : P.underlying t = some (.slice e)) (hi : P.info? e = some i) (hz : i.zero = some z)
  (hsize : i.size = size) (hby : i.bytes = bytes) (hzs : z.cells.size = size) (hsz : 0 < size)
  (v : Value) (n : Nat) (xs : List Value) (hs : a.eval s = v) (hown : w.ownsRow base e size v n xs)
  (ad : Addr) (m c : Nat) (news : List Value) (hx : a.eval x = .slice (some ad) m c) (hl : news.length = m * size)
  (hnews : ∀ j u, news[j]? = some u → w.cell? (ad.add j) = some u) (h1 : ∀ u ∈ news, u.oneCell' = true)
  (h63 : n + m ≤ maxLen) (hbytes : (n + m) * bytes ≤ 140737488355328) (hbase : base ≤ w.heap.size)
  (h : ∀ v' w', w'.ownsRow base e size v' (n + m) (xs ++ news) → w.grownBy w' v.ownBlock → (v'.ownBlock = v.ownBlock ∨ v'.ownBlock = some w.heap.size) → K (a.put o.dst v') w') :
  if Region.wanted o (yielded ops a.tmps) = true then Oper.wp P o a w K Q else E := by
 rw [if_pos (by simp [Region.wanted, hgd])]
 obtain ⟨v', w', hr, h2, h3, h4, h5⟩ := run_append_own_at (P := P) w base t o.type e i z size bytes ht hi hz hsize hby hzs hsz v n xs hown ad m c news hl hnews h1 h63 hbytes hbase
 unfold Oper.wp
 simp [execOp, ho, resolve, invoke, builtin, hs, hx, hr, Result.andThen]
 exact h v' w' h2 h3 h5
theorem cells_one' (t : T) : ∀ u ∈ t.cells, u.oneCell' = true := fun u hu => fits_cell u hu
def GivesLst (B : Nat) (v : Value) (l : List T) (w : World) (e : Ending) (w' : World) : Prop :=
 ∃ v', e = .returned v' ∧ Lst w' B v' l ∧ Fr (fun b => v.ownBlock = some b) w w' ∧ (v'.ownBlock = v.ownBlock ∨ ∃ g, v'.ownBlock = some g ∧ w.heap.size ≤ g)
end Go.Proofs.YtobbifhflnlplaaDoor
namespace Go.Proofs.YtobbifhflnlplaaDoor
open Lib (hid)
open Go.RowKit
open Go.Tree7
open S7
open S5 (nl nl_length nl_small at_nl nl_at Gives idx idx_at ix ix_no ix_yes)
set_option maxRecDepth 100000 in
set_option maxHeartbeats 4000000 in
theorem with_in {B : Nat} {v : Value} {ks : List T} (t : T) (w : World) (hL : Lst w B v ks) (hB : B ≤ w.heap.size) (hn : ks.length ≤ 601) :
  Calls Tryd.prog 52 #[v, .agg t.cells.toArray] w (GivesLst B v (ks.take 600 ++ [t]) w) := by
 obtain ⟨i0, hi, hz0, hz1, hz2⟩ := info_parts infoN9
 replace hi := hid hi
 replace hz0 := hid hz0
 replace hz1 := hid hz1
 replace hz2 := hid hz2
 have hG : ∃ G, G = GivesLst B v (ks.take 600 ++ [t]) w := ⟨_, rfl⟩
 obtain ⟨G, hG⟩ := hG
 rw [← hG]
 replace hG := hid hG
 obtain ⟨k, u0, u1, u2, u3, p, cap, mn, mx, tx, ts⟩ := t
 simp only [T.cells]
 rcases hL.form with ⟨rfl, rfl⟩ | ⟨g, cp, rfl, hBg, hgw, hc1, hc2⟩
 ·have hLm : Hid (Lst w B (.slice none 0 0) (([] : List T).take 600)) := hid hL
  have hlm : Hid ((([] : List T).take 600).length = 0) := hid rfl
  clear hL hn
  go_enter Tryd.func52, Tryd.ntmps52
  go_wp2
  have hbx := World.alloc_heap_new w (.cells #[.int .i64 k, .int .u64 u0, .int .u64 u1, .int .u64 u2, .int .u64 u3, .slice p ts.length cap, .int .i64 mn, .int .i64 mx, .string tx] 27)
  refine wp_region_held_drew (S := fun w' => w'.heap[w.heap.size]? = some (.cells #[.int .i64 k, .int .u64 u0, .int .u64 u1, .int .u64 u2, .int .u64 u3, .slice p ts.length cap, .int .i64 mn, .int .i64 mx, .string tx] 27 (0, 0))) (by kernel_rfl) (hbx) (fun hHeld => ?_)
  refine wpAnyH_take (i := 0) (v := ?v0u1) rfl (by kernel_rfl) (by kernel_rfl) (by kernel_rfl) (fun _ _ _ h => h) (Or.inl ⟨by rfl, ?h0u1⟩) hHeld ?r0u1
  case h0u1 => (intro wq hSw; go_simp <;> with_reducible rfl)
  try simp only [Act.put, List.getElem_toArray, List.getElem_cons_zero, List.setIfInBounds_toArray, List.set_cons_zero, List.set_cons_succ]
  refine wpAnyH_take (i := 1) (v := ?v1u1) rfl (by kernel_rfl) (by kernel_rfl) (by kernel_rfl) (fun _ _ _ h => h) (Or.inl ⟨by rfl, ?h1u1⟩) hHeld ?r1u1
  case h1u1 => (intro wq hSw; go_simp <;> with_reducible rfl)
  try simp only [Act.put, List.getElem_toArray, List.getElem_cons_succ, List.getElem_cons_zero, List.setIfInBounds_toArray, List.set_cons_zero, List.set_cons_succ]
  refine wpAnyH_take (i := 2) (v := ?v2u1) rfl (by kernel_rfl) (by kernel_rfl) (by kernel_rfl) (fun _ _ _ h => h) (Or.inl ⟨by rfl, ?h2u1⟩) hHeld ?r2u1
  case h2u1 => (intro wq hSw; go_simp <;> with_reducible rfl)
  try simp only [Act.put, List.getElem_toArray, List.getElem_cons_succ, List.getElem_cons_zero, List.setIfInBounds_toArray, List.set_cons_zero, List.set_cons_succ]
  refine wpAnyH_take (i := 3) (v := ?v3u1) rfl (by kernel_rfl) (by kernel_rfl) (by kernel_rfl) (fun _ _ _ h => h) (Or.inl ⟨by rfl, ?h3u1⟩) hHeld ?r3u1
  case h3u1 => (intro wq hSw; go_simp <;> with_reducible rfl)
  try simp only [Act.put, List.getElem_toArray, List.getElem_cons_succ, List.getElem_cons_zero, List.setIfInBounds_toArray, List.set_cons_zero, List.set_cons_succ]
  refine wpAnyH_take (i := 4) (v := ?v4u1) rfl (by kernel_rfl) (by kernel_rfl) (by kernel_rfl) (fun _ _ _ h => h) (Or.inl ⟨by rfl, ?h4u1⟩) hHeld ?r4u1
  case h4u1 => (intro wq hSw; go_simp <;> with_reducible rfl)
  try simp only [Act.put, List.getElem_toArray, List.getElem_cons_succ, List.getElem_cons_zero, List.setIfInBounds_toArray, List.set_cons_zero, List.set_cons_succ]
  refine wpAnyH_take (i := 5) (v := ?v5u1) rfl (by kernel_rfl) (by kernel_rfl) (by kernel_rfl) (fun _ _ _ h => h) (Or.inl ⟨by rfl, ?h5u1⟩) hHeld ?r5u1
  case h5u1 => (intro wq hSw; have hk := cells_of hSw; have y0 := (hk 0 _ rfl).1; have y1 := (hk 1 _ rfl).1; have y2 := (hk 2 _ rfl).1; have y3 := (hk 3 _ rfl).1; have y4 := (hk 4 _ rfl).1; have y5 := (hk 5 _ rfl).1; have y6 := (hk 6 _ rfl).1; have y7 := (hk 7 _ rfl).1; have y8 := (hk 8 _ rfl).1; clear hk; go_simp <;> with_reducible rfl)
  try simp only [Act.put, List.getElem_toArray, List.getElem_cons_succ, List.getElem_cons_zero, List.setIfInBounds_toArray, List.set_cons_zero, List.set_cons_succ]
  refine wpAnyH_ready (rs := [6]) (by kernel_rfl) (by simp) ?_
  refine AllReadyH.cons (o := _) rfl (fun K hK => ?_) AllReadyH.nil
  go_simp
  try dsimp only
  refine hK.out _ _ ((Below.heap_alloc _ _ _ (Array.getElem?_eq_some_iff.1 hHeld).1).trans hHeld) (fun hHeld2 => ?_)
  clear hK K hHeld
  have hHeld := hHeld2
  clear hHeld2
  try simp only [Act.put, List.getElem_toArray, List.getElem_cons_succ, List.getElem_cons_zero, List.setIfInBounds_toArray, List.set_cons_zero, List.set_cons_succ]
  refine wpAnyH_ready (rs := [7]) (by kernel_rfl) (by simp) ?_
  refine AllReadyH.cons (o := _) rfl (fun K hK => ?_) AllReadyH.nil
  refine step_append_own_at rfl _ _ 25 rfl B 27 i0 (.agg #[.int .i64 0, .int .u64 0, .int .u64 0, .int .u64 0, .int .u64 0, .slice none 0 0, .int .i64 0, .int .i64 0, .string ⟨#[]⟩]) 9 96 Tryd.underlying25 hi.out hz0.out hz1.out hz2.out rfl (by decide) (.slice none 0 0) _ _ rfl (hLm.out.keep (fun g hg hl => (Below.heap_alloc _ _ _ (by simp; omega)).trans (Below.heap_alloc _ _ _ hl))) ⟨_, 0, none⟩ 1 1 [.int .i64 k, .int .u64 u0, .int .u64 u1, .int .u64 u2, .int .u64 u3, .slice p ts.length cap, .int .i64 mn, .int .i64 mx, .string tx] rfl rfl (cells_new (by simp)) (cells_one' (T.mk k u0 u1 u2 u3 p cap mn mx tx ts)) (by rw [hlm.out]; simp only [maxLen]; omega) (by rw [hlm.out]; omega) (by simp; omega) ?_; intro v3 w9 h9 hg9 hat9
  try dsimp only
  refine hK.out _ _ ((hg9.block w.heap.size (by simp; omega) (fun e => by have := hLm.out.lt e.symm; omega)).trans hHeld) (fun hHeld2 => ?_)
  clear hK K hHeld
  have hHeld := hHeld2
  clear hHeld2
  try simp only [Act.put, List.getElem_toArray, List.getElem_cons_succ, List.getElem_cons_zero, List.setIfInBounds_toArray, List.set_cons_zero, List.set_cons_succ]
  refine wpAnyH_take (i := 8) (v := ?v8u1) rfl (by kernel_rfl) (by kernel_rfl) (by kernel_rfl) (fun _ _ _ h => h) (Or.inl ⟨by rfl, ?h8u1⟩) hHeld ?r8u1
  case h8u1 => (intro wq hSw; go_simp <;> with_reducible rfl)
  try simp only [Act.put, List.getElem_toArray, List.getElem_cons_succ, List.getElem_cons_zero, List.setIfInBounds_toArray, List.set_cons_zero, List.set_cons_succ]
  refine wpAnyH_done (by kernel_rfl) ?_ _

  go_wp2

  rw [hG.out]
  refine ⟨v3, rfl, ?_, ?_, ?_⟩
  ·unfold Lst
   rw [List.flatMap_append, List.length_append]
   exact h9
  ·exact (((Fr.refl _ w).alloc _).alloc _).drew.trans (Fr.of_grown (X := fun b => (Value.slice none 0 0).ownBlock = some b) hg9 (fun g e => e)) (fun b hb => .inl hb)
  ·rcases hat9 with h | h
   ·exact .inl h
   ·exact .inr ⟨_, h, by simp; omega⟩

 ·obtain ⟨m, hm⟩ : ∃ m, m = min ks.length 600 := ⟨_, rfl⟩
  have htk : ks.take 600 = ks.take m := by
   rw [hm]
   rcases Nat.le_total ks.length 600 with h | h
   ·rw [Nat.min_eq_left h, List.take_of_length_le h, List.take_of_length_le (Nat.le_refl _)]
   ·rw [Nat.min_eq_right h]
  rw [htk] at hG
  have hml : m ≤ ks.length := by omega
  have hm6 : m ≤ 600 := by omega
  have hLm : Hid (Lst w B (.slice (some ⟨g, 0, none⟩) m cp) (ks.take m)) := hid (hL.take m hml)
  have hlm : Hid ((ks.take m).length = m) := hid (by rw [List.length_take]; omega)
  have hmi : (if (600 : Int) < (ks.length : Int) then 600 else (ks.length : Int)) = (m : Int) := by split <;> omega
  have hmc : (m : Int) ≤ cp := by omega
  have hcp : cp ≤ 9223372036854775807 := by unfold maxLen at hc2; omega
  clear hL htk hc2
  replace hm := hid hm
  replace hml := hid hml
  go_enter Tryd.func52, Tryd.ntmps52
  go_wp2
  have hbx := World.alloc_heap_new w (.cells #[.int .i64 k, .int .u64 u0, .int .u64 u1, .int .u64 u2, .int .u64 u3, .slice p ts.length cap, .int .i64 mn, .int .i64 mx, .string tx] 27)
  refine wp_region_held_drew (S := fun w' => w'.heap[w.heap.size]? = some (.cells #[.int .i64 k, .int .u64 u0, .int .u64 u1, .int .u64 u2, .int .u64 u3, .slice p ts.length cap, .int .i64 mn, .int .i64 mx, .string tx] 27 (0, 0))) (by kernel_rfl) (hbx) (fun hHeld => ?_)
  refine wpAnyH_take (i := 0) (v := ?v0u2) rfl (by kernel_rfl) (by kernel_rfl) (by kernel_rfl) (fun _ _ _ h => h) (Or.inl ⟨by rfl, ?h0u2⟩) hHeld ?r0u2
  case h0u2 => (intro wq hSw; go_simp <;> with_reducible rfl)
  try simp only [Act.put, List.getElem_toArray, List.getElem_cons_zero, List.setIfInBounds_toArray, List.set_cons_zero, List.set_cons_succ]
  refine wpAnyH_take (i := 1) (v := ?v1u2) rfl (by kernel_rfl) (by kernel_rfl) (by kernel_rfl) (fun _ _ _ h => h) (Or.inl ⟨by rfl, ?h1u2⟩) hHeld ?r1u2
  case h1u2 => (intro wq hSw; go_simp <;> with_reducible rfl)
  try simp only [Act.put, List.getElem_toArray, List.getElem_cons_succ, List.getElem_cons_zero, List.setIfInBounds_toArray, List.set_cons_zero, List.set_cons_succ]
  refine wpAnyH_take (i := 2) (v := ?v2u2) rfl (by kernel_rfl) (by kernel_rfl) (by kernel_rfl) (fun _ _ _ h => h) (Or.inl ⟨by rfl, ?h2u2⟩) hHeld ?r2u2
  case h2u2 => (intro wq hSw; go_simp <;> with_reducible rfl)
  try simp only [Act.put, List.getElem_toArray, List.getElem_cons_succ, List.getElem_cons_zero, List.setIfInBounds_toArray, List.set_cons_zero, List.set_cons_succ]
  refine wpAnyH_take (i := 3) (v := ?v3u2) rfl (by kernel_rfl) (by kernel_rfl) (by kernel_rfl) (fun _ _ _ h => h) (Or.inl ⟨by rfl, ?h3u2⟩) hHeld ?r3u2
  case h3u2 => (intro wq hSw; go_simp <;> with_reducible rfl)
  try simp only [Act.put, List.getElem_toArray, List.getElem_cons_succ, List.getElem_cons_zero, List.setIfInBounds_toArray, List.set_cons_zero, List.set_cons_succ]
  refine wpAnyH_take (i := 4) (v := ?v4u2) rfl (by kernel_rfl) (by kernel_rfl) (by kernel_rfl) (fun _ _ _ h => h) (Or.inl ⟨by rfl, ?h4u2⟩) hHeld ?r4u2
  case h4u2 => (intro wq hSw; go_simp <;> with_reducible rfl)
  try simp only [Act.put, List.getElem_toArray, List.getElem_cons_succ, List.getElem_cons_zero, List.setIfInBounds_toArray, List.set_cons_zero, List.set_cons_succ]
  refine wpAnyH_take (i := 5) (v := ?v5u2) rfl (by kernel_rfl) (by kernel_rfl) (by kernel_rfl) (fun _ _ _ h => h) (Or.inl ⟨by rfl, ?h5u2⟩) hHeld ?r5u2
  case h5u2 => (intro wq hSw; have hk := cells_of hSw; have y0 := (hk 0 _ rfl).1; have y1 := (hk 1 _ rfl).1; have y2 := (hk 2 _ rfl).1; have y3 := (hk 3 _ rfl).1; have y4 := (hk 4 _ rfl).1; have y5 := (hk 5 _ rfl).1; have y6 := (hk 6 _ rfl).1; have y7 := (hk 7 _ rfl).1; have y8 := (hk 8 _ rfl).1; clear hk; go_simp <;> with_reducible rfl)
  try simp only [Act.put, List.getElem_toArray, List.getElem_cons_succ, List.getElem_cons_zero, List.setIfInBounds_toArray, List.set_cons_zero, List.set_cons_succ]
  refine wpAnyH_ready (rs := [6]) (by kernel_rfl) (by simp) ?_
  refine AllReadyH.cons (o := _) rfl (fun K hK => ?_) AllReadyH.nil
  go_simp
  try dsimp only
  refine hK.out _ _ ((Below.heap_alloc _ _ _ (Array.getElem?_eq_some_iff.1 hHeld).1).trans hHeld) (fun hHeld2 => ?_)
  clear hK K hHeld
  have hHeld := hHeld2
  clear hHeld2
  try simp only [Act.put, List.getElem_toArray, List.getElem_cons_succ, List.getElem_cons_zero, List.setIfInBounds_toArray, List.set_cons_zero, List.set_cons_succ]
  refine wpAnyH_ready (rs := [7]) (by kernel_rfl) (by simp) ?_
  refine AllReadyH.cons (o := _) rfl (fun K hK => ?_) AllReadyH.nil
  refine step_append_own_at rfl _ _ 25 rfl B 27 i0 (.agg #[.int .i64 0, .int .u64 0, .int .u64 0, .int .u64 0, .int .u64 0, .slice none 0 0, .int .i64 0, .int .i64 0, .string ⟨#[]⟩]) 9 96 Tryd.underlying25 hi.out hz0.out hz1.out hz2.out rfl (by decide) (.slice (some ⟨g, 0, none⟩) m cp) _ _ rfl (hLm.out.keep (fun g hg hl => (Below.heap_alloc _ _ _ (by simp; omega)).trans (Below.heap_alloc _ _ _ hl))) ⟨_, 0, none⟩ 1 1 [.int .i64 k, .int .u64 u0, .int .u64 u1, .int .u64 u2, .int .u64 u3, .slice p ts.length cap, .int .i64 mn, .int .i64 mx, .string tx] rfl rfl (cells_new (by simp)) (cells_one' (T.mk k u0 u1 u2 u3 p cap mn mx tx ts)) (by rw [hlm.out]; simp only [maxLen]; omega) (by rw [hlm.out]; omega) (by simp; omega) ?_; intro v3 w9 h9 hg9 hat9
  try dsimp only
  refine hK.out _ _ ((hg9.block w.heap.size (by simp; omega) (fun e => by have := hLm.out.lt e.symm; omega)).trans hHeld) (fun hHeld2 => ?_)
  clear hK K hHeld
  have hHeld := hHeld2
  clear hHeld2
  try simp only [Act.put, List.getElem_toArray, List.getElem_cons_succ, List.getElem_cons_zero, List.setIfInBounds_toArray, List.set_cons_zero, List.set_cons_succ]
  refine wpAnyH_take (i := 8) (v := ?v8u2) rfl (by kernel_rfl) (by kernel_rfl) (by kernel_rfl) (fun _ _ _ h => h) (Or.inl ⟨by rfl, ?h8u2⟩) hHeld ?r8u2
  case h8u2 => (intro wq hSw; go_simp <;> with_reducible rfl)
  try simp only [Act.put, List.getElem_toArray, List.getElem_cons_succ, List.getElem_cons_zero, List.setIfInBounds_toArray, List.set_cons_zero, List.set_cons_succ]
  refine wpAnyH_done (by kernel_rfl) ?_ _

  go_wp2

  rw [hG.out]
  refine ⟨v3, rfl, ?_, ?_, ?_⟩
  ·unfold Lst
   rw [List.flatMap_append, List.length_append]
   exact h9
  ·exact (((Fr.refl _ w).alloc _).alloc _).drew.trans (Fr.of_grown (X := fun b => (Value.slice (some ⟨g, 0, none⟩) m cp).ownBlock = some b) hg9 (fun g e => e)) (fun b hb => .inl hb)
  ·rcases hat9 with h | h
   ·exact .inl h
   ·exact .inr ⟨_, h, by simp; omega⟩

end Go.Proofs.YtobbifhflnlplaaDoor
namespace Go.Proofs.YtobbifhflnlplaaDoor
open Lib (hid)
open Go.RowKit
open Go.Tree7
open S7
open S5 (nl nl_length nl_small at_nl nl_at Gives idx idx_at ix ix_no ix_yes)
def rowT (kd : Int) (p : Option Addr) (cap : Nat) : List T → T
 | [x] => x
 | ks => .mk kd 0 0 0 0 p cap 0 0 ⟨#[]⟩ ks
theorem rowT_ne {kd : Int} {p : Option Addr} {cap : Nat} {ks : List T} (h : ks.length ≠ 1) : rowT kd p cap ks = .mk kd 0 0 0 0 p cap 0 0 ⟨#[]⟩ ks := by
 unfold rowT
 split
 ·exact absurd rfl h
 ·rfl
theorem Lst.cell {w : World} {B g cap : Nat} {ks : List T} (h : Lst w B (.slice (some ⟨g, 0, none⟩) ks.length cap) ks) (i : Nat) (hi : i < ks.length) (q : Nat) (hq : q < 9) : w.cell? ⟨g, i * 9 + q, none⟩ = (ks[i].cells)[q]? := by
 rcases h.2 with ⟨e, h0⟩ | ⟨g', cap', cur, e, hb, hg, h1, h2, h3, h4⟩
 ·simp at e
 ·simp only [Value.slice.injEq, Option.some.injEq, Addr.mk.injEq, and_true, true_and] at e
  obtain ⟨rfl, rfl⟩ := e
  rw [cell_of_row _ _ _ _ _ (0, 0) hg]
  have h5 := flat9 ks i q hi hq
  rw [← h4, List.getElem?_take, if_pos (by omega)] at h5
  rw [← h5]
  simp
theorem nine_of0 {w : World} {b : Nat} {c0 c1 c2 c3 c4 c5 c6 c7 c8 : Value} (h : ∀ q, q < 9 → w.cell? ⟨b, q, none⟩ = [c0, c1, c2, c3, c4, c5, c6, c7, c8][q]?) :
  w.cell? ⟨b, 0, none⟩ = some c0 ∧ w.cell? ⟨b, 1, none⟩ = some c1 ∧ w.cell? ⟨b, 2, none⟩ = some c2 ∧ w.cell? ⟨b, 3, none⟩ = some c3 ∧ w.cell? ⟨b, 4, none⟩ = some c4 ∧ w.cell? ⟨b, 5, none⟩ = some c5 ∧ w.cell? ⟨b, 6, none⟩ = some c6 ∧ w.cell? ⟨b, 7, none⟩ = some c7 ∧ w.cell? ⟨b, 8, none⟩ = some c8 :=
 ⟨h 0 (by decide), h 1 (by decide), h 2 (by decide), h 3 (by decide), h 4 (by decide), h 5 (by decide), h 6 (by decide), h 7 (by decide), h 8 (by decide)⟩
set_option maxRecDepth 10000 in
set_option maxHeartbeats 4000000 in
theorem joined_in {B : Nat} {p : Option Addr} {cap : Nat} {ks : List T} (kd : Int) (w : World) (hL : Lst w B (.slice p ks.length cap) ks) :
  Calls Tryd.prog 53 #[.int .i64 kd, .slice p ks.length cap] w fun e w' => e = .returned (.agg (rowT kd p cap ks).cells.toArray) ∧ Below w.heap.size w w' := by
 by_cases h1 : ks.length = 1
 ·obtain ⟨x, rfl⟩ : ∃ x, ks = [x] := by
   match ks, h1 with
   | [x], _ => exact ⟨x, rfl⟩
  rcases hL.form with ⟨-, e⟩ | ⟨g, cp, e, hBg, hgw, hc1, hc2⟩
  ·cases e
  ·simp only [Value.slice.injEq, true_and] at e
   obtain ⟨rfl, rfl⟩ := e
   have hc : ∀ q, q < 9 → w.cell? ⟨g, q, none⟩ = (x.cells)[q]? := fun q hq => by
    have := hL.cell 0 (by simp) q hq
    simpa using this
   have hcp : cap ≤ 9223372036854775807 := by unfold maxLen at hc2; omega
   clear hL h1 hc2 hc1
   obtain ⟨k, u0, u1, u2, u3, px, cx, mn, mx, tx, ts⟩ := x
   simp only [rowT, T.cells, List.length_cons, List.length_nil] at hc ⊢
   obtain ⟨c0, c1, c2, c3, c4, c5, c6, c7, c8⟩ := nine_of0 hc
   clear hc
   go_enter Tryd.func53, Tryd.ntmps53
   go_wp2
   refine bodyPost_ret (v := .agg #[.int .i64 k, .int .u64 u0, .int .u64 u1, .int .u64 u2, .int .u64 u3, (.slice px ts.length cx), .int .i64 mn, .int .i64 mx, .string tx]) (by simp [results, Tryd.results53, go_sem]) rfl ?_
   exact ⟨rfl, (Below.refl w.heap.size w).alloc (Nat.le_refl _) _⟩
 ·rw [rowT_ne h1]
  have g1 : ((ks.length : Int) == 1) = false := by rw [beq_eq_false_iff_ne]; omega
  clear hL h1
  simp only [T.cells]
  go_enter Tryd.func53, Tryd.ntmps53
  go_wp2
  refine bodyPost_ret (v := .agg #[.int .i64 kd, .int .u64 0, .int .u64 0, .int .u64 0, .int .u64 0, .slice p ks.length cap, .int .i64 0, .int .i64 0, .string ⟨#[]⟩]) (by simp [results, Tryd.results53, go_sem]) rfl ?_
  exact ⟨rfl, (Below.refl w.heap.size w).alloc (Nat.le_refl _) _⟩
end Go.Proofs.YtobbifhflnlplaaDoor
namespace Go.Proofs.YtobbifhflnlplaaDoor
open Lib (hid)
open Go.RowKit
open Go.Tree7
open S7
open S5 (nl nl_length nl_small at_nl nl_at Gives idx idx_at ix ix_no ix_yes)
theorem nxt_of {w w1 : World} {v v' : Value} (h : v'.ownBlock = v.ownBlock ∨ ∃ g, v'.ownBlock = some g ∧ w1.heap.size ≤ g) (hs : w.heap.size ≤ w1.heap.size) : v'.ownBlock = v.ownBlock ∨ ∃ g, v'.ownBlock = some g ∧ w.heap.size ≤ g := by
 rcases h with h | ⟨g, h, hg⟩
 ·exact .inl h
 ·exact .inr ⟨g, h, Nat.le_trans hs hg⟩
theorem Lst.bel {w w' : World} {B : Nat} {v : Value} {ks : List T} (h : Lst w B v ks) (hb : Bel w w') : Lst w' B v ks := h.keep fun g _ hl => hb.block g hl
set_option maxRecDepth 100000 in
set_option maxHeartbeats 8000000 in
theorem cut_in {B bg o : Nat} {cur : Array Value} {bp pp : Option Addr} {bc pc : Nat} {bs ps : List T} (w : World) (hg : w.heap[bg]? = some (.cells cur 70 (0, 0))) (hc0 : cur[o]? = some (.slice bp bs.length bc)) (hc1 : cur[o + 1]? = some (.slice pp ps.length pc))
  (hB : Lst w B (.slice bp bs.length bc) bs) (hP : Lst w B (.slice pp ps.length pc) ps) (hne : (Value.slice bp bs.length bc).ownBlock ≠ some bg) (hBw : B ≤ w.heap.size) (hn : bs.length ≤ 601) :
  Calls Tryd.prog 46 #[.pointer (some ⟨bg, o, none⟩)] w fun e w' => ∃ bv', w'.heap[bg]? = some (.cells ((cur.setIfInBounds o bv').setIfInBounds (o + 1) (.slice none 0 0)) 70 (0, 0)) ∧ Lst w' B bv' (bs.take 600 ++ [rowT 2 pp pc ps]) ∧ Fr (fun b => b = bg ∨ (Value.slice bp bs.length bc).ownBlock = some b) w w' ∧ ((bv'.ownBlock = (Value.slice bp bs.length bc).ownBlock) ∨ ∃ g, bv'.ownBlock = some g ∧ w.heap.size ≤ g) ∧ e = .returned (.tuple #[]) := by
 have cJ : ∀ w', Bel w w' → Calls Tryd.prog 53 #[.int .i64 2, .slice pp ps.length pc] w' fun e w'' => e = .returned (.agg (rowT 2 pp pc ps).cells.toArray) ∧ Below w'.heap.size w' w'' := fun w' hb => joined_in 2 w' (hP.bel hb)
 have cW : ∀ w', Bel w w' → Calls Tryd.prog 52 #[.slice bp bs.length bc, .agg (rowT 2 pp pc ps).cells.toArray] w' (GivesLst B (.slice bp bs.length bc) (bs.take 600 ++ [rowT 2 pp pc ps]) w') := fun w' hb => with_in _ w' (hB.bel hb) (Nat.le_trans hBw hb.size) hn
 generalize rowT 2 pp pc ps = x at *
 obtain ⟨k, u0, u1, u2, u3, px, cx, mn, mx, tx, ts⟩ := x
 simp only [T.cells] at cJ cW
 replace cJ := hid cJ
 replace cW := hid cW
 replace hc0 := hid hc0
 replace hc1 := hid hc1
 replace hne := hid hne
 have hq := hid (show Bel w w.drew from (Below.refl _ _).drew)
 clear hB hP hBw hn
 go_enter Tryd.func46, Tryd.ntmps46
 go_wp2
 have y4 := (cells_of hg o _ hc0.out).1
 have y8 := (cells_of hg (o + 1) _ hc1.out).1
 go_region_with (first | (go_at_call 53; go_loud ((with_reducible refine (cJ.out _ hq.out).mono ?_); rintro e w1 ⟨rfl, hb1⟩; have hq1 := hid (Bel.step hq.out hb1); have hk1 : w1.heap[bg]? = some (.cells cur 70 (0, 0)) := kept_row (show w.drew.heap[bg]? = _ from hg) hb1; have x4 := (cells_of hk1 o _ hc0.out).1; clear hb1)) | (go_at_call 52; (with_reducible refine (cW.out _ hq1.out).mono ?_); rintro e w2 ⟨bv', rfl, hL2, hF2, hN2⟩; obtain ⟨pv2, cv2, rfl, -⟩ := row_form hL2; have hF3 := hid ((Fr.of_bel (X := fun b => b = bg ∨ (Value.slice bp bs.length bc).ownBlock = some b) hq1.out).trans hF2 (fun k hk => .inl (.inr hk))); have hk2 : w2.heap[bg]? = some (.cells cur 70 (0, 0)) := (hF2.block bg (Array.getElem?_eq_some_iff.1 hk1).1 (fun e => hne.out e)).trans hk1; have hN3 := hid (nxt_of hN2 hq1.out.size); clear hF2 hN2; obtain ⟨y6, f6⟩ := cells_of hk2 o _ hc0.out; replace hL2 := hid hL2))
 all_goals
  have hk3 := box_set hk2 o (.slice pv2 (bs.take 600 ++ [T.mk k u0 u1 u2 u3 px cx mn mx tx ts]).length cv2)
  have hc3 : (cur.setIfInBounds o (.slice pv2 (bs.take 600 ++ [T.mk k u0 u1 u2 u3 px cx mn mx tx ts]).length cv2))[o + 1]? = some (.slice pp ps.length pc) := by rw [Array.getElem?_setIfInBounds_ne (by omega)]; exact hc1.out
  obtain ⟨y7, f7⟩ := cells_of hk3 (o + 1) _ hc3
  simp only [List.length_append, List.length_take, List.length_cons, List.length_nil, Nat.zero_add] at y7 f7
  replace hk3 := hid hk3
  clear hc3
  go_wp2
  refine bodyPost_end (v := .tuple #[]) (by simp [results, Tryd.results46, go_sem]) rfl ?_
  refine ⟨_, ?_, hL2.out.keep fun g hg2 hl => ?_, (hF3.out.set (.inl (.inl rfl)) _).set (.inl (.inl rfl)) _, hN3.out, rfl⟩
  ·have := box_set hk3.out (o + 1) (.slice none 0 0)
   simpa using this
  ·have hgb : g ≠ bg := fun e => by
    subst e
    rcases hN3.out with h | ⟨g', h, hg'⟩
    ·exact hne.out (h ▸ hg2)
    ·rw [h] at hg2
     have := Option.some.inj hg2
     have := (Array.getElem?_eq_some_iff.1 hg).1
     omega
   rw [Below.heap_setCell _ _ _ _ hgb, Below.heap_setCell _ _ _ _ hgb]
end Go.Proofs.YtobbifhflnlplaaDoor
namespace Go.Proofs.YtobbifhflnlplaaDoor
open Lib (hid)
open Go.RowKit
open Go.Tree7
open S7
open S5 (nl nl_length nl_small at_nl nl_at Gives idx idx_at ix ix_no ix_yes)
theorem cur_at {cur : Array Value} {o : Nat} {v x y : Value} (h : cur[o]? = some v) : ((cur.setIfInBounds o x).setIfInBounds (o + 1) y)[o]? = some x := by
 rw [Array.getElem?_setIfInBounds_ne (by omega), Array.getElem?_setIfInBounds_self, if_pos (Array.getElem?_eq_some_iff.1 h).1]
def GivesWhole (B bg o : Nat) (cur : Array Value) (bv : Value) (l : List T) (w : World) (e : Ending) (w' : World) : Prop :=
 ∃ bp' bc', e = .returned (.agg (rowT 3 bp' bc' l).cells.toArray) ∧ w'.heap[bg]? = some (.cells ((cur.setIfInBounds o (.slice bp' l.length bc')).setIfInBounds (o + 1) (.slice none 0 0)) 70 (0, 0)) ∧ Lst w' B (.slice bp' l.length bc') l ∧ Fr (fun b => b = bg ∨ bv.ownBlock = some b) w w' ∧ ((Value.slice bp' l.length bc').ownBlock = bv.ownBlock ∨ ∃ g, (Value.slice bp' l.length bc').ownBlock = some g ∧ w.heap.size ≤ g)
set_option maxRecDepth 100000 in
set_option maxHeartbeats 8000000 in
theorem whole_in {B bg o : Nat} {cur : Array Value} {bp pp : Option Addr} {bc pc : Nat} {bs ps : List T} (w : World) (hg : w.heap[bg]? = some (.cells cur 70 (0, 0))) (hc0 : cur[o]? = some (.slice bp bs.length bc)) (hc1 : cur[o + 1]? = some (.slice pp ps.length pc))
  (hB : Lst w B (.slice bp bs.length bc) bs) (hP : Lst w B (.slice pp ps.length pc) ps) (hne : (Value.slice bp bs.length bc).ownBlock ≠ some bg) (hBw : B ≤ w.heap.size) (hn : bs.length ≤ 601) :
  Calls Tryd.prog 32 #[.pointer (some ⟨bg, o, none⟩)] w (GivesWhole B bg o cur (.slice bp bs.length bc) (bs.take 600 ++ [rowT 2 pp pc ps]) w) := by
 have hlt := (Array.getElem?_eq_some_iff.1 hg).1
 have hbA : Bel w (w.alloc (.cells #[.int .i64 0, .int .u64 0, .int .u64 0, .int .u64 0, .int .u64 0, .slice none 0 0, .int .i64 0, .int .i64 0, .string ⟨#[]⟩] 27)) := (Below.refl _ _).alloc (Nat.le_refl _) _
 have cC := (cut_in (w.alloc (.cells #[.int .i64 0, .int .u64 0, .int .u64 0, .int .u64 0, .int .u64 0, .slice none 0 0, .int .i64 0, .int .i64 0, .string ⟨#[]⟩] 27)) (kept_row hg hbA) hc0 hc1 (hB.bel hbA) (hP.bel hbA) hne (Nat.le_trans hBw hbA.size) hn)
 obtain ⟨l, hl⟩ : ∃ l, l = bs.take 600 ++ [rowT 2 pp pc ps] := ⟨_, rfl⟩
 rw [← hl] at cC ⊢
 clear hl
 replace cC := hid cC
 have hfar : Hid (¬ (w.heap.size = bg ∨ (Value.slice bp bs.length bc).ownBlock = some w.heap.size)) := hid (by
  rintro (h | h)
  ·omega
  ·have := (hB.lt h).2; omega)
 have hG : ∃ G, G = GivesWhole B bg o cur (.slice bp bs.length bc) l w := ⟨_, rfl⟩
 obtain ⟨G, hG⟩ := hG
 rw [← hG]
 replace hG := hid hG
 replace hc0 := hid hc0
 replace hbA := hid hbA
 clear hc1 hB hP hne hBw hn hg
 go_enter Tryd.func32, Tryd.ntmps32
 go_wp2_with (first | (go_at_call 46; (with_reducible refine cC.out.mono ?_); rintro e w1 ⟨bv', hk1, hL1, hF1, hN1, rfl⟩; obtain ⟨pv2, cv2, rfl, -⟩ := row_form hL1; have cJ := joined_in 3 w1 hL1; obtain ⟨xj, hxj⟩ : ∃ x, x = rowT 3 pv2 cv2 l := ⟨_, rfl⟩; rw [← hxj] at cJ; obtain ⟨k, u0, u1, u2, u3, px, cx, mn, mx, tx, ts⟩ := xj; simp only [T.cells] at cJ; replace cJ := hid cJ; replace hxj := hid hxj; have hx1 := hid ((hF1.block w.heap.size (by simp) hfar.out).trans (World.alloc_heap_new w (.cells #[.int .i64 0, .int .u64 0, .int .u64 0, .int .u64 0, .int .u64 0, .slice none 0 0, .int .i64 0, .int .i64 0, .string ⟨#[]⟩] 27))); have yb := (cells_of hk1 o _ (cur_at hc0.out)).1; have hz1 : w.heap.size < w1.heap.size := Nat.lt_of_lt_of_le (by simp) hF1.size; have hk1 := hid hk1; replace hL1 := hid hL1; replace hF1 := hid hF1; replace hN1 := hid hN1) | (go_at_call 53; (with_reducible refine cJ.out.mono ?_); rintro e w2 ⟨rfl, hb2⟩; have hx2 := hid (kept_row hx1.out hb2); have hz2 : w.heap.size < w2.heap.size := Nat.lt_of_lt_of_le hz1 hb2.size; have hkx := cells_of hx2.out; obtain ⟨y0, f0⟩ := hkx 0 _ rfl; obtain ⟨y1, f1⟩ := hkx 1 _ rfl; obtain ⟨y2, f2⟩ := hkx 2 _ rfl; obtain ⟨y3, f3⟩ := hkx 3 _ rfl; obtain ⟨y4, f4⟩ := hkx 4 _ rfl; obtain ⟨y5, f5⟩ := hkx 5 _ rfl; obtain ⟨y6, f6⟩ := hkx 6 _ rfl; obtain ⟨y7, f7⟩ := hkx 7 _ rfl; obtain ⟨y8, f8⟩ := hkx 8 _ rfl; clear hkx; replace hb2 := hid hb2))
 obtain ⟨q1, q2, q3, q4⟩ := set9 (b := w.heap.size) (d0 := .int .i64 k) (d1 := .int .u64 u0) (d2 := .int .u64 u1) (d3 := .int .u64 u2) (d4 := .int .u64 u3) (d5 := (.slice px ts.length cx)) (d6 := .int .i64 mn) (d7 := .int .i64 mx) (d8 := .string tx) hx2.out _ rfl
 generalize hW : World.setCell _ (⟨w.heap.size, 8, none⟩ : Addr) _ = W9 at *
 clear hW
 have hk9 := cells_of q1
 obtain ⟨z0, -⟩ := hk9 0 _ rfl
 obtain ⟨z1, -⟩ := hk9 1 _ rfl
 obtain ⟨z2, -⟩ := hk9 2 _ rfl
 obtain ⟨z3, -⟩ := hk9 3 _ rfl
 obtain ⟨z4, -⟩ := hk9 4 _ rfl
 obtain ⟨z5, -⟩ := hk9 5 _ rfl
 obtain ⟨z6, -⟩ := hk9 6 _ rfl
 obtain ⟨z7, -⟩ := hk9 7 _ rfl
 obtain ⟨z8, -⟩ := hk9 8 _ rfl
 clear hk9
 refine bodyPost_ret (v := .agg #[.int .i64 k, .int .u64 u0, .int .u64 u1, .int .u64 u2, .int .u64 u3, (.slice px ts.length cx), .int .i64 mn, .int .i64 mx, .string tx]) (by simp [results, Tryd.results32, go_sem, z0, z1, z2, z3, z4, z5, z6, z7, z8]) rfl ?_
 rw [hG.out]
 have hgk := (Array.getElem?_eq_some_iff.1 hk1.out).1
 refine ⟨pv2, cv2, by rw [← hxj.out]; rfl, (q3 bg (by omega)).trans (kept_row hk1.out hb2.out), (hL1.out.bel hb2.out).keep fun g hgo hl => q3 g (fun e => ?_), ?_, nxt_of hN1.out hbA.out.size⟩
 ·subst e
  rcases hN1.out with h | ⟨g', h, hg'⟩
  ·exact hfar.out (.inr (h ▸ hgo))
  ·rw [h] at hgo
   have := Option.some.inj hgo
   rw [World.size_alloc] at hg'
   omega
 ·exact (((Fr.of_bel hbA.out).trans hF1.out (fun k h => .inl h)).step hb2.out).trans (Y := fun k => k = w.heap.size) ⟨(q4 0 (Nat.zero_le _)).os, (q4 0 (Nat.zero_le _)).tape, (q4 0 (Nat.zero_le _)).output, by rw [q2]; exact Nat.le_refl _, fun k _ h => q3 k h⟩ (fun k h => .inr (by omega))
end Go.Proofs.YtobbifhflnlplaaDoor
