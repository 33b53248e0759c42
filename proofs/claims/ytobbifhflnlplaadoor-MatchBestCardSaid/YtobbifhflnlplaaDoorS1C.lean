/- Texts merged: S1Q, S1B, S1W3, S1W4, S1W7, S1W8, S1W9, S1M2, S1W5, S1W13, S1W14, S1W16. -/
import Derived.Deep.Quiet
import Derived.BigQuiet
import Derived.Below
import Derived.StillTail
import Derived.RangeFuncRecord
import Derived.Outline
import Derived.Lib.Hide
import Derived.RangeFuncNested
import Derived.RangeFuncBound
import Derived.RangeFuncCalls
import Derived.RangeFuncLeaves
import Derived.RangeFuncBox
import Derived.Shelf.Abstract
import Derived.Shelf.RegionOpen
import Derived.WalkKit
import Derived.OwnWalkIn
import Derived.TacticsInMore
import Derived.LoopNIn
import Derived.LoopIn
import Derived.Maps.AppendAt
import Derived.WalkSmall
import Derived.Laws.MakeOwn
import Derived.OwnWalk
import Derived.Laws.BytesArg
import Derived.Test.YtobbifhflnlplaaDoorS1A
namespace Go.Proofs.YtobbifhflnlplaaDoor.S1
open Lib (hid)
open Go.RowKit

def Bel (W w' : World) : Prop := Below W.heap.size W w'
theorem Bel.refl (W : World) : Bel W W := Below.refl _ _
theorem Bel.cell {W w' : World} (h : Bel W w') {p : Addr} {v : Value} (hp : p.block < W.heap.size) (hv : W.cell? p = some v) : w'.cell? p = some v := (Below.cell h hp).trans hv
theorem Bel.step {W w w' : World} (h : Bel W w) (h' : Below w.heap.size w w') : Bel W w' := Below.trans h (h'.mono h.size)

variable {P : Program} {ops : Array Oper} {C : World → Prop} {a : Act} {o : Oper} {K : Act → Prop}

theorem wp_region_bel {id : Nat} {Q : Exit → Act → World → Prop} {a : Act} {w : World} {l : List Oper} (hm : P.follows .mixedOrders = true) (hB : Region.lexB .any l.toArray = true)
    (h : wpQuiet P l.toArray (Bel w) (fun a' => ∀ w', Bel w w' → Q .normal a' w') l a) : (Code.region id l.toArray true).wp P Q a w :=
  wp_region_quiet (C := Bel w) hm hB (Below.drew (Below.refl _ _)) (by simpa using h)

theorem quiet_val (h : ∃ v, (∀ w, C w → (execOp a.eval o).run P w = .ok (.value v) w) ∧ K (a.put o.dst v)) : o.quiet P a C K :=
  let ⟨v, h1, h2⟩ := h
  ⟨v, fun w hC => by unfold Oper.quietAt; rw [h1 w hC]; exact ⟨rfl, rfl⟩, h2⟩
theorem quiet_call (f : FuncId) (h : ∃ args, (∀ w, C w → (execOp a.eval o).run P w = .ok (.enter f args) w) ∧ ∃ v, (∀ w, C w → Calls P f args w fun e w' => e = .returned v ∧ C w') ∧ K (a.put o.dst v)) : o.quiet P a C K :=
  let ⟨_, h1, v, h2, h3⟩ := h
  ⟨v, fun w hC => by unfold Oper.quietAt; rw [h1 w hC]; exact ⟨rfl, h2 w hC⟩, h3⟩
theorem Calls.bel {P : Program} {f : FuncId} {args : Array Value} {W w : World} {v : Value} (hC : Bel W w) (h : Calls P f args w fun e w' => e = .returned v ∧ Below w.heap.size w w') :
    Calls P f args w fun e w' => e = .returned v ∧ Bel W w' := h.mono fun _ _ ⟨he, hb⟩ => ⟨he, hC.step hb⟩
theorem Bel.drew {W w : World} (h : Bel W w) : Bel W w.drew := Below.drew h

/-! ### A head that is quiet in a class, then a tail in one forced order (a store, most often) -/
section Tail
variable {md : Region.Mode} {n : Nat}

def HeadAll (P : Program) (md : Region.Mode) (ops : Array Oper) (C : World → Prop) (n : Nat) (L : Array Bool → Act → Prop) : Nat → Array Bool → Act → Prop
  | 0, ls, a => L ls a
  | f + 1, ls, a => Region.ready md ops ls ≠ [] ∧ ∀ i ∈ Region.ready md ops ls, i < n ∧ qOp P ops C i (HeadAll P md ops C n L f (ls.setIfInBounds i true)) a

theorem HeadAll.any {L : Array Bool → Act → Prop} {g : Nat} {Q : Exit → Act → World → Prop} (hL : ∀ ls a w, C w → L ls a → wpAny P md ops Q g ls a w) :
    ∀ (f : Nat) (ls : Array Bool) (a : Act) (w : World), C w → HeadAll P md ops C n L f ls a → wpAny P md ops Q (f + g) ls a w := by
  intro f
  induction f with
  | zero => intro ls a w hw h; rw [Nat.zero_add]; exact hL ls a w hw h
  | succ f ih =>
    intro ls a w hw h
    have e : f + 1 + g = (f + g) + 1 := by omega
    rw [e]
    exact ⟨fun hn => absurd hn h.1, fun i hi => wpOp_of_qOp hw (fun a' w' hw' h' => ih _ a' w' hw' h') (h.2 i hi).2⟩

theorem HeadAll.first {i : Nat} {oi : Oper} {v : Value} {L : Array Bool → Act → Prop} (hi : ops[i]? = some oi) (hsel : Region.noSelect ops = true)
    (hs : Region.sinkB md ops n = true) (hc : Region.chainB md ops n = true) (hn : n < ops.size) (hin : i < n) (hL : ∀ ls a, L ls a → ∀ j ∈ Region.ready md ops ls, n ≤ j) :
    ∀ (f : Nat) (ls : Array Bool) (a : Act), HeadInv md ops n ls →
      (∀ j oj, ops[j]? = some oj → j ≠ i → ls.getD j true = false → (∀ e ∈ oj.after, Region.binds md e = true → e.on ≠ i) → oi.apart ops oj = true) →
      i ∈ Region.ready md ops ls → YieldsIn P ops C oi v a → HeadAll P md ops C n L f (ls.setIfInBounds i true) (a.put oi.dst v) → HeadAll P md ops C n L (f + 1) ls a := by
  have sel := Region.noSelect_spec hsel
  -- what comes up beside i lies in the head
  have head : ∀ ls, HeadInv md ops n ls → i ∈ Region.ready md ops ls → ∀ j ∈ Region.ready md ops ls, j < n := fun ls inv hr j hj =>
    Nat.lt_of_not_le fun h => tail_waits hs hc hn inv _ i rfl hin (mem_ready.1 hr).1 j h hj
  intro f
  induction f with
  | zero =>
    intro ls a inv _ hr hy H
    refine ⟨List.ne_nil_of_mem hr, fun j hj => ⟨head ls inv hr j hj, ?_⟩⟩
    by_cases e : j = i
    · rw [e]; exact hy.qOp hi H
    · exact absurd (hL _ _ H j (ready_mono hj e)) (Nat.not_le_of_lt (head ls inv hr j hj))
  | succ f ih =>
    intro ls a inv free hr hy H
    refine ⟨List.ne_nil_of_mem hr, fun j hj => ⟨head ls inv hr j hj, ?_⟩⟩
    by_cases e : j = i
    · rw [e]; exact hy.qOp hi H
    · obtain ⟨hun, oj, hoj, hall⟩ := mem_ready.1 hj
      have apartJ : oi.apart ops oj = true := free j oj hoj e hun fun x hx hb hon => by
        have h1 := hall x hx hb
        rw [hon, getD_both (mem_ready.1 hr).1] at h1
        cases h1
      have inv' := inv.set hj (head ls inv hr j hj)
      refine qOp_mono (fun a' h' => ih _ a' inv' (fun k ok hk hki hk' hno => free k ok hk hki ?_ hno) (ready_mono hr (Ne.symm e)) h'.1 ?_)
        (qOp_put hoj apartJ (fun cs b => sel i oi cs b hi) (fun cs b => sel j oj cs b hoj) hy (H.2 j (ready_mono hj e)).2)
      · by_cases hjk : j = k
        · rw [← hjk]; exact hun
        · rwa [getD_set_ne true hjk] at hk'
      · rw [Array.setIfInBounds_comm _ _ e]; exact h'.2

theorem HeadAll.lex {g : Nat} {Lq : Act → Prop} (hsel : Region.noSelect ops = true) (hs : Region.sinkB md ops n = true) (hc : Region.chainB md ops n = true) (hn : n < ops.size) :
    ∀ (l : List Oper) (k : Nat) (ls : Array Bool) (a : Act), (∀ j, j < l.length → l[j]? = ops[k + j]?) → k + l.length = n → HeadInv md ops n ls →
    Region.lexHead md ops g l.length k ls = true → wpQuiet P ops C Lq l a → HeadAll P md ops C n (fun ls' a' => Region.seqB md ops g n ls' = true ∧ Lq a') l.length ls a := by
  intro l
  induction l with
  | nil =>
    intro k ls a _ hk _ hB h
    obtain rfl : k = n := by simpa using hk
    exact ⟨hB, h⟩
  | cons o l ih =>
    intro k ls a hl hk inv hB h
    simp only [List.length_cons] at hk hl
    simp only [List.length_cons, Region.lexHead, Bool.and_eq_true, List.contains_iff_mem] at hB
    obtain ⟨⟨hr, hf⟩, hB'⟩ := hB
    have h0 : ops[k]? = some o := by simpa using (hl 0 (by omega)).symm
    obtain ⟨v, hy, hK⟩ := yieldsIn_of_qOp (C := C) (K := wpQuiet P ops C Lq l) h0 (by unfold qOp; simp only [h0]; exact h)
    refine HeadAll.first h0 hsel hs hc hn (by omega) (fun ls' a' hL => seqB_ready hL.1) l.length ls a inv (Region.free_spec h0 hf) hr hy ?_
    exact ih (k + 1) _ _ (fun j hj => by have := hl (j + 1) (by omega); simpa [Nat.add_assoc, Nat.add_comm 1 j] using this) (by omega) (inv.set hr (by omega)) hB' hK

theorem wp_region_bel_tail {id : Nat} {Q : Exit → Act → World → Prop} {a : Act} {w : World} {l : List Oper} (n : Nat) (hm : P.follows .mixedOrders = true) (hB : Region.lexTailB .any l.toArray n = true)
    (h : wpQuiet P l.toArray (Bel w) (fun a' => ∀ w', Bel w w' → wpList P l.toArray Q (l.drop n) a' w') (l.take n) a) : (Code.region id l.toArray true).wp P Q a w := by
  simp only [Region.lexTailB, Bool.and_eq_true, decide_eq_true_eq] at hB
  obtain ⟨⟨⟨⟨hsel, hn⟩, hs⟩, hc⟩, hlex⟩ := hB
  have hlen : n + (l.length - n) = l.length := by simp at hn; omega
  refine wp_region_any hm ?_
  have inv : HeadInv .any l.toArray n (Array.replicate l.toArray.size false) :=
    ⟨by simp, fun j oj _ hl => (by rw [getD_replicate_false] at hl; cases hl), fun t _ ht => getD_in (by simpa using ht) (getD_replicate_false _ _)⟩
  have htake : (l.take n).length = n := by simp at hn ⊢; omega
  have H := HeadAll.lex (C := Bel w) (g := l.toArray.size - n) hsel hs hc hn (l.take n) 0 _ a (fun j hj => by
    have hj' : j < n := by rw [htake] at hj; exact hj
    simp [hj']) (by rw [htake]; omega) inv (by rw [htake]; exact hlex) h
  rw [htake] at H
  have e : l.toArray.size = n + (l.toArray.size - n) := by simp at hn ⊢; omega
  rw [e]
  refine HeadAll.any (fun ls a' w' hw' hL => ?_) n _ a _ (Bel.drew (Bel.refl w)) (by rw [← e]; exact H)
  have q := wpAny_of_seq (P := P) (md := .any) (Q' := Q) (l.drop n) n ls a' w' (fun j => by simp) (by simpa using hL.1) (hL.2 w' hw')
  simpa using q
end Tail
end Go.Proofs.YtobbifhflnlplaaDoor.S1
namespace Go.Proofs.YtobbifhflnlplaaDoor.S1
open Lib (hid)
open Go.RowKit

def Blk4 (w : World) (b : Nat) (t : TypeId) (v0 v1 v2 v3 : Value) : Prop := w.heap[b]? = some (.cells #[v0, v1, v2, v3] t (0, 0))
theorem Blk4.lt {w : World} {b : Nat} {t : TypeId} {v0 v1 v2 v3 : Value} (h : Blk4 w b t v0 v1 v2 v3) : b < w.heap.size := (Array.getElem?_eq_some_iff.1 h).1
theorem Blk4.new (w : World) (t : TypeId) (v0 v1 v2 v3 : Value) : Blk4 (w.alloc (.cells #[v0, v1, v2, v3] t)) w.heap.size t v0 v1 v2 v3 := World.alloc_heap_new w _
theorem Blk4.alloc {w : World} {b : Nat} {t : TypeId} {v0 v1 v2 v3 : Value} (h : Blk4 w b t v0 v1 v2 v3) (o : Obj) : Blk4 (w.alloc o) b t v0 v1 v2 v3 := (Below.heap_alloc w o b h.lt).trans h
theorem Blk4.below {w w' : World} {B b : Nat} {t : TypeId} {v0 v1 v2 v3 : Value} (h : Blk4 w b t v0 v1 v2 v3) (hb : Below B w w') (hB : b < B) : Blk4 w' b t v0 v1 v2 v3 := (hb.block b hB).trans h
theorem Blk4.bel {w w' : World} {b : Nat} {t : TypeId} {v0 v1 v2 v3 : Value} (h : Blk4 w b t v0 v1 v2 v3) (hb : Bel w w') : Blk4 w' b t v0 v1 v2 v3 := h.below hb h.lt
theorem Blk4.drew {w : World} {b : Nat} {t : TypeId} {v0 v1 v2 v3 : Value} (h : Blk4 w b t v0 v1 v2 v3) : Blk4 w.drew b t v0 v1 v2 v3 := h
theorem Blk4.facts {w : World} {b : Nat} {t : TypeId} {v0 v1 v2 v3 : Value} (h : Blk4 w b t v0 v1 v2 v3) :
    (w.cell? ⟨b, 0, none⟩ = some v0 ∧ w.cell? ⟨b, 1, none⟩ = some v1 ∧ w.cell? ⟨b, 2, none⟩ = some v2 ∧ w.cell? ⟨b, 3, none⟩ = some v3) ∧
    (w.frozen? ⟨b, 0, none⟩ = false ∧ w.frozen? ⟨b, 1, none⟩ = false ∧ w.frozen? ⟨b, 2, none⟩ = false ∧ w.frozen? ⟨b, 3, none⟩ = false) := by
  refine ⟨⟨?_, ?_, ?_, ?_⟩, ?_, ?_, ?_, ?_⟩ <;> simp [World.cell?, World.frozen?, show w.heap[b]? = _ from h]
theorem Blk4.setCell {w : World} {b : Nat} {t : TypeId} {v0 v1 v2 v3 : Value} (h : Blk4 w b t v0 v1 v2 v3) (u : Value) :
    Blk4 (w.setCell ⟨b, 0, none⟩ u) b t u v1 v2 v3 ∧ Blk4 (w.setCell ⟨b, 1, none⟩ u) b t v0 u v2 v3 ∧ Blk4 (w.setCell ⟨b, 2, none⟩ u) b t v0 v1 u v3 ∧ Blk4 (w.setCell ⟨b, 3, none⟩ u) b t v0 v1 v2 u := by
  obtain ⟨hlt, hk⟩ := Array.getElem?_eq_some_iff.1 h
  refine ⟨?_, ?_, ?_, ?_⟩ <;>
  · show (w.heap.modify b _)[b]? = _
    rw [Array.getElem?_eq_getElem (by rw [Array.size_modify]; exact hlt), Array.getElem_modify_self, hk]
    rfl
theorem Blk4.set {w : World} {b : Nat} {t : TypeId} {v0 v1 v2 v3 : Value} (h : Blk4 w b t v0 v1 v2 v3) (u0 u1 u2 u3 : Value) :
    Blk4 ((((w.setCell ⟨b, 0, none⟩ u0).setCell ⟨b, 1, none⟩ u1).setCell ⟨b, 2, none⟩ u2).setCell ⟨b, 3, none⟩ u3) b t u0 u1 u2 u3 :=
  ((((h.setCell u0).1.setCell u1).2.1.setCell u2).2.2.1.setCell u3).2.2.2
theorem Blk4.other {w : World} {b : Nat} {t : TypeId} {v0 v1 v2 v3 : Value} (h : Blk4 w b t v0 v1 v2 v3) {b' : Nat} (hne : b ≠ b') (u0 u1 u2 u3 : Value) :
    Blk4 ((((w.setCell ⟨b', 0, none⟩ u0).setCell ⟨b', 1, none⟩ u1).setCell ⟨b', 2, none⟩ u2).setCell ⟨b', 3, none⟩ u3) b t v0 v1 v2 v3 := by
  unfold Blk4
  rw [Below.heap_setCell _ _ _ _ hne, Below.heap_setCell _ _ _ _ hne, Below.heap_setCell _ _ _ _ hne, Below.heap_setCell _ _ _ _ hne]
  exact h
theorem below_set4 {B : Nat} {a w : World} (h : Below B a w) {b : Nat} (hb : B ≤ b) (u0 u1 u2 u3 : Value) :
    Below B a ((((w.setCell ⟨b, 0, none⟩ u0).setCell ⟨b, 1, none⟩ u1).setCell ⟨b, 2, none⟩ u2).setCell ⟨b, 3, none⟩ u3) :=
  (((h.setCell (p := ⟨b, 0, none⟩) hb _).setCell (p := ⟨b, 1, none⟩) hb _).setCell (p := ⟨b, 2, none⟩) hb _).setCell (p := ⟨b, 3, none⟩) hb _
theorem Blk4.all {W : World} {b : Nat} {t : TypeId} {v0 v1 v2 v3 : Value} (h : Blk4 W b t v0 v1 v2 v3) :
    (∀ w', Bel W w' → w'.cell? ⟨b, 0, none⟩ = some v0) ∧ (∀ w', Bel W w' → w'.cell? ⟨b, 1, none⟩ = some v1) ∧ (∀ w', Bel W w' → w'.cell? ⟨b, 2, none⟩ = some v2) ∧ (∀ w', Bel W w' → w'.cell? ⟨b, 3, none⟩ = some v3) :=
  ⟨fun _ hb => (h.bel hb).facts.1.1, fun _ hb => (h.bel hb).facts.1.2.1, fun _ hb => (h.bel hb).facts.1.2.2.1, fun _ hb => (h.bel hb).facts.1.2.2.2⟩
theorem boxes1 (w : World) (t : TypeId) (a0 a1 a2 a3 : Value) : ∃ W, w.alloc (.cells #[a0, a1, a2, a3] t) = W ∧ Blk4 W w.heap.size t a0 a1 a2 a3 ∧ Below w.heap.size w W :=
  ⟨_, rfl, Blk4.new _ _ _ _ _ _, (Below.refl _ _).alloc (Nat.le_refl _) _⟩
theorem boxes2 (w : World) (t u : TypeId) (a0 a1 a2 a3 b0 b1 b2 b3 : Value) : ∃ W, (w.alloc (.cells #[a0, a1, a2, a3] t)).alloc (.cells #[b0, b1, b2, b3] u) = W ∧
    Blk4 W w.heap.size t a0 a1 a2 a3 ∧ Blk4 W (w.heap.size + 1) u b0 b1 b2 b3 ∧ Below w.heap.size w W := by
  refine ⟨_, rfl, (Blk4.new _ _ _ _ _ _).alloc _, ?_, ((Below.refl _ _).alloc (Nat.le_refl _) _).alloc (by simp) _⟩
  have := Blk4.new (w.alloc (.cells #[a0, a1, a2, a3] t)) u b0 b1 b2 b3
  rwa [World.size_alloc] at this
def SetBox (w : World) (b : Nat) (t : TypeId) (f : Nat → Bool) : Prop := Blk4 w b t (.int .u64 (wd f 0)) (.int .u64 (wd f 1)) (.int .u64 (wd f 2)) (.int .u64 (wd f 3))
theorem SetBox.blk {w : World} {b : Nat} {t : TypeId} {f : Nat → Bool} (h : SetBox w b t f) : Blk4 w b t (.int .u64 (wd f 0)) (.int .u64 (wd f 1)) (.int .u64 (wd f 2)) (.int .u64 (wd f 3)) := h
theorem SetBox.congr {w : World} {b : Nat} {t : TypeId} {f g : Nat → Bool} (h : SetBox w b t f) (hfg : ∀ c, c < 256 → f c = g c) : SetBox w b t g := by
  unfold SetBox at *
  rw [← wd_congr (f := f) (g := g) (k := 0) (fun i hi => hfg _ (by omega)), ← wd_congr (f := f) (g := g) (k := 1) (fun i hi => hfg _ (by omega)),
    ← wd_congr (f := f) (g := g) (k := 2) (fun i hi => hfg _ (by omega)), ← wd_congr (f := f) (g := g) (k := 3) (fun i hi => hfg _ (by omega))]
  exact h
end Go.Proofs.YtobbifhflnlplaaDoor.S1
namespace Go.Proofs.YtobbifhflnlplaaDoor.S1
open Lib (hid)
open Go.RowKit
set_option maxHeartbeats 1000000 in
theorem has_in (f : Nat → Bool) (c : Nat) (hc : c ≤ 255) (w : World) :
    Calls Tryd.prog 64 #[(.agg #[.int .u64 (wd f 0), .int .u64 (wd f 1), .int .u64 (wd f 2), .int .u64 (wd f 3)]), .int .u8 c] w fun e w' => e = .returned (.bool (f c)) ∧ Below w.heap.size w w' := by
  have hfin : (!eqB (andS f (oneS c)) noS) = f c := by
    cases h : f c
    · rw [eqB_true]; rfl
      intro x _
      unfold andS oneS noS
      by_cases e : x = c
      · subst e; simp [h]
      · simp [e]
    · cases e : eqB (andS f (oneS c)) noS
      · rfl
      · have := eqB_spec e c (by omega)
        simp [andS, oneS, noS, h] at this
  have hfin' := hid hfin
  clear hfin
  go_enter Tryd.func64, Tryd.ntmps64
  go_wp2
  obtain ⟨W, hW, bf, hB⟩ := boxes1 w 24 (.int .u64 (wd f 0)) (.int .u64 (wd f 1)) (.int .u64 (wd f 2)) (.int .u64 (wd f 3))
  rw [hW]
  clear hW
  obtain ⟨f0, f1, f2, f3⟩ := bf.all
  refine wp_region_bel (by kernel_rfl) (by kernel_rfl) ?_
  repeat (first
    | go_big_quiet_skip
    | (go_big_quiet_want
       first
         | (refine BigFrame.quiet_move _ rfl ?_
            simp only [Act.put, Act.eval, List.setIfInBounds_toArray, List.set_cons_zero, List.set_cons_succ, List.getD_toArray, List.getD_cons_zero, List.getD_cons_succ]
            go_big_quiet_on)
         | (refine BigFrame.quiet_assign _ rfl ?_
            simp only [Act.put, Act.eval, List.setIfInBounds_toArray, List.set_cons_zero, List.set_cons_succ, List.getD_toArray, List.getD_cons_zero, List.getD_cons_succ]
            go_big_quiet_on)
         | (refine quiet_call 76 ?_
            apply Exists.intro
            refine ⟨fun w' hC => ?_, ?_⟩
            · go_simp
              with_reducible rfl
            refine ⟨_, fun w' hC => Calls.bel hC (one_in c hc _), ?_⟩
            simp only [Act.put, List.setIfInBounds_toArray, List.set_cons_zero, List.set_cons_succ]
            go_big_quiet_on)
         | (refine quiet_call 84 ?_
            apply Exists.intro
            refine ⟨fun w' hC => ?_, ?_⟩
            · go_simp
              with_reducible rfl
            refine ⟨_, fun w' hC => Calls.bel hC (and_in f (oneS c) _), ?_⟩
            simp only [Act.put, List.setIfInBounds_toArray, List.set_cons_zero, List.set_cons_succ]
            go_big_quiet_on)
         | (refine quiet_call 85 ?_
            apply Exists.intro
            refine ⟨fun w' hC => ?_, ?_⟩
            · go_simp
              with_reducible rfl
            refine ⟨_, fun w' hC => Calls.bel hC (empty_in (andS f (oneS c)) _), ?_⟩
            simp only [Act.put, List.setIfInBounds_toArray, List.set_cons_zero, List.set_cons_succ]
            go_big_quiet_on)
         | (refine quiet_val ?_
            apply Exists.intro
            refine ⟨fun w' hC => ?_, ?_⟩
            · go_simp
              with_reducible rfl
            simp only [Act.put, List.setIfInBounds_toArray, List.set_cons_zero, List.set_cons_succ]
            go_big_quiet_on)))
  refine wpQuiet_nil ?_
  intro wq hq

  go_wp2
  go_ret
  exact ⟨ret_bool hfin'.out, hB.trans (hq.mono hB.size)⟩

end Go.Proofs.YtobbifhflnlplaaDoor.S1
namespace Go.Proofs.YtobbifhflnlplaaDoor.S1
open Lib (hid)
open Go.RowKit
def upS (lo k : Nat) : Nat → Bool := fun x => decide (lo ≤ x) && decide (x < k)
theorem wrap_u8_nat {n : Nat} (h : n ≤ 255) : IntKind.u8.wrap (n : Int) = n := by rw [IntKind.wrap_u8]; omega

set_option maxHeartbeats 1000000 in
theorem span_in (lo hi : Nat) (hlo : lo ≤ 255) (hhi : hi ≤ 255) (w : World) :
    Calls Tryd.prog 104 #[.int .u8 lo, .int .u8 hi] w fun e w' => e = .returned (.agg #[.int .u64 (wd (spanS lo hi) 0), .int .u64 (wd (spanS lo hi) 1), .int .u64 (wd (spanS lo hi) 2), .int .u64 (wd (spanS lo hi) 3)]) ∧ Below w.heap.size w w' := by
  have q1 : (lo : Int) ≤ 255 := by omega
  have q2 : (hi : Int) ≤ 255 := by omega
  go_enter Tryd.func104, Tryd.ntmps104
  go_wp2
  obtain ⟨W, hW, br, bs, hB⟩ := boxes2 w 24 24 (.int .u64 0) (.int .u64 0) (.int .u64 0) (.int .u64 0) (.int .u64 0) (.int .u64 0) (.int .u64 0) (.int .u64 0)
  rw [hW]
  clear hW
  have bs0 : SetBox W (w.heap.size + 1) 24 (upS lo lo) := by
    have : SetBox W (w.heap.size + 1) 24 noS := by unfold SetBox; simp only [no_wd]; exact bs
    exact this.congr fun c _ => by simp [noS, upS] <;> omega
  go_loopw [6] (fun i wr => ∃ k : Nat, lo ≤ k ∧ (k ≤ hi + 1 ∨ k = lo) ∧ i = .int .i64 k ∧ Blk4 wr w.heap.size 24 (.int .u64 0) (.int .u64 0) (.int .u64 0) (.int .u64 0) ∧ SetBox wr (w.heap.size + 1) 24 (upS lo k) ∧ Below w.heap.size w wr) (fun i _ => 256 - (intOf i).toNat)
  case atStart => exact ⟨lo, Nat.le_refl _, .inr rfl, rfl, br, bs0, hB⟩
  case round =>
    clear br bs bs0 hB
    obtain ⟨k, hk1, hk2, rfl, br, bs, hB⟩ := hrel
    by_cases hlt : k ≤ hi
    · have hk8 : IntKind.u8.wrap (k : Int) = k := wrap_u8_nat (by omega)
      have hkk : k ≤ 255 := by omega
      obtain ⟨f0, f1, f2, f3⟩ := bs.blk.all
      go_wp2_with fail
      refine wp_region_bel_tail 5 (by kernel_rfl) (by kernel_rfl) ?_
      simp only [List.take_succ_cons, List.take_zero, List.drop_succ_cons, List.drop_zero]
      repeat (first
        | go_big_quiet_skip
        | (go_big_quiet_want
           first
             | (refine BigFrame.quiet_move _ rfl ?_
                simp only [Act.put, Act.eval, List.setIfInBounds_toArray, List.set_cons_zero, List.set_cons_succ, List.getD_toArray, List.getD_cons_zero, List.getD_cons_succ]
                go_big_quiet_on)
             | (refine BigFrame.quiet_assign _ rfl ?_
                simp only [Act.put, Act.eval, List.setIfInBounds_toArray, List.set_cons_zero, List.set_cons_succ, List.getD_toArray, List.getD_cons_zero, List.getD_cons_succ]
                go_big_quiet_on)
             | (refine quiet_call 76 ?_
                apply Exists.intro
                refine ⟨fun w' hC => ?_, ?_⟩
                · go_simp
                  with_reducible rfl
                refine ⟨_, fun w' hC => Calls.bel hC (one_in k hkk _), ?_⟩
                simp only [Act.put, List.setIfInBounds_toArray, List.set_cons_zero, List.set_cons_succ]
                go_big_quiet_on)
             | (refine quiet_call 100 ?_
                apply Exists.intro
                refine ⟨fun w' hC => ?_, ?_⟩
                · go_simp
                  with_reducible rfl
                refine ⟨_, fun w' hC => Calls.bel hC (or_in (upS lo k) (oneS k) _), ?_⟩
                simp only [Act.put, List.setIfInBounds_toArray, List.set_cons_zero, List.set_cons_succ]
                go_big_quiet_on)
             | (refine quiet_val ?_
                apply Exists.intro
                refine ⟨fun w' hC => ?_, ?_⟩
                · go_simp
                  with_reducible rfl
                simp only [Act.put, List.setIfInBounds_toArray, List.set_cons_zero, List.set_cons_succ]
                go_big_quiet_on)))
      refine wpQuiet_nil ?_
      intro wq hq

      obtain ⟨⟨r0, r1, r2, r3⟩, z0, z1, z2, z3⟩ := (bs.blk.bel hq).facts
      have hfin := below_set4 (hB.trans (hq.mono hB.size)) (b := w.heap.size + 1) (by omega) (.int .u64 (wd (orS (upS lo k) (oneS k)) 0)) (.int .u64 (wd (orS (upS lo k) (oneS k)) 1)) (.int .u64 (wd (orS (upS lo k) (oneS k)) 2)) (.int .u64 (wd (orS (upS lo k) (oneS k)) 3))
      have hbx : SetBox _ (w.heap.size + 1) 24 (orS (upS lo k) (oneS k)) := (bs.blk.bel hq).set (.int .u64 (wd (orS (upS lo k) (oneS k)) 0)) (.int .u64 (wd (orS (upS lo k) (oneS k)) 1)) (.int .u64 (wd (orS (upS lo k) (oneS k)) 2)) (.int .u64 (wd (orS (upS lo k) (oneS k)) 3))
      have hbx := hbx.congr (g := upS lo (k + 1)) fun c _ => by
        simp only [orS, upS, oneS]
        rw [Bool.eq_iff_iff]; simp; omega
      have hbr := (br.bel hq).other (b' := w.heap.size + 1) (by omega) (.int .u64 (wd (orS (upS lo k) (oneS k)) 0)) (.int .u64 (wd (orS (upS lo k) (oneS k)) 1)) (.int .u64 (wd (orS (upS lo k) (oneS k)) 2)) (.int .u64 (wd (orS (upS lo k) (oneS k)) 3))
      have h1 := hid hfin
      have h2 := hid hbx
      have h3 := hid hbr
      clear hfin hbx hbr f0 f1 f2 f3 br bs hB
      go_wp2
      go_roundw
      case rel => exact ⟨k + 1, by omega, by omega, by go_num, h3.out, h2.out, h1.out⟩
      case measure => simp [intOf]; omega
    · obtain ⟨⟨f0, f1, f2, f3⟩, z0, z1, z2, z3⟩ := bs.blk.facts
      obtain ⟨⟨r0, r1, r2, r3⟩, y0, y1, y2, y3⟩ := br.facts
      have hbx := bs.congr (g := spanS lo hi) fun c _ => by
        simp only [upS, spanS]
        rw [Bool.eq_iff_iff]; simp; omega
      have hx := ((br.set (.int .u64 (wd (upS lo k) 0)) (.int .u64 (wd (upS lo k) 1)) (.int .u64 (wd (upS lo k) 2)) (.int .u64 (wd (upS lo k) 3)))).facts.1
      have h1 := hid hx
      have h2 := hid hB
      have h3 := hid hbx
      have h4 := hid bs
      clear hx hbx br bs hB
      go_wp2
      have e : (.agg #[.int .u64 (wd (upS lo k) 0), .int .u64 (wd (upS lo k) 1), .int .u64 (wd (upS lo k) 2), .int .u64 (wd (upS lo k) 3)]) = ((.agg #[.int .u64 (wd (spanS lo hi) 0), .int .u64 (wd (spanS lo hi) 1), .int .u64 (wd (spanS lo hi) 2), .int .u64 (wd (spanS lo hi) 3)]) : Value) := by
        have a := h3.out
        have b := h4.out
        unfold SetBox Blk4 at a b
        rw [a] at b
        simpa using b.symm
      exact bodyPost_ret (v := (.agg #[.int .u64 (wd (upS lo k) 0), .int .u64 (wd (upS lo k) 1), .int .u64 (wd (upS lo k) 2), .int .u64 (wd (upS lo k) 3)])) (by simp [results, Tryd.results104, go_sem, h1.out.1, h1.out.2.1, h1.out.2.2.1, h1.out.2.2.2]) rfl ⟨by rw [e], below_set4 h2.out (Nat.le_refl _) _ _ _ _⟩

def Bytes (w : World) (v : Value) (l : List Nat) : Prop := w.ownsRow 0 5 1 v l.length (l.map fun c : Nat => Value.int .u8 (c : Int))
theorem Bytes.below {w w' : World} {B : Nat} {v : Value} {l : List Nat} (h : Bytes w v l) (hb : Below B w w') (hB : w.heap.size ≤ B) : Bytes w' v l := by
  refine ⟨h.1, ?_⟩
  rcases h.2 with ⟨h1, h2⟩ | ⟨g, cap, cur, hv, hg, hh, r⟩
  · exact .inl ⟨h1, h2⟩
  · exact .inr ⟨g, cap, cur, hv, hg, (hb.block g (by have := (Array.getElem?_eq_some_iff.1 hh).1; omega)).trans hh, r⟩

end Go.Proofs.YtobbifhflnlplaaDoor.S1
namespace Go.Proofs.YtobbifhflnlplaaDoor.S1
open Lib (hid)
open Go.RowKit Go.Shelf

attribute [local go_sem] Oper.semAt_some

def el (f : Nat → Bool) : Nat → List Nat
  | 0 => []
  | p + 1 => el f p ++ (if f p then [p] else [])
end Go.Proofs.YtobbifhflnlplaaDoor.S1
namespace Go.Proofs.YtobbifhflnlplaaDoor.S1
open Lib (hid)
open Go.RowKit Go.Shelf

attribute [local go_sem] Oper.semAt_some

theorem info5 : (Tryd.prog.info? 5).map (fun i => (i.zero, i.size, i.bytes)) = some (some (.int .u8 0), 1, 1) := by kernel_rfl
end Go.Proofs.YtobbifhflnlplaaDoor.S1
namespace Go.Proofs.YtobbifhflnlplaaDoor.S1
open Lib (hid)
open Go.RowKit Go.Shelf

attribute [local go_sem] Oper.semAt_some

def spA (ps : List (Nat × Nat)) (c : Nat) : List (Nat × Nat) :=
  match ps.getLast? with
  | some (a, b) => if (b + 1) % 256 = c then ps.dropLast ++ [(a, c)] else ps ++ [(c, c)]
  | none => [(c, c)]
def spAll (l : List Nat) : List (Nat × Nat) := l.foldl (fun ps x => spA ps (x % 256)) []
end Go.Proofs.YtobbifhflnlplaaDoor.S1
namespace Go.Proofs.YtobbifhflnlplaaDoor.S1
open Lib (hid)
open Go.RowKit

def spU (ps : List (Nat × Nat)) : Nat → Bool := fun x => ps.any fun p => decide (p.1 ≤ x) && decide (x ≤ p.2)
end Go.Proofs.YtobbifhflnlplaaDoor.S1
namespace Go.Proofs.YtobbifhflnlplaaDoor.S1
open Lib (hid)
open Go.RowKit

def bl (g : Nat → Bool) : List Value := (List.range 256).map fun i => .bool (g i)
theorem bl_get (g : Nat → Bool) {k : Nat} (h : k < 256) : (bl g)[k]? = some (.bool (g k)) := by simp [bl, h]
theorem bl_set (g : Nat → Bool) (k : Nat) (u : Bool) : (bl g).set k (.bool u) = bl (fun x => if x = k then u else g x) := by
  apply List.ext_getElem?
  intro i
  by_cases hi : i < 256
  · rw [bl_get _ hi, List.getElem?_set]
    by_cases e : k = i
    · subst e; simp [bl, hi]
    · have e' : ¬ i = k := fun x => e x.symm
      simp [e, e', bl_get g hi]
  · have h1 : (bl g).length = 256 := by simp [bl]
    rw [List.getElem?_eq_none (by simp [bl]; omega), List.getElem?_eq_none (by simp [bl]; omega)]
def BoolRow (w : World) (b : Nat) (g : Nat → Bool) : Prop := w.heap[b]? = some (.cells (bl g).toArray 4 (0, 0))
theorem BoolRow.lt {w : World} {b : Nat} {g : Nat → Bool} (h : BoolRow w b g) : b < w.heap.size := (Array.getElem?_eq_some_iff.1 h).1
theorem BoolRow.below {w w' : World} {B b : Nat} {g : Nat → Bool} (h : BoolRow w b g) (hb : Below B w w') (hB : b < B) : BoolRow w' b g := (hb.block b hB).trans h
theorem BoolRow.bel {w w' : World} {b : Nat} {g : Nat → Bool} (h : BoolRow w b g) (hb : Bel w w') : BoolRow w' b g := h.below hb h.lt
theorem BoolRow.cell {w : World} {b : Nat} {g : Nat → Bool} (h : BoolRow w b g) {k : Nat} (hk : k < 256) : w.cell? ⟨b, k, none⟩ = some (.bool (g k)) := by
  rw [cell_of_row w b k _ _ (0, 0) h]; simpa using bl_get g hk
theorem BoolRow.frozen {w : World} {b : Nat} {g : Nat → Bool} (h : BoolRow w b g) (k : Nat) : w.frozen? ⟨b, k, none⟩ = false := frozen_of_row w b k _ _ h
theorem BoolRow.set {w : World} {b : Nat} {g : Nat → Bool} (h : BoolRow w b g) (k : Nat) (u : Bool) : BoolRow (w.setCell ⟨b, k, none⟩ (.bool u)) b (fun x => if x = k then u else g x) := by
  have := heap_setCell_same w b k _ _ (.bool u) h
  unfold BoolRow
  rw [this, ← bl_set]
  simp
theorem BoolRow.new (w : World) (g : Nat → Bool) : BoolRow (w.alloc (.cells (bl g).toArray 4)) w.heap.size g := World.alloc_heap_new w _
theorem BoolRow.congr {w : World} {b : Nat} {f g : Nat → Bool} (h : BoolRow w b f) (hfg : ∀ c, c < 256 → f c = g c) : BoolRow w b g := by
  have : bl f = bl g := List.map_congr_left fun i hi => by rw [hfg i (List.mem_range.1 hi)]
  unfold BoolRow at *
  rw [← this]; exact h
theorem i4 : ∃ i, Tryd.prog.info? 4 = some i ∧ i.zero = some (.bool false) ∧ i.size = 1 ∧ i.bytes = 1 := by
  cases h : Tryd.prog.info? 4 with
  | none =>
      have : (Tryd.prog.info? 4).isSome = true := by kernel_rfl
      rw [h] at this; cases this
  | some i =>
    have hh : (Tryd.prog.info? 4).map (fun i => (i.zero, i.size, i.bytes)) = some (some (.bool false), 1, 1) := by kernel_rfl
    rw [h] at hh
    simp at hh
    exact ⟨i, rfl, hh.1, hh.2.1, hh.2.2⟩
end Go.Proofs.YtobbifhflnlplaaDoor.S1
namespace Go.Proofs.YtobbifhflnlplaaDoor.S1
open Lib (hid)
open Go.RowKit Go.Shelf

theorem ownsRow_bel {w w' : World} {base : Nat} {e : TypeId} {size : Nat} {v : Value} {n : Nat} {xs : List Value} (h : w.ownsRow base e size v n xs) (hb : Below w.heap.size w w') : w'.ownsRow base e size v n xs := by
  refine ⟨h.1, ?_⟩
  rcases h.2 with h1 | ⟨g, cap, cur, hv, hg, hh, r⟩
  · exact .inl h1
  · exact .inr ⟨g, cap, cur, hv, hg, (hb.block g (Array.getElem?_eq_some_iff.1 hh).1).trans hh, r⟩
theorem Blk4.grown {w w1 : World} {b : Nat} {t : TypeId} {v0 v1 v2 v3 : Value} {base : Nat} {e : TypeId} {size : Nat} {v : Value} {n : Nat} {xs : List Value} {tmp : Obj} (h : Blk4 w b t v0 v1 v2 v3)
    (hrow : w.ownsRow base e size v n xs) (hte : t ≠ e) (hg : (w.alloc tmp).grownBy w1 v.ownBlock) : Blk4 w1 b t v0 v1 v2 v3 := by
  have h1 := h.alloc tmp
  refine (hg.block b h1.lt ?_).trans h1
  rcases hrow.2 with ⟨rfl, _⟩ | ⟨g, cap, cur, rfl, _, hgb, _⟩
  · simp [Value.ownBlock]
  · intro e'
    obtain rfl : b = g := by simpa [Value.ownBlock] using e'
    have := (show w.heap[b]? = _ from h).symm.trans hgb
    simp at this
    exact hte this.2
def encN (c : Nat) : Value := .int .u8 (c : Int)
end Go.Proofs.YtobbifhflnlplaaDoor.S1
namespace Go.Proofs.YtobbifhflnlplaaDoor.S1
open Lib (hid)
open Go.RowKit Go.Shelf

def enA (f : Nat → Bool) (k : Nat) : List Nat := if k = 0 ∨ f (k - 1) = false then [k] else []
def enZ (f : Nat → Bool) (k : Nat) : List Nat := if k = 255 ∨ f (k + 1) = false then [k] else []
def en (f : Nat → Bool) : Nat → List Nat
  | 0 => []
  | p + 1 => if f p = true then en f p ++ enA f p ++ enZ f p else en f p
def flat (ps : List (Nat × Nat)) : List Nat := ps.flatMap fun p => [p.1, p.2]
theorem flat_len (ps : List (Nat × Nat)) : (flat ps).length = 2 * ps.length := by
  induction ps with
  | nil => rfl
  | cons p ps ih => simp only [flat, List.flatMap_cons, List.length_append, List.length_cons, List.length_nil] at *; omega
def encI (c : Nat) : Value := .int .i64 (c : Int)
end Go.Proofs.YtobbifhflnlplaaDoor.S1
namespace Go.Proofs.YtobbifhflnlplaaDoor.S1
open Lib (hid)
open Go.RowKit Go.Shelf

theorem row_form {w : World} {base : Nat} {e : TypeId} {size : Nat} {v : Value} {n : Nat} {xs : List Value} (h : w.ownsRow base e size v n xs) :
    ∃ (p : Option Addr) (cap : Nat), v = .slice p n cap ∧ (0 < n → ∃ g, p = some ⟨g, 0, none⟩ ∧ base ≤ g ∧ g < w.heap.size ∧ n ≤ cap ∧ ∀ j, j < n * size → w.cell? ⟨g, j, none⟩ = xs[j]?) := by
  rcases h.2 with ⟨h1, h2⟩ | ⟨g, cap, cur, hv2, hg, hh, hcap, r⟩
  · exact ⟨none, 0, by rw [h1, h2], fun h => by omega⟩
  · subst hv2
    exact ⟨some ⟨g, 0, none⟩, cap, rfl, fun _ => ⟨g, rfl, hg, (Array.getElem?_eq_some_iff.1 hh).1, hcap, fun j hj => h.cellAt j hj⟩⟩

def strN (ys : List Nat) : ByteArray := strOfNums (ys.map fun c : Nat => (c : Int))
theorem u9 : Tryd.prog.underlying 9 = some .string := by kernel_rfl
end Go.Proofs.YtobbifhflnlplaaDoor.S1
