/- Texts merged: LQ, LB. -/
import Derived.Deep.Quiet
import Derived.BigQuiet
import Derived.Below
import Derived.StillTail
import Derived.WalkKit
import Derived.WalkLawsBesides
import Derived.WalkSpells
import Derived.Laws.BitsAllLaws
import Derived.Laws.BytesArg
import Derived.Laws.Rows
import Derived.Laws.AppendOwnNone
import Derived.Lib.Hide
import Derived.Lib.SlBytesConst
import Derived.OneCell
import Derived.OwnWalk
import Derived.RangeFuncRecord
import Derived.Maps.AppendAt
import Derived.Deep.RegionHeld3
import Derived.Test.YtkpoegnekeiieaaDoorProg

namespace Go.Proofs.YtkpoegnekeiieaaDoor
open Go.RowKit

/-- All that lay in W lies in w' as it lay. -/
def Bel (W w' : World) : Prop := Below W.heap.size W w'
theorem Bel.refl (W : World) : Bel W W := Below.refl _ _
theorem Bel.cell {W w' : World} (h : Bel W w') {p : Addr} {v : Value} (hp : p.block < W.heap.size) (hv : W.cell? p = some v) : w'.cell? p = some v := (Below.cell h hp).trans hv
theorem Bel.step {W w w' : World} (h : Bel W w) (h' : Below w.heap.size w w') : Bel W w' := Below.trans h (h'.mono h.size)

variable {P : Program} {ops : Array Oper} {C : World → Prop} {a : Act} {o : Oper} {K : Act → Prop}

theorem wp_region_bel {id : Nat} {Q : Exit → Act → World → Prop} {a : Act} {w : World} {l : List Oper} (hm : P.follows .mixedOrders = true) (hB : Region.lexB .any l.toArray = true)
    (h : wpQuiet P l.toArray (Bel w) (fun a' => ∀ w', Bel w w' → Q .normal a' w') l a) : (Code.region id l.toArray true).wp P Q a w :=
  wp_region_quiet (C := Bel w) hm hB (Below.drew (Below.refl _ _)) (by simpa using h)

theorem quiet_val (h : ∃ v, (∀ w, C w → (execOp a.eval o).run P w = .ok (.value v) w) ∧ K (a.put o.dst v)) : o.quiet P a C K :=
  let ⟨v, h1, h2⟩ := h
  ⟨v, fun w hC => by unfold Oper.quietAt; rw [h1 w hC]; exact ⟨rfl, rfl⟩, h2⟩
theorem quiet_call (f : FuncId) (h : ∃ args, (∀ w, C w → (execOp a.eval o).run P w = .ok (.enter f args) w) ∧ ∃ v, (∀ w, C w → Calls P f args w fun e w' => e = .returned v ∧ C w') ∧ K (a.put o.dst v)) : o.quiet P a C K :=
  let ⟨_, h1, v, h2, h3⟩ := h
  ⟨v, fun w hC => by unfold Oper.quietAt; rw [h1 w hC]; exact ⟨rfl, h2 w hC⟩, h3⟩
/-- A callee's contract met in the class. -/
theorem Calls.bel {P : Program} {f : FuncId} {args : Array Value} {W w : World} {v : Value} (hC : Bel W w) (h : Calls P f args w fun e w' => e = .returned v ∧ Below w.heap.size w w') :
    Calls P f args w fun e w' => e = .returned v ∧ Bel W w' := h.mono fun _ _ ⟨he, hb⟩ => ⟨he, hC.step hb⟩
theorem Bel.drew {W w : World} (h : Bel W w) : Bel W w.drew := Below.drew h

/-! ### A head that is quiet in a class, then a tail in one forced order (a store, most often) -/
section Tail
variable {md : Region.Mode} {n : Nat}

/-- Whatever order is picked, the operations below n come up first, f of them, each quiet in the class; then L. -/
def HeadAll (P : Program) (md : Region.Mode) (ops : Array Oper) (C : World → Prop) (n : Nat) (L : Array Bool → Act → Prop) : Nat → Array Bool → Act → Prop
  | 0, ls, a => L ls a
  | f + 1, ls, a => Region.ready md ops ls ≠ [] ∧ ∀ i ∈ Region.ready md ops ls, i < n ∧ qOp P ops C i (HeadAll P md ops C n L f (ls.setIfInBounds i true)) a

theorem HeadAll.any {L : Array Bool → Act → Prop} {g : Nat} {Q : Exit → Act → World → Prop} (hL : ∀ ls a w, C w → L ls a → wpAny P md ops Q g ls a w) :
    ∀ (f : Nat) (ls : Array Bool) (a : Act) (w : World), C w → HeadAll P md ops C n L f ls a → wpAny P md ops Q (f + g) ls a w := by
  intro f
  induction f with
  | zero => intro ls a w hw h; rw [Nat.zero_add]; exact hL ls a w hw h
  | succ f ih =>
    intro ls a w hw h
    have e : f + 1 + g = (f + g) + 1 := by omega
    rw [e]
    exact ⟨fun hn => absurd hn h.1, fun i hi => wpOp_of_qOp hw (fun a' w' hw' h' => ih _ a' w' hw' h') (h.2 i hi).2⟩

/-- An operation of the head that may come up and is apart from all that does not wait for it may be taken first. -/
theorem HeadAll.first {i : Nat} {oi : Oper} {v : Value} {L : Array Bool → Act → Prop} (hi : ops[i]? = some oi) (hsel : Region.noSelect ops = true)
    (hs : Region.sinkB md ops n = true) (hc : Region.chainB md ops n = true) (hn : n < ops.size) (hin : i < n) (hL : ∀ ls a, L ls a → ∀ j ∈ Region.ready md ops ls, n ≤ j) :
    ∀ (f : Nat) (ls : Array Bool) (a : Act), HeadInv md ops n ls →
      (∀ j oj, ops[j]? = some oj → j ≠ i → ls.getD j true = false → (∀ e ∈ oj.after, Region.binds md e = true → e.on ≠ i) → oi.apart ops oj = true) →
      i ∈ Region.ready md ops ls → YieldsIn P ops C oi v a → HeadAll P md ops C n L f (ls.setIfInBounds i true) (a.put oi.dst v) → HeadAll P md ops C n L (f + 1) ls a := by
  have sel := Region.noSelect_spec hsel
  -- what comes up beside i lies in the head
  have head : ∀ ls, HeadInv md ops n ls → i ∈ Region.ready md ops ls → ∀ j ∈ Region.ready md ops ls, j < n := fun ls inv hr j hj =>
    Nat.lt_of_not_le fun h => tail_waits hs hc hn inv _ i rfl hin (mem_ready.1 hr).1 j h hj
  intro f
  induction f with
  | zero =>
    intro ls a inv _ hr hy H
    refine ⟨List.ne_nil_of_mem hr, fun j hj => ⟨head ls inv hr j hj, ?_⟩⟩
    by_cases e : j = i
    · rw [e]; exact hy.qOp hi H
    · exact absurd (hL _ _ H j (ready_mono hj e)) (Nat.not_le_of_lt (head ls inv hr j hj))
  | succ f ih =>
    intro ls a inv free hr hy H
    refine ⟨List.ne_nil_of_mem hr, fun j hj => ⟨head ls inv hr j hj, ?_⟩⟩
    by_cases e : j = i
    · rw [e]; exact hy.qOp hi H
    · obtain ⟨hun, oj, hoj, hall⟩ := mem_ready.1 hj
      have apartJ : oi.apart ops oj = true := free j oj hoj e hun fun x hx hb hon => by
        have h1 := hall x hx hb
        rw [hon, getD_both (mem_ready.1 hr).1] at h1
        cases h1
      have inv' := inv.set hj (head ls inv hr j hj)
      refine qOp_mono (fun a' h' => ih _ a' inv' (fun k ok hk hki hk' hno => free k ok hk hki ?_ hno) (ready_mono hr (Ne.symm e)) h'.1 ?_)
        (qOp_put hoj apartJ (fun cs b => sel i oi cs b hi) (fun cs b => sel j oj cs b hoj) hy (H.2 j (ready_mono hj e)).2)
      · by_cases hjk : j = k
        · rw [← hjk]; exact hun
        · rwa [getD_set_ne true hjk] at hk'
      · rw [Array.setIfInBounds_comm _ _ e]; exact h'.2

theorem HeadAll.lex {g : Nat} {Lq : Act → Prop} (hsel : Region.noSelect ops = true) (hs : Region.sinkB md ops n = true) (hc : Region.chainB md ops n = true) (hn : n < ops.size) :
    ∀ (l : List Oper) (k : Nat) (ls : Array Bool) (a : Act), (∀ j, j < l.length → l[j]? = ops[k + j]?) → k + l.length = n → HeadInv md ops n ls →
    Region.lexHead md ops g l.length k ls = true → wpQuiet P ops C Lq l a → HeadAll P md ops C n (fun ls' a' => Region.seqB md ops g n ls' = true ∧ Lq a') l.length ls a := by
  intro l
  induction l with
  | nil =>
    intro k ls a _ hk _ hB h
    obtain rfl : k = n := by simpa using hk
    exact ⟨hB, h⟩
  | cons o l ih =>
    intro k ls a hl hk inv hB h
    simp only [List.length_cons] at hk hl
    simp only [List.length_cons, Region.lexHead, Bool.and_eq_true, List.contains_iff_mem] at hB
    obtain ⟨⟨hr, hf⟩, hB'⟩ := hB
    have h0 : ops[k]? = some o := by simpa using (hl 0 (by omega)).symm
    obtain ⟨v, hy, hK⟩ := yieldsIn_of_qOp (C := C) (K := wpQuiet P ops C Lq l) h0 (by unfold qOp; simp only [h0]; exact h)
    refine HeadAll.first h0 hsel hs hc hn (by omega) (fun ls' a' hL => seqB_ready hL.1) l.length ls a inv (Region.free_spec h0 hf) hr hy ?_
    exact ih (k + 1) _ _ (fun j hj => by have := hl (j + 1) (by omega); simpa [Nat.add_assoc, Nat.add_comm 1 j] using this) (by omega) (inv.set hr (by omega)) hB' hK

theorem wp_region_bel_tail {id : Nat} {Q : Exit → Act → World → Prop} {a : Act} {w : World} {l : List Oper} (n : Nat) (hm : P.follows .mixedOrders = true) (hB : Region.lexTailB .any l.toArray n = true)
    (h : wpQuiet P l.toArray (Bel w) (fun a' => ∀ w', Bel w w' → wpList P l.toArray Q (l.drop n) a' w') (l.take n) a) : (Code.region id l.toArray true).wp P Q a w := by
  simp only [Region.lexTailB, Bool.and_eq_true, decide_eq_true_eq] at hB
  obtain ⟨⟨⟨⟨hsel, hn⟩, hs⟩, hc⟩, hlex⟩ := hB
  have hlen : n + (l.length - n) = l.length := by simp at hn; omega
  refine wp_region_any hm ?_
  have inv : HeadInv .any l.toArray n (Array.replicate l.toArray.size false) :=
    ⟨by simp, fun j oj _ hl => (by rw [getD_replicate_false] at hl; cases hl), fun t _ ht => getD_in (by simpa using ht) (getD_replicate_false _ _)⟩
  have htake : (l.take n).length = n := by simp at hn ⊢; omega
  have H := HeadAll.lex (C := Bel w) (g := l.toArray.size - n) hsel hs hc hn (l.take n) 0 _ a (fun j hj => by
    have hj' : j < n := by rw [htake] at hj; exact hj
    simp [hj']) (by rw [htake]; omega) inv (by rw [htake]; exact hlex) h
  rw [htake] at H
  have e : l.toArray.size = n + (l.toArray.size - n) := by simp at hn ⊢; omega
  rw [e]
  refine HeadAll.any (fun ls a' w' hw' hL => ?_) n _ a _ (Bel.drew (Bel.refl w)) (by rw [← e]; exact H)
  have q := wpAny_of_seq (P := P) (md := .any) (Q' := Q) (l.drop n) n ls a' w' (fun j => by simp) (by simpa using hL.1) (hL.2 w' hw')
  simpa using q
end Tail
end Go.Proofs.YtkpoegnekeiieaaDoor
namespace Go.Proofs.YtkpoegnekeiieaaDoor
open Go.RowKit
theorem ret_bool {a b : Bool} (h : a = b) : Ending.returned (.bool a) = .returned (.bool b) := by rw [h]
theorem ret_int {k : IntKind} {a b : Int} (h : a = b) : Ending.returned (.int k a) = .returned (.int k b) := by rw [h]
def encN (c : Nat) : Value := .int .u8 (c : Int)
/-- A slice of bytes that lies in memory: it holds l. -/
structure Src (w : World) (a : Option Addr) (n c : Nat) (l : List Nat) : Prop where
  len : l.length = n
  small : ∀ x ∈ l, x ≤ 255
  nil : a = none → n = 0 ∧ c = 0
  cells : ∀ ad, a = some ad → ∀ j u, (l.map encN)[j]? = some u → w.cell? (ad.add j) = some u
  cap : n ≤ c
theorem Src.bel {w w' : World} {a : Option Addr} {n c : Nat} {l : List Nat} (h : Src w a n c l) (hb : Bel w w') : Src w' a n c l :=
  ⟨h.len, h.small, h.nil, fun ad e j u hu => (Below.cell hb (World.block_lt_of_cell? _ _ (h.cells ad e j u hu))).trans (h.cells ad e j u hu), h.cap⟩
theorem Src.at {w : World} {a : Option Addr} {n c : Nat} {l : List Nat} (h : Src w a n c l) (hn : 0 < n) : ∃ b off, a = some ⟨b, off, none⟩ ∧ ∀ j (hj : j < l.length), w.cell? ⟨b, off + j, none⟩ = some (.int .u8 ((l[j] : Nat) : Int)) := by
  cases ha : a with
  | none => have := (h.nil ha).1; omega
  | some ad =>
    have hl := h.len
    have h0 := h.cells ad ha 0 (encN (l[0]'(by omega))) (by rw [List.getElem?_map, List.getElem?_eq_getElem (by omega)]; rfl)
    obtain ⟨b, off, spot⟩ := ad
    have hspot : spot = none := by simpa [Addr.add] using World.cell?_spot h0
    subst hspot
    refine ⟨b, off, rfl, fun j hj => ?_⟩
    have := h.cells _ ha j (encN l[j]) (by rw [List.getElem?_map, List.getElem?_eq_getElem hj]; rfl)
    have e : (⟨b, off, none⟩ : Addr).add j = ⟨b, off + j, none⟩ := by unfold Addr.add; split <;> simp_all
    rw [e] at this
    exact this

/-- A block that holds l and more behind. -/
theorem Src.of_row {w : World} {b : Nat} {l : List Nat} {cs : Array Value} {t : TypeId} {fr : Nat × Nat} {n c : Nat} (hn : l.length = n) (hb : w.heap[b]? = some (.cells cs t fr)) (he : ∀ j (hj : j < l.length), cs[j]? = some (encN l[j])) (hs : ∀ x ∈ l, x ≤ 255) (hc : n ≤ c) :
    Src w (some ⟨b, 0, none⟩) n c l := by
  refine ⟨hn, hs, (fun e => by cases e), fun ad e j u hu => ?_, hc⟩
  cases e
  have e2 : (⟨b, 0, none⟩ : Addr).add j = ⟨b, j, none⟩ := by unfold Addr.add; split <;> simp_all
  rw [e2, cell_of_row w b j _ _ _ hb]
  rw [List.getElem?_map] at hu
  cases hl : l[j]? with
  | none => rw [hl] at hu; cases hu
  | some x =>
    rw [hl] at hu
    obtain ⟨hj, rfl⟩ := List.getElem?_eq_some_iff.1 hl
    rw [he j hj]; exact hu
def row (l : List Nat) : Array Value := (l.map encN).toArray
theorem row_get {l : List Nat} : ∀ j (hj : j < l.length), (row l)[j]? = some (encN l[j]) := by
  intro j hj
  simp [row, hj]
/-- A block that was just made holds l. -/
theorem Src.new (w : World) (l : List Nat) (t : TypeId) (fr : Nat × Nat) (hs : ∀ x ∈ l, x ≤ 255) : Src (w.alloc (.cells (row l) t fr)) (some ⟨w.heap.size, 0, none⟩) l.length l.length l :=
  Src.of_row rfl (World.alloc_heap_new w _) row_get hs (Nat.le_refl _)
theorem Bel.new (w : World) (o : Obj) : Bel w (w.alloc o) := (Below.refl _ _).alloc (Nat.le_refl _) _
theorem info5 : (Tryd.prog.info? 5).map (fun i => (i.zero, i.size, i.bytes)) = some (some (.int .u8 0), 1, 1) := by kernel_rfl
/-- Block g is l, whole. -/
def Row (w : World) (g : Nat) (l : List Nat) : Prop := w.heap[g]? = some (.cells (row l) 5 (0, 0))
theorem Row.lt {w : World} {g : Nat} {l : List Nat} (h : Row w g l) : g < w.heap.size := lt_of_block h
theorem Row.bel {w w' : World} {g : Nat} {l : List Nat} (h : Row w g l) (hb : Bel w w') : Row w' g l := (Below.block hb g h.lt).trans h
/-- A row of one's own, of full length. -/
theorem Row.of_owns {w : World} {base g n : Nat} {xs : List Value} {l : List Nat} (h : w.ownsRow base 5 1 (.slice (some ⟨g, 0, none⟩) n n) n xs) (hx : xs = l.map encN) (_ : l.length = n) : Row w g l := by
  rcases h.2 with ⟨h1, _⟩ | ⟨gg, cap, cur, hv, _, hh, _, _, hcs, htk⟩
  · simp at h1
  · simp only [Value.slice.injEq, Option.some.injEq, Addr.mk.injEq, and_true, true_and] at hv
    obtain ⟨rfl, rfl⟩ := hv
    have e : cur.toList = l.map encN := by
      rw [← hx, ← htk, List.take_of_length_le (by rw [Array.length_toList, hcs]; omega)]
    have e2 : cur = row l := by unfold row; rw [← e]
    rw [e2] at hh
    exact hh
theorem i5 : ∃ i, Tryd.prog.info? 5 = some i := by
  obtain ⟨i0, hi0, _⟩ := info_parts info5
  exact ⟨i0, hi0⟩
theorem Bel.alloc {w w' : World} (h : Bel w w') (o : Obj) : Bel w (w'.alloc o) := Below.alloc h h.size o
theorem Src.head {w : World} {a : Option Addr} {c : Nat} {x y : List Nat} {n : Nat} (h : Src w a n c (x ++ y)) : Src w a x.length c x :=
  ⟨rfl, fun q hq => h.small q (by simp [hq]), fun e => by
      have h2 := h.nil e
      have h3 := h.len
      simp at h3
      exact ⟨by omega, h2.2⟩,
    fun ad e j u hu => h.cells ad e j u (by rw [List.map_append, List.getElem?_append_left (List.getElem?_eq_some_iff.1 hu).1]; exact hu),
    by have := h.len; have := h.cap; simp at *; omega⟩
theorem Src.tail {w : World} {bb off c : Nat} {x y : List Nat} {n : Nat} (h : Src w (some ⟨bb, off, none⟩) n c (x ++ y)) : Src w (some ⟨bb, off + x.length, none⟩) y.length (c - x.length) y := by
  refine ⟨rfl, fun q hq => h.small q (by simp [hq]), fun e => (by cases e), fun ad e j u hu => ?_, by have := h.len; have := h.cap; simp at *; omega⟩
  cases e
  have hj : j < y.length := by have := (List.getElem?_eq_some_iff.1 hu).1; simpa using this
  have := h.cells _ rfl (x.length + j) u (by rw [List.map_append, List.getElem?_append_right (by simp)]; simpa using hu)
  have e1 : (⟨bb, off, none⟩ : Addr).add (x.length + j) = ⟨bb, off + (x.length + j), none⟩ := by unfold Addr.add; split <;> simp_all
  have e2 : (⟨bb, off + x.length, none⟩ : Addr).add j = ⟨bb, off + x.length + j, none⟩ := by unfold Addr.add; split <;> simp_all
  rw [e1] at this
  rw [e2, Nat.add_assoc]
  exact this
def marks6 : List Value := [.int .u8 201, .int .u8 202, .int .u8 203, .int .u8 204, .int .u8 205, .int .u8 206]
/-- Block g is l and six marks behind. -/
def Marked (w : World) (g : Nat) (l : List Nat) : Prop := w.heap[g]? = some (.cells (l.map encN ++ marks6).toArray 5 (0, 0))
theorem Marked.lt {w : World} {g : Nat} {l : List Nat} (h : Marked w g l) : g < w.heap.size := (Array.getElem?_eq_some_iff.1 h).1
theorem Marked.bel {w w' : World} {g : Nat} {l : List Nat} (h : Marked w g l) (hb : Bel w w') : Marked w' g l := (Below.block hb g h.lt).trans h
theorem row_form {w : World} {base : Nat} {e : TypeId} {size : Nat} {v : Value} {n : Nat} {xs : List Value} (h : w.ownsRow base e size v n xs) :
    ∃ (p : Option Addr) (cap : Nat), v = .slice p n cap ∧ n ≤ cap ∧ (p = none → n = 0 ∧ cap = 0) ∧ (0 < n → ∃ g, p = some ⟨g, 0, none⟩ ∧ base ≤ g ∧ g < w.heap.size ∧ ∀ j, j < n * size → w.cell? ⟨g, j, none⟩ = xs[j]?) := by
  rcases h.2 with ⟨h1, h2⟩ | ⟨g, cap, cur, hv2, hg, hh, hcap, r⟩
  · exact ⟨none, 0, by rw [h1, h2], by omega, fun _ => ⟨h2, rfl⟩, fun h => by omega⟩
  · subst hv2
    exact ⟨some ⟨g, 0, none⟩, cap, rfl, hcap, fun e => by (cases e), fun _ => ⟨g, rfl, hg, (Array.getElem?_eq_some_iff.1 hh).1, fun j hj => h.cellAt j hj⟩⟩
/-- A row of one's own is a slice that lies in memory. -/
theorem Src.of_owns {w : World} {base n : Nat} {v : Value} {l : List Nat} (h : w.ownsRow base 5 1 v n (l.map encN)) (hl : l.length = n) (hs : ∀ x ∈ l, x ≤ 255) : ∃ (p : Option Addr) (cap : Nat), v = .slice p n cap ∧ Src w p n cap l := by
  obtain ⟨p, cap, rfl, hcap, hnil, hc⟩ := row_form h
  refine ⟨p, cap, rfl, hl, hs, hnil, fun ad e j u hu => ?_, hcap⟩
  have hj : j < l.length := by have := (List.getElem?_eq_some_iff.1 hu).1; simpa using this
  obtain ⟨g, e2, _, _, hcell⟩ := hc (by omega)
  subst e
  cases e2
  have e3 : (⟨g, 0, none⟩ : Addr).add j = ⟨g, j, none⟩ := by unfold Addr.add; split <;> simp_all
  rw [e3, hcell j (by omega), hu]
theorem ownsRow_bel {w w' : World} {base : Nat} {e : TypeId} {size : Nat} {v : Value} {n : Nat} {xs : List Value} (h : w.ownsRow base e size v n xs) (hb : Below w.heap.size w w') : w'.ownsRow base e size v n xs := by
  refine ⟨h.1, ?_⟩
  rcases h.2 with h1 | ⟨g, cap, cur, hv, hg, hh, r⟩
  · exact .inl h1
  · exact .inr ⟨g, cap, cur, hv, hg, (hb.block g (Array.getElem?_eq_some_iff.1 hh).1).trans hh, r⟩
end Go.Proofs.YtkpoegnekeiieaaDoor
