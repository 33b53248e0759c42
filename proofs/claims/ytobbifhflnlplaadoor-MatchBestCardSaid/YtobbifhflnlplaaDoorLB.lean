/- Texts merged: LQ, LB. -/
import Derived.Deep.Quiet
import Derived.BigQuiet
import Derived.Below
import Derived.StillTail
import Derived.WalkKit
import Derived.WalkLawsBesides
import Derived.WalkSpells
import Derived.Laws.BitsAllLaws
import Derived.Laws.BytesArg
import Derived.Laws.Rows
import Derived.Laws.AppendOwnNone
import Derived.Lib.Hide
import Derived.Lib.SlBytesConst
import Derived.OneCell
import Derived.OwnWalk
import Derived.RangeFuncRecord
import Derived.Maps.AppendAt
import Derived.Deep.RegionHeld3
import Derived.Test.YtobbifhflnlplaaDoorProg

namespace Go.Proofs.YtobbifhflnlplaaDoor
open Lib (hid)
open Go.RowKit

def Bel (W w' : World) : Prop := Below W.heap.size W w'
theorem Bel.refl (W : World) : Bel W W := Below.refl _ _
theorem Bel.cell {W w' : World} (h : Bel W w') {p : Addr} {v : Value} (hp : p.block < W.heap.size) (hv : W.cell? p = some v) : w'.cell? p = some v := (Below.cell h hp).trans hv
theorem Bel.step {W w w' : World} (h : Bel W w) (h' : Below w.heap.size w w') : Bel W w' := Below.trans h (h'.mono h.size)

variable {P : Program} {ops : Array Oper} {C : World → Prop} {a : Act} {o : Oper} {K : Act → Prop}

theorem wp_region_bel {id : Nat} {Q : Exit → Act → World → Prop} {a : Act} {w : World} {l : List Oper} (hm : P.follows .mixedOrders = true) (hB : Region.lexB .any l.toArray = true)
    (h : wpQuiet P l.toArray (Bel w) (fun a' => ∀ w', Bel w w' → Q .normal a' w') l a) : (Code.region id l.toArray true).wp P Q a w :=
  wp_region_quiet (C := Bel w) hm hB (Below.drew (Below.refl _ _)) (by simpa using h)

theorem quiet_val (h : ∃ v, (∀ w, C w → (execOp a.eval o).run P w = .ok (.value v) w) ∧ K (a.put o.dst v)) : o.quiet P a C K :=
  let ⟨v, h1, h2⟩ := h
  ⟨v, fun w hC => by unfold Oper.quietAt; rw [h1 w hC]; exact ⟨rfl, rfl⟩, h2⟩
theorem quiet_call (f : FuncId) (h : ∃ args, (∀ w, C w → (execOp a.eval o).run P w = .ok (.enter f args) w) ∧ ∃ v, (∀ w, C w → Calls P f args w fun e w' => e = .returned v ∧ C w') ∧ K (a.put o.dst v)) : o.quiet P a C K :=
  let ⟨_, h1, v, h2, h3⟩ := h
  ⟨v, fun w hC => by unfold Oper.quietAt; rw [h1 w hC]; exact ⟨rfl, h2 w hC⟩, h3⟩
theorem Calls.bel {P : Program} {f : FuncId} {args : Array Value} {W w : World} {v : Value} (hC : Bel W w) (h : Calls P f args w fun e w' => e = .returned v ∧ Below w.heap.size w w') :
    Calls P f args w fun e w' => e = .returned v ∧ Bel W w' := h.mono fun _ _ ⟨he, hb⟩ => ⟨he, hC.step hb⟩
theorem Bel.drew {W w : World} (h : Bel W w) : Bel W w.drew := Below.drew h

/-! ### A head that is quiet in a class, then a tail in one forced order (a store, most often) -/
section Tail
variable {md : Region.Mode} {n : Nat}

def HeadAll (P : Program) (md : Region.Mode) (ops : Array Oper) (C : World → Prop) (n : Nat) (L : Array Bool → Act → Prop) : Nat → Array Bool → Act → Prop
  | 0, ls, a => L ls a
  | f + 1, ls, a => Region.ready md ops ls ≠ [] ∧ ∀ i ∈ Region.ready md ops ls, i < n ∧ qOp P ops C i (HeadAll P md ops C n L f (ls.setIfInBounds i true)) a

theorem HeadAll.any {L : Array Bool → Act → Prop} {g : Nat} {Q : Exit → Act → World → Prop} (hL : ∀ ls a w, C w → L ls a → wpAny P md ops Q g ls a w) :
    ∀ (f : Nat) (ls : Array Bool) (a : Act) (w : World), C w → HeadAll P md ops C n L f ls a → wpAny P md ops Q (f + g) ls a w := by
  intro f
  induction f with
  | zero => intro ls a w hw h; rw [Nat.zero_add]; exact hL ls a w hw h
  | succ f ih =>
    intro ls a w hw h
    have e : f + 1 + g = (f + g) + 1 := by omega
    rw [e]
    exact ⟨fun hn => absurd hn h.1, fun i hi => wpOp_of_qOp hw (fun a' w' hw' h' => ih _ a' w' hw' h') (h.2 i hi).2⟩

theorem HeadAll.first {i : Nat} {oi : Oper} {v : Value} {L : Array Bool → Act → Prop} (hi : ops[i]? = some oi) (hsel : Region.noSelect ops = true)
    (hs : Region.sinkB md ops n = true) (hc : Region.chainB md ops n = true) (hn : n < ops.size) (hin : i < n) (hL : ∀ ls a, L ls a → ∀ j ∈ Region.ready md ops ls, n ≤ j) :
    ∀ (f : Nat) (ls : Array Bool) (a : Act), HeadInv md ops n ls →
      (∀ j oj, ops[j]? = some oj → j ≠ i → ls.getD j true = false → (∀ e ∈ oj.after, Region.binds md e = true → e.on ≠ i) → oi.apart ops oj = true) →
      i ∈ Region.ready md ops ls → YieldsIn P ops C oi v a → HeadAll P md ops C n L f (ls.setIfInBounds i true) (a.put oi.dst v) → HeadAll P md ops C n L (f + 1) ls a := by
  have sel := Region.noSelect_spec hsel
  -- what comes up beside i lies in the head
  have head : ∀ ls, HeadInv md ops n ls → i ∈ Region.ready md ops ls → ∀ j ∈ Region.ready md ops ls, j < n := fun ls inv hr j hj =>
    Nat.lt_of_not_le fun h => tail_waits hs hc hn inv _ i rfl hin (mem_ready.1 hr).1 j h hj
  intro f
  induction f with
  | zero =>
    intro ls a inv _ hr hy H
    refine ⟨List.ne_nil_of_mem hr, fun j hj => ⟨head ls inv hr j hj, ?_⟩⟩
    by_cases e : j = i
    · rw [e]; exact hy.qOp hi H
    · exact absurd (hL _ _ H j (ready_mono hj e)) (Nat.not_le_of_lt (head ls inv hr j hj))
  | succ f ih =>
    intro ls a inv free hr hy H
    refine ⟨List.ne_nil_of_mem hr, fun j hj => ⟨head ls inv hr j hj, ?_⟩⟩
    by_cases e : j = i
    · rw [e]; exact hy.qOp hi H
    · obtain ⟨hun, oj, hoj, hall⟩ := mem_ready.1 hj
      have apartJ : oi.apart ops oj = true := free j oj hoj e hun fun x hx hb hon => by
        have h1 := hall x hx hb
        rw [hon, getD_both (mem_ready.1 hr).1] at h1
        cases h1
      have inv' := inv.set hj (head ls inv hr j hj)
      refine qOp_mono (fun a' h' => ih _ a' inv' (fun k ok hk hki hk' hno => free k ok hk hki ?_ hno) (ready_mono hr (Ne.symm e)) h'.1 ?_)
        (qOp_put hoj apartJ (fun cs b => sel i oi cs b hi) (fun cs b => sel j oj cs b hoj) hy (H.2 j (ready_mono hj e)).2)
      · by_cases hjk : j = k
        · rw [← hjk]; exact hun
        · rwa [getD_set_ne true hjk] at hk'
      · rw [Array.setIfInBounds_comm _ _ e]; exact h'.2

theorem HeadAll.lex {g : Nat} {Lq : Act → Prop} (hsel : Region.noSelect ops = true) (hs : Region.sinkB md ops n = true) (hc : Region.chainB md ops n = true) (hn : n < ops.size) :
    ∀ (l : List Oper) (k : Nat) (ls : Array Bool) (a : Act), (∀ j, j < l.length → l[j]? = ops[k + j]?) → k + l.length = n → HeadInv md ops n ls →
    Region.lexHead md ops g l.length k ls = true → wpQuiet P ops C Lq l a → HeadAll P md ops C n (fun ls' a' => Region.seqB md ops g n ls' = true ∧ Lq a') l.length ls a := by
  intro l
  induction l with
  | nil =>
    intro k ls a _ hk _ hB h
    obtain rfl : k = n := by simpa using hk
    exact ⟨hB, h⟩
  | cons o l ih =>
    intro k ls a hl hk inv hB h
    simp only [List.length_cons] at hk hl
    simp only [List.length_cons, Region.lexHead, Bool.and_eq_true, List.contains_iff_mem] at hB
    obtain ⟨⟨hr, hf⟩, hB'⟩ := hB
    have h0 : ops[k]? = some o := by simpa using (hl 0 (by omega)).symm
    obtain ⟨v, hy, hK⟩ := yieldsIn_of_qOp (C := C) (K := wpQuiet P ops C Lq l) h0 (by unfold qOp; simp only [h0]; exact h)
    refine HeadAll.first h0 hsel hs hc hn (by omega) (fun ls' a' hL => seqB_ready hL.1) l.length ls a inv (Region.free_spec h0 hf) hr hy ?_
    exact ih (k + 1) _ _ (fun j hj => by have := hl (j + 1) (by omega); simpa [Nat.add_assoc, Nat.add_comm 1 j] using this) (by omega) (inv.set hr (by omega)) hB' hK

theorem wp_region_bel_tail {id : Nat} {Q : Exit → Act → World → Prop} {a : Act} {w : World} {l : List Oper} (n : Nat) (hm : P.follows .mixedOrders = true) (hB : Region.lexTailB .any l.toArray n = true)
    (h : wpQuiet P l.toArray (Bel w) (fun a' => ∀ w', Bel w w' → wpList P l.toArray Q (l.drop n) a' w') (l.take n) a) : (Code.region id l.toArray true).wp P Q a w := by
  simp only [Region.lexTailB, Bool.and_eq_true, decide_eq_true_eq] at hB
  obtain ⟨⟨⟨⟨hsel, hn⟩, hs⟩, hc⟩, hlex⟩ := hB
  have hlen : n + (l.length - n) = l.length := by simp at hn; omega
  refine wp_region_any hm ?_
  have inv : HeadInv .any l.toArray n (Array.replicate l.toArray.size false) :=
    ⟨by simp, fun j oj _ hl => (by rw [getD_replicate_false] at hl; cases hl), fun t _ ht => getD_in (by simpa using ht) (getD_replicate_false _ _)⟩
  have htake : (l.take n).length = n := by simp at hn ⊢; omega
  have H := HeadAll.lex (C := Bel w) (g := l.toArray.size - n) hsel hs hc hn (l.take n) 0 _ a (fun j hj => by
    have hj' : j < n := by rw [htake] at hj; exact hj
    simp [hj']) (by rw [htake]; omega) inv (by rw [htake]; exact hlex) h
  rw [htake] at H
  have e : l.toArray.size = n + (l.toArray.size - n) := by simp at hn ⊢; omega
  rw [e]
  refine HeadAll.any (fun ls a' w' hw' hL => ?_) n _ a _ (Bel.drew (Bel.refl w)) (by rw [← e]; exact H)
  have q := wpAny_of_seq (P := P) (md := .any) (Q' := Q) (l.drop n) n ls a' w' (fun j => by simp) (by simpa using hL.1) (hL.2 w' hw')
  simpa using q
end Tail
end Go.Proofs.YtobbifhflnlplaaDoor
namespace Go.Proofs.YtobbifhflnlplaaDoor
open Lib (hid)
open Go.RowKit
theorem ret_bool {a b : Bool} (h : a = b) : Ending.returned (.bool a) = .returned (.bool b) := by rw [h]
theorem ret_int {k : IntKind} {a b : Int} (h : a = b) : Ending.returned (.int k a) = .returned (.int k b) := by rw [h]
def encN (c : Nat) : Value := .int .u8 (c : Int)
structure Src (w : World) (a : Option Addr) (n c : Nat) (l : List Nat) : Prop where
  len : l.length = n
  small : ∀ x ∈ l, x ≤ 255
  nil : a = none → n = 0 ∧ c = 0
  cells : ∀ ad, a = some ad → ∀ j u, (l.map encN)[j]? = some u → w.cell? (ad.add j) = some u
  cap : n ≤ c
theorem Src.bel {w w' : World} {a : Option Addr} {n c : Nat} {l : List Nat} (h : Src w a n c l) (hb : Bel w w') : Src w' a n c l :=
  ⟨h.len, h.small, h.nil, fun ad e j u hu => (Below.cell hb (World.block_lt_of_cell? _ _ (h.cells ad e j u hu))).trans (h.cells ad e j u hu), h.cap⟩
theorem Src.at {w : World} {a : Option Addr} {n c : Nat} {l : List Nat} (h : Src w a n c l) (hn : 0 < n) : ∃ b off, a = some ⟨b, off, none⟩ ∧ ∀ j (hj : j < l.length), w.cell? ⟨b, off + j, none⟩ = some (.int .u8 ((l[j] : Nat) : Int)) := by
  cases ha : a with
  | none => have := (h.nil ha).1; omega
  | some ad =>
    have hl := h.len
    have h0 := h.cells ad ha 0 (encN (l[0]'(by omega))) (by rw [List.getElem?_map, List.getElem?_eq_getElem (by omega)]; rfl)
    obtain ⟨b, off, spot⟩ := ad
    have hspot : spot = none := by simpa [Addr.add] using World.cell?_spot h0
    subst hspot
    refine ⟨b, off, rfl, fun j hj => ?_⟩
    have := h.cells _ ha j (encN l[j]) (by rw [List.getElem?_map, List.getElem?_eq_getElem hj]; rfl)
    have e : (⟨b, off, none⟩ : Addr).add j = ⟨b, off + j, none⟩ := by unfold Addr.add; split <;> simp_all
    rw [e] at this
    exact this

theorem Src.of_row {w : World} {b : Nat} {l : List Nat} {cs : Array Value} {t : TypeId} {fr : Nat × Nat} {n c : Nat} (hn : l.length = n) (hb : w.heap[b]? = some (.cells cs t fr)) (he : ∀ j (hj : j < l.length), cs[j]? = some (encN l[j])) (hs : ∀ x ∈ l, x ≤ 255) (hc : n ≤ c) :
    Src w (some ⟨b, 0, none⟩) n c l := by
  refine ⟨hn, hs, (fun e => by cases e), fun ad e j u hu => ?_, hc⟩
  cases e
  have e2 : (⟨b, 0, none⟩ : Addr).add j = ⟨b, j, none⟩ := by unfold Addr.add; split <;> simp_all
  rw [e2, cell_of_row w b j _ _ _ hb]
  rw [List.getElem?_map] at hu
  cases hl : l[j]? with
  | none => rw [hl] at hu; cases hu
  | some x =>
    rw [hl] at hu
    obtain ⟨hj, rfl⟩ := List.getElem?_eq_some_iff.1 hl
    rw [he j hj]; exact hu
def row (l : List Nat) : Array Value := (l.map encN).toArray
theorem row_get {l : List Nat} : ∀ j (hj : j < l.length), (row l)[j]? = some (encN l[j]) := by
  intro j hj
  simp [row, hj]
theorem Src.new (w : World) (l : List Nat) (t : TypeId) (fr : Nat × Nat) (hs : ∀ x ∈ l, x ≤ 255) : Src (w.alloc (.cells (row l) t fr)) (some ⟨w.heap.size, 0, none⟩) l.length l.length l :=
  Src.of_row rfl (World.alloc_heap_new w _) row_get hs (Nat.le_refl _)
theorem Bel.new (w : World) (o : Obj) : Bel w (w.alloc o) := (Below.refl _ _).alloc (Nat.le_refl _) _
theorem info5 : (Tryd.prog.info? 5).map (fun i => (i.zero, i.size, i.bytes)) = some (some (.int .u8 0), 1, 1) := by kernel_rfl
def Row (w : World) (g : Nat) (l : List Nat) : Prop := w.heap[g]? = some (.cells (row l) 5 (0, 0))
theorem Row.lt {w : World} {g : Nat} {l : List Nat} (h : Row w g l) : g < w.heap.size := lt_of_block h
theorem Row.bel {w w' : World} {g : Nat} {l : List Nat} (h : Row w g l) (hb : Bel w w') : Row w' g l := (Below.block hb g h.lt).trans h
theorem Row.src {w : World} {g : Nat} {l : List Nat} (h : Row w g l) (hs : ∀ x ∈ l, x ≤ 255) : Src w (some ⟨g, 0, none⟩) l.length l.length l := Src.of_row rfl h row_get hs (Nat.le_refl _)
theorem Row.of_owns {w : World} {base g n : Nat} {xs : List Value} {l : List Nat} (h : w.ownsRow base 5 1 (.slice (some ⟨g, 0, none⟩) n n) n xs) (hx : xs = l.map encN) (_ : l.length = n) : Row w g l := by
  rcases h.2 with ⟨h1, _⟩ | ⟨gg, cap, cur, hv, _, hh, _, _, hcs, htk⟩
  · simp at h1
  · simp only [Value.slice.injEq, Option.some.injEq, Addr.mk.injEq, and_true, true_and] at hv
    obtain ⟨rfl, rfl⟩ := hv
    have e : cur.toList = l.map encN := by
      rw [← hx, ← htk, List.take_of_length_le (by rw [Array.length_toList, hcs]; omega)]
    have e2 : cur = row l := by unfold row; rw [← e]
    rw [e2] at hh
    exact hh
theorem i5 : ∃ i, Tryd.prog.info? 5 = some i := by
  obtain ⟨i0, hi0, _⟩ := info_parts info5
  exact ⟨i0, hi0⟩
theorem u5 : Tryd.prog.underlying 5 = some (.int .u8) := by kernel_rfl
theorem Bel.alloc {w w' : World} (h : Bel w w') (o : Obj) : Bel w (w'.alloc o) := Below.alloc h h.size o
theorem Src.head {w : World} {a : Option Addr} {c : Nat} {x y : List Nat} {n : Nat} (h : Src w a n c (x ++ y)) : Src w a x.length c x :=
  ⟨rfl, fun q hq => h.small q (by simp [hq]), fun e => by
      have h2 := h.nil e
      have h3 := h.len
      simp at h3
      exact ⟨by omega, h2.2⟩,
    fun ad e j u hu => h.cells ad e j u (by rw [List.map_append, List.getElem?_append_left (List.getElem?_eq_some_iff.1 hu).1]; exact hu),
    by have := h.len; have := h.cap; simp at *; omega⟩
theorem Src.tail {w : World} {bb off c : Nat} {x y : List Nat} {n : Nat} (h : Src w (some ⟨bb, off, none⟩) n c (x ++ y)) : Src w (some ⟨bb, off + x.length, none⟩) y.length (c - x.length) y := by
  refine ⟨rfl, fun q hq => h.small q (by simp [hq]), fun e => (by cases e), fun ad e j u hu => ?_, by have := h.len; have := h.cap; simp at *; omega⟩
  cases e
  have hj : j < y.length := by have := (List.getElem?_eq_some_iff.1 hu).1; simpa using this
  have := h.cells _ rfl (x.length + j) u (by rw [List.map_append, List.getElem?_append_right (by simp)]; simpa using hu)
  have e1 : (⟨bb, off, none⟩ : Addr).add (x.length + j) = ⟨bb, off + (x.length + j), none⟩ := by unfold Addr.add; split <;> simp_all
  have e2 : (⟨bb, off + x.length, none⟩ : Addr).add j = ⟨bb, off + x.length + j, none⟩ := by unfold Addr.add; split <;> simp_all
  rw [e1] at this
  rw [e2, Nat.add_assoc]
  exact this
def strN (ys : List Nat) : ByteArray := strOfNums (ys.map fun c : Nat => (c : Int))
theorem u24 : Tryd.prog.underlying 28 = some (.slice 5) := by kernel_rfl
theorem u9 : Tryd.prog.underlying 9 = some .string := by kernel_rfl
theorem Src.conv {w : World} {a : Option Addr} {n c : Nat} {l : List Nat} (h : Src w a n c l) : (convert 28 9 (.slice a n c)).run Tryd.prog w = .ok (.string (strN l)) w := by
  have hl := h.len
  rcases Nat.eq_zero_or_pos n with h0 | h0
  · subst h0
    obtain rfl : l = [] := List.length_eq_zero_iff.1 hl
    cases a with
    | none => rw [run_convert_bytes_nil w 28 5 u24 u5 _ _ 9 u9]; rfl
    | some a =>
      rw [run_convert_bytes_string w 28 9 5 (some a) _ c u24 u5 u9]
      exact run_bytesToString (P := Tryd.prog) w a 0 c [] (by simp [loadCells, loadCellsFrom])
  · obtain ⟨b, off, rfl, hc⟩ := h.at h0
    refine run_convert_bytes_arg w 28 5 u24 u5 b off n c _ (by simpa using hl) (fun i hi => ?_) 9 u9
    rw [hc i (by omega)]
    simp [show i < l.length by omega]

def marks6 : List Value := [.int .u8 201, .int .u8 202, .int .u8 203, .int .u8 204, .int .u8 205, .int .u8 206]
def Marked (w : World) (g : Nat) (l : List Nat) : Prop := w.heap[g]? = some (.cells (l.map encN ++ marks6).toArray 5 (0, 0))
def GivesMarked (w0 : World) (l : List Nat) (n : Nat) (e : Ending) (w' : World) : Prop := ∃ g, e = .returned (.slice (some ⟨g, 0, none⟩) n (n + 6)) ∧ w0.heap.size ≤ g ∧ Marked w' g l ∧ Below w0.heap.size w0 w'

theorem cell_six_new (w : World) (t : TypeId) : ∀ j u, marks6[j]? = some u → (w.alloc (.cells #[.int .u8 201, .int .u8 202, .int .u8 203, .int .u8 204, .int .u8 205, .int .u8 206] t)).cell? ((⟨w.heap.size, 0, none⟩ : Addr).add j) = some u := by
  intro j u hj
  match j, hj with
  | 0, hj => simp [marks6] at hj; subst hj; simp [Addr.add]
  | 1, hj => simp [marks6] at hj; subst hj; simp [Addr.add]
  | 2, hj => simp [marks6] at hj; subst hj; simp [Addr.add]
  | 3, hj => simp [marks6] at hj; subst hj; simp [Addr.add]
  | 4, hj => simp [marks6] at hj; subst hj; simp [Addr.add]
  | 5, hj => simp [marks6] at hj; subst hj; simp [Addr.add]
  | n + 6, hj => simp [marks6] at hj

set_option maxRecDepth 10000 in
set_option maxHeartbeats 2000000 in
theorem bytes_in (a : Option Addr) (n c : Nat) (l : List Nat) (hn : n ≤ 100000) (w : World) (hs : Src w a n c l) :
    Calls Tryd.prog 9 #[.slice a n c] w (GivesMarked w l n) := by
  obtain ⟨i0, hi, hz0, hz1, hz2⟩ := info_parts info5
  have hlen := hs.len
  have hnil := hs.nil
  have hcl := hs.cells
  replace hlen := hid hlen
  replace hnil := hid hnil
  replace hcl := hid hcl
  clear hs
  go_enter Tryd.func9, Tryd.ntmps9
  go_wp2_with (first
    | (at_make; refine wpList_make_own _ rfl _ _ 28 rfl w.heap.size 5 i0 (.int .u8 0) 1 Tryd.underlying28 hi hz0 hz1 .i64 .i64 _ (n + 6) rfl rfl (by omega) (by rw [hz2]; omega) (by simp [maxLen]; omega) (Nat.le_refl _) ?_; intro w1 hown hg1)
    | (at_builtin; refine wpList_append_fits_any _ rfl _ _ 28 rfl w.heap.size 5 i0 1 Tryd.underlying28 hi hz1 w.heap.size 0 (n + 6) [] rfl hown a n c (l.map encN) rfl (by simp [hlen.out]) hnil.out (fun ad e j u hu => (hg1.block _ (World.block_lt_of_cell? _ _ (hcl.out ad e j u hu)) (by simp) |> World.cell?_of_block).trans (hcl.out ad e j u hu)) (by intro u hu; obtain ⟨x, _, rfl⟩ := List.mem_map.1 hu; rfl) (by omega) ?_; intro w2 hown2 hg2; clear hown; simp only [Nat.zero_add, List.nil_append] at hown2)
    | (at_builtin; refine wpList_append_fits _ rfl _ _ 28 rfl w.heap.size 5 i0 1 Tryd.underlying28 hi hz1 w.heap.size n (n + 6) (l.map encN) rfl (hown2.alloc _) ⟨_, 0, none⟩ 6 6 marks6 rfl rfl (cell_six_new _ _) (by simp [marks6, Value.oneCell']) (by omega) ?_; intro w3 hown3 hg3; clear hown2))
  go_ret
  refine ⟨w.heap.size, rfl, Nat.le_refl _, ?_, ?_⟩
  · rcases hown3.2 with ⟨h1, _⟩ | ⟨gg, cap, cur, hv, _, hh, _, _, hcs, htk⟩
    · simp at h1
    · simp only [Value.slice.injEq, Option.some.injEq, Addr.mk.injEq, and_true, true_and] at hv
      obtain ⟨rfl, rfl⟩ := hv
      have e : cur.toList = l.map encN ++ marks6 := by
        rw [← htk, List.take_of_length_le (by rw [Array.length_toList, hcs]; omega)]
      have e2 : cur = (l.map encN ++ marks6).toArray := by rw [← e]
      rw [e2] at hh
      exact hh
  · have b1 := (Below.refl w.heap.size w).grown hg1 (Nat.le_refl _) (fun k e => by cases e)
    have b2 := b1.grown hg2 b1.size (fun k e => by cases e; exact Nat.le_refl _)
    exact (b2.alloc b2.size _).grown hg3 (by have := b2.size; simp; omega) (fun k e => by cases e; exact Nat.le_refl _)

theorem marked_cell {w : World} {g : Nat} {l : List Nat} (h : Marked w g l) : (∀ j (hj : j < l.length), w.cell? ⟨g, j, none⟩ = some (.int .u8 ((l[j] : Nat) : Int))) ∧ (∀ k, k < 6 → w.cell? ⟨g, l.length + k, none⟩ = some (.int .u8 (201 + (k : Int)))) := by
  have hc := fun j => cell_of_row w g j _ _ (0, 0) h
  refine ⟨fun j hj => ?_, fun k hk => ?_⟩
  · rw [hc j, List.getElem?_toArray, List.getElem?_append_left (by simpa using hj)]
    simp [encN, hj]
  · rw [hc (l.length + k), List.getElem?_toArray, List.getElem?_append_right (by simp)]
    have : l.length + k - (l.map encN).length = k := by simp
    rw [this]
    have : k = 0 ∨ k = 1 ∨ k = 2 ∨ k = 3 ∨ k = 4 ∨ k = 5 := by omega
    rcases this with rfl | rfl | rfl | rfl | rfl | rfl <;> rfl
theorem Marked.lt {w : World} {g : Nat} {l : List Nat} (h : Marked w g l) : g < w.heap.size := (Array.getElem?_eq_some_iff.1 h).1
theorem Marked.bel {w w' : World} {g : Nat} {l : List Nat} (h : Marked w g l) (hb : Bel w w') : Marked w' g l := (Below.block hb g h.lt).trans h
theorem Marked.conv {w : World} {g : Nat} {l : List Nat} {cap : Nat} (h : Marked w g l) : (convert 28 9 (.slice (some ⟨g, 0, none⟩) l.length cap)).run Tryd.prog w = .ok (.string (strN l)) w := by
  refine run_convert_bytes_arg w 28 5 u24 u5 g 0 l.length cap _ (by simp) (fun i hi => ?_) 9 u9
  rw [Nat.zero_add, (marked_cell h).1 i hi]
  simp [hi]
set_option maxRecDepth 10000 in
set_option maxHeartbeats 2000000 in
theorem kept_in (a : Option Addr) (c g : Nat) (l : List Nat) (hm : l.length ≤ 100000) (w : World) (hs : Src w a l.length c l) (hg : Marked w g l) :
    Calls Tryd.prog 16 #[.slice (some ⟨g, 0, none⟩) l.length (l.length + 6), .slice a l.length c] w fun e w' => e = .returned (.bool true) ∧ Below w.heap.size w w' := by
  have hcap := hs.cap
  have cv1 : ∀ w', Bel w w' → (convert 28 9 (.slice (some ⟨g, 0, none⟩) l.length (l.length + 6))).run Tryd.prog w' = .ok (.string (strN l)) w' := fun w' h => (hg.bel h).conv
  have cv2 : ∀ w', Bel w w' → (convert 28 9 (.slice a l.length c)).run Tryd.prog w' = .ok (.string (strN l)) w' := fun w' h => (hs.bel h).conv
  generalize hn : l.length = n at *
  replace hs := hid hs
  replace hg := hid hg
  replace hn := hid hn
  have m1 : IntKind.i64.wrap ((n : Int) + 6) = (n : Int) + 6 := by rw [IntKind.wrap_i64]; omega
  have m2 : (0 : Int) ≤ (n : Int) := by omega
  have m3 : (n : Int) ≤ ((n + 6 : Nat) : Int) := by omega
  have m4 : (n : Int) ≤ (n : Int) + 6 := by omega
  go_enter Tryd.func16, Tryd.ntmps16
  go_wp2_with fail
  refine wp_region_bel (by kernel_rfl) (by kernel_rfl) ?_
  repeat (first
    | go_big_quiet_skip
    | (go_big_quiet_want
       first
         | (refine BigFrame.quiet_move _ rfl ?_
            simp only [Act.put, Act.eval, List.setIfInBounds_toArray, List.set_cons_zero, List.set_cons_succ, List.getD_toArray, List.getD_cons_zero, List.getD_cons_succ]
            go_big_quiet_on)
         | (refine BigFrame.quiet_assign _ rfl ?_
            simp only [Act.put, Act.eval, List.setIfInBounds_toArray, List.set_cons_zero, List.set_cons_succ, List.getD_toArray, List.getD_cons_zero, List.getD_cons_succ]
            go_big_quiet_on)
         | (refine quiet_val ?_
            apply Exists.intro
            refine ⟨fun w' hC => ?_, ?_⟩
            · go_simp
              with_reducible rfl
            simp only [Act.put, List.setIfInBounds_toArray, List.set_cons_zero, List.set_cons_succ]
            go_big_quiet_on)))
  refine wpQuiet_nil ?_
  intro wq hq

  have hmk := (hg.out.bel hq)
  have hck := (marked_cell hmk).2
  rw [hn.out] at hck
  replace hck := hid hck
  have hq2 := hid hq
  clear cv1 cv2 m1 m2 m3 m4 hmk hq
  go_wp2_with fail
  go_loop [6] (fun i => ∃ k : Nat, k ≤ 6 ∧ i = .int .i64 k) (fun i => 6 - (intOf i).toNat)
  case atStart => exact ⟨0, by omega, rfl⟩
  case round =>
    obtain ⟨k, hk, rfl⟩ := hrel
    by_cases hlt : k < 6
    · have hc := hck.out k hlt
      go_wp2
      go_round
      case rel => exact ⟨k + 1, by omega, by go_num⟩
      case measure => simp [intOf]; omega
    · have e : k = 6 := by omega
      subst e
      go_wp2
      go_ret
      exact ⟨rfl, hq2.out⟩
theorem row_form {w : World} {base : Nat} {e : TypeId} {size : Nat} {v : Value} {n : Nat} {xs : List Value} (h : w.ownsRow base e size v n xs) :
    ∃ (p : Option Addr) (cap : Nat), v = .slice p n cap ∧ n ≤ cap ∧ (p = none → n = 0 ∧ cap = 0) ∧ (0 < n → ∃ g, p = some ⟨g, 0, none⟩ ∧ base ≤ g ∧ g < w.heap.size ∧ ∀ j, j < n * size → w.cell? ⟨g, j, none⟩ = xs[j]?) := by
  rcases h.2 with ⟨h1, h2⟩ | ⟨g, cap, cur, hv2, hg, hh, hcap, r⟩
  · exact ⟨none, 0, by rw [h1, h2], by omega, fun _ => ⟨h2, rfl⟩, fun h => by omega⟩
  · subst hv2
    exact ⟨some ⟨g, 0, none⟩, cap, rfl, hcap, fun e => by (cases e), fun _ => ⟨g, rfl, hg, (Array.getElem?_eq_some_iff.1 hh).1, fun j hj => h.cellAt j hj⟩⟩
theorem Src.of_owns {w : World} {base n : Nat} {v : Value} {l : List Nat} (h : w.ownsRow base 5 1 v n (l.map encN)) (hl : l.length = n) (hs : ∀ x ∈ l, x ≤ 255) : ∃ (p : Option Addr) (cap : Nat), v = .slice p n cap ∧ Src w p n cap l := by
  obtain ⟨p, cap, rfl, hcap, hnil, hc⟩ := row_form h
  refine ⟨p, cap, rfl, hl, hs, hnil, fun ad e j u hu => ?_, hcap⟩
  have hj : j < l.length := by have := (List.getElem?_eq_some_iff.1 hu).1; simpa using this
  obtain ⟨g, e2, _, _, hcell⟩ := hc (by omega)
  subst e
  cases e2
  have e3 : (⟨g, 0, none⟩ : Addr).add j = ⟨g, j, none⟩ := by unfold Addr.add; split <;> simp_all
  rw [e3, hcell j (by omega), hu]
theorem ownsRow_bel {w w' : World} {base : Nat} {e : TypeId} {size : Nat} {v : Value} {n : Nat} {xs : List Value} (h : w.ownsRow base e size v n xs) (hb : Below w.heap.size w w') : w'.ownsRow base e size v n xs := by
  refine ⟨h.1, ?_⟩
  rcases h.2 with h1 | ⟨g, cap, cur, hv, hg, hh, r⟩
  · exact .inl h1
  · exact .inr ⟨g, cap, cur, hv, hg, (hb.block g (Array.getElem?_eq_some_iff.1 hh).1).trans hh, r⟩
theorem Marked.src {w : World} {g : Nat} {l : List Nat} (h : Marked w g l) (hs : ∀ x ∈ l, x ≤ 255) : Src w (some ⟨g, 0, none⟩) l.length (l.length + 6) l :=
  Src.of_row rfl h (fun j hj => by rw [List.getElem?_toArray, List.getElem?_append_left (by simpa using hj)]; simp [hj]) hs (by omega)
end Go.Proofs.YtobbifhflnlplaaDoor
