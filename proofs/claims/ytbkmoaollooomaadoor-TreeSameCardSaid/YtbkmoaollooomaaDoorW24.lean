/- The law's Of: a tree as the document's. -/
import Derived.Test.YtbkmoaollooomaaDoorW22a
import Derived.Test.YtbkmoaollooomaaDoorW23
import Derived.Maps.AppendAt
namespace Go.Proofs.YtbkmoaollooomaaDoor
open Go.RowKit
open Go.Tree7
theorem infoRN : (Tryd.prog.info? 32).map (fun i => (i.zero, i.size, i.bytes)) = some (some (.agg #[.int .i64 0, .int .u64 0, .int .u64 0, .int .u64 0, .int .u64 0, .slice none 0 0, .int .i64 0, .int .i64 0, .string ⟨#[]⟩]), 9, 96) := by kernel_rfl
/-- What Of gives back: a tree that lies in new blocks; the same one, where there is room. -/
def GivesTree (left : Nat) (w : World) (t : T) (e : Ending) (w' : World) : Prop :=
  ∃ m : T, e = .returned (.tuple #[.agg m.cells.toArray, .int .i64 ((left - t.size : Nat) : Int)]) ∧ Below w.heap.size w w' ∧ (t.size < left → T.InP w' (fun b => w.heap.size ≤ b ∧ b < w'.heap.size) m ∧ m.strip = t.strip)
/-- The kids that were copied lie apart from the row. -/
def Kept (w : World) (b0 : Nat) (v : Value) (ms : List T) : Prop := ∀ t ∈ ms, T.InP w (fun b => b0 ≤ b ∧ b < w.heap.size ∧ v.ownBlock ≠ some b) t
theorem Kept.bel {w w' : World} {b0 : Nat} {v : Value} {ms : List T} (h : Kept w b0 v ms) (hb : Below w.heap.size w w') : Kept w' b0 v ms := fun t ht =>
  ((h t ht).keep (fun b hS => hb.block b hS.2.1)).imp fun _ hS => ⟨hS.1, Nat.lt_of_lt_of_le hS.2.1 hb.size, hS.2.2⟩
theorem Kept.grown {w w' : World} {b0 : Nat} {v v' : Value} {ms : List T} (h : Kept w b0 v ms) (hg : w.grownBy w' v.ownBlock) (ho : v'.ownBlock = v.ownBlock ∨ v'.ownBlock = some w.heap.size) : Kept w' b0 v' ms := fun t ht =>
  ((h t ht).keep (fun b hS => hg.block b hS.2.1 (fun e => hS.2.2 e.symm))).imp fun b hS => ⟨hS.1, Nat.lt_of_lt_of_le hS.2.1 hg.size, by
    rcases ho with ho | ho
    · rw [ho]; exact hS.2.2
    · rw [ho]; intro e; have := Option.some.inj e; omega⟩
theorem Kept.set {w : World} {b0 : Nat} {v : Value} {ms : List T} (h : Kept w b0 v ms) {a : Addr} (ha : a.block < b0) (u : Value) : Kept (w.setCell a u) b0 v ms := fun t ht =>
  ((h t ht).keep (fun b hS => Below.heap_setCell _ _ _ _ (by omega))).imp fun b hS => ⟨hS.1, by rw [size_set]; exact hS.2.1, hS.2.2⟩
/-- The loop's state. -/
structure OfSt (w wr : World) (k u0 u1 u2 u3 mn mx : Int) (tx : ByteArray) (ks : List T) (left j l : Nat) (p2 : Option Addr) (cap2 : Nat) (ms : List T) (sj : Nat) : Prop where
  len : ms.length = j
  lft : l = left - 1 - sj
  b6 : wr.heap[w.heap.size + 1 + 1]? = some (.cells #[.int .i64 k, .int .u64 u0, .int .u64 u1, .int .u64 u2, .int .u64 u3, .slice p2 j cap2, .int .i64 mn, .int .i64 mx, .string tx] 32 (0, 0))
  b4 : wr.heap[w.heap.size + 1]? = some (.cells #[.int .i64 0, .int .u64 0, .int .u64 0, .int .u64 0, .int .u64 0, .slice none 0 0, .int .i64 0, .int .i64 0, .string ⟨#[]⟩] 32 (0, 0))
  own : wr.ownsRow (w.heap.size + 3) 32 9 (.slice p2 j cap2) j (ms.flatMap T.cells)
  bel : Below w.heap.size w wr
  siz : w.heap.size + 3 ≤ wr.heap.size
  good : 1 + sj < left → Kept wr (w.heap.size + 3) (.slice p2 j cap2) ms ∧ ms.map T.strip = (ks.take j).map T.strip
theorem own_keep2 {w w' : World} {base size n : Nat} {e : TypeId} {v : Value} {xs : List Value} (h : w.ownsRow base e size v n xs) (hk : ∀ g, v.ownBlock = some g → g < w.heap.size → w'.heap[g]? = w.heap[g]?) : w'.ownsRow base e size v n xs := by
  refine ⟨h.1, ?_⟩
  rcases h.2 with h2 | ⟨g, cap, cur, rfl, h3, h4, h5⟩
  · exact .inl h2
  · exact .inr ⟨g, cap, cur, rfl, h3, (hk g rfl (Array.getElem?_eq_some_iff.1 h4).1).trans h4, h5⟩
theorem flat9 : ∀ (l : List T) (i j : Nat) (hi : i < l.length), j < 9 → (l.flatMap T.cells)[i * 9 + j]? = (l[i].cells)[j]? := by
  intro l
  induction l with
  | nil => intro i j hi; simp at hi
  | cons t l ih =>
    intro i j hi hj
    rw [List.flatMap_cons]
    cases i with
    | zero => rw [List.getElem?_append_left (by rw [T.cells_length]; omega)]; simp
    | succ i =>
      rw [List.getElem?_append_right (by rw [T.cells_length]; omega), T.cells_length, show (i + 1) * 9 + j - 9 = i * 9 + j by omega]
      exact ih i j (by simpa using hi) hj
/-- A tree whose kids lie in a row of one's own. -/
theorem inP_of_row {w : World} {b0 b1 : Nat} {tp : TypeId} {k u0 u1 u2 u3 : Int} {p : Option Addr} {cap : Nat} {mn mx : Int} {tx : ByteArray} {ms : List T} {n : Nat} (hn : ms.length = n) (hf : fits k u0 u1 u2 u3 mn mx tx) (h : w.ownsRow b0 tp 9 (.slice p n cap) n (ms.flatMap T.cells)) (hk : Kept w b0 (.slice p n cap) ms) (hb : b1 ≤ b0) :
    T.InP w (fun b => b1 ≤ b ∧ b < w.heap.size) (.mk k u0 u1 u2 u3 p cap mn mx tx ms) := by
  subst hn
  obtain ⟨p', cap', hv, hcap, hnil, hc⟩ := row_form h
  have hmax : cap ≤ maxLen := by
    rcases h.2 with ⟨e, -⟩ | ⟨g, cap', cur, e, -, -, -, hm, -⟩
    · simp only [Value.slice.injEq] at e; rw [e.2.2]; exact Nat.zero_le _
    · simp only [Value.slice.injEq] at e; rw [e.2.2]; exact hm
  simp only [Value.slice.injEq, true_and] at hv
  obtain ⟨rfl, rfl⟩ := hv
  refine .mk hcap hmax hf (fun i hi => ?_) (fun t ht => ((hk t ht).imp fun b hS => ⟨by omega, hS.2.1⟩))
  obtain ⟨g, rfl, h1, h2, hcell⟩ := hc (by omega)
  refine ⟨⟨g, 0, none⟩, rfl, ⟨by show b1 ≤ g; omega, h2⟩, fun j hj => ?_⟩
  have e : (⟨g, 0, none⟩ : Addr).add (i * 9 + j) = ⟨g, i * 9 + j, none⟩ := by unfold Addr.add; split <;> simp_all
  rw [e, hcell _ (by omega), flat9 ms i j hi hj]
theorem sum_take (ks : List T) {j : Nat} (hj : j < ks.length) : ((ks.take (j + 1)).map T.size).sum = ((ks.take j).map T.size).sum + ks[j].size := by
  rw [List.take_succ_eq_append_getElem hj, List.map_append, List.sum_append]
  simp only [List.map_cons, List.map_nil, List.sum_cons, List.sum_nil, Nat.add_zero]
theorem sum_le (ks : List T) (j : Nat) : ((ks.take j).map T.size).sum ≤ (ks.map T.size).sum := by
  have : (ks.map T.size).sum = ((ks.take j).map T.size).sum + ((ks.drop j).map T.size).sum := by
    rw [← List.sum_append, ← List.map_append, List.take_append_drop]
  omega
theorem len_sum (ks : List T) {j : Nat} (hj : j ≤ ks.length) : j ≤ ((ks.take j).map T.size).sum := by
  induction j with
  | zero => exact Nat.zero_le _
  | succ j ih =>
    rw [sum_take ks (by omega)]
    have := ih (by omega)
    have := T.size_pos (ks[j]'(by omega))
    omega
end Go.Proofs.YtbkmoaollooomaaDoor
