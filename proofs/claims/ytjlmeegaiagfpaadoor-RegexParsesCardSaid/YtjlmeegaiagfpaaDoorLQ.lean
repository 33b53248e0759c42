/- A region that draws its order, whose operations read cells that lay before it, and whose calls make memory of their own and leave all that lay as it lay: one walk in the order of the text serves every order. -/
import Derived.Deep.Quiet
import Derived.BigQuiet
import Derived.Below
import Derived.StillTail
namespace Go.Proofs.YtjlmeegaiagfpaaDoor
open Go.RowKit

/-- All that lay in W lies in w' as it lay. -/
def Bel (W w' : World) : Prop := Below W.heap.size W w'
theorem Bel.refl (W : World) : Bel W W := Below.refl _ _
theorem Bel.cell {W w' : World} (h : Bel W w') {p : Addr} {v : Value} (hp : p.block < W.heap.size) (hv : W.cell? p = some v) : w'.cell? p = some v := (Below.cell h hp).trans hv
theorem Bel.step {W w w' : World} (h : Bel W w) (h' : Below w.heap.size w w') : Bel W w' := Below.trans h (h'.mono h.size)

variable {P : Program} {ops : Array Oper} {C : World → Prop} {a : Act} {o : Oper} {K : Act → Prop}

theorem wp_region_bel {id : Nat} {Q : Exit → Act → World → Prop} {a : Act} {w : World} {l : List Oper} (hm : P.follows .mixedOrders = true) (hB : Region.lexB .any l.toArray = true)
    (h : wpQuiet P l.toArray (Bel w) (fun a' => ∀ w', Bel w w' → Q .normal a' w') l a) : (Code.region id l.toArray true).wp P Q a w :=
  wp_region_quiet (C := Bel w) hm hB (Below.drew (Below.refl _ _)) (by simpa using h)

theorem quiet_val (h : ∃ v, (∀ w, C w → (execOp a.eval o).run P w = .ok (.value v) w) ∧ K (a.put o.dst v)) : o.quiet P a C K :=
  let ⟨v, h1, h2⟩ := h
  ⟨v, fun w hC => by unfold Oper.quietAt; rw [h1 w hC]; exact ⟨rfl, rfl⟩, h2⟩
theorem quiet_call (f : FuncId) (h : ∃ args, (∀ w, C w → (execOp a.eval o).run P w = .ok (.enter f args) w) ∧ ∃ v, (∀ w, C w → Calls P f args w fun e w' => e = .returned v ∧ C w') ∧ K (a.put o.dst v)) : o.quiet P a C K :=
  let ⟨_, h1, v, h2, h3⟩ := h
  ⟨v, fun w hC => by unfold Oper.quietAt; rw [h1 w hC]; exact ⟨rfl, h2 w hC⟩, h3⟩
/-- A callee's contract met in the class. -/
theorem Calls.bel {P : Program} {f : FuncId} {args : Array Value} {W w : World} {v : Value} (hC : Bel W w) (h : Calls P f args w fun e w' => e = .returned v ∧ Below w.heap.size w w') :
    Calls P f args w fun e w' => e = .returned v ∧ Bel W w' := h.mono fun _ _ ⟨he, hb⟩ => ⟨he, hC.step hb⟩
theorem Bel.drew {W w : World} (h : Bel W w) : Bel W w.drew := Below.drew h

/-! ### A head that is quiet in a class, then a tail in one forced order (a store, most often) -/
section Tail
variable {md : Region.Mode} {n : Nat}

/-- Whatever order is picked, the operations below n come up first, f of them, each quiet in the class; then L. -/
def HeadAll (P : Program) (md : Region.Mode) (ops : Array Oper) (C : World → Prop) (n : Nat) (L : Array Bool → Act → Prop) : Nat → Array Bool → Act → Prop
  | 0, ls, a => L ls a
  | f + 1, ls, a => Region.ready md ops ls ≠ [] ∧ ∀ i ∈ Region.ready md ops ls, i < n ∧ qOp P ops C i (HeadAll P md ops C n L f (ls.setIfInBounds i true)) a

theorem HeadAll.any {L : Array Bool → Act → Prop} {g : Nat} {Q : Exit → Act → World → Prop} (hL : ∀ ls a w, C w → L ls a → wpAny P md ops Q g ls a w) :
    ∀ (f : Nat) (ls : Array Bool) (a : Act) (w : World), C w → HeadAll P md ops C n L f ls a → wpAny P md ops Q (f + g) ls a w := by
  intro f
  induction f with
  | zero => intro ls a w hw h; rw [Nat.zero_add]; exact hL ls a w hw h
  | succ f ih =>
    intro ls a w hw h
    have e : f + 1 + g = (f + g) + 1 := by omega
    rw [e]
    exact ⟨fun hn => absurd hn h.1, fun i hi => wpOp_of_qOp hw (fun a' w' hw' h' => ih _ a' w' hw' h') (h.2 i hi).2⟩

/-- An operation of the head that may come up and is apart from all that does not wait for it may be taken first. -/
theorem HeadAll.first {i : Nat} {oi : Oper} {v : Value} {L : Array Bool → Act → Prop} (hi : ops[i]? = some oi) (hsel : Region.noSelect ops = true)
    (hs : Region.sinkB md ops n = true) (hc : Region.chainB md ops n = true) (hn : n < ops.size) (hin : i < n) (hL : ∀ ls a, L ls a → ∀ j ∈ Region.ready md ops ls, n ≤ j) :
    ∀ (f : Nat) (ls : Array Bool) (a : Act), HeadInv md ops n ls →
      (∀ j oj, ops[j]? = some oj → j ≠ i → ls.getD j true = false → (∀ e ∈ oj.after, Region.binds md e = true → e.on ≠ i) → oi.apart ops oj = true) →
      i ∈ Region.ready md ops ls → YieldsIn P ops C oi v a → HeadAll P md ops C n L f (ls.setIfInBounds i true) (a.put oi.dst v) → HeadAll P md ops C n L (f + 1) ls a := by
  have sel := Region.noSelect_spec hsel
  -- what comes up beside i lies in the head
  have head : ∀ ls, HeadInv md ops n ls → i ∈ Region.ready md ops ls → ∀ j ∈ Region.ready md ops ls, j < n := fun ls inv hr j hj =>
    Nat.lt_of_not_le fun h => tail_waits hs hc hn inv _ i rfl hin (mem_ready.1 hr).1 j h hj
  intro f
  induction f with
  | zero =>
    intro ls a inv _ hr hy H
    refine ⟨List.ne_nil_of_mem hr, fun j hj => ⟨head ls inv hr j hj, ?_⟩⟩
    by_cases e : j = i
    · rw [e]; exact hy.qOp hi H
    · exact absurd (hL _ _ H j (ready_mono hj e)) (Nat.not_le_of_lt (head ls inv hr j hj))
  | succ f ih =>
    intro ls a inv free hr hy H
    refine ⟨List.ne_nil_of_mem hr, fun j hj => ⟨head ls inv hr j hj, ?_⟩⟩
    by_cases e : j = i
    · rw [e]; exact hy.qOp hi H
    · obtain ⟨hun, oj, hoj, hall⟩ := mem_ready.1 hj
      have apartJ : oi.apart ops oj = true := free j oj hoj e hun fun x hx hb hon => by
        have h1 := hall x hx hb
        rw [hon, getD_both (mem_ready.1 hr).1] at h1
        cases h1
      have inv' := inv.set hj (head ls inv hr j hj)
      refine qOp_mono (fun a' h' => ih _ a' inv' (fun k ok hk hki hk' hno => free k ok hk hki ?_ hno) (ready_mono hr (Ne.symm e)) h'.1 ?_)
        (qOp_put hoj apartJ (fun cs b => sel i oi cs b hi) (fun cs b => sel j oj cs b hoj) hy (H.2 j (ready_mono hj e)).2)
      · by_cases hjk : j = k
        · rw [← hjk]; exact hun
        · rwa [getD_set_ne true hjk] at hk'
      · rw [Array.setIfInBounds_comm _ _ e]; exact h'.2

theorem HeadAll.lex {g : Nat} {Lq : Act → Prop} (hsel : Region.noSelect ops = true) (hs : Region.sinkB md ops n = true) (hc : Region.chainB md ops n = true) (hn : n < ops.size) :
    ∀ (l : List Oper) (k : Nat) (ls : Array Bool) (a : Act), (∀ j, j < l.length → l[j]? = ops[k + j]?) → k + l.length = n → HeadInv md ops n ls →
    Region.lexHead md ops g l.length k ls = true → wpQuiet P ops C Lq l a → HeadAll P md ops C n (fun ls' a' => Region.seqB md ops g n ls' = true ∧ Lq a') l.length ls a := by
  intro l
  induction l with
  | nil =>
    intro k ls a _ hk _ hB h
    obtain rfl : k = n := by simpa using hk
    exact ⟨hB, h⟩
  | cons o l ih =>
    intro k ls a hl hk inv hB h
    simp only [List.length_cons] at hk hl
    simp only [List.length_cons, Region.lexHead, Bool.and_eq_true, List.contains_iff_mem] at hB
    obtain ⟨⟨hr, hf⟩, hB'⟩ := hB
    have h0 : ops[k]? = some o := by simpa using (hl 0 (by omega)).symm
    obtain ⟨v, hy, hK⟩ := yieldsIn_of_qOp (C := C) (K := wpQuiet P ops C Lq l) h0 (by unfold qOp; simp only [h0]; exact h)
    refine HeadAll.first h0 hsel hs hc hn (by omega) (fun ls' a' hL => seqB_ready hL.1) l.length ls a inv (Region.free_spec h0 hf) hr hy ?_
    exact ih (k + 1) _ _ (fun j hj => by have := hl (j + 1) (by omega); simpa [Nat.add_assoc, Nat.add_comm 1 j] using this) (by omega) (inv.set hr (by omega)) hB' hK

theorem wp_region_bel_tail {id : Nat} {Q : Exit → Act → World → Prop} {a : Act} {w : World} {l : List Oper} (n : Nat) (hm : P.follows .mixedOrders = true) (hB : Region.lexTailB .any l.toArray n = true)
    (h : wpQuiet P l.toArray (Bel w) (fun a' => ∀ w', Bel w w' → wpList P l.toArray Q (l.drop n) a' w') (l.take n) a) : (Code.region id l.toArray true).wp P Q a w := by
  simp only [Region.lexTailB, Bool.and_eq_true, decide_eq_true_eq] at hB
  obtain ⟨⟨⟨⟨hsel, hn⟩, hs⟩, hc⟩, hlex⟩ := hB
  have hlen : n + (l.length - n) = l.length := by simp at hn; omega
  refine wp_region_any hm ?_
  have inv : HeadInv .any l.toArray n (Array.replicate l.toArray.size false) :=
    ⟨by simp, fun j oj _ hl => (by rw [getD_replicate_false] at hl; cases hl), fun t _ ht => getD_in (by simpa using ht) (getD_replicate_false _ _)⟩
  have htake : (l.take n).length = n := by simp at hn ⊢; omega
  have H := HeadAll.lex (C := Bel w) (g := l.toArray.size - n) hsel hs hc hn (l.take n) 0 _ a (fun j hj => by
    have hj' : j < n := by rw [htake] at hj; exact hj
    simp [hj']) (by rw [htake]; omega) inv (by rw [htake]; exact hlex) h
  rw [htake] at H
  have e : l.toArray.size = n + (l.toArray.size - n) := by simp at hn ⊢; omega
  rw [e]
  refine HeadAll.any (fun ls a' w' hw' hL => ?_) n _ a _ (Bel.drew (Bel.refl w)) (by rw [← e]; exact H)
  have q := wpAny_of_seq (P := P) (md := .any) (Q' := Q) (l.drop n) n ls a' w' (fun j => by simp) (by simpa using hL.1) (hL.2 w' hw')
  simpa using q
end Tail
end Go.Proofs.YtjlmeegaiagfpaaDoor
