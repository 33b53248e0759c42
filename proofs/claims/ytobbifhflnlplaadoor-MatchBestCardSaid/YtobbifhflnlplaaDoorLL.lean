/- Regions that draw their order, whose last operation may write what they read: a condition on the worlds that holds till the last one. -/
import Derived.Deep.RegionHeld

namespace Go.Last
open Go
section
variable {P : Program} {ops : Array Oper} {Q : Exit → Act → World → Prop} {md : Region.Mode} {S : World → Prop} {z : Nat}
def Till (S : World → Prop) (z i : Nat) (w : World) : Prop := i = z ∨ S w
theorem Till.of {z i : Nat} {w : World} (h : S w) : Till S z i w := .inr h
theorem Till.last {z : Nat} {w : World} : Till S z z w := .inl rfl
def Any (P : Program) (md : Region.Mode) (ops : Array Oper) (Q : Exit → Act → World → Prop) (S : World → Prop) (z : Nat) : Nat → Array Bool → Act → World → Prop
 | 0, l, a, w => Region.ready md ops l = [] ∧ Q .normal a w
 | n + 1, l, a, w => (Region.ready md ops l = [] → Q .normal a w) ∧ ∀ i ∈ Region.ready md ops l, wpOp P ops Q i (fun a' w' => Till S z i w' ∧ Any P md ops Q S z n (l.setIfInBounds i true) a' w') a w
theorem Any.plain : ∀ (n : Nat) (l : Array Bool) (a : Act) (w : World), Any P md ops Q S z n l a w → wpAny P md ops Q n l a w := by
 intro n
 induction n with
 | zero => exact fun _ _ _ h => h
 | succ n ih => exact fun l a w h => ⟨h.1, fun i hi => wpOp_mono (fun a' w' h' => ih _ a' w' h'.2) (h.2 i hi)⟩
def waits (md : Region.Mode) (ops : Array Oper) (z i : Nat) : Bool := match ops[z]? with
 | some o => o.after.any fun e => Region.binds md e && e.on == i
 | none => false
theorem waits_not {i : Nat} {l : Array Bool} (h : waits md ops z i = true) (hi : i ∈ Region.ready md ops l) : z ∉ Region.ready md ops l := fun hz => by
 obtain ⟨-, o, ho, hb⟩ := mem_ready.1 hz
 have hun := (mem_ready.1 hi).1
 unfold waits at h
 rw [ho] at h
 obtain ⟨q, hq, hx⟩ := Array.any_eq_true.1 h
 rw [Bool.and_eq_true, beq_iff_eq] at hx
 have hd := hb _ (Array.getElem_mem hq) hx.1
 rw [hx.2] at hd
 by_cases hs : i < l.size
 ·simp only [Array.getD_eq_getD_getElem?, Array.getElem?_eq_getElem hs, Option.getD_some] at hun hd
  rw [hun] at hd
  cases hd
 ·rw [Array.getD_eq_getD_getElem?, Array.getElem?_eq_none (Nat.le_of_not_lt hs)] at hd hun
  simp at hd hun
theorem first {i : Nat} {oi : Oper} {v : Value} (hi : ops[i]? = some oi) (hno : ∀ (j : Nat) (o : Oper) cs b, ops[j]? = some o → o.op ≠ .select cs b) (hQ : ∀ c a w, Q (.panic c) (a.put oi.dst v) w → Q (.panic c) a w) (hz : waits md ops z i = true) :
  ∀ (n : Nat) (l : Array Bool) (a : Act) (w : World), (∀ j oj, ops[j]? = some oj → j ≠ i → l.getD j true = false → (∀ e ∈ oj.after, Region.binds md e = true → e.on ≠ i) → oi.apart ops oj = true) →
   i ∈ Region.ready md ops l → YieldsIf P ops S oi v a → S w → Any P md ops Q S z n (l.setIfInBounds i true) (a.put oi.dst v) w → Any P md ops Q S z (n + 1) l a w := by
 intro n
 induction n with
 | zero =>
  rintro l a w - hr hy hS hA
  constructor
  ·intro e
   rw [e] at hr
   exact absurd hr (List.not_mem_nil)
  ·intro j hj
   by_cases e : j = i
   ·exact e ▸ hy.wpOp hi hS ⟨.inr hS, hA⟩
   ·exact absurd (ready_mono hj e) (by rw [hA.1]; exact List.not_mem_nil)
 | succ n ih =>
  intro l a w hap hr hy hS hA
  constructor
  ·intro e
   rw [e] at hr
   exact absurd hr (List.not_mem_nil)
  ·intro j hj
   by_cases e : j = i
   ·exact e ▸ hy.wpOp hi hS ⟨.inr hS, hA⟩
   ·obtain ⟨hju, oj, hoj, hbind⟩ := mem_ready.1 hj
    have hun := (mem_ready.1 hr).1
    have hnb : ∀ e ∈ oj.after, Region.binds md e = true → e.on ≠ i := by
     intro x hx hb hxi
     have hz := hbind x hx hb
     rw [hxi] at hz
     by_cases hs : i < l.size
     ·simp only [Array.getD_eq_getD_getElem?, Array.getElem?_eq_getElem hs, Option.getD_some] at hun hz
      rw [hun] at hz
      cases hz
     ·rw [Array.getD_eq_getD_getElem?, Array.getElem?_eq_none (Nat.le_of_not_lt hs)] at hz hun
      simp at hz hun
    refine wpOp_mono (fun a' w' h3 => ?_) (wpOp_putIf hoj (hap j oj hoj e hju hnb) (fun cs b => hno i oi cs b hi) (fun cs b => hno j oj cs b hoj) hQ hy (hA.2 j (ready_mono hj e)))
    have hS' : S w' := h3.2.1.resolve_left fun e' => waits_not hz hr (e' ▸ hj)
    refine ⟨.inr hS', ih _ a' w' (fun k ok hk hki hu hb => ?_) (ready_mono hr (fun e' => e e'.symm)) h3.1 hS' (by rw [Array.setIfInBounds_comm _ _ e]; exact h3.2.2)⟩
    refine hap k ok hk hki ?_ hb
    by_cases hjk : j = k
    ·exact hjk ▸ hju
    ·rw [getD_set_ne true hjk] at hu
     exact hu
theorem take {i : Nat} {oi : Oper} {v : Value} {n : Nat} {l : Array Bool} {a : Act} {w : World} (hi : ops[i]? = some oi) (hs : Region.noSelect ops = true) (hf : Region.free md ops l i = true) (hr : (Region.ready md ops l).contains i = true)
  (hQ : ∀ c a w, Q (.panic c) (a.put oi.dst v) w → Q (.panic c) a w) (hz : waits md ops z i = true) (hy : YieldsIf P ops S oi v a) (hS : S w) (h : Any P md ops Q S z n (l.setIfInBounds i true) (a.put oi.dst v) w) : Any P md ops Q S z (n + 1) l a w :=
 first hi (Region.noSelect_spec hs) hQ hz n l a w (Region.free_spec hi hf) (by simpa using hr) hy hS h
def Next (P : Program) (md : Region.Mode) (ops : Array Oper) (Q : Exit → Act → World → Prop) (S : World → Prop) (z n : Nat) (l : Array Bool) (a : Act) (w : World) (rs : List Nat) : Prop :=
 ∀ i ∈ rs, wpOp P ops Q i (fun a' w' => Till S z i w' ∧ Any P md ops Q S z n (l.setIfInBounds i true) a' w') a w
theorem Next.nil {n : Nat} {l : Array Bool} {a : Act} {w : World} : Next P md ops Q S z n l a w [] := fun _ h => absurd h List.not_mem_nil
theorem Next.cons {n : Nat} {l : Array Bool} {a : Act} {w : World} {i : Nat} {o : Oper} {rs : List Nat} (ho : ops[i]? = some o)
  (h : ∀ K : Act → World → Prop, Shut (∀ a w, Till S z i w → (Till S z i w → Any P md ops Q S z n (l.setIfInBounds i true) a w) → K a w) → if Region.wanted o (yielded ops a.tmps) = true then Oper.wp P o a w K Q else K (a.put o.dst undef) w)
  (hs : Next P md ops Q S z n l a w rs) : Next P md ops Q S z n l a w (i :: rs) := by
 intro j hj
 rcases List.mem_cons.1 hj with e | hj
 ·exact e ▸ wpOp_step ho fun K hK => h K fun a w hS hW => hK a w ⟨hS, hW hS⟩
 ·exact hs j hj
theorem ready {rs : List Nat} {n : Nat} {l : Array Bool} {a : Act} {w : World} (hr : Region.ready md ops l = rs) (hne : rs ≠ []) (h : Next P md ops Q S z n l a w rs) : Any P md ops Q S z (n + 1) l a w :=
 ⟨fun e => absurd (hr ▸ e) hne, hr ▸ h⟩
theorem done {l : Array Bool} {a : Act} {w : World} (hr : Region.ready md ops l = []) (h : Q .normal a w) (n : Nat) : Any P md ops Q S z n l a w := by
 cases n with
 | zero => exact ⟨hr, h⟩
 | succ n => exact ⟨fun _ => h, by rw [hr]; exact fun _ h => absurd h List.not_mem_nil⟩
theorem start {id : Nat} {a : Act} {w : World} (hm : P.follows .mixedOrders = true) (hS : S w.drew) (h : S w.drew → Any P .any ops Q S z ops.size (Array.replicate ops.size false) a w.drew) : (Code.region id ops true).wp P Q a w :=
 wp_region_any hm (Any.plain _ _ _ _ (h hS))
end
theorem pt : (∀ (a : Act) (v : Value), a.put none v = a) ∧ (∀ (ts : Array Value) (ds : List Deferred) (d : Nat) (v : Value), Act.put ⟨ts, ds⟩ (some d) v = ⟨ts.setIfInBounds d v, ds⟩) ∧
  (∀ (l : List Value) (i : Nat) (h : i < l.toArray.size), l.toArray[i] = l[i]'(by simpa using h)) ∧ (∀ (a : Value) (l : List Value) (i : Nat) (h : i + 1 < (a :: l).length), (a :: l)[i + 1] = l[i]'(by simpa using h)) ∧ (∀ (a : Value) (l : List Value) (h : 0 < (a :: l).length), (a :: l)[0] = a) ∧
  (∀ (l : List Value) (i : Nat) (v : Value), l.toArray.setIfInBounds i v = (l.set i v).toArray) ∧ (∀ (l : List Value) (a b : Value), (a :: l).set 0 b = b :: l) ∧ (∀ (l : List Value) (a b : Value) (n : Nat), (a :: l).set (n + 1) b = a :: l.set n b) :=
 ⟨fun _ _ => rfl, fun _ _ _ _ => rfl, fun _ _ _ => by simp, fun _ _ _ _ => rfl, fun _ _ _ => rfl, fun _ _ _ => by simp, fun _ _ _ => rfl, fun _ _ _ _ => rfl⟩
section
variable {P : Program} {ops : Array Oper} {Q : Exit → Act → World → Prop} {md : Region.Mode} {S : World → Prop} {z : Nat}
theorem one {n : Nat} {l : Array Bool} {a : Act} {w : World} (i : Nat) {o : Oper} (hr : Region.ready md ops l = [i]) (ho : ops[i]? = some o)
  (h : ∀ K : Act → World → Prop, Shut (∀ a w, Till S z i w → (Till S z i w → Any P md ops Q S z n (l.setIfInBounds i true) a w) → K a w) → if Region.wanted o (yielded ops a.tmps) = true then Oper.wp P o a w K Q else K (a.put o.dst undef) w) : Any P md ops Q S z (n + 1) l a w :=
 ready hr (by simp) (Next.cons ho h Next.nil)
theorem held {n : Nat} {l : Array Bool} {a : Act} {w : World} (i : Nat) {o : Oper} (hr : Region.ready md ops l = [i]) (ho : ops[i]? = some o)
  (h : ∀ K : Act → World → Prop, Shut (∀ a w, S w → (S w → wpAnyH P md ops Q S n (l.setIfInBounds i true) a w) → K a w) → if Region.wanted o (yielded ops a.tmps) = true then Oper.wp P o a w K Q else K (a.put o.dst undef) w) : wpAnyH P md ops Q S (n + 1) l a w :=
 wpAnyH_ready hr (by simp) (AllReadyH.cons ho h AllReadyH.nil)
end
end Go.Last
