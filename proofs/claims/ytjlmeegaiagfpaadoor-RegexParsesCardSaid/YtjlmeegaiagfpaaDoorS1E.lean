/- Texts of earlier layers, merged: S1W12, S1W13, S1W14, S1W15, S1W16. -/
import Derived.Test.YtjlmeegaiagfpaaDoorS1C
import Derived.WalkSmall
import Derived.OwnWalk
import Derived.Laws.BytesArg
namespace Go.Proofs.YtjlmeegaiagfpaaDoor.S1
open Go.RowKit Go.Shelf

attribute [local go_sem] Oper.semAt_some

theorem boxed_own' {X Y : World} {row : Option Nat} {B : Nat} {t : TypeId} {v : Value} (hs : Boxed X B t v) (hg : X.grownBy Y row) (hr : ∀ b, row = some b → ∃ o, X.heap[b]? = some o ∧ o.isCells = false) : Boxed Y B t v :=
  boxed_own B t (fun _ : Unit => v) () X Y row hs hg hr
/-- The member at place n. -/
def nthS (f : Nat → Bool) (n : Int) : Int := if 0 ≤ n then (match (el f 256)[n.toNat]? with | some c => (c : Int) | none => -1) else -1

def GivesNth (w0 : World) (ys : List Nat) (n : Int) (e : Ending) (w' : World) : Prop :=
  ∃ r : Int, e = .returned (.int .i64 r) ∧ r = (if 0 ≤ n then (match ys[n.toNat]? with | some c => (c : Int) | none => -1) else -1) ∧ Below w0.heap.size w0 w'

end Go.Proofs.YtjlmeegaiagfpaaDoor.S1

namespace Go.Proofs.YtjlmeegaiagfpaaDoor.S1
open Go.RowKit Go.Shelf

theorem ownsRow_bel {w w' : World} {base : Nat} {e : TypeId} {size : Nat} {v : Value} {n : Nat} {xs : List Value} (h : w.ownsRow base e size v n xs) (hb : Below w.heap.size w w') : w'.ownsRow base e size v n xs := by
  refine ⟨h.1, ?_⟩
  rcases h.2 with h1 | ⟨g, cap, cur, hv, hg, hh, r⟩
  · exact .inl h1
  · exact .inr ⟨g, cap, cur, hv, hg, (hb.block g (Array.getElem?_eq_some_iff.1 hh).1).trans hh, r⟩
theorem Blk4.grown {w w1 : World} {b : Nat} {t : TypeId} {v0 v1 v2 v3 : Value} {base : Nat} {e : TypeId} {size : Nat} {v : Value} {n : Nat} {xs : List Value} {tmp : Obj} (h : Blk4 w b t v0 v1 v2 v3)
    (hrow : w.ownsRow base e size v n xs) (hte : t ≠ e) (hg : (w.alloc tmp).grownBy w1 v.ownBlock) : Blk4 w1 b t v0 v1 v2 v3 := by
  have h1 := h.alloc tmp
  refine (hg.block b h1.lt ?_).trans h1
  rcases hrow.2 with ⟨rfl, _⟩ | ⟨g, cap, cur, rfl, _, hgb, _⟩
  · simp [Value.ownBlock]
  · intro e'
    obtain rfl : b = g := by simpa [Value.ownBlock] using e'
    have := (show w.heap[b]? = _ from h).symm.trans hgb
    simp at this
    exact hte this.2
theorem below_grown {a w w1 : World} {B : Nat} {e : TypeId} {size : Nat} {v : Value} {n : Nat} {xs : List Value} {tmp : Obj} (h : Below B a w) (hB : B ≤ w.heap.size)
    (hrow : w.ownsRow B e size v n xs) (hg : (w.alloc tmp).grownBy w1 v.ownBlock) : Below B a w1 :=
  (h.alloc hB tmp).grown hg (by simp; omega) fun k ek => (hrow.lt k ek).1

def encN (c : Nat) : Value := .int .u8 (c : Int)
end Go.Proofs.YtjlmeegaiagfpaaDoor.S1

namespace Go.Proofs.YtjlmeegaiagfpaaDoor.S1
open Go.RowKit Go.Shelf

def enA (f : Nat → Bool) (k : Nat) : List Nat := if k = 0 ∨ f (k - 1) = false then [k] else []
def enZ (f : Nat → Bool) (k : Nat) : List Nat := if k = 255 ∨ f (k + 1) = false then [k] else []
/-- The beginnings and ends met below p. -/
def en (f : Nat → Bool) : Nat → List Nat
  | 0 => []
  | p + 1 => if f p = true then en f p ++ enA f p ++ enZ f p else en f p
theorem en_len (f : Nat → Bool) (p : Nat) : (en f p).length ≤ 2 * p := by
  induction p with
  | zero => simp [en]
  | succ p ih =>
    rw [en]
    split
    · simp only [List.length_append, enA, enZ]; split <;> split <;> simp <;> omega
    · omega
def flat (ps : List (Nat × Nat)) : List Nat := ps.flatMap fun p => [p.1, p.2]
theorem flat_snoc (ps : List (Nat × Nat)) (a b : Nat) : flat (ps ++ [(a, b)]) = flat ps ++ [a, b] := by simp [flat]
theorem flat_len (ps : List (Nat × Nat)) : (flat ps).length = 2 * ps.length := by
  induction ps with
  | nil => rfl
  | cons p ps ih => simp only [flat, List.flatMap_cons, List.length_append, List.length_cons, List.length_nil] at *; omega
theorem flat_at (ps : List (Nat × Nat)) : ∀ {k : Nat} (h : k < ps.length), (flat ps)[2 * k]? = some ps[k].1 ∧ (flat ps)[2 * k + 1]? = some ps[k].2 := by
  induction ps with
  | nil => intro k h; simp at h
  | cons p ps ih =>
    intro k h
    have e : flat (p :: ps) = p.1 :: p.2 :: flat ps := by simp [flat]
    rw [e]
    cases k with
    | zero => exact ⟨rfl, rfl⟩
    | succ k =>
      have := ih (k := k) (by simp at h; omega)
      have e1 : 2 * (k + 1) = 2 * k + 1 + 1 := by omega
      rw [e1]
      simpa using this

theorem en_flat (f : Nat → Bool) : ∀ p, p ≤ 256 → (if 0 < p ∧ p < 256 ∧ f (p - 1) = true ∧ f p = true then en f p ++ [p - 1] else en f p) = flat (spAll (el f p)) := by
  intro p
  induction p with
  | zero => intro _; simp [en, el, spAll, flat]
  | succ p ih =>
    intro hp
    have ih := ih (by omega)
    obtain ⟨i1, i2, i3⟩ := spAll_el f p (by omega)
    cases hf : f p
    · have c1 : ¬ (0 < p ∧ p < 256 ∧ f (p - 1) = true ∧ f p = true) := by simp [hf]
      have c2 : ¬ (0 < p + 1 ∧ p + 1 < 256 ∧ f (p + 1 - 1) = true ∧ f (p + 1) = true) := by simp [hf]
      rw [if_neg c1] at ih
      rw [if_neg c2, el_snoc_miss hf, ← ih, en, if_neg (by simp [hf])]
    · have hen : en f (p + 1) = en f p ++ enA f p ++ enZ f p := by rw [en, if_pos hf]
      rw [el_snoc_hit hf, spAll_snoc, Nat.mod_eq_of_lt (by omega : p < 256)]
      -- what is told of p at the end
      have hz : (if 0 < p + 1 ∧ p + 1 < 256 ∧ f (p + 1 - 1) = true ∧ f (p + 1) = true then en f (p + 1) ++ [p + 1 - 1] else en f (p + 1)) = en f p ++ enA f p ++ [p] := by
        rw [hen]
        unfold enZ
        by_cases hc : p = 255 ∨ f (p + 1) = false
        · have : ¬ (0 < p + 1 ∧ p + 1 < 256 ∧ f (p + 1 - 1) = true ∧ f (p + 1) = true) := by
            rcases hc with h | h
            · omega
            · simp [h]
          rw [if_neg this, if_pos hc]
        · have h1 : f (p + 1) = true := by
            cases h : f (p + 1)
            · exact absurd (.inr h) hc
            · rfl
          have : 0 < p + 1 ∧ p + 1 < 256 ∧ f (p + 1 - 1) = true ∧ f (p + 1) = true := ⟨by omega, by omega, by simpa using hf, h1⟩
          rw [if_pos this, if_neg hc]
          simp
      rw [hz]
      by_cases hp0 : p = 0 ∨ f (p - 1) = false
      · have c1 : ¬ (0 < p ∧ p < 256 ∧ f (p - 1) = true ∧ f p = true) := by
          rcases hp0 with h | h
          · omega
          · simp [h]
        rw [if_neg c1] at ih
        have hA : enA f p = [p] := by unfold enA; rw [if_pos hp0]
        have hnew : spA (spAll (el f p)) p = spAll (el f p) ++ [(p, p)] := by
          rcases List.eq_nil_or_concat (spAll (el f p)) with hnil | ⟨qs, ⟨a, b⟩, hcon⟩
          · rw [hnil, spA_nil]; rfl
          · rw [List.concat_eq_append] at hcon
            obtain ⟨j1, j2, j3⟩ := i3 qs a b hcon
            rw [hcon]
            refine spA_new fun hb => ?_
            have hb1 : b = p - 1 := by omega
            rcases hp0 with h | h
            · omega
            · rw [← hb1, j1] at h; cases h
        rw [hnew, flat_snoc, hA, ← ih]; simp
      · have hp1 : 0 < p := by
          rcases Nat.eq_zero_or_pos p with h | h
          · exact absurd (.inl h) hp0
          · exact h
        have hfp : f (p - 1) = true := by
          cases h : f (p - 1)
          · exact absurd (.inr h) hp0
          · rfl
        rw [if_pos ⟨hp1, by omega, hfp, hf⟩] at ih
        have hA : enA f p = [] := by unfold enA; rw [if_neg hp0]
        rw [hA]
        rcases List.eq_nil_or_concat (spAll (el f p)) with hnil | ⟨qs, ⟨a, b⟩, hcon⟩
        · rw [hnil] at ih
          simp [flat] at ih
        · rw [List.concat_eq_append] at hcon
          obtain ⟨j1, j2, j3⟩ := i3 qs a b hcon
          have hb1 : b = p - 1 := by
            rcases Nat.lt_or_ge b (p - 1) with h | h
            · have := j3 (p - 1) h (by omega); rw [hfp] at this; cases this
            · omega
          rw [hcon] at ih ⊢
          rw [spA_join (by omega), flat_snoc]
          rw [flat_snoc, hb1] at ih
          have e : flat qs ++ [a, p - 1] = (flat qs ++ [a]) ++ [p - 1] := by simp
          rw [e] at ih
          have := List.append_cancel_right ih
          rw [this]; simp
theorem en_all (f : Nat → Bool) : en f 256 = flat (spAll (el f 256)) := by
  have := en_flat f 256 (Nat.le_refl _)
  rw [if_neg (by omega)] at this
  exact this

theorem info3 : (Tryd.prog.info? 3).map (fun i => (i.zero, i.size, i.bytes)) = some (some (.int .i64 0), 1, 8) := by kernel_rfl
def encI (c : Nat) : Value := .int .i64 (c : Int)
def GivesInts (w0 : World) (l : List Nat) (e : Ending) (w' : World) : Prop := ∃ v, e = .returned v ∧ w'.ownsRow w0.heap.size 3 1 v l.length (l.map encI) ∧ Below w0.heap.size w0 w'

theorem has_ref_int (f : Nat → Bool) (c : Int) (b : Bool) (h0 : 0 ≤ c) (h1 : c ≤ 255) (hb : f c.toNat = b) (w : World) :
    Calls Tryd.prog 72 #[(.agg #[.int .u64 (wd f 0), .int .u64 (wd f 1), .int .u64 (wd f 2), .int .u64 (wd f 3)]), .int .i64 c] w fun e w' => e = .returned (.bool b) ∧ Below w.heap.size w w' := by
  obtain ⟨n, rfl⟩ := Int.eq_ofNat_of_zero_le h0
  have := has_ref f n (by omega) w
  rw [show f n = b from hb] at this
  exact this

end Go.Proofs.YtjlmeegaiagfpaaDoor.S1

namespace Go.Proofs.YtjlmeegaiagfpaaDoor.S1
open Go.RowKit Go.Shelf

end Go.Proofs.YtjlmeegaiagfpaaDoor.S1

namespace Go.Proofs.YtjlmeegaiagfpaaDoor.S1
open Go.RowKit Go.Shelf

theorem row_form {w : World} {base : Nat} {e : TypeId} {size : Nat} {v : Value} {n : Nat} {xs : List Value} (h : w.ownsRow base e size v n xs) :
    ∃ (p : Option Addr) (cap : Nat), v = .slice p n cap ∧ (0 < n → ∃ g, p = some ⟨g, 0, none⟩ ∧ base ≤ g ∧ g < w.heap.size ∧ n ≤ cap ∧ ∀ j, j < n * size → w.cell? ⟨g, j, none⟩ = xs[j]?) := by
  rcases h.2 with ⟨h1, h2⟩ | ⟨g, cap, cur, hv2, hg, hh, hcap, r⟩
  · exact ⟨none, 0, by rw [h1, h2], fun h => by omega⟩
  · subst hv2
    exact ⟨some ⟨g, 0, none⟩, cap, rfl, fun _ => ⟨g, rfl, hg, (Array.getElem?_eq_some_iff.1 hh).1, hcap, fun j hj => h.cellAt j hj⟩⟩

def strN (ys : List Nat) : ByteArray := strOfNums (ys.map fun c : Nat => (c : Int))
theorem u22 : Tryd.prog.underlying 136 = some (.slice 5) := by kernel_rfl
theorem u9 : Tryd.prog.underlying 9 = some .string := by kernel_rfl
theorem u5' : Tryd.prog.underlying 5 = some (.int .u8) := by kernel_rfl
theorem conv_bytes {w : World} {base : Nat} {v : Value} {ys : List Nat} (h : w.ownsRow base 5 1 v ys.length (ys.map fun c : Nat => Value.int .u8 (c : Int))) :
    (convert 136 9 v).run Tryd.prog w = .ok (.string (strN ys)) w := by
  obtain ⟨p, cap, rfl, hc⟩ := row_form h
  rcases Nat.eq_zero_or_pos ys.length with h0 | h0
  · obtain rfl : ys = [] := List.length_eq_zero_iff.1 h0
    cases p with
    | none => rw [run_convert_bytes_nil w 136 5 u22 u5' _ _ 9 u9]; rfl
    | some a =>
      rw [run_convert_bytes_string w 136 9 5 (some a) _ cap u22 u5' u9]
      have := run_bytesToString (P := Tryd.prog) w a 0 cap [] (by simp [loadCells, loadCellsFrom])
      exact this
  · obtain ⟨g, rfl, _, _, hcap, hcell⟩ := hc h0
    refine run_convert_bytes_arg w 136 5 u22 u5' g 0 ys.length cap _ (by simp) (fun i hi => ?_) 9 u9
    rw [Nat.zero_add, hcell i (by omega)]
    simp [hi]

theorem el_cnt (f : Nat → Bool) (k : Nat) : ∀ n, n ≤ 64 → (el f (64 * k + n)).length = (el f (64 * k)).length + cnt (wd f k).testBit n := by
  intro n
  induction n with
  | zero => intro _; simp [cnt]
  | succ n ih =>
    intro hn
    have := ih (by omega)
    rw [show 64 * k + (n + 1) = (64 * k + n) + 1 by omega, el, List.length_append, this, cnt, testBit_wd]
    have hlt : n < 64 := by omega
    cases f (64 * k + n) <;> simp [hlt]
    omega
theorem szS_el (f : Nat → Bool) : szS f = (el f 256).length := by
  have h0 := el_cnt f 0 64 (by omega)
  have h1 := el_cnt f 1 64 (by omega)
  have h2 := el_cnt f 2 64 (by omega)
  have h3 := el_cnt f 3 64 (by omega)
  simp only [Nat.mul_zero, Nat.zero_add, Nat.reduceMul, Nat.reduceAdd] at h0 h1 h2 h3
  have e0 : (el f 0).length = 0 := rfl
  unfold szS
  omega
theorem empty_el (f : Nat → Bool) : eqB f noS = (((el f 256).length : Int) == 0) := by
  rw [Bool.eq_iff_iff, eqB_iff, beq_iff_eq]
  constructor
  · intro h
    have : el f 256 = [] := by
      apply List.eq_nil_iff_forall_not_mem.2
      intro x hx
      obtain ⟨h1, h2⟩ := el_mem.1 hx
      rw [h x h1] at h2
      cases h2
    rw [this]; rfl
  · intro h c hc
    have h0 : el f 256 = [] := List.length_eq_zero_iff.1 (by omega)
    cases hf : f c
    · rfl
    · have := el_mem.2 ⟨hc, hf⟩
      rw [h0] at this
      cases this
end Go.Proofs.YtjlmeegaiagfpaaDoor.S1
