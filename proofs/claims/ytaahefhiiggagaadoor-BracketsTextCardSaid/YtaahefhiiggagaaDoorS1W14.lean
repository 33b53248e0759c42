/- The reference's Spans of layer 1: the beginnings and ends of the spans; they are those of the set's own Spans, one behind the other. -/
import Derived.Test.YtaahefhiiggagaaDoorS1W13
namespace Go.Proofs.YtaahefhiiggagaaDoor.S1
open Go.RowKit Go.Shelf

def enA (f : Nat → Bool) (k : Nat) : List Nat := if k = 0 ∨ f (k - 1) = false then [k] else []
def enZ (f : Nat → Bool) (k : Nat) : List Nat := if k = 255 ∨ f (k + 1) = false then [k] else []
/-- The beginnings and ends met below p. -/
def en (f : Nat → Bool) : Nat → List Nat
  | 0 => []
  | p + 1 => if f p = true then en f p ++ enA f p ++ enZ f p else en f p
theorem en_len (f : Nat → Bool) (p : Nat) : (en f p).length ≤ 2 * p := by
  induction p with
  | zero => simp [en]
  | succ p ih =>
    rw [en]
    split
    · simp only [List.length_append, enA, enZ]; split <;> split <;> simp <;> omega
    · omega
def flat (ps : List (Nat × Nat)) : List Nat := ps.flatMap fun p => [p.1, p.2]
theorem flat_snoc (ps : List (Nat × Nat)) (a b : Nat) : flat (ps ++ [(a, b)]) = flat ps ++ [a, b] := by simp [flat]
theorem flat_len (ps : List (Nat × Nat)) : (flat ps).length = 2 * ps.length := by
  induction ps with
  | nil => rfl
  | cons p ps ih => simp only [flat, List.flatMap_cons, List.length_append, List.length_cons, List.length_nil] at *; omega
theorem flat_at (ps : List (Nat × Nat)) : ∀ {k : Nat} (h : k < ps.length), (flat ps)[2 * k]? = some ps[k].1 ∧ (flat ps)[2 * k + 1]? = some ps[k].2 := by
  induction ps with
  | nil => intro k h; simp at h
  | cons p ps ih =>
    intro k h
    have e : flat (p :: ps) = p.1 :: p.2 :: flat ps := by simp [flat]
    rw [e]
    cases k with
    | zero => exact ⟨rfl, rfl⟩
    | succ k =>
      have := ih (k := k) (by simp at h; omega)
      have e1 : 2 * (k + 1) = 2 * k + 1 + 1 := by omega
      rw [e1]
      simpa using this

theorem en_flat (f : Nat → Bool) : ∀ p, p ≤ 256 → (if 0 < p ∧ p < 256 ∧ f (p - 1) = true ∧ f p = true then en f p ++ [p - 1] else en f p) = flat (spAll (el f p)) := by
  intro p
  induction p with
  | zero => intro _; simp [en, el, spAll, flat]
  | succ p ih =>
    intro hp
    have ih := ih (by omega)
    obtain ⟨i1, i2, i3⟩ := spAll_el f p (by omega)
    cases hf : f p
    · have c1 : ¬ (0 < p ∧ p < 256 ∧ f (p - 1) = true ∧ f p = true) := by simp [hf]
      have c2 : ¬ (0 < p + 1 ∧ p + 1 < 256 ∧ f (p + 1 - 1) = true ∧ f (p + 1) = true) := by simp [hf]
      rw [if_neg c1] at ih
      rw [if_neg c2, el_snoc_miss hf, ← ih, en, if_neg (by simp [hf])]
    · have hen : en f (p + 1) = en f p ++ enA f p ++ enZ f p := by rw [en, if_pos hf]
      rw [el_snoc_hit hf, spAll_snoc, Nat.mod_eq_of_lt (by omega : p < 256)]
      -- what is told of p at the end
      have hz : (if 0 < p + 1 ∧ p + 1 < 256 ∧ f (p + 1 - 1) = true ∧ f (p + 1) = true then en f (p + 1) ++ [p + 1 - 1] else en f (p + 1)) = en f p ++ enA f p ++ [p] := by
        rw [hen]
        unfold enZ
        by_cases hc : p = 255 ∨ f (p + 1) = false
        · have : ¬ (0 < p + 1 ∧ p + 1 < 256 ∧ f (p + 1 - 1) = true ∧ f (p + 1) = true) := by
            rcases hc with h | h
            · omega
            · simp [h]
          rw [if_neg this, if_pos hc]
        · have h1 : f (p + 1) = true := by
            cases h : f (p + 1)
            · exact absurd (.inr h) hc
            · rfl
          have : 0 < p + 1 ∧ p + 1 < 256 ∧ f (p + 1 - 1) = true ∧ f (p + 1) = true := ⟨by omega, by omega, by simpa using hf, h1⟩
          rw [if_pos this, if_neg hc]
          simp
      rw [hz]
      by_cases hp0 : p = 0 ∨ f (p - 1) = false
      · have c1 : ¬ (0 < p ∧ p < 256 ∧ f (p - 1) = true ∧ f p = true) := by
          rcases hp0 with h | h
          · omega
          · simp [h]
        rw [if_neg c1] at ih
        have hA : enA f p = [p] := by unfold enA; rw [if_pos hp0]
        have hnew : spA (spAll (el f p)) p = spAll (el f p) ++ [(p, p)] := by
          rcases List.eq_nil_or_concat (spAll (el f p)) with hnil | ⟨qs, ⟨a, b⟩, hcon⟩
          · rw [hnil, spA_nil]; rfl
          · rw [List.concat_eq_append] at hcon
            obtain ⟨j1, j2, j3⟩ := i3 qs a b hcon
            rw [hcon]
            refine spA_new fun hb => ?_
            have hb1 : b = p - 1 := by omega
            rcases hp0 with h | h
            · omega
            · rw [← hb1, j1] at h; cases h
        rw [hnew, flat_snoc, hA, ← ih]; simp
      · have hp1 : 0 < p := by
          rcases Nat.eq_zero_or_pos p with h | h
          · exact absurd (.inl h) hp0
          · exact h
        have hfp : f (p - 1) = true := by
          cases h : f (p - 1)
          · exact absurd (.inr h) hp0
          · rfl
        rw [if_pos ⟨hp1, by omega, hfp, hf⟩] at ih
        have hA : enA f p = [] := by unfold enA; rw [if_neg hp0]
        rw [hA]
        rcases List.eq_nil_or_concat (spAll (el f p)) with hnil | ⟨qs, ⟨a, b⟩, hcon⟩
        · rw [hnil] at ih
          simp [flat] at ih
        · rw [List.concat_eq_append] at hcon
          obtain ⟨j1, j2, j3⟩ := i3 qs a b hcon
          have hb1 : b = p - 1 := by
            rcases Nat.lt_or_ge b (p - 1) with h | h
            · have := j3 (p - 1) h (by omega); rw [hfp] at this; cases this
            · omega
          rw [hcon] at ih ⊢
          rw [spA_join (by omega), flat_snoc]
          rw [flat_snoc, hb1] at ih
          have e : flat qs ++ [a, p - 1] = (flat qs ++ [a]) ++ [p - 1] := by simp
          rw [e] at ih
          have := List.append_cancel_right ih
          rw [this]; simp
theorem en_all (f : Nat → Bool) : en f 256 = flat (spAll (el f 256)) := by
  have := en_flat f 256 (Nat.le_refl _)
  rw [if_neg (by omega)] at this
  exact this

theorem info3 : (Tryd.prog.info? 3).map (fun i => (i.zero, i.size, i.bytes)) = some (some (.int .i64 0), 1, 8) := by kernel_rfl
def encI (c : Nat) : Value := .int .i64 (c : Int)
def GivesInts (w0 : World) (l : List Nat) (e : Ending) (w' : World) : Prop := ∃ v, e = .returned v ∧ w'.ownsRow w0.heap.size 3 1 v l.length (l.map encI) ∧ Below w0.heap.size w0 w'

theorem has_ref_int (f : Nat → Bool) (c : Int) (b : Bool) (h0 : 0 ≤ c) (h1 : c ≤ 255) (hb : f c.toNat = b) (w : World) :
    Calls Tryd.prog 30 #[(.agg #[.int .u64 (wd f 0), .int .u64 (wd f 1), .int .u64 (wd f 2), .int .u64 (wd f 3)]), .int .i64 c] w fun e w' => e = .returned (.bool b) ∧ Below w.heap.size w w' := by
  obtain ⟨n, rfl⟩ := Int.eq_ofNat_of_zero_le h0
  have := has_ref f n (by omega) w
  rw [show f n = b from hb] at this
  exact this

end Go.Proofs.YtaahefhiiggagaaDoor.S1
