/- Plain mathematics: the spans of a set's bytes cover the set; how many bytes two sets have together; the reference's beginnings and ends. -/
import Derived.Test.YtaahefhiiggagaaDoorS1W9
namespace Go.Proofs.YtaahefhiiggagaaDoor.S1
open Go.RowKit

def spU (ps : List (Nat × Nat)) : Nat → Bool := fun x => ps.any fun p => decide (p.1 ≤ x) && decide (x ≤ p.2)
theorem spU_snoc (ps : List (Nat × Nat)) (p : Nat × Nat) (x : Nat) : spU (ps ++ [p]) x = (spU ps x || (decide (p.1 ≤ x) && decide (x ≤ p.2))) := by simp [spU]
theorem el_snoc_hit {f : Nat → Bool} {p : Nat} (h : f p = true) : el f (p + 1) = el f p ++ [p] := by simp [el, h]
theorem el_snoc_miss {f : Nat → Bool} {p : Nat} (h : f p = false) : el f (p + 1) = el f p := by simp [el, h]

/-- Of the spans of the members below p: each is in order and below p; the last one's end is the last member; together they cover just the members. -/
theorem spAll_el (f : Nat → Bool) : ∀ p, p ≤ 256 → (∀ q ∈ spAll (el f p), q.1 ≤ q.2 ∧ q.2 < p) ∧ (∀ x, spU (spAll (el f p)) x = (decide (x < p) && f x)) ∧
    (∀ qs a b, spAll (el f p) = qs ++ [(a, b)] → (f b = true ∧ b < p ∧ ∀ x, b < x → x < p → f x = false)) := by
  intro p
  induction p with
  | zero => intro _; refine ⟨by simp [el, spAll], by simp [el, spAll, spU], fun qs a b h => ?_⟩; simp [el, spAll] at h
  | succ p ih =>
    intro hp
    obtain ⟨i1, i2, i3⟩ := ih (by omega)
    cases hf : f p
    · rw [el_snoc_miss hf]
      refine ⟨fun q hq => ⟨(i1 q hq).1, by have := (i1 q hq).2; omega⟩, fun x => ?_, fun qs a b h => ?_⟩
      · rw [i2]
        by_cases e : x = p
        · subst e; simp [hf]
        · have : (x < p + 1) ↔ (x < p) := by omega
          rw [Bool.eq_iff_iff]; simp [this]
      · obtain ⟨j1, j2, j3⟩ := i3 qs a b h
        refine ⟨j1, by omega, fun x hx hxp => ?_⟩
        by_cases e : x = p
        · subst e; exact hf
        · exact j3 x hx (by omega)
    · rw [el_snoc_hit hf, spAll_snoc, Nat.mod_eq_of_lt (by omega : p < 256)]
      rcases List.eq_nil_or_concat (spAll (el f p)) with hnil | ⟨qs, ⟨a, b⟩, hcon⟩
      · rw [hnil] at i1 i2 ⊢
        rw [spA_nil]
        refine ⟨by simp, fun x => ?_, fun qs a b h => ?_⟩
        · have := i2 x
          simp only [spU, List.any_nil] at this
          have e : (x < p + 1) ↔ (x < p ∨ x = p) := by omega
          by_cases h1 : x = p
          · subst h1; simp [spU, hf]
          · by_cases h2 : x < p
            · simp [h2] at this
              simp [spU, this]; intro h3; omega
            · have h3 : ¬ x < p + 1 := by omega
              simp [spU, h3]; omega
        · have : qs = [] ∧ (a, b) = (p, p) := by
            cases qs with
            | nil => simpa using h.symm
            | cons q qs => simp at h
          obtain ⟨_, h2⟩ := this
          cases h2
          exact ⟨hf, by omega, fun x h1 h2 => by omega⟩
      · rw [List.concat_eq_append] at hcon
        rw [hcon] at i1 i2 ⊢
        obtain ⟨j1, j2, j3⟩ := i3 qs a b hcon
        have hab := (i1 (a, b) (by simp)).1
        simp only at hab
        by_cases hj : (b + 1) % 256 = p
        · have hb1 : b + 1 = p := by omega
          rw [spA_join hj]
          refine ⟨fun q hq => ?_, fun x => ?_, fun qs' a' b' h => ?_⟩
          · rcases List.mem_append.1 hq with hq | hq
            · have := i1 q (by simp [hq]); exact ⟨this.1, by omega⟩
            · simp at hq; subst hq; simp; omega
          · have := i2 x
            rw [spU_snoc] at this ⊢
            simp only at this ⊢
            by_cases h1 : x = p
            · subst h1
              have a1 : a ≤ x := by omega
              simp [hf, a1]
            · have e1 : (x ≤ p) ↔ (x ≤ b) := by omega
              have e2 : (x < p + 1) ↔ (x < p) := by omega
              rw [show decide (x ≤ p) = decide (x ≤ b) by simp [e1], show decide (x < p + 1) = decide (x < p) by simp [e2]]
              exact this
          · have := List.append_inj_right' h rfl
            simp at this
            obtain ⟨rfl, rfl⟩ := this
            exact ⟨hf, by omega, fun x h1 h2 => by omega⟩
        · rw [spA_new hj]
          refine ⟨fun q hq => ?_, fun x => ?_, fun qs' a' b' h => ?_⟩
          · rcases List.mem_append.1 hq with hq | hq
            · have := i1 q hq; exact ⟨this.1, by omega⟩
            · simp at hq; subst hq; simp
          · have := i2 x
            rw [spU_snoc, this]
            simp only
            by_cases h1 : x = p
            · subst h1; simp [hf]
            · have e1 : (decide (p ≤ x) && decide (x ≤ p)) = false := by simp; omega
              have e2 : (x < p + 1) ↔ (x < p) := by omega
              rw [e1, show decide (x < p + 1) = decide (x < p) by simp [e2]]
              simp
          · have := List.append_inj_right' h rfl
            simp at this
            obtain ⟨rfl, rfl⟩ := this
            exact ⟨hf, by omega, fun x h1 h2 => by omega⟩

theorem spCells_at (ps : List (Nat × Nat)) : ∀ {k : Nat} (h : k < ps.length), (spCells ps)[k * 2]? = some (.int .u8 ((ps[k].1 : Nat) : Int)) ∧ (spCells ps)[k * 2 + 1]? = some (.int .u8 ((ps[k].2 : Nat) : Int)) := by
  induction ps with
  | nil => intro k h; simp at h
  | cons p ps ih =>
    intro k h
    have e : spCells (p :: ps) = .int .u8 (p.1 : Int) :: .int .u8 (p.2 : Int) :: spCells ps := by simp [spCells]
    rw [e]
    cases k with
    | zero => exact ⟨rfl, rfl⟩
    | succ k =>
      have := ih (k := k) (by simp at h; omega)
      have e1 : (k + 1) * 2 = k * 2 + 1 + 1 := by omega
      rw [e1]
      simpa using this

theorem spU_all (f : Nat → Bool) : ∀ c, c < 256 → spU (spAll (el f 256)) c = f c := fun c hc => by
  rw [(spAll_el f 256 (Nat.le_refl _)).2.1 c]; simp [hc]
theorem listS_el (f : Nat → Bool) : ∀ c, c < 256 → listS (el f 256) c = f c := fun c hc => by
  unfold listS
  rw [Bool.eq_iff_iff, List.contains_iff_mem, el_mem]
  simp [hc]

theorem cnt_or_and (a b c d : Nat → Bool) (n : Nat) (h : ∀ i, i < n → (c i).toNat + (d i).toNat = (a i).toNat + (b i).toNat) : cnt c n + cnt d n = cnt a n + cnt b n := by
  induction n with
  | zero => rfl
  | succ n ih =>
    have := ih fun i hi => h i (by omega)
    have := h n (by omega)
    simp only [cnt]; omega
theorem szS_le (f : Nat → Bool) : szS f ≤ 256 := by
  have b0 := cnt_le (wd f 0).testBit 64
  have b1 := cnt_le (wd f 1).testBit 64
  have b2 := cnt_le (wd f 2).testBit 64
  have b3 := cnt_le (wd f 3).testBit 64
  unfold szS; omega
theorem szS_sum (f g : Nat → Bool) : szS (orS f g) + szS (andS f g) = szS f + szS g := by
  have h : ∀ k, cnt (wd (orS f g) k).testBit 64 + cnt (wd (andS f g) k).testBit 64 = cnt (wd f k).testBit 64 + cnt (wd g k).testBit 64 := fun k =>
    cnt_or_and _ _ _ _ 64 fun i hi => by
      simp only [testBit_wd, hi, decide_true, Bool.true_and, orS, andS]
      cases f (64 * k + i) <;> cases g (64 * k + i) <;> rfl
  have h0 := h 0
  have h1 := h 1
  have h2 := h 2
  have h3 := h 3
  unfold szS; omega
end Go.Proofs.YtaahefhiiggagaaDoor.S1
