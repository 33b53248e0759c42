/- Plain mathematics of numbers in seven bits a byte: what is written of a number, what is read, that there is one text for each. -/
import Derived.IntWalk
namespace Go.Proofs.YtdhejbmmdbjpoaaDoor
open Go
/-- What is written of a number. -/
def numL (n : Nat) : List Nat := if h : n < 128 then [n] else (n % 128 + 128) :: numL (n / 128)
termination_by n
decreasing_by omega
theorem numL_lt {n : Nat} (h : n < 128) : numL n = [n] := by rw [numL]; simp [h]
theorem numL_ge {n : Nat} (h : ¬ n < 128) : numL n = (n % 128 + 128) :: numL (n / 128) := by rw [numL]; simp [h]
/-- What bytes mean, the low seven bits first. -/
def valL : List Nat → Nat
  | [] => 0
  | c :: l => c % 128 + 128 * valL l
/-- Bytes of which the last one, and no other, lies below 128. -/
def Ends : List Nat → Prop
  | [] => False
  | [c] => c < 128
  | c :: d :: l => 128 ≤ c ∧ Ends (d :: l)
theorem numL_ne (n : Nat) : numL n ≠ [] := by
  by_cases h : n < 128
  · rw [numL_lt h]; simp
  · rw [numL_ge h]; simp
theorem numL_ends (n : Nat) : Ends (numL n) := by
  induction n using Nat.strongRecOn with
  | ind n ih =>
    by_cases h : n < 128
    · rw [numL_lt h]; exact h
    · rw [numL_ge h]
      have := ih (n / 128) (by omega)
      cases hm : numL (n / 128) with
      | nil => exact absurd hm (numL_ne _)
      | cons d l => rw [hm] at this; exact ⟨by omega, this⟩
theorem numL_val (n : Nat) : valL (numL n) = n := by
  induction n using Nat.strongRecOn with
  | ind n ih =>
    by_cases h : n < 128
    · rw [numL_lt h]; simp [valL]; omega
    · rw [numL_ge h, valL, ih (n / 128) (by omega)]; omega
theorem numL_small (n : Nat) : ∀ x ∈ numL n, x ≤ 255 := by
  induction n using Nat.strongRecOn with
  | ind n ih =>
    by_cases h : n < 128
    · rw [numL_lt h]; intro x hx; simp at hx; omega
    · rw [numL_ge h]
      intro x hx
      rcases List.mem_cons.1 hx with rfl | h1
      · omega
      · exact ih (n / 128) (by omega) x h1
theorem numL_len {k : Nat} : ∀ {n : Nat}, n < 128 ^ (k + 1) → (numL n).length ≤ k + 1 := by
  induction k with
  | zero => intro n h; rw [numL_lt (by simpa using h)]; simp
  | succ k ih =>
    intro n h
    by_cases h1 : n < 128
    · rw [numL_lt h1]; simp
    · rw [numL_ge h1, List.length_cons]
      have : n / 128 < 128 ^ (k + 1) := by
        rw [Nat.div_lt_iff_lt_mul (by decide)]
        rw [Nat.pow_succ] at h
        exact h
      have := ih this
      omega
theorem numL_len5 {n : Nat} (h : n ≤ 2147483647) : (numL n).length ≤ 5 := numL_len (k := 4) (Nat.lt_of_le_of_lt h (by decide))
theorem numL_pos (n : Nat) : 0 < (numL n).length := by
  rcases Nat.eq_zero_or_pos (numL n).length with h | h
  · exact absurd (List.eq_nil_of_length_eq_zero h) (numL_ne n)
  · exact h
/-- The last byte is 0 only of the number 0. -/
theorem numL_last (n : Nat) : (numL n).getLast (numL_ne n) = 0 → n = 0 := by
  induction n using Nat.strongRecOn with
  | ind n ih =>
    intro h
    by_cases h1 : n < 128
    · have e : numL n = [n] := numL_lt h1
      have : (numL n).getLast (numL_ne n) = n := by simp [e]
      omega
    · have e := numL_ge h1
      have h2 : (numL n).getLast (numL_ne n) = (numL (n / 128)).getLast (numL_ne _) := by
        simp only [e]
        exact List.getLast_cons (numL_ne _)
      rw [h2] at h
      have := ih (n / 128) (by omega) h
      omega
/-- Bytes that end, of the least length, are what is written of their number. -/
theorem numL_of_ends : ∀ (p : List Nat), Ends p → (∀ x ∈ p, x ≤ 255) → (∀ hne : p ≠ [], p.length = 1 ∨ p.getLast hne ≠ 0) → p = numL (valL p) := by
  intro p
  induction p with
  | nil => intro h; exact h.elim
  | cons c l ih =>
    intro h hs hl
    cases l with
    | nil =>
      have hc : c < 128 := h
      have : valL [c] = c := by simp [valL]; omega
      rw [this, numL_lt hc]
    | cons d l =>
      obtain ⟨hc, he⟩ := h
      have hc2 := hs c (by simp)
      have hlast : (d :: l).getLast (by simp) ≠ 0 := by
        rcases hl (by simp) with h1 | h1
        · simp at h1
        · rwa [List.getLast_cons (by simp)] at h1
      have hd : (d :: l) = numL (valL (d :: l)) := ih he (fun x hx => hs x (by simp [hx])) (fun _ => .inr hlast)
      have hv : valL (d :: l) ≠ 0 := by
        intro h0
        rw [h0, numL_lt (by decide)] at hd
        rw [List.cons.injEq] at hd
        obtain ⟨rfl, rfl⟩ := hd
        simp at hlast
      have e : valL (c :: d :: l) = c - 128 + 128 * valL (d :: l) := by
        show c % 128 + 128 * valL (d :: l) = _
        omega
      have hge : ¬ valL (c :: d :: l) < 128 := by omega
      rw [numL_ge hge]
      have e1 : valL (c :: d :: l) % 128 + 128 = c := by omega
      have e2 : valL (c :: d :: l) / 128 = valL (d :: l) := by omega
      rw [e1, e2, ← hd]
/-- Where bytes end that end at all: one place. -/
theorem ends_unique : ∀ (p q r s : List Nat), Ends p → Ends q → p ++ r = q ++ s → p = q ∧ r = s := by
  intro p
  induction p with
  | nil => intro q r s h; exact h.elim
  | cons c l ih =>
    intro q r s hp hq h
    cases q with
    | nil => exact hq.elim
    | cons c' l' =>
      simp only [List.cons_append, List.cons.injEq] at h
      obtain ⟨rfl, h⟩ := h
      cases l with
      | nil =>
        cases l' with
        | nil => exact ⟨rfl, by simpa using h⟩
        | cons d' l' => exact absurd (show c < 128 from hp) (by have : 128 ≤ c := hq.1; omega)
      | cons d l =>
        cases l' with
        | nil => exact absurd (show c < 128 from hq) (by have : 128 ≤ c := hp.1; omega)
        | cons d' l' =>
          obtain ⟨h1, h2⟩ := ih (d' :: l') r s hp.2 hq.2 h
          exact ⟨by rw [h1], h2⟩
theorem numL_inj {n m : Nat} {r s : List Nat} (h : numL n ++ r = numL m ++ s) : n = m ∧ r = s := by
  obtain ⟨h1, h2⟩ := ends_unique _ _ r s (numL_ends n) (numL_ends m) h
  have := congrArg valL h1
  rw [numL_val, numL_val] at this
  exact ⟨this, h2⟩
/-- Every byte of what is written but the last one is 128 or above. -/
theorem ends_get : ∀ {p : List Nat}, Ends p → ∀ (k : Nat) (hk : k < p.length), (p[k] < 128 ↔ k + 1 = p.length) := by
  intro p
  induction p with
  | nil => intro h; exact h.elim
  | cons c l ih =>
    intro h k hk
    cases l with
    | nil =>
      have e : k = 0 := by simpa using hk
      subst e
      simpa using (show c < 128 from h)
    | cons d l =>
      cases k with
      | zero => simp only [List.getElem_cons_zero, List.length_cons]; have : 128 ≤ c := h.1; omega
      | succ k =>
        have := ih h.2 k (by simpa using hk)
        simp only [List.getElem_cons_succ]
        rw [this]
        simp
/-- Bytes whose first below 128 stands at place e. -/
theorem ends_take {l : List Nat} {e : Nat} (he : e < l.length) (h1 : l[e] < 128) (h2 : ∀ k (hk : k < l.length), k < e → 128 ≤ l[k]) : Ends (l.take (e + 1)) := by
  induction l generalizing e with
  | nil => simp at he
  | cons c l ih =>
    cases e with
    | zero => exact h1
    | succ e =>
      have hl : e < l.length := by simpa using he
      have hE := ih hl (by simpa using h1) (fun k hk hke => by
        have := h2 (k + 1) (by simpa using hk) (by omega)
        rwa [List.getElem_cons_succ] at this)
      have hc : 128 ≤ c := h2 0 (by simp) (by omega)
      cases l with
      | nil => simp at hl
      | cons d l => exact ⟨hc, hE⟩
theorem valL_append (a b : List Nat) : valL (a ++ b) = valL a + 128 ^ a.length * valL b := by
  induction a with
  | nil => simp [valL]
  | cons c a ih => simp only [List.cons_append, valL, ih, List.length_cons, Nat.pow_succ]; rw [Nat.mul_add, ← Nat.mul_assoc, Nat.mul_comm 128 (128 ^ a.length)]; omega
theorem valL_lt (l : List Nat) : valL l < 128 ^ l.length := by
  induction l with
  | nil => simp [valL]
  | cons c l ih => simp only [valL, List.length_cons, Nat.pow_succ]; omega
/-- A row's bytes: its length, and each number increased by one. -/
def rowL (l : List Int) : List Nat := numL l.length ++ (l.map fun n => numL (n + 1).toNat).flatten
end Go.Proofs.YtdhejbmmdbjpoaaDoor
