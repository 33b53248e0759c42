/- Plain mathematics of sets of small numbers: words, members in order, counts, keys. -/
import Derived.Test.YtkdjojmegohonaaDoorM
import Derived.Laws.BitsAllLaws
namespace Go.Proofs.YtkdjojmegohonaaDoor
open Go

theorem andNot_wd (f g : Nat → Bool) (k : Nat) : bits .andNot .u64 (wd f k) (wd g k) = (wd (andS f (notS g)) k : Int) := by
  rw [u64_andNot_nat _ _ (wd_lt f k) (wd_lt g k)]
  refine congrArg Nat.cast (eq_wd (Nat.lt_of_le_of_lt Nat.and_le_left (wd_lt f k)) fun i hi => ?_)
  have h2 : (18446744073709551615 - wd g k).testBit i = !(wd g k).testBit i := by
    have := Nat.testBit_two_pow_sub_succ (x := wd g k) (n := 64) (wd_lt g k) i
    have e : 2 ^ 64 - (wd g k + 1) = 18446744073709551615 - wd g k := by omega
    rw [e] at this
    rw [this]; simp [hi]
  rw [Nat.testBit_and, h2]
  simp [testBit_wd, hi, andS, notS]
def xorS (f g : Nat → Bool) : Nat → Bool := fun c => f c ^^ g c
theorem xor_wd (f g : Nat → Bool) (k : Nat) : bits .xor .u64 (wd f k) (wd g k) = (wd (xorS f g) k : Int) := by
  rw [bits_xorN _ _ (wd_lt f k) (wd_lt g k)]
  exact congrArg Nat.cast (eq_wd (Nat.xor_lt_two_pow (n := 64) (wd_lt f k) (wd_lt g k)) fun i hi => by simp [testBit_wd, hi, xorS])
theorem one_wd' (i : Nat) : IntKind.u64.wrap (2 ^ (i % 64)) = (wd (oneS i) (i / 64) : Int) := by
  have := one_wd (c := i) rfl
  have e : ((i : Int) % 64).toNat = i % 64 := by omega
  rw [e] at this
  exact this
theorem put_word (f : Nat → Bool) (i : Nat) : bits .or .u64 (wd f (i / 64)) (IntKind.u64.wrap (2 ^ (i % 64))) = (wd (orS f (oneS i)) (i / 64) : Int) := by
  rw [one_wd', or_wd]
theorem out_word (f : Nat → Bool) (i : Nat) : bits .andNot .u64 (wd f (i / 64)) (IntKind.u64.wrap (2 ^ (i % 64))) = (wd (andS f (notS (oneS i))) (i / 64) : Int) := by
  rw [one_wd', andNot_wd]
/-- What is in from s on. -/
def fromS (f : Nat → Bool) (s : Nat) : Nat → Bool := fun c => f c && decide (s ≤ c)
theorem from_word (f : Nat → Bool) (s : Nat) : IntKind.u64.wrap ((wd f (s / 64) : Int) / 2 ^ (s % 64) * 2 ^ (s % 64)) = (wd (fromS f s) (s / 64) : Int) := by
  have e : ((wd f (s / 64) : Int) / 2 ^ (s % 64) * 2 ^ (s % 64)) = ((wd f (s / 64) / 2 ^ (s % 64) * 2 ^ (s % 64) : Nat) : Int) := by simp
  have hlt : wd f (s / 64) / 2 ^ (s % 64) * 2 ^ (s % 64) < 18446744073709551616 := Nat.lt_of_le_of_lt (Nat.div_mul_le_self _ _) (wd_lt f _)
  rw [e, wrap_nat hlt]
  refine congrArg Nat.cast (eq_wd hlt fun i hi => ?_)
  rw [Nat.mul_comm, Nat.testBit_two_pow_mul, Nat.testBit_div_two_pow, testBit_wd]
  unfold fromS
  rw [Bool.eq_iff_iff]
  have hs : s % 64 < 64 := Nat.mod_lt _ (by decide)
  have h64 : 64 * (s / 64) + s % 64 = s := Nat.div_add_mod s 64
  simp only [ge_iff_le, Bool.and_eq_true, decide_eq_true_eq]
  constructor
  · rintro ⟨h1, h2, h3⟩
    have : i - s % 64 + s % 64 = i := by omega
    rw [this] at h3
    exact ⟨h3, by omega⟩
  · rintro ⟨h1, h2⟩
    have : i - s % 64 + s % 64 = i := by omega
    rw [this]
    exact ⟨by omega, by omega, h1⟩
theorem wd_zero {f : Nat → Bool} {k : Nat} (h : wd f k = 0) : ∀ i, 64 * k ≤ i → i < 64 * (k + 1) → f i = false := fun i h1 h2 => by
  have := testBit_wd f k (i - 64 * k)
  rw [h] at this
  have e : 64 * k + (i - 64 * k) = i := by omega
  have e2 : i - 64 * k < 64 := by omega
  simpa [e, e2] using this.symm
theorem wd_bit {f : Nat → Bool} {k : Nat} (h : wd f k ≠ 0) : ∃ t, t < 64 ∧ (wd f k).testBit t = true ∧ (∀ i, i < t → (wd f k).testBit i = false) ∧ f (64 * k + t) = true ∧ ∀ i, 64 * k ≤ i → i < 64 * k + t → f i = false := by
  obtain ⟨t, h1, h0⟩ := least_bit h
  have hb := h1
  rw [testBit_wd] at hb
  simp only [Bool.and_eq_true, decide_eq_true_eq] at hb
  refine ⟨t, hb.1, h1, h0, hb.2, fun i h2 h3 => ?_⟩
  have := h0 (i - 64 * k) (by omega)
  rw [testBit_wd] at this
  have e : 64 * k + (i - 64 * k) = i := by omega
  have e2 : i - 64 * k < 64 := by omega
  simpa [e, e2] using this

/-- The members below n, in order. -/
def mem (f : Nat → Bool) (n : Nat) : List Nat := (List.range n).filter f
theorem mem_hit {f : Nat → Bool} {p : Nat} (h : f p = true) : mem f (p + 1) = mem f p ++ [p] := by simp [mem, List.range_succ, h]
theorem mem_miss {f : Nat → Bool} {p : Nat} (h : f p = false) : mem f (p + 1) = mem f p := by simp [mem, List.range_succ, h]
theorem mem_skip {f : Nat → Bool} {i : Nat} : ∀ j, i ≤ j → (∀ x, i ≤ x → x < j → f x = false) → mem f j = mem f i := by
  intro j hij
  induction j with
  | zero => intro _; obtain rfl : i = 0 := by omega
            rfl
  | succ j ih =>
    intro h
    by_cases e : i = j + 1
    · rw [e]
    · rw [mem_miss (h j (by omega) (by omega)), ih (by omega) fun x a b => h x a (by omega)]
theorem mem_mem {f : Nat → Bool} {n x : Nat} : x ∈ mem f n ↔ x < n ∧ f x = true := by simp [mem]
theorem mem_len (f : Nat → Bool) (n : Nat) : (mem f n).length = cnt f n := by
  induction n with
  | zero => rfl
  | succ n ih =>
    cases h : f n
    · rw [mem_miss h, ih]; simp [cnt, h]
    · rw [mem_hit h, List.length_append, ih]; simp [cnt, h] <;> omega
theorem mem_le (f : Nat → Bool) (n : Nat) : (mem f n).length ≤ n := by rw [mem_len]; exact cnt_le f n
theorem cnt_word (f : Nat → Bool) (k : Nat) : cnt f (64 * (k + 1)) = cnt f (64 * k) + cnt (wd f k).testBit 64 := by
  have : ∀ m, m ≤ 64 → cnt f (64 * k + m) = cnt f (64 * k) + cnt (wd f k).testBit m := by
    intro m
    induction m with
    | zero => intro _; simp [cnt]
    | succ m ih =>
      intro hm
      have h := testBit_wd f k m
      have e : m < 64 := by omega
      simp only [e, decide_true, Bool.true_and] at h
      show cnt f (64 * k + m + 1) = _
      simp only [cnt]
      rw [ih (by omega), h]
      omega
  exact this 64 (Nat.le_refl _)
theorem cnt_top {f : Nat → Bool} {n : Nat} (h : ∀ i, n ≤ i → f i = false) : ∀ m, n ≤ m → cnt f m = cnt f n := by
  intro m hm
  rw [← mem_len, ← mem_len, mem_skip m hm fun x a _ => h x a]

/-- The four bytes of a number, the greatest first. -/
def b4 (i : Nat) : List Nat := [i / 16777216 % 256, i / 65536 % 256, i / 256 % 256, i % 256]
def keyN (l : List Nat) : List Nat := l.flatMap b4
theorem keyN_snoc (l : List Nat) (i : Nat) : keyN (l ++ [i]) = keyN l ++ b4 i := by simp [keyN]
theorem keyN_len (l : List Nat) : (keyN l).length = 4 * l.length := by
  induction l with
  | nil => rfl
  | cons a l ih => simp only [keyN, List.flatMap_cons, List.length_append] at ih ⊢; rw [ih]; simp [b4]; omega
theorem keyN_small (l : List Nat) : ∀ x ∈ keyN l, x < 256 := by
  intro x hx
  obtain ⟨i, _, h⟩ := List.mem_flatMap.1 hx
  simp only [b4, List.mem_cons, List.not_mem_nil, or_false] at h
  rcases h with rfl | rfl | rfl | rfl <;> exact Nat.mod_lt _ (by decide)
theorem b4_inj {i j : Nat} (hi : i < 4294967296) (hj : j < 4294967296) (h : b4 i = b4 j) : i = j := by
  simp only [b4, List.cons.injEq, and_true] at h
  omega
theorem keyN_inj : ∀ (a b : List Nat), (∀ x ∈ a, x < 4294967296) → (∀ x ∈ b, x < 4294967296) → keyN a = keyN b → a = b
  | [], [], _, _, _ => rfl
  | [], y :: b, _, _, h => by have := congrArg List.length h; rw [keyN_len, keyN_len] at this; simp at this
  | x :: a, [], _, _, h => by have := congrArg List.length h; rw [keyN_len, keyN_len] at this; simp at this
  | x :: a, y :: b, h1, h2, h => by
    have e : b4 x ++ keyN a = b4 y ++ keyN b := by simpa [keyN] using h
    obtain ⟨e1, e2⟩ := List.append_inj e (by simp [b4])
    rw [b4_inj (h1 x (by simp)) (h2 y (by simp)) e1, keyN_inj a b (fun z hz => h1 z (by simp [hz])) (fun z hz => h2 z (by simp [hz])) e2]
theorem mem_inj {f g : Nat → Bool} {n m : Nat} (hf : ∀ i, n ≤ i → f i = false) (hg : ∀ i, m ≤ i → g i = false) (h : mem f n = mem g m) : ∀ i, f i = g i := by
  intro i
  have h1 : i ∈ mem f n ↔ i ∈ mem g m := by rw [h]
  rw [mem_mem, mem_mem] at h1
  by_cases a : i < n <;> by_cases b : i < m <;> simp [a, b] at h1
  · exact h1
  · rw [h1, hg i (by omega)]
  · rw [h1, hf i (by omega)]
  · rw [hf i (by omega), hg i (by omega)]
theorem mem_congr {f g : Nat → Bool} {n m : Nat} (hf : ∀ i, n ≤ i → f i = false) (hg : ∀ i, m ≤ i → g i = false) (h : ∀ i, f i = g i) : mem f n = mem g m := by
  obtain rfl : f = g := funext h
  rcases Nat.le_total n m with a | a
  · exact (mem_skip m a fun x b _ => hf x b).symm
  · exact mem_skip n a fun x b _ => hg x b
end Go.Proofs.YtkdjojmegohonaaDoor
