/- Texts of earlier layers, merged: S1M, S1W1, S1W2. -/
import Derived.Laws.BitsLemmas
import Derived.IntWalk
import Derived.Test.YtjlmeegaiagfpaaDoorProg
import Derived.WalkKit
import Derived.WalkLawsBesides
import Derived.WalkSpells
import Derived.RegionTactic
import Derived.BigQuiet
import Derived.Below
import Derived.ChangeKeysEq
namespace Go.Proofs.YtjlmeegaiagfpaaDoor.S1
open Go

/-- The first n bits of word k of the set f. -/
def wdN (f : Nat → Bool) (k : Nat) : Nat → Nat
  | 0 => 0
  | n + 1 => wdN f k n + (if f (64 * k + n) then 2 ^ n else 0)
def wd (f : Nat → Bool) (k : Nat) : Nat := wdN f k 64

theorem wdN_lt (f : Nat → Bool) (k n : Nat) : wdN f k n < 2 ^ n := by
  induction n with
  | zero => simp [wdN]
  | succ n ih => rw [wdN, Nat.pow_succ]; split <;> omega

theorem testBit_wdN (f : Nat → Bool) (k n i : Nat) : (wdN f k n).testBit i = (decide (i < n) && f (64 * k + i)) := by
  induction n with
  | zero => simp [wdN]
  | succ n ih =>
    rw [wdN]
    have hlt := wdN_lt f k n
    have e : wdN f k n + (if f (64 * k + n) then 2 ^ n else 0) = 2 ^ n * (f (64 * k + n)).toNat + wdN f k n := by
      cases f (64 * k + n) <;> simp; omega
    rw [e, Nat.testBit_two_pow_mul_add _ hlt, ih]
    by_cases h : i < n
    · simp [h, Nat.lt_succ_of_lt h]
    · by_cases h2 : i = n
      · subst h2; cases f (64 * k + i) <;> simp
      · have h3 : ¬ i < n + 1 := by omega
        simp only [h, h3, if_false, decide_false, Bool.false_and]
        have : i - n ≠ 0 := by omega
        cases f (64 * k + n)
        · simp
        · obtain ⟨j, hj⟩ := Nat.exists_eq_succ_of_ne_zero this
          rw [hj]; simp [Nat.testBit_succ]

theorem wd_lt (f : Nat → Bool) (k : Nat) : wd f k < 18446744073709551616 := wdN_lt f k 64
theorem testBit_wd (f : Nat → Bool) (k i : Nat) : (wd f k).testBit i = (decide (i < 64) && f (64 * k + i)) := testBit_wdN f k 64 i

theorem eq_wd {x : Nat} {f : Nat → Bool} {k : Nat} (hx : x < 18446744073709551616) (h : ∀ i, i < 64 → x.testBit i = f (64 * k + i)) : x = wd f k := by
  apply Nat.eq_of_testBit_eq
  intro i
  rw [testBit_wd]
  by_cases hi : i < 64
  · simp [hi, h i hi]
  · have : x < 2 ^ i := Nat.lt_of_lt_of_le (show x < 2 ^ 64 from hx) (Nat.pow_le_pow_right (by decide) (by omega))
    simp [hi, Nat.testBit_lt_two_pow this]

theorem wd_congr {f g : Nat → Bool} {k : Nat} (h : ∀ i, i < 64 → f (64 * k + i) = g (64 * k + i)) : wd f k = wd g k :=
  eq_wd (wd_lt f k) fun i hi => by rw [testBit_wd]; simp [hi, h i hi]
theorem wd_inj {f g : Nat → Bool} {k : Nat} (h : wd f k = wd g k) (i : Nat) (hi : i < 64) : f (64 * k + i) = g (64 * k + i) := by
  have := congrArg (fun x => x.testBit i) h
  simpa [testBit_wd, hi] using this

theorem wrap_u64 (n : Int) : IntKind.u64.wrap n = n % 18446744073709551616 := by simp [IntKind.wrap, IntKind.bits, IntKind.signed]

theorem wrap_nat {n : Nat} (h : n < 18446744073709551616) : IntKind.u64.wrap (n : Int) = n := by rw [wrap_u64]; omega
theorem bitsN (a b : Nat) (ha : a < 18446744073709551616) (hb : b < 18446744073709551616) :
    bits .and .u64 a b = ((a &&& b : Nat) : Int) ∧ bits .or .u64 a b = ((a ||| b : Nat) : Int) :=
  bits_nat .u64 64 (Nat.le_refl _) (fun n h0 h1 => by rw [wrap_u64]; omega) a b ha hb

theorem bits_xorN (a b : Nat) (ha : a < 18446744073709551616) (hb : b < 18446744073709551616) : bits .xor .u64 a b = ((a ^^^ b : Nat) : Int) := by
  have ha' : a % 2 ^ 64 = a := Nat.mod_eq_of_lt ha
  have hb' : b % 2 ^ 64 = b := Nat.mod_eq_of_lt hb
  have e : (BitVec.ofNat 64 a ^^^ BitVec.ofNat 64 b).toNat = a ^^^ b := by rw [BitVec.toNat_xor, BitVec.toNat_ofNat, BitVec.toNat_ofNat, ha', hb']
  show IntKind.u64.wrap ((BitVec.ofInt 64 a ^^^ BitVec.ofInt 64 b).toNat : Int) = _
  rw [BitVec.ofInt_natCast, BitVec.ofInt_natCast, e, wrap_u64]
  have := Nat.xor_lt_two_pow (n := 64) ha hb
  omega

theorem bits_or_wd (f g : Nat → Bool) (k : Nat) : bits .or .u64 (wd f k) (wd g k) = (wd (fun c => f c || g c) k : Int) := by
  rw [(bitsN _ _ (wd_lt f k) (wd_lt g k)).2]
  exact congrArg Nat.cast (eq_wd (Nat.or_lt_two_pow (n := 64) (wd_lt f k) (wd_lt g k)) fun i hi => by simp [testBit_wd, hi])
theorem bits_and_wd (f g : Nat → Bool) (k : Nat) : bits .and .u64 (wd f k) (wd g k) = (wd (fun c => f c && g c) k : Int) := by
  rw [(bitsN _ _ (wd_lt f k) (wd_lt g k)).1]
  exact congrArg Nat.cast (eq_wd (Nat.and_lt_two_pow (n := 64) _ (wd_lt g k)) fun i hi => by simp [testBit_wd, hi])
theorem bits_not_wd (f : Nat → Bool) (k : Nat) : bits .xor .u64 IntKind.u64.max (wd f k) = (wd (fun c => !f c) k : Int) := by
  have : IntKind.u64.max = ((18446744073709551615 : Nat) : Int) := by decide
  rw [this, bits_xorN _ _ (by decide) (wd_lt f k)]
  refine congrArg Nat.cast (eq_wd (Nat.xor_lt_two_pow (n := 64) (by decide) (wd_lt f k)) fun i hi => ?_)
  have e : (18446744073709551615 : Nat) = 2 ^ 64 - 1 := by decide
  rw [Nat.testBit_xor, testBit_wd, e, Nat.testBit_two_pow_sub_one]
  simp [hi]

theorem wd_false (k : Nat) : wd (fun _ => false) k = 0 := by
  refine (eq_wd (by decide) fun i _ => ?_).symm; simp

/-- Word c / 64 of the set of one byte. -/
theorem wd_one (c : Nat) : wd (fun x => x == c) (c / 64) = 2 ^ (c % 64) := by
  refine (eq_wd ?_ fun i hi => ?_).symm
  · exact Nat.pow_lt_pow_right (a := 2) (by decide) (Nat.mod_lt c (by decide : 0 < 64))
  · rw [Nat.testBit_two_pow]
    rw [Bool.eq_iff_iff]; simp; omega
theorem wd_one_off {c k : Nat} (h : c / 64 ≠ k) : wd (fun x => x == c) k = 0 := by
  rw [← wd_false k]
  exact wd_congr fun i hi => by simp; omega

def orS (f g : Nat → Bool) : Nat → Bool := fun c => f c || g c
def andS (f g : Nat → Bool) : Nat → Bool := fun c => f c && g c
def notS (f : Nat → Bool) : Nat → Bool := fun c => !f c
def oneS (c : Nat) : Nat → Bool := fun x => x == c
def noS : Nat → Bool := fun _ => false
def spanS (lo hi : Nat) : Nat → Bool := fun x => decide (lo ≤ x) && decide (x ≤ hi)
def listS (l : List Nat) : Nat → Bool := fun x => l.contains x
theorem or_wd (f g : Nat → Bool) (k : Nat) : bits .or .u64 (wd f k) (wd g k) = (wd (orS f g) k : Int) := bits_or_wd f g k
theorem and_wd (f g : Nat → Bool) (k : Nat) : bits .and .u64 (wd f k) (wd g k) = (wd (andS f g) k : Int) := bits_and_wd f g k
theorem not_wd (f : Nat → Bool) (k : Nat) : bits .xor .u64 IntKind.u64.max (wd f k) = (wd (notS f) k : Int) := bits_not_wd f k
theorem no_wd (k : Nat) : wd noS k = 0 := wd_false k
theorem one_wd {c k : Nat} (hk : c / 64 = k) : IntKind.u64.wrap (2 ^ ((c : Int) % 64).toNat) = (wd (oneS c) k : Int) := by
  subst hk
  show _ = ((wd (fun x => x == c) (c / 64) : Nat) : Int)
  rw [wd_one, wrap_u64]
  have e : ((c : Int) % 64).toNat = c % 64 := by omega
  have h : (2 : Nat) ^ (c % 64) < 18446744073709551616 := Nat.pow_lt_pow_right (a := 2) (by decide) (Nat.mod_lt c (by decide : 0 < 64))
  rw [e]
  have key : ∀ v : Nat, v < 18446744073709551616 → (v : Int) % 18446744073709551616 = v := fun v hv => by omega
  have this : (2 : Int) ^ (c % 64) = ((2 ^ (c % 64) : Nat) : Int) := by simp
  rw [this]
  exact key _ h
theorem one_wd_off {c k : Nat} (hk : c / 64 ≠ k) : wd (oneS c) k = 0 := wd_one_off hk

/-- Whatever four words are those of a set. -/
def mem4 (a b c d : Nat) (x : Nat) : Bool := (if x / 64 = 0 then a else if x / 64 = 1 then b else if x / 64 = 2 then c else d).testBit (x % 64)
theorem wd_mem4 {a b c d : Nat} (ha : a < 18446744073709551616) (hb : b < 18446744073709551616) (hc : c < 18446744073709551616) (hd : d < 18446744073709551616) :
    wd (mem4 a b c d) 0 = a ∧ wd (mem4 a b c d) 1 = b ∧ wd (mem4 a b c d) 2 = c ∧ wd (mem4 a b c d) 3 = d := by
  refine ⟨(eq_wd ha fun i hi => ?_).symm, (eq_wd hb fun i hi => ?_).symm, (eq_wd hc fun i hi => ?_).symm, (eq_wd hd fun i hi => ?_).symm⟩
  · have e1 : (64 * 0 + i) / 64 = 0 := by omega
    have e2 : (64 * 0 + i) % 64 = i := by omega
    simp only [mem4, e1, e2]; simp
  · have e1 : (64 * 1 + i) / 64 = 1 := by omega
    have e2 : (64 * 1 + i) % 64 = i := by omega
    simp only [mem4, e1, e2]; simp
  · have e1 : (64 * 2 + i) / 64 = 2 := by omega
    have e2 : (64 * 2 + i) % 64 = i := by omega
    simp only [mem4, e1, e2]; simp
  · have e1 : (64 * 3 + i) / 64 = 3 := by omega
    have e2 : (64 * 3 + i) % 64 = i := by omega
    simp only [mem4, e1, e2]; simp

/-! ### The number of bits -/

/-- Digits of width k. -/
def dgS (k : Nat) (d : Nat → Nat) : Nat → Nat
  | 0 => 0
  | n + 1 => dgS k d n + d n * 2 ^ (k * n)
theorem dgS_lt {k : Nat} {d : Nat → Nat} {n : Nat} (h : ∀ j, j < n → d j < 2 ^ k) : dgS k d n < 2 ^ (k * n) := by
  induction n with
  | zero => simp [dgS]
  | succ n ih =>
    have h1 := ih fun j hj => h j (by omega)
    have h2 := h n (by omega)
    have e : 2 ^ (k * (n + 1)) = 2 ^ k * 2 ^ (k * n) := by rw [← Nat.pow_add]; congr 1; rw [Nat.mul_add]; omega
    rw [dgS, e]
    have h3 : (d n + 1) * 2 ^ (k * n) ≤ 2 ^ k * 2 ^ (k * n) := Nat.mul_le_mul_right _ h2
    rw [Nat.add_mul] at h3
    omega
theorem testBit_dgS {k : Nat} (hk : 0 < k) {d : Nat → Nat} {n : Nat} (h : ∀ j, j < n → d j < 2 ^ k) (i : Nat) : (dgS k d n).testBit i = (decide (i < k * n) && (d (i / k)).testBit (i % k)) := by
  induction n with
  | zero => simp [dgS]
  | succ n ih =>
    have h1 := dgS_lt (k := k) (d := d) (n := n) fun j hj => h j (by omega)
    rw [dgS, Nat.add_comm, Nat.mul_comm, Nat.testBit_two_pow_mul_add _ h1, ih fun j hj => h j (by omega)]
    have e : k * (n + 1) = k * n + k := by rw [Nat.mul_add]; omega
    by_cases hi : i < k * n
    · have : i < k * (n + 1) := by omega
      simp [hi, this]
    · simp only [hi, if_false]
      by_cases h2 : i < k * (n + 1)
      · have e1 : i / k = n := by
          exact Nat.div_eq_of_lt_le (by rw [Nat.mul_comm]; omega) (by rw [Nat.mul_comm]; omega)
        have e2 : i % k = i - k * n := by have := Nat.div_add_mod i k; rw [e1] at this; omega
        simp [h2, e1, e2]
      · have : d n < 2 ^ (i - k * n) := Nat.lt_of_lt_of_le (h n (by omega)) (Nat.pow_le_pow_right (by decide) (by omega))
        simp [h2, Nat.testBit_lt_two_pow this]

theorem dgS_add {k : Nat} (d e : Nat → Nat) (n : Nat) : dgS k d n + dgS k e n = dgS k (fun j => d j + e j) n := by
  induction n with
  | zero => rfl
  | succ n ih => simp only [dgS]; rw [← ih, Nat.add_mul]; omega
/-- A number of 64 bits is its digits. -/
theorem eq_dgS {k n x : Nat} (hk : 0 < k) (hkn : k * n = 64) {d : Nat → Nat} (hx : x < 18446744073709551616) (hd : ∀ j, j < n → d j < 2 ^ k)
    (h : ∀ i, i < 64 → x.testBit i = (d (i / k)).testBit (i % k)) : x = dgS k d n := by
  apply Nat.eq_of_testBit_eq
  intro i
  rw [testBit_dgS hk hd, hkn]
  by_cases hi : i < 64
  · simp [hi, h i hi]
  · have : x < 2 ^ i := Nat.lt_of_lt_of_le (show x < 2 ^ 64 from hx) (Nat.pow_le_pow_right (by decide) (by omega))
    simp [hi, Nat.testBit_lt_two_pow this]

/-- How many of the first n bits are set. -/
def cnt (b : Nat → Bool) : Nat → Nat
  | 0 => 0
  | n + 1 => cnt b n + (b n).toNat
theorem cnt_le (b : Nat → Bool) (n : Nat) : cnt b n ≤ n := by
  induction n with
  | zero => simp [cnt]
  | succ n ih => rw [cnt]; have := Bool.toNat_le (b n); omega

theorem mask1 : ∀ i, i < 64 → (6148914691236517205 : Nat).testBit i = decide (i % 2 = 0) := by decide
theorem mask2 : ∀ i, i < 64 → (3689348814741910323 : Nat).testBit i = decide (i % 4 < 2) := by decide
theorem mask3 : ∀ i, i < 64 → (1085102592571150095 : Nat).testBit i = decide (i % 8 < 4) := by decide

def c1 (b : Nat → Bool) (j : Nat) : Nat := (b (2 * j + 1)).toNat + (b (2 * j)).toNat
def c2 (b : Nat → Bool) (j : Nat) : Nat := c1 b (2 * j + 1) + c1 b (2 * j)
def c3 (b : Nat → Bool) (j : Nat) : Nat := c2 b (2 * j + 1) + c2 b (2 * j)
theorem c1_le (b : Nat → Bool) (j : Nat) : c1 b j ≤ 2 := by have := Bool.toNat_le (b (2 * j)); have := Bool.toNat_le (b (2 * j + 1)); unfold c1; omega
theorem c2_le (b : Nat → Bool) (j : Nat) : c2 b j ≤ 4 := by have := c1_le b (2 * j); have := c1_le b (2 * j + 1); unfold c2; omega
theorem c3_le (b : Nat → Bool) (j : Nat) : c3 b j ≤ 8 := by have := c2_le b (2 * j); have := c2_le b (2 * j + 1); unfold c3; omega

theorem toNat_bit0 (b : Bool) : b.toNat.testBit 0 = b := by cases b <;> rfl
theorem toNat_bit1 (b : Bool) : b.toNat.testBit 1 = false := by cases b <;> rfl
theorem small_bit {n m i : Nat} (h : n < 2 ^ m) (hi : m ≤ i) : n.testBit i = false := Nat.testBit_lt_two_pow (Nat.lt_of_lt_of_le h (Nat.pow_le_pow_right (by decide) hi))

theorem step1 {x : Nat} (hx : x < 18446744073709551616) : (x / 2 &&& 6148914691236517205) + (x &&& 6148914691236517205) = dgS 2 (c1 x.testBit) 32 := by
  have e1 : x / 2 &&& 6148914691236517205 = dgS 2 (fun j => (x.testBit (2 * j + 1)).toNat) 32 := by
    refine eq_dgS (by decide) (by decide) (Nat.lt_of_le_of_lt Nat.and_le_left (by omega)) (fun j _ => by have := Bool.toNat_le (x.testBit (2 * j + 1)); omega) fun i hi => ?_
    rw [Nat.testBit_and, mask1 i hi, Nat.testBit_div_two]
    rcases Nat.mod_two_eq_zero_or_one i with h | h
    · have : 2 * (i / 2) + 1 = i + 1 := by omega
      simp only [h, this]; rw [toNat_bit0]; simp
    · simp [h, toNat_bit1]
  have e2 : x &&& 6148914691236517205 = dgS 2 (fun j => (x.testBit (2 * j)).toNat) 32 := by
    refine eq_dgS (by decide) (by decide) (Nat.lt_of_le_of_lt Nat.and_le_left (by omega)) (fun j _ => by have := Bool.toNat_le (x.testBit (2 * j)); omega) fun i hi => ?_
    rw [Nat.testBit_and, mask1 i hi]
    rcases Nat.mod_two_eq_zero_or_one i with h | h
    · have : 2 * (i / 2) = i := by omega
      simp only [h, this]; rw [toNat_bit0]; simp
    · simp [h, toNat_bit1]
  rw [e1, e2, dgS_add]; rfl

theorem testBit_div_pow (x m i : Nat) : (x / 2 ^ m).testBit i = x.testBit (m + i) := by rw [← Nat.shiftRight_eq_div_pow, Nat.testBit_shiftRight]

theorem step2 (b : Nat → Bool) : (dgS 2 (c1 b) 32 / 4 &&& 3689348814741910323) + (dgS 2 (c1 b) 32 &&& 3689348814741910323) = dgS 4 (c2 b) 16 := by
  have hd : ∀ j, j < 32 → c1 b j < 2 ^ 2 := fun j _ => by have := c1_le b j; omega
  have hx : dgS 2 (c1 b) 32 < 18446744073709551616 := dgS_lt hd
  have e1 : dgS 2 (c1 b) 32 / 4 &&& 3689348814741910323 = dgS 4 (fun j => c1 b (2 * j + 1)) 16 := by
    refine eq_dgS (by decide) (by decide) (Nat.lt_of_le_of_lt Nat.and_le_left (by omega)) (fun j _ => by have := c1_le b (2 * j + 1); omega) fun i hi => ?_
    rw [Nat.testBit_and, mask2 i hi, testBit_div_pow _ 2, testBit_dgS (by decide) hd]
    by_cases h : i % 4 < 2
    · have e1 : (2 + i) / 2 = 2 * (i / 4) + 1 := by omega
      have e2 : (2 + i) % 2 = i % 4 := by omega
      have e3 : 2 + i < 64 := by omega
      simp [h, e1, e2, e3]
    · have := small_bit (n := c1 b (2 * (i / 4) + 1)) (m := 2) (i := i % 4) (by have := c1_le b (2 * (i / 4) + 1); omega) (by omega)
      simp [h, this]
  have e2 : dgS 2 (c1 b) 32 &&& 3689348814741910323 = dgS 4 (fun j => c1 b (2 * j)) 16 := by
    refine eq_dgS (by decide) (by decide) (Nat.lt_of_le_of_lt Nat.and_le_left (by omega)) (fun j _ => by have := c1_le b (2 * j); omega) fun i hi => ?_
    rw [Nat.testBit_and, mask2 i hi, testBit_dgS (by decide) hd]
    by_cases h : i % 4 < 2
    · have e1 : i / 2 = 2 * (i / 4) := by omega
      have e2 : i % 2 = i % 4 := by omega
      simp [h, e1, e2, hi]
    · have := small_bit (n := c1 b (2 * (i / 4))) (m := 2) (i := i % 4) (by have := c1_le b (2 * (i / 4)); omega) (by omega)
      simp [h, this]
  rw [e1, e2, dgS_add]; rfl

def nx (d : Nat → Nat) (n : Nat) (j : Nat) : Nat := if j + 1 < n then d (j + 1) else 0
theorem dgS_shift {k : Nat} (hk : 0 < k) {n : Nat} {d : Nat → Nat} (hd : ∀ j, j < n → d j < 2 ^ k) : dgS k d n / 2 ^ k = dgS k (nx d n) n := by
  apply Nat.eq_of_testBit_eq
  intro i
  have hn : ∀ j, j < n → nx d n j < 2 ^ k := fun j hj => by unfold nx; split; exact hd _ ‹_›; exact Nat.two_pow_pos k
  rw [testBit_div_pow, testBit_dgS hk hd, testBit_dgS hk hn]
  have e1 : (k + i) / k = i / k + 1 := by rw [Nat.add_comm, Nat.add_div_right _ hk]
  have e2 : (k + i) % k = i % k := by simp
  rw [e1, e2]
  have h : k + i < k * n ↔ i / k + 1 < n := by
    rw [← e1, Nat.div_lt_iff_lt_mul hk, Nat.mul_comm]
  by_cases hh : i / k + 1 < n
  · have : i < k * n := by have := h.2 hh; omega
    simp [nx, hh, h.2 hh, this]
  · have : ¬ k + i < k * n := fun q => hh (h.1 q)
    simp [nx, hh, this]

theorem step3 (b : Nat → Bool) : dgS 4 (c2 b) 16 / 16 + dgS 4 (c2 b) 16 < 18446744073709551616 ∧ (dgS 4 (c2 b) 16 / 16 + dgS 4 (c2 b) 16) &&& 1085102592571150095 = dgS 8 (c3 b) 8 := by
  have hd : ∀ j, j < 16 → c2 b j < 2 ^ 4 := fun j _ => by have := c2_le b j; omega
  have hs := dgS_shift (k := 4) (n := 16) (by decide) hd
  rw [show (16 : Nat) = 2 ^ 4 from rfl, hs, dgS_add]
  have hd2 : ∀ j, j < 2 ^ 4 → (fun j => nx (c2 b) (2 ^ 4) j + c2 b j) j < 2 ^ 4 := fun j _ => by
    have := c2_le b j; have := c2_le b (j + 1); simp only [nx]; split <;> omega
  have hlt := dgS_lt (k := 4) (n := 2 ^ 4) hd2
  refine ⟨hlt, eq_dgS (by decide) (by decide) (Nat.lt_of_le_of_lt Nat.and_le_left hlt) (fun j _ => by have := c3_le b j; omega) fun i hi => ?_⟩
  rw [Nat.testBit_and, mask3 i hi, testBit_dgS (by decide) hd2]
  by_cases h : i % 8 < 4
  · have e1 : i / 4 = 2 * (i / 8) := by omega
    have e2 : i % 4 = i % 8 := by omega
    have e3 : 2 * (i / 8) + 1 < 16 := by omega
    simp [h, e1, e2, nx, e3, hi, c3]
  · have := small_bit (n := c3 b (i / 8)) (m := 4) (i := i % 8) (by have := c3_le b (i / 8); omega) (by omega)
    simp [h, this]

theorem cnt64 (b : Nat → Bool) : cnt b 64 = c3 b 0 + c3 b 1 + c3 b 2 + c3 b 3 + c3 b 4 + c3 b 5 + c3 b 6 + c3 b 7 := by
  simp only [cnt, c3, c2, c1, Nat.reduceMul, Nat.reduceAdd, Nat.zero_add]
  omega
theorem step4 (b : Nat → Bool) : ∃ v w z : Nat, v < 18446744073709551616 ∧ w < 18446744073709551616 ∧ z < 9223372036854775808 ∧ v = dgS 8 (c3 b) 8 + dgS 8 (c3 b) 8 / 256 ∧ w = v + v / 65536 ∧ z = w + w / 4294967296 ∧ z % 128 = cnt b 64 := by
  have h0 := c3_le b 0
  have h1 := c3_le b 1
  have h2 := c3_le b 2
  have h3 := c3_le b 3
  have h4 := c3_le b 4
  have h5 := c3_le b 5
  have h6 := c3_le b 6
  have h7 := c3_le b 7
  rw [cnt64]
  simp only [dgS, Nat.reduceMul, Nat.reducePow, Nat.zero_add, Nat.mul_one]
  generalize c3 b 0 = d0 at *
  generalize c3 b 1 = d1 at *
  generalize c3 b 2 = d2 at *
  generalize c3 b 3 = d3 at *
  generalize c3 b 4 = d4 at *
  generalize c3 b 5 = d5 at *
  generalize c3 b 6 = d6 at *
  generalize c3 b 7 = d7 at *
  have e1 : (d0 + d1 * 256 + d2 * 65536 + d3 * 16777216 + d4 * 4294967296 + d5 * 1099511627776 + d6 * 281474976710656 + d7 * 72057594037927936) / 256 = d1 + d2 * 256 + d3 * 65536 + d4 * 16777216 + d5 * 4294967296 + d6 * 1099511627776 + d7 * 281474976710656 := by omega
  refine ⟨(d0 + d1) + (d1 + d2) * 256 + (d2 + d3) * 65536 + (d3 + d4) * 16777216 + (d4 + d5) * 4294967296 + (d5 + d6) * 1099511627776 + (d6 + d7) * 281474976710656 + d7 * 72057594037927936, (d0 + d1 + d2 + d3) + (d1 + d2 + d3 + d4) * 256 + (d2 + d3 + d4 + d5) * 65536 + (d3 + d4 + d5 + d6) * 16777216 + (d4 + d5 + d6 + d7) * 4294967296 + (d5 + d6 + d7) * 1099511627776 + (d6 + d7) * 281474976710656 + d7 * 72057594037927936, (d0 + d1 + d2 + d3 + d4 + d5 + d6 + d7) + (d1 + d2 + d3 + d4 + d5 + d6 + d7) * 256 + (d2 + d3 + d4 + d5 + d6 + d7) * 65536 + (d3 + d4 + d5 + d6 + d7) * 16777216 + (d4 + d5 + d6 + d7) * 4294967296 + (d5 + d6 + d7) * 1099511627776 + (d6 + d7) * 281474976710656 + d7 * 72057594037927936, by omega, by omega, by omega, by rw [e1]; omega, by omega, by omega, by omega⟩

/-! ### Trailing zeros -/

/-- Where the least set bit stands. -/
theorem least_bit {x : Nat} (hx : x ≠ 0) : ∃ t, x.testBit t = true ∧ ∀ i, i < t → x.testBit i = false := by
  obtain ⟨m, hm⟩ := Nat.exists_testBit_of_ne_zero hx
  induction m using Nat.strongRecOn with
  | _ m ih =>
    by_cases h : ∃ i, i < m ∧ x.testBit i = true
    · obtain ⟨i, hi, hb⟩ := h
      exact ih i hi hb
    · exact ⟨m, hm, fun i hi => by
        cases hb : x.testBit i
        · rfl
        · exact absurd ⟨i, hi, hb⟩ h⟩

theorem split_at {x t : Nat} (h1 : x.testBit t = true) (h0 : ∀ i, i < t → x.testBit i = false) : ∃ m, x = 2 ^ t * (2 * m + 1) := by
  refine ⟨x / 2 ^ (t + 1), ?_⟩
  apply Nat.eq_of_testBit_eq
  intro i
  rw [← Nat.add_zero (2 ^ t * _), Nat.testBit_two_pow_mul_add _ (Nat.two_pow_pos t)]
  by_cases hi : i < t
  · simp [hi, h0 i hi]
  · simp only [hi, if_false]
    obtain ⟨j, rfl⟩ : ∃ j, i = t + j := ⟨i - t, by omega⟩
    have e : t + j - t = j := by omega
    rw [e]
    cases j with
    | zero => simpa using h1
    | succ j =>
      have e2 : (2 * (x / 2 ^ (t + 1)) + 1) / 2 = x / 2 ^ (t + 1) := by omega
      rw [Nat.testBit_succ, e2, testBit_div_pow]
      congr 1
      omega

theorem pred_bit {x t : Nat} (h1 : x.testBit t = true) (h0 : ∀ i, i < t → x.testBit i = false) (i : Nat) : (x - 1).testBit i = (decide (i < t) || (decide (t < i) && x.testBit i)) := by
  obtain ⟨m, rfl⟩ := split_at h1 h0
  have hp := Nat.two_pow_pos t
  have e : 2 ^ t * (2 * m + 1) - 1 = 2 ^ t * (2 * m) + (2 ^ t - 1) := by rw [Nat.mul_add]; omega
  rw [e, Nat.testBit_two_pow_mul_add _ (by omega), ← Nat.add_zero (2 ^ t * (2 * m + 1)), Nat.testBit_two_pow_mul_add _ hp]
  rcases Nat.lt_trichotomy i t with h | h | h
  · simp [h, Nat.testBit_two_pow_sub_one]
  · subst h; simp
  · have a1 : ¬ i < t := by omega
    simp only [a1, h, if_false, decide_true, decide_false, Bool.false_or, Bool.true_and]
    obtain ⟨j, hj⟩ : ∃ j, i - t = j + 1 := ⟨i - t - 1, by omega⟩
    rw [hj, Nat.testBit_succ, Nat.testBit_succ]
    have b1 : 2 * m / 2 = m := by omega
    have b2 : (2 * m + 1) / 2 = m := by omega
    rw [b1, b2]

theorem and_neg {x t : Nat} (hx : x < 18446744073709551616) (h1 : x.testBit t = true) (h0 : ∀ i, i < t → x.testBit i = false) : x &&& (18446744073709551616 - x) = 2 ^ t ∧ t < 64 := by
  have ht : t < 64 := by
    rcases Nat.lt_or_ge t 64 with h | h
    · exact h
    · rw [small_bit (m := 64) hx h] at h1; cases h1
  refine ⟨?_, ht⟩
  have hx0 : x ≠ 0 := fun e => by subst e; simp at h1
  apply Nat.eq_of_testBit_eq
  intro i
  have e : (18446744073709551616 : Nat) - x = 2 ^ 64 - ((x - 1) + 1) := by rw [Nat.sub_add_cancel (by omega)]
  rw [Nat.testBit_and, e, Nat.testBit_two_pow_sub_succ (by omega), pred_bit h1 h0, Nat.testBit_two_pow]
  rcases Nat.lt_trichotomy i t with h | h | h
  · have : ¬ t = i := by omega
    simp [h0 i h, this]
  · subst h; simp [h1, ht]
  · have a1 : ¬ i < t := by omega
    have a2 : ¬ t = i := by omega
    simp [a1, a2, h]
    intro q _; exact q

theorem and_pred {x t : Nat} (h1 : x.testBit t = true) (h0 : ∀ i, i < t → x.testBit i = false) (i : Nat) : (x &&& (x - 1)).testBit i = (x.testBit i && decide (i ≠ t)) := by
  rw [Nat.testBit_and, pred_bit h1 h0]
  rcases Nat.lt_trichotomy i t with h | h | h
  · simp [h0 i h]
  · subst h; simp
  · have a1 : ¬ i < t := by omega
    have a2 : i ≠ t := by omega
    simp [a1, a2, h]
end Go.Proofs.YtjlmeegaiagfpaaDoor.S1

namespace Go.Proofs.YtjlmeegaiagfpaaDoor.S1
open Go.RowKit

theorem div_nat {c k : Nat} (h : c / 64 = k) : (c : Int) / 64 = k := by omega

set_option maxHeartbeats 400000 in
theorem one_in (c : Nat) (hc : c ≤ 255) (w : World) :
    Calls Tryd.prog 69 #[.int .u8 c] w fun e w' => e = .returned (.agg #[.int .u64 (wd (oneS c) 0), .int .u64 (wd (oneS c) 1), .int .u64 (wd (oneS c) 2), .int .u64 (wd (oneS c) 3)]) ∧ Below w.heap.size w w' := by
  have hk : c / 64 = 0 ∨ c / 64 = 1 ∨ c / 64 = 2 ∨ c / 64 = 3 := by omega
  have h0 : (0 : Int) ≤ c := by omega
  have h1 : (c : Int) ≤ 255 := by omega
  rcases hk with hk | hk | hk | hk
  · have hq := div_nat hk
    have hw := one_wd hk
    have hz : (c : Int) / 64 = 0 := hq
    clear hq
    have z1 := one_wd_off (c := c) (k := 1) (by omega)
    have z2 := one_wd_off (c := c) (k := 2) (by omega)
    have z3 := one_wd_off (c := c) (k := 3) (by omega)
    go_enter Tryd.func69, Tryd.ntmps69
    go_wp2
    exact bodyPost_ret (v := (.agg #[.int .u64 (wd (oneS c) 0), .int .u64 (wd (oneS c) 1), .int .u64 (wd (oneS c) 2), .int .u64 (wd (oneS c) 3)])) (by simp [results, Tryd.results69, go_sem, z1, z2, z3]) rfl ⟨rfl, ((Below.refl _ _).alloc (Nat.le_refl _) _).alloc (by simp) _⟩
  · have hq := div_nat hk
    have hw := one_wd hk
    have hz : (c : Int) / 64 = 1 := hq
    clear hq
    have z0 := one_wd_off (c := c) (k := 0) (by omega)
    have z2 := one_wd_off (c := c) (k := 2) (by omega)
    have z3 := one_wd_off (c := c) (k := 3) (by omega)
    go_enter Tryd.func69, Tryd.ntmps69
    go_wp2
    exact bodyPost_ret (v := (.agg #[.int .u64 (wd (oneS c) 0), .int .u64 (wd (oneS c) 1), .int .u64 (wd (oneS c) 2), .int .u64 (wd (oneS c) 3)])) (by simp [results, Tryd.results69, go_sem, z0, z2, z3]) rfl ⟨rfl, ((Below.refl _ _).alloc (Nat.le_refl _) _).alloc (by simp) _⟩
  · have hq := div_nat hk
    have hw := one_wd hk
    have hz : (c : Int) / 64 = 2 := hq
    clear hq
    have z0 := one_wd_off (c := c) (k := 0) (by omega)
    have z1 := one_wd_off (c := c) (k := 1) (by omega)
    have z3 := one_wd_off (c := c) (k := 3) (by omega)
    go_enter Tryd.func69, Tryd.ntmps69
    go_wp2
    exact bodyPost_ret (v := (.agg #[.int .u64 (wd (oneS c) 0), .int .u64 (wd (oneS c) 1), .int .u64 (wd (oneS c) 2), .int .u64 (wd (oneS c) 3)])) (by simp [results, Tryd.results69, go_sem, z0, z1, z3]) rfl ⟨rfl, ((Below.refl _ _).alloc (Nat.le_refl _) _).alloc (by simp) _⟩
  · have hq := div_nat hk
    have hw := one_wd hk
    have hz : (c : Int) / 64 = 3 := hq
    clear hq
    have z0 := one_wd_off (c := c) (k := 0) (by omega)
    have z1 := one_wd_off (c := c) (k := 1) (by omega)
    have z2 := one_wd_off (c := c) (k := 2) (by omega)
    go_enter Tryd.func69, Tryd.ntmps69
    go_wp2
    exact bodyPost_ret (v := (.agg #[.int .u64 (wd (oneS c) 0), .int .u64 (wd (oneS c) 1), .int .u64 (wd (oneS c) 2), .int .u64 (wd (oneS c) 3)])) (by simp [results, Tryd.results69, go_sem, z0, z1, z2]) rfl ⟨rfl, ((Below.refl _ _).alloc (Nat.le_refl _) _).alloc (by simp) _⟩

set_option maxHeartbeats 1000000 in
theorem or_in (f g : Nat → Bool) (w : World) :
    Calls Tryd.prog 88 #[(.agg #[.int .u64 (wd f 0), .int .u64 (wd f 1), .int .u64 (wd f 2), .int .u64 (wd f 3)]), (.agg #[.int .u64 (wd g 0), .int .u64 (wd g 1), .int .u64 (wd g 2), .int .u64 (wd g 3)])] w fun e w' => e = .returned (.agg #[.int .u64 (wd (orS f g) 0), .int .u64 (wd (orS f g) 1), .int .u64 (wd (orS f g) 2), .int .u64 (wd (orS f g) 3)]) ∧ Below w.heap.size w w' := by
  have o0 := or_wd f g 0
  have o1 := or_wd f g 1
  have o2 := or_wd f g 2
  have o3 := or_wd f g 3
  go_enter Tryd.func88, Tryd.ntmps88
  go_wp2
  refine wp_loop_rounds 5 ?_
  rw [rounds_succ]
  go_wp2
  go_region
  go_wp2
  rw [rounds_succ]
  go_wp2
  go_region
  go_wp2
  rw [rounds_succ]
  go_wp2
  go_region
  go_wp2
  rw [rounds_succ]
  go_wp2
  go_region
  go_wp2
  rw [rounds_succ]
  go_wp2
  exact bodyPost_ret (v := (.agg #[.int .u64 (wd (orS f g) 0), .int .u64 (wd (orS f g) 1), .int .u64 (wd (orS f g) 2), .int .u64 (wd (orS f g) 3)])) (by simp [results, Tryd.results88, go_sem]) rfl ⟨rfl, (((((((Below.refl _ _).alloc (Nat.le_refl _) _).alloc (by simp) _).alloc (by simp <;> omega) _).drew.drew.drew.drew)))⟩

set_option maxHeartbeats 400000 in
theorem not_in (f : Nat → Bool) (w : World) :
    Calls Tryd.prog 80 #[(.agg #[.int .u64 (wd f 0), .int .u64 (wd f 1), .int .u64 (wd f 2), .int .u64 (wd f 3)])] w fun e w' => e = .returned (.agg #[.int .u64 (wd (notS f) 0), .int .u64 (wd (notS f) 1), .int .u64 (wd (notS f) 2), .int .u64 (wd (notS f) 3)]) ∧ Below w.heap.size w w' := by
  have o0 := not_wd f 0
  have o1 := not_wd f 1
  have o2 := not_wd f 2
  have o3 := not_wd f 3
  have hs : (IntKind.u64.signed = true) = False := by decide
  go_enter Tryd.func80, Tryd.ntmps80
  go_wp2
  refine wp_loop_rounds 5 ?_
  rw [rounds_succ]
  go_wp2
  rw [rounds_succ]
  go_wp2
  rw [rounds_succ]
  go_wp2
  rw [rounds_succ]
  go_wp2
  rw [rounds_succ]
  go_wp2
  exact bodyPost_ret (v := (.agg #[.int .u64 (wd (notS f) 0), .int .u64 (wd (notS f) 1), .int .u64 (wd (notS f) 2), .int .u64 (wd (notS f) 3)])) (by simp [results, Tryd.results80, go_sem]) rfl ⟨rfl, ((Below.refl _ _).alloc (Nat.le_refl _) _).alloc (by simp) _⟩

end Go.Proofs.YtjlmeegaiagfpaaDoor.S1

namespace Go.Proofs.YtjlmeegaiagfpaaDoor.S1
open Go.RowKit

/-! ### Equality of two sets -/
/-- Are the words of two sets alike? -/
def eqB (f g : Nat → Bool) : Bool := (((wd f 0 : Nat) : Int) == (wd g 0 : Nat)) && (((wd f 1 : Nat) : Int) == (wd g 1 : Nat)) && (((wd f 2 : Nat) : Int) == (wd g 2 : Nat)) && (((wd f 3 : Nat) : Int) == (wd g 3 : Nat))
theorem eqB_true {f g : Nat → Bool} (h : ∀ c, c < 256 → f c = g c) : eqB f g = true := by
  unfold eqB
  rw [wd_congr (f := f) (g := g) (k := 0) (fun i hi => h _ (by omega)), wd_congr (f := f) (g := g) (k := 1) (fun i hi => h _ (by omega)),
    wd_congr (f := f) (g := g) (k := 2) (fun i hi => h _ (by omega)), wd_congr (f := f) (g := g) (k := 3) (fun i hi => h _ (by omega))]
  simp
theorem eqB_spec {f g : Nat → Bool} (h : eqB f g = true) : ∀ c, c < 256 → f c = g c := by
  unfold eqB at h
  simp only [Bool.and_eq_true, beq_iff_eq, Int.natCast_inj] at h
  obtain ⟨⟨⟨h0, h1⟩, h2⟩, h3⟩ := h
  intro c hc
  have hk : c / 64 = 0 ∨ c / 64 = 1 ∨ c / 64 = 2 ∨ c / 64 = 3 := by omega
  have e : 64 * (c / 64) + c % 64 = c := Nat.div_add_mod c 64
  have hm := Nat.mod_lt c (by decide : 0 < 64)
  rcases hk with hk | hk | hk | hk <;> rw [hk] at e
  · have := wd_inj h0 (c % 64) hm; rw [e] at this; exact this
  · have := wd_inj h1 (c % 64) hm; rw [e] at this; exact this
  · have := wd_inj h2 (c % 64) hm; rw [e] at this; exact this
  · have := wd_inj h3 (c % 64) hm; rw [e] at this; exact this
theorem eqB_iff (f g : Nat → Bool) : eqB f g = true ↔ ∀ c, c < 256 → f c = g c := ⟨eqB_spec, eqB_true⟩

theorem u28 : Tryd.prog.underlying 25 = some (.array 4 23) := by kernel_rfl
theorem c26 : Tryd.prog.cellsOf 23 = 1 := by kernel_rfl
theorem i26 : ∃ i, Tryd.prog.info? 23 = some i := by
  cases h : Tryd.prog.info? 23 with
  | none => have : (Tryd.prog.info? 23).isSome = true := by kernel_rfl
            rw [h] at this; cases this
  | some i => exact ⟨i, rfl⟩
theorem u26 : Tryd.prog.underlying 23 = some (.int .u64) := by kernel_rfl
theorem eq28 (a0 a1 a2 a3 b0 b1 b2 b3 : Int) (w : World) : (Op.equalIn 10000 25 (.agg #[.int .u64 a0, .int .u64 a1, .int .u64 a2, .int .u64 a3]) (.agg #[.int .u64 b0, .int .u64 b1, .int .u64 b2, .int .u64 b3])).run Tryd.prog w =
    .ok ((a0 == b0) && (a1 == b1) && (a2 == b2) && (a3 == b3)) w := by
  obtain ⟨i, hi⟩ := i26
  rw [run_equalIn_array w 9999 _ _ u28 hi, c26]
  have hr : List.range 4 = [0, 1, 2, 3] := rfl
  rw [hr]
  simp only [Op.eqItems, Sem.run_bind]
  simp [go_sem]
  by_cases h0 : a0 = b0 <;> by_cases h1 : a1 = b1 <;> by_cases h2 : a2 = b2 <;> by_cases h3 : a3 = b3 <;> simp [*]
theorem ret_bool {a b : Bool} (h : a = b) : Ending.returned (.bool a) = .returned (.bool b) := by rw [h]
theorem ret_int {k : IntKind} {a b : Int} (h : a = b) : Ending.returned (.int k a) = .returned (.int k b) := by rw [h]

set_option maxHeartbeats 400000 in
theorem empty_in (f : Nat → Bool) (w : World) :
    Calls Tryd.prog 74 #[(.agg #[.int .u64 (wd f 0), .int .u64 (wd f 1), .int .u64 (wd f 2), .int .u64 (wd f 3)])] w fun e w' => e = .returned (.bool (eqB f noS)) ∧ Below w.heap.size w w' := by
  have he := fun w => eq28 (wd f 0) (wd f 1) (wd f 2) (wd f 3) 0 0 0 0 w
  go_enter Tryd.func74, Tryd.ntmps74
  go_wp2
  go_ret
  exact ⟨ret_bool (by simp [eqB, no_wd]), (Below.refl _ _).alloc (Nat.le_refl _) _⟩

theorem and_i64_127 (n : Nat) (h : n < 9223372036854775808) : bits .and .i64 n 127 = ((n % 128 : Nat) : Int) := by
  have := (bits_nat .i64 63 (by decide) (fun n h0 h1 => by rw [IntKind.wrap_i64]; omega) n 127 (by omega) (by decide)).1
  have e : n &&& 127 = n % 128 := Nat.and_two_pow_sub_one_eq_mod n 7
  rw [e] at this
  exact this

/-- The table of math/bits.TrailingZeros64 lies in block 0. -/
def Tab (w : World) : Prop := 0 < w.heap.size ∧ ∀ t : Nat, t < 64 → w.cell? ⟨0, (2 ^ t * 285870213051353865) % 18446744073709551616 / 288230376151711744, none⟩ = some (.int .u8 t)
theorem Tab.below {w w' : World} {B : Nat} (h : Tab w) (hb : Below B w w') (hB : 0 < B) : Tab w' :=
  ⟨Nat.lt_of_lt_of_le h.1 hb.size, fun t ht => (hb.cell (p := ⟨0, _, none⟩) hB).trans (h.2 t ht)⟩
theorem idx_lt : ∀ t : Nat, t < 64 → (2 ^ t * 285870213051353865) % 18446744073709551616 / 288230376151711744 < 64 := fun t _ => by
  have := Nat.mod_lt (2 ^ t * 285870213051353865) (by decide : 0 < 18446744073709551616)
  omega

def tabIx (t : Nat) : Nat := (2 ^ t * 285870213051353865) % 18446744073709551616 / 288230376151711744
theorem ctz_math (x t : Nat) (hx : x < 18446744073709551616) (h1 : x.testBit t = true) (h0 : ∀ i, i < t → x.testBit i = false) : t < 64 ∧ ((x : Int) == 0) = false ∧
    ∃ p y : Nat, bits .and .u64 (x : Int) (IntKind.u64.wrap (-(x : Int))) = (p : Int) ∧ IntKind.u64.wrap ((p : Int) * 285870213051353865) = (y : Int) ∧ (y : Int) / 288230376151711744 = (tabIx t : Nat) := by
  obtain ⟨hand, ht⟩ := and_neg hx h1 h0
  have hx0 : x ≠ 0 := fun e => by subst e; simp at h1
  refine ⟨ht, by simpa using hx0, 2 ^ t, (2 ^ t * 285870213051353865) % 18446744073709551616, ?_, ?_, ?_⟩
  · have e : IntKind.u64.wrap (-(x : Int)) = ((18446744073709551616 - x : Nat) : Int) := by rw [wrap_u64]; omega
    rw [e, (bitsN x _ hx (by omega)).1, hand]
  · rw [wrap_u64]
    generalize (2 : Nat) ^ t = p
    omega
  · unfold tabIx
    generalize (2 : Nat) ^ t * 285870213051353865 % 18446744073709551616 = y
    omega

theorem bit_div (a i : Nat) : ((((a / 2 ^ i : Nat) : Int) % 2) == 1) = a.testBit i := by
  rw [Bool.eq_iff_iff, beq_iff_eq, Nat.testBit_eq_decide_div_mod_eq, decide_eq_true_eq]
  omega

set_option maxHeartbeats 400000 in
theorem has_ref (f : Nat → Bool) (c : Nat) (hc : c ≤ 255) (w : World) :
    Calls Tryd.prog 72 #[(.agg #[.int .u64 (wd f 0), .int .u64 (wd f 1), .int .u64 (wd f 2), .int .u64 (wd f 3)]), .int .i64 c] w fun e w' => e = .returned (.bool (f c)) ∧ Below w.heap.size w w' := by
  have hk : c / 64 = 0 ∨ c / 64 = 1 ∨ c / 64 = 2 ∨ c / 64 = 3 := by omega
  have h0 : (0 : Int) ≤ c := by omega
  have h1 : (c : Int) ≤ 255 := by omega
  have hpl : (2 : Nat) ^ (c % 64) < 18446744073709551616 := Nat.pow_lt_pow_right (a := 2) (by decide) (Nat.mod_lt c (by decide : 0 < 64))
  have hw : IntKind.u64.wrap (2 ^ ((c : Int) % 64).toNat) = ((2 ^ (c % 64) : Nat) : Int) := by
    have e : ((c : Int) % 64).toNat = c % 64 := by omega
    have this : (2 : Int) ^ (c % 64) = ((2 ^ (c % 64) : Nat) : Int) := by simp
    rw [e, this]; exact wrap_nat hpl
  have hp := Nat.two_pow_pos (c % 64)
  rcases hk with hk | hk | hk | hk
  · have hz : (c : Int) / 64 = 0 := div_nat hk
    have ha := wd_lt f 0
    have e := bit_div (wd f 0) (c % 64)
    rw [testBit_wd] at e
    have e2 : 64 * 0 + c % 64 = c := by omega
    have e3 : c % 64 < 64 := by omega
    rw [e2] at e
    simp only [e3, decide_true, Bool.true_and] at e
    have Q : IntKind.u64.wrap ((wd f 0 : Int) / ((2 ^ (c % 64) : Nat) : Int)) = ((wd f 0 / 2 ^ (c % 64) : Nat) : Int) := by
      rw [← Int.natCast_ediv]
      exact wrap_nat (Nat.lt_of_le_of_lt (Nat.div_le_self (wd f 0) (2 ^ (c % 64))) ha)
    generalize (2 ^ (c % 64) : Nat) = p at *
    generalize wd f 0 / p = d at *
    generalize f c = b at *
    have P1 : (1 : Int) ≤ p := by omega
    clear hk e2 e3 ha hpl hp
    go_enter Tryd.func72, Tryd.ntmps72
    go_wp2
    go_ret
    exact ⟨rfl, (Below.refl _ _).alloc (Nat.le_refl _) _⟩
  · have hz : (c : Int) / 64 = 1 := div_nat hk
    have ha := wd_lt f 1
    have e := bit_div (wd f 1) (c % 64)
    rw [testBit_wd] at e
    have e2 : 64 * 1 + c % 64 = c := by omega
    have e3 : c % 64 < 64 := by omega
    rw [e2] at e
    simp only [e3, decide_true, Bool.true_and] at e
    have Q : IntKind.u64.wrap ((wd f 1 : Int) / ((2 ^ (c % 64) : Nat) : Int)) = ((wd f 1 / 2 ^ (c % 64) : Nat) : Int) := by
      rw [← Int.natCast_ediv]
      exact wrap_nat (Nat.lt_of_le_of_lt (Nat.div_le_self (wd f 1) (2 ^ (c % 64))) ha)
    generalize (2 ^ (c % 64) : Nat) = p at *
    generalize wd f 1 / p = d at *
    generalize f c = b at *
    have P1 : (1 : Int) ≤ p := by omega
    clear hk e2 e3 ha hpl hp
    go_enter Tryd.func72, Tryd.ntmps72
    go_wp2
    go_ret
    exact ⟨rfl, (Below.refl _ _).alloc (Nat.le_refl _) _⟩
  · have hz : (c : Int) / 64 = 2 := div_nat hk
    have ha := wd_lt f 2
    have e := bit_div (wd f 2) (c % 64)
    rw [testBit_wd] at e
    have e2 : 64 * 2 + c % 64 = c := by omega
    have e3 : c % 64 < 64 := by omega
    rw [e2] at e
    simp only [e3, decide_true, Bool.true_and] at e
    have Q : IntKind.u64.wrap ((wd f 2 : Int) / ((2 ^ (c % 64) : Nat) : Int)) = ((wd f 2 / 2 ^ (c % 64) : Nat) : Int) := by
      rw [← Int.natCast_ediv]
      exact wrap_nat (Nat.lt_of_le_of_lt (Nat.div_le_self (wd f 2) (2 ^ (c % 64))) ha)
    generalize (2 ^ (c % 64) : Nat) = p at *
    generalize wd f 2 / p = d at *
    generalize f c = b at *
    have P1 : (1 : Int) ≤ p := by omega
    clear hk e2 e3 ha hpl hp
    go_enter Tryd.func72, Tryd.ntmps72
    go_wp2
    go_ret
    exact ⟨rfl, (Below.refl _ _).alloc (Nat.le_refl _) _⟩
  · have hz : (c : Int) / 64 = 3 := div_nat hk
    have ha := wd_lt f 3
    have e := bit_div (wd f 3) (c % 64)
    rw [testBit_wd] at e
    have e2 : 64 * 3 + c % 64 = c := by omega
    have e3 : c % 64 < 64 := by omega
    rw [e2] at e
    simp only [e3, decide_true, Bool.true_and] at e
    have Q : IntKind.u64.wrap ((wd f 3 : Int) / ((2 ^ (c % 64) : Nat) : Int)) = ((wd f 3 / 2 ^ (c % 64) : Nat) : Int) := by
      rw [← Int.natCast_ediv]
      exact wrap_nat (Nat.lt_of_le_of_lt (Nat.div_le_self (wd f 3) (2 ^ (c % 64))) ha)
    generalize (2 ^ (c % 64) : Nat) = p at *
    generalize wd f 3 / p = d at *
    generalize f c = b at *
    have P1 : (1 : Int) ≤ p := by omega
    clear hk e2 e3 ha hpl hp
    go_enter Tryd.func72, Tryd.ntmps72
    go_wp2
    go_ret
    exact ⟨rfl, (Below.refl _ _).alloc (Nat.le_refl _) _⟩


end Go.Proofs.YtjlmeegaiagfpaaDoor.S1
