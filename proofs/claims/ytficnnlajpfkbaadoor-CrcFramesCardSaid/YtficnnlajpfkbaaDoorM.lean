/- Plain mathematics of CRC-32: the bit-by-bit reckoning, its table form, and that a turned byte turns the sum. -/
import Derived.Laws.BitsLemmas
import Derived.IntWalk
namespace Go.Proofs.YtficnnlajpfkbaaDoor
open Go

def poly : Nat := 3988292384
/-- One bit of the register on its way. -/
def stp (x : Nat) : Nat := x / 2 ^^^ (x % 2) * poly
def stp8 (x : Nat) : Nat := stp (stp (stp (stp (stp (stp (stp (stp x)))))))
/-- One bit of byte c taken in, as the reference does it. -/
def rbit (x c i : Nat) : Nat := if (x ^^^ c / 2 ^ i) % 2 = 1 then x / 2 ^^^ poly else x / 2
/-- One byte taken in. -/
def rbyte (x c : Nat) : Nat := stp8 (x ^^^ c)
def rall (x : Nat) (l : List Nat) : Nat := l.foldl rbyte x
/-- The sum of bytes behind those of a sum. -/
def crcN (s : Nat) (l : List Nat) : Nat := 4294967295 - rall (4294967295 - s) l

theorem xor_half (a b : Nat) : (a ^^^ b) / 2 = a / 2 ^^^ b / 2 := by
  apply Nat.eq_of_testBit_eq
  intro i
  rw [Nat.testBit_xor, ← Nat.pow_one 2, Nat.testBit_div_two_pow, Nat.testBit_div_two_pow, Nat.testBit_div_two_pow, Nat.testBit_xor]
theorem xor_odd (a b : Nat) : (a ^^^ b) % 2 = (a % 2 + b % 2) % 2 := by
  have h := Nat.testBit_xor a b 0
  simp only [Nat.testBit_zero] at h
  rcases Nat.mod_two_eq_zero_or_one a with ha | ha <;> rcases Nat.mod_two_eq_zero_or_one b with hb | hb <;> rcases Nat.mod_two_eq_zero_or_one (a ^^^ b) with hc | hc <;> simp [ha, hb, hc] at h ⊢
theorem stp_xor (a b : Nat) : stp (a ^^^ b) = stp a ^^^ stp b := by
  unfold stp
  rw [xor_half, xor_odd]
  rcases Nat.mod_two_eq_zero_or_one a with ha | ha <;> rcases Nat.mod_two_eq_zero_or_one b with hb | hb <;> rw [ha, hb] <;> simp
  · rw [Nat.xor_assoc]
  · rw [Nat.xor_assoc, Nat.xor_assoc, Nat.xor_comm poly (b / 2)]
  · have : a / 2 ^^^ poly ^^^ (b / 2 ^^^ poly) = (a / 2 ^^^ b / 2) ^^^ (poly ^^^ poly) := by
      simp only [Nat.xor_assoc]
      rw [Nat.xor_comm poly (b / 2 ^^^ poly), Nat.xor_assoc]
    rw [this, Nat.xor_self, Nat.xor_zero]
theorem stp8_xor (a b : Nat) : stp8 (a ^^^ b) = stp8 a ^^^ stp8 b := by unfold stp8; simp only [stp_xor]
theorem stp_even (a : Nat) : stp (2 * a) = a := by unfold stp; simp
theorem stp8_shift (a : Nat) : stp8 (256 * a) = a := by
  have e : 256 * a = 2 * (2 * (2 * (2 * (2 * (2 * (2 * (2 * a))))))) := by omega
  unfold stp8
  rw [e]; simp only [stp_even]
theorem split256 (x : Nat) : x = (x % 256) ^^^ (256 * (x / 256)) := by
  apply Nat.eq_of_testBit_eq
  intro i
  have e1 : x % 256 = x % 2 ^ 8 := rfl
  have e2 : 256 * (x / 256) = 2 ^ 8 * (x / 2 ^ 8) := rfl
  rw [Nat.testBit_xor, e1, e2, Nat.testBit_mod_two_pow, Nat.testBit_two_pow_mul, Nat.testBit_div_two_pow]
  by_cases h : i < 8
  · have h2 : ¬ 8 ≤ i := by omega
    simp [h, h2]
  · have h2 : 8 ≤ i := by omega
    have h3 : i - 8 + 8 = i := by omega
    simp [h, h2, h3]
/-- The table form: the low byte looked up, the rest shifted. -/
theorem stp8_table (x : Nat) : stp8 x = stp8 (x % 256) ^^^ x / 256 := by
  conv => lhs; rw [split256 x, stp8_xor, stp8_shift]
theorem rbyte_table (x c : Nat) : rbyte x c = stp8 ((x ^^^ c) % 256) ^^^ (x ^^^ c) / 256 := stp8_table _
theorem xor_div256 (x c : Nat) (hc : c < 256) : (x ^^^ c) / 256 = x / 256 := by
  apply Nat.eq_of_testBit_eq
  intro i
  have e1 : (x ^^^ c) / 256 = (x ^^^ c) / 2 ^ 8 := rfl
  have e2 : x / 256 = x / 2 ^ 8 := rfl
  rw [e1, e2, Nat.testBit_div_two_pow, Nat.testBit_div_two_pow, Nat.testBit_xor]
  have : c.testBit (i + 8) = false := Nat.testBit_lt_two_pow (Nat.lt_of_lt_of_le hc (by have := Nat.pow_le_pow_right (show 0 < 2 by decide) (show 8 ≤ i + 8 by omega); simpa using this))
  rw [this]; simp
/-- Eight bits of the reference are one byte. -/
theorem rbit_stp (y x c i : Nat) (h : y = x ^^^ c / 2 ^ i) : stp y = rbit x c i ^^^ c / 2 ^ (i + 1) := by
  have hd : c / 2 ^ (i + 1) = c / 2 ^ i / 2 := by rw [Nat.pow_succ, Nat.div_div_eq_div_mul]
  rw [h, hd]
  unfold rbit stp
  rw [xor_half]
  rcases Nat.mod_two_eq_zero_or_one (x ^^^ c / 2 ^ i) with e | e <;> rw [e] <;> simp
  rw [Nat.xor_assoc, Nat.xor_assoc, Nat.xor_comm poly]
theorem rbits_byte (x c : Nat) (hc : c < 256) : rbit (rbit (rbit (rbit (rbit (rbit (rbit (rbit x c 0) c 1) c 2) c 3) c 4) c 5) c 6) c 7 = rbyte x c := by
  have h1 := rbit_stp (x ^^^ c) x c 0 (by simp)
  have h2 := rbit_stp _ _ c 1 h1
  have h3 := rbit_stp _ _ c 2 h2
  have h4 := rbit_stp _ _ c 3 h3
  have h5 := rbit_stp _ _ c 4 h4
  have h6 := rbit_stp _ _ c 5 h5
  have h7 := rbit_stp _ _ c 6 h6
  have h8 := rbit_stp _ _ c 7 h7
  have e : c / 2 ^ (7 + 1) = 0 := Nat.div_eq_of_lt (by simpa using hc)
  rw [e, Nat.xor_zero] at h8
  exact h8.symm
theorem poly_lt : poly < 2 ^ 32 := by decide
theorem stp_lt {x : Nat} (h : x < 2 ^ 32) : stp x < 2 ^ 32 := by
  unfold stp
  refine Nat.xor_lt_two_pow (by omega) ?_
  rcases Nat.mod_two_eq_zero_or_one x with e | e <;> rw [e] <;> decide
theorem stp8_lt {x : Nat} (h : x < 2 ^ 32) : stp8 x < 2 ^ 32 := stp_lt (stp_lt (stp_lt (stp_lt (stp_lt (stp_lt (stp_lt (stp_lt h)))))))
theorem rbyte_lt {x c : Nat} (h : x < 2 ^ 32) (hc : c < 256) : rbyte x c < 2 ^ 32 := stp8_lt (Nat.xor_lt_two_pow h (by omega))
theorem rall_lt {l : List Nat} : ∀ {x : Nat}, x < 2 ^ 32 → (∀ c ∈ l, c < 256) → rall x l < 2 ^ 32 := by
  induction l with
  | nil => intro x h _; exact h
  | cons c l ih => intro x h hl; exact ih (rbyte_lt h (hl c (by simp))) fun d hd => hl d (by simp [hd])
theorem stp_inj {x y : Nat} (hx : x < 2 ^ 32) (hy : y < 2 ^ 32) (h : stp x = stp y) : x = y := by
  have top (z : Nat) (hz : z < 2 ^ 32) : (stp z).testBit 31 = decide (z % 2 = 1) := by
    unfold stp
    have h1 : (z / 2).testBit 31 = false := Nat.testBit_lt_two_pow (by omega)
    rw [Nat.testBit_xor, h1]
    rcases Nat.mod_two_eq_zero_or_one z with e | e <;> rw [e] <;> decide
  have hb : x % 2 = y % 2 := by
    have h1 := top x hx
    have h2 := top y hy
    rw [h, h2] at h1
    rcases Nat.mod_two_eq_zero_or_one x with e | e <;> rcases Nat.mod_two_eq_zero_or_one y with e' | e' <;> simp [e, e'] at h1 ⊢
  have hh : x / 2 = y / 2 := by
    unfold stp at h
    rw [hb] at h
    have := congrArg (· ^^^ (y % 2) * poly) h
    simpa [Nat.xor_assoc] using this
  omega
theorem stp8_inj {x y : Nat} (hx : x < 2 ^ 32) (hy : y < 2 ^ 32) (h : stp8 x = stp8 y) : x = y := by
  have a1 := stp_lt hx
  have b1 := stp_lt hy
  have a2 := stp_lt a1
  have b2 := stp_lt b1
  have a3 := stp_lt a2
  have b3 := stp_lt b2
  have a4 := stp_lt a3
  have b4 := stp_lt b3
  have a5 := stp_lt a4
  have b5 := stp_lt b4
  have a6 := stp_lt a5
  have b6 := stp_lt b5
  have a7 := stp_lt a6
  have b7 := stp_lt b6
  exact stp_inj hx hy (stp_inj a1 b1 (stp_inj a2 b2 (stp_inj a3 b3 (stp_inj a4 b4 (stp_inj a5 b5 (stp_inj a6 b6 (stp_inj a7 b7 h)))))))
theorem xor_cancel_right {a b c : Nat} (h : a ^^^ c = b ^^^ c) : a = b := by
  have := congrArg (· ^^^ c) h
  simpa [Nat.xor_assoc] using this
theorem xor_cancel_left {a b c : Nat} (h : c ^^^ a = c ^^^ b) : a = b := by
  rw [Nat.xor_comm c a, Nat.xor_comm c b] at h
  exact xor_cancel_right h
theorem rbyte_inj {x y c : Nat} (hx : x < 2 ^ 32) (hy : y < 2 ^ 32) (hc : c < 256) (h : rbyte x c = rbyte y c) : x = y :=
  xor_cancel_right (stp8_inj (Nat.xor_lt_two_pow hx (by omega)) (Nat.xor_lt_two_pow hy (by omega)) h)
theorem rbyte_inj' {x c d : Nat} (hx : x < 2 ^ 32) (hc : c < 256) (hd : d < 256) (h : rbyte x c = rbyte x d) : c = d :=
  xor_cancel_left (stp8_inj (Nat.xor_lt_two_pow hx (by omega)) (Nat.xor_lt_two_pow hx (by omega)) h)
theorem rall_inj {l : List Nat} : ∀ {x y : Nat}, x < 2 ^ 32 → y < 2 ^ 32 → (∀ c ∈ l, c < 256) → rall x l = rall y l → x = y := by
  induction l with
  | nil => intro x y _ _ _ h; exact h
  | cons c l ih =>
    intro x y hx hy hl h
    have hc := hl c (by simp)
    exact rbyte_inj hx hy hc (ih (rbyte_lt hx hc) (rbyte_lt hy hc) (fun d hd => hl d (by simp [hd])) h)
theorem rall_append (x : Nat) (a b : List Nat) : rall x (a ++ b) = rall (rall x a) b := by simp [rall]
/-- One byte turned: another register. -/
theorem rall_turned {x : Nat} {a b : List Nat} {c d : Nat} (hx : x < 2 ^ 32) (ha : ∀ q ∈ a, q < 256) (hb : ∀ q ∈ b, q < 256) (hc : c < 256) (hd : d < 256) (hne : c ≠ d) : rall x (a ++ c :: b) ≠ rall x (a ++ d :: b) := by
  intro h
  rw [rall_append, rall_append] at h
  have hr := rall_lt hx ha
  exact hne (rbyte_inj' hr hc hd (rall_inj (rbyte_lt hr hc) (rbyte_lt hr hd) hb h))
theorem crcN_more {s : Nat} (hs : s < 2 ^ 32) (a b : List Nat) (ha : ∀ c ∈ a, c < 256) : crcN (crcN s a) b = crcN s (a ++ b) := by
  have h := rall_lt (x := 4294967295 - s) (by omega) ha
  unfold crcN
  rw [rall_append]
  have : 4294967295 - (4294967295 - rall (4294967295 - s) a) = rall (4294967295 - s) a := by omega
  rw [this]
/-- Half a byte's four steps. -/
def stp4 (x : Nat) : Nat := stp (stp (stp (stp x)))
theorem stp4_xor (a b : Nat) : stp4 (a ^^^ b) = stp4 a ^^^ stp4 b := by unfold stp4; simp only [stp_xor]
theorem stp4_shift (a : Nat) : stp4 (16 * a) = a := by
  have e : 16 * a = 2 * (2 * (2 * (2 * a))) := by omega
  unfold stp4
  rw [e]; simp only [stp_even]
theorem split16 (x : Nat) : x = (x % 16) ^^^ (16 * (x / 16)) := by
  apply Nat.eq_of_testBit_eq
  intro i
  have e1 : x % 16 = x % 2 ^ 4 := rfl
  have e2 : 16 * (x / 16) = 2 ^ 4 * (x / 2 ^ 4) := rfl
  rw [Nat.testBit_xor, e1, e2, Nat.testBit_mod_two_pow, Nat.testBit_two_pow_mul, Nat.testBit_div_two_pow]
  by_cases h : i < 4
  · have h2 : ¬ 4 ≤ i := by omega
    simp [h, h2]
  · have h2 : 4 ≤ i := by omega
    have h3 : i - 4 + 4 = i := by omega
    simp [h, h2, h3]
/-- The table form: the low half looked up, the rest shifted. -/
theorem stp4_table (x : Nat) : stp4 x = x / 16 ^^^ stp4 (x % 16) := by
  conv => lhs; rw [split16 x, stp4_xor, stp4_shift, Nat.xor_comm]
theorem stp4_lt {x : Nat} (h : x < 2 ^ 32) : stp4 x < 2 ^ 32 := stp_lt (stp_lt (stp_lt (stp_lt h)))
theorem stp8_stp4 (x : Nat) : stp8 x = stp4 (stp4 x) := rfl
/-- The reference's first k bits of a byte. -/
def rb (x c : Nat) : Nat → Nat
  | 0 => x
  | k + 1 => rbit (rb x c k) c k
theorem rb_eight (x c : Nat) (hc : c < 256) : rb x c 8 = rbyte x c := rbits_byte x c hc
theorem rbit_lt {x c i : Nat} (h : x < 2 ^ 32) : rbit x c i < 2 ^ 32 := by
  unfold rbit
  split
  · exact Nat.xor_lt_two_pow (by omega) poly_lt
  · omega
theorem rb_lt {x c : Nat} (h : x < 2 ^ 32) : ∀ k, rb x c k < 2 ^ 32
  | 0 => h
  | k + 1 => rbit_lt (rb_lt h k)
theorem rall_snoc (x : Nat) (l : List Nat) (c : Nat) : rall x (l ++ [c]) = rbyte (rall x l) c := by simp [rall]
theorem rall_take {x : Nat} {l : List Nat} {k : Nat} (h : k < l.length) : rall x (l.take (k + 1)) = rbyte (rall x (l.take k)) l[k] := by
  rw [List.take_succ_eq_append_getElem h, rall_snoc]
theorem crcN_lt {s : Nat} (l : List Nat) : crcN s l < 2 ^ 32 := by unfold crcN; omega
theorem not32 {x : Nat} (h : x < 2 ^ 32) : 4294967295 ^^^ x = 4294967295 - x := by
  apply Nat.eq_of_testBit_eq
  intro i
  have := Nat.testBit_two_pow_sub_succ (x := x) (n := 32) h i
  have e : 2 ^ 32 - (x + 1) = 4294967295 - x := by omega
  rw [e] at this
  rw [this, Nat.testBit_xor]
  have e2 : (4294967295 : Nat) = 2 ^ 32 - 1 := rfl
  rw [e2, Nat.testBit_two_pow_sub_one]
  by_cases hi : i < 32
  · simp [hi]
  · have : x.testBit i = false := Nat.testBit_lt_two_pow (Nat.lt_of_lt_of_le h (Nat.pow_le_pow_right (by decide) (by omega)))
    simp [hi, this]
def halves : List Nat := [0, 498536548, 997073096, 651767980, 1994146192, 1802195444, 1303535960, 1342533948, 3988292384, 4027552580, 3604390888, 3412177804, 2607071920, 2262029012, 2685067896, 3183342108]
theorem halves_at : ∀ i : Nat, i < 16 → halves[i]? = some (stp4 i) := by decide
theorem alive_sum : crcN (crcN 0 [49, 50, 51, 52]) [53, 54, 55, 56, 57] = 3421780262 := by decide +kernel
/-- A sum's four bytes. -/
def fourL (n : Nat) : List Nat := [n % 256, n / 256 % 256, n / 65536 % 256, n / 16777216]
theorem fourL_small {n : Nat} (h : n < 2 ^ 32) : ∀ x ∈ fourL n, x ≤ 255 := by
  intro x hx
  simp only [fourL, List.mem_cons, List.not_mem_nil, or_false] at hx
  rcases hx with rfl | rfl | rfl | rfl <;> omega
theorem fourL_inj {n m : Nat} (h : fourL n = fourL m) : n = m := by
  simp only [fourL, List.cons.injEq, and_true] at h
  omega
end Go.Proofs.YtficnnlajpfkbaaDoor
