/- Texts merged: S1M, S1W1, S1W2. -/
import Derived.Laws.BitsLemmas
import Derived.IntWalk
import Derived.WalkKit
import Derived.WalkLawsBesides
import Derived.WalkSpells
import Derived.RegionTactic
import Derived.BigQuiet
import Derived.Below
import Derived.ChangeKeysEq
import Derived.Test.YtobbifhflnlplaaDoorProg

namespace Go.Proofs.YtobbifhflnlplaaDoor.S1
open Go

def wdN (f : Nat → Bool) (k : Nat) : Nat → Nat
 | 0 => 0
 | n + 1 => wdN f k n + (if f (64 * k + n) then 2 ^ n else 0)
def wd (f : Nat → Bool) (k : Nat) : Nat := wdN f k 64

theorem wdN_lt (f : Nat → Bool) (k n : Nat) : wdN f k n < 2 ^ n := by
 induction n with
 | zero => simp [wdN]
 | succ n ih => rw [wdN, Nat.pow_succ]; split <;> omega

theorem testBit_wdN (f : Nat → Bool) (k n i : Nat) : (wdN f k n).testBit i = (decide (i < n) && f (64 * k + i)) := by
 induction n with
 | zero => simp [wdN]
 | succ n ih =>
  rw [wdN]
  have hlt := wdN_lt f k n
  have e : wdN f k n + (if f (64 * k + n) then 2 ^ n else 0) = 2 ^ n * (f (64 * k + n)).toNat + wdN f k n := by
   cases f (64 * k + n) <;> simp; omega
  rw [e, Nat.testBit_two_pow_mul_add _ hlt, ih]
  by_cases h : i < n
  ·simp [h, Nat.lt_succ_of_lt h]
  ·by_cases h2 : i = n
   ·subst h2; cases f (64 * k + i) <;> simp
   ·have h3 : ¬ i < n + 1 := by omega
    simp only [h, h3, if_false, decide_false, Bool.false_and]
    have : i - n ≠ 0 := by omega
    cases f (64 * k + n)
    ·simp
    ·obtain ⟨j, hj⟩ := Nat.exists_eq_succ_of_ne_zero this
     rw [hj]; simp [Nat.testBit_succ]

theorem wd_lt (f : Nat → Bool) (k : Nat) : wd f k < 18446744073709551616 := wdN_lt f k 64
theorem testBit_wd (f : Nat → Bool) (k i : Nat) : (wd f k).testBit i = (decide (i < 64) && f (64 * k + i)) := testBit_wdN f k 64 i

theorem eq_wd {x : Nat} {f : Nat → Bool} {k : Nat} (hx : x < 18446744073709551616) (h : ∀ i, i < 64 → x.testBit i = f (64 * k + i)) : x = wd f k := by
 apply Nat.eq_of_testBit_eq
 intro i
 rw [testBit_wd]
 by_cases hi : i < 64
 ·simp [hi, h i hi]
 ·have : x < 2 ^ i := Nat.lt_of_lt_of_le (show x < 2 ^ 64 from hx) (Nat.pow_le_pow_right (by decide) (by omega))
  simp [hi, Nat.testBit_lt_two_pow this]

theorem wd_congr {f g : Nat → Bool} {k : Nat} (h : ∀ i, i < 64 → f (64 * k + i) = g (64 * k + i)) : wd f k = wd g k :=
 eq_wd (wd_lt f k) fun i hi => by rw [testBit_wd]; simp [hi, h i hi]
theorem wd_inj {f g : Nat → Bool} {k : Nat} (h : wd f k = wd g k) (i : Nat) (hi : i < 64) : f (64 * k + i) = g (64 * k + i) := by
 have := congrArg (fun x => x.testBit i) h
 simpa [testBit_wd, hi] using this

theorem wrap_u64 (n : Int) : IntKind.u64.wrap n = n % 18446744073709551616 := by simp [IntKind.wrap, IntKind.bits, IntKind.signed]

theorem wrap_nat {n : Nat} (h : n < 18446744073709551616) : IntKind.u64.wrap (n : Int) = n := by rw [wrap_u64]; omega
theorem bitsN (a b : Nat) (ha : a < 18446744073709551616) (hb : b < 18446744073709551616) :
  bits .and .u64 a b = ((a &&& b : Nat) : Int) ∧ bits .or .u64 a b = ((a ||| b : Nat) : Int) :=
 bits_nat .u64 64 (Nat.le_refl _) (fun n h0 h1 => by rw [wrap_u64]; omega) a b ha hb

theorem bits_xorN (a b : Nat) (ha : a < 18446744073709551616) (hb : b < 18446744073709551616) : bits .xor .u64 a b = ((a ^^^ b : Nat) : Int) := by
 have ha' : a % 2 ^ 64 = a := Nat.mod_eq_of_lt ha
 have hb' : b % 2 ^ 64 = b := Nat.mod_eq_of_lt hb
 have e : (BitVec.ofNat 64 a ^^^ BitVec.ofNat 64 b).toNat = a ^^^ b := by rw [BitVec.toNat_xor, BitVec.toNat_ofNat, BitVec.toNat_ofNat, ha', hb']
 show IntKind.u64.wrap ((BitVec.ofInt 64 a ^^^ BitVec.ofInt 64 b).toNat : Int) = _
 rw [BitVec.ofInt_natCast, BitVec.ofInt_natCast, e, wrap_u64]
 have := Nat.xor_lt_two_pow (n := 64) ha hb
 omega

theorem bits_or_wd (f g : Nat → Bool) (k : Nat) : bits .or .u64 (wd f k) (wd g k) = (wd (fun c => f c || g c) k : Int) := by
 rw [(bitsN _ _ (wd_lt f k) (wd_lt g k)).2]
 exact congrArg Nat.cast (eq_wd (Nat.or_lt_two_pow (n := 64) (wd_lt f k) (wd_lt g k)) fun i hi => by simp [testBit_wd, hi])
theorem bits_and_wd (f g : Nat → Bool) (k : Nat) : bits .and .u64 (wd f k) (wd g k) = (wd (fun c => f c && g c) k : Int) := by
 rw [(bitsN _ _ (wd_lt f k) (wd_lt g k)).1]
 exact congrArg Nat.cast (eq_wd (Nat.and_lt_two_pow (n := 64) _ (wd_lt g k)) fun i hi => by simp [testBit_wd, hi])
theorem bits_not_wd (f : Nat → Bool) (k : Nat) : bits .xor .u64 IntKind.u64.max (wd f k) = (wd (fun c => !f c) k : Int) := by
 have : IntKind.u64.max = ((18446744073709551615 : Nat) : Int) := by decide
 rw [this, bits_xorN _ _ (by decide) (wd_lt f k)]
 refine congrArg Nat.cast (eq_wd (Nat.xor_lt_two_pow (n := 64) (by decide) (wd_lt f k)) fun i hi => ?_)
 have e : (18446744073709551615 : Nat) = 2 ^ 64 - 1 := by decide
 rw [Nat.testBit_xor, testBit_wd, e, Nat.testBit_two_pow_sub_one]
 simp [hi]

theorem wd_false (k : Nat) : wd (fun _ => false) k = 0 := by
 refine (eq_wd (by decide) fun i _ => ?_).symm; simp

theorem wd_one (c : Nat) : wd (fun x => x == c) (c / 64) = 2 ^ (c % 64) := by
 refine (eq_wd ?_ fun i hi => ?_).symm
 ·exact Nat.pow_lt_pow_right (a := 2) (by decide) (Nat.mod_lt c (by decide : 0 < 64))
 ·rw [Nat.testBit_two_pow]
  rw [Bool.eq_iff_iff]; simp; omega
theorem wd_one_off {c k : Nat} (h : c / 64 ≠ k) : wd (fun x => x == c) k = 0 := by
 rw [← wd_false k]
 exact wd_congr fun i hi => by simp; omega

def orS (f g : Nat → Bool) : Nat → Bool := fun c => f c || g c
def andS (f g : Nat → Bool) : Nat → Bool := fun c => f c && g c
def notS (f : Nat → Bool) : Nat → Bool := fun c => !f c
def oneS (c : Nat) : Nat → Bool := fun x => x == c
def noS : Nat → Bool := fun _ => false
def spanS (lo hi : Nat) : Nat → Bool := fun x => decide (lo ≤ x) && decide (x ≤ hi)
theorem or_wd (f g : Nat → Bool) (k : Nat) : bits .or .u64 (wd f k) (wd g k) = (wd (orS f g) k : Int) := bits_or_wd f g k
theorem and_wd (f g : Nat → Bool) (k : Nat) : bits .and .u64 (wd f k) (wd g k) = (wd (andS f g) k : Int) := bits_and_wd f g k
theorem not_wd (f : Nat → Bool) (k : Nat) : bits .xor .u64 IntKind.u64.max (wd f k) = (wd (notS f) k : Int) := bits_not_wd f k
theorem no_wd (k : Nat) : wd noS k = 0 := wd_false k
theorem one_wd {c k : Nat} (hk : c / 64 = k) : IntKind.u64.wrap (2 ^ ((c : Int) % 64).toNat) = (wd (oneS c) k : Int) := by
 subst hk
 show _ = ((wd (fun x => x == c) (c / 64) : Nat) : Int)
 rw [wd_one, wrap_u64]
 have e : ((c : Int) % 64).toNat = c % 64 := by omega
 have h : (2 : Nat) ^ (c % 64) < 18446744073709551616 := Nat.pow_lt_pow_right (a := 2) (by decide) (Nat.mod_lt c (by decide : 0 < 64))
 rw [e]
 have key : ∀ v : Nat, v < 18446744073709551616 → (v : Int) % 18446744073709551616 = v := fun v hv => by omega
 have this : (2 : Int) ^ (c % 64) = ((2 ^ (c % 64) : Nat) : Int) := by simp
 rw [this]
 exact key _ h
theorem one_wd_off {c k : Nat} (hk : c / 64 ≠ k) : wd (oneS c) k = 0 := wd_one_off hk

def mem4 (a b c d : Nat) (x : Nat) : Bool := (if x / 64 = 0 then a else if x / 64 = 1 then b else if x / 64 = 2 then c else d).testBit (x % 64)
theorem wd_mem4 {a b c d : Nat} (ha : a < 18446744073709551616) (hb : b < 18446744073709551616) (hc : c < 18446744073709551616) (hd : d < 18446744073709551616) :
  wd (mem4 a b c d) 0 = a ∧ wd (mem4 a b c d) 1 = b ∧ wd (mem4 a b c d) 2 = c ∧ wd (mem4 a b c d) 3 = d := by
 refine ⟨(eq_wd ha fun i hi => ?_).symm, (eq_wd hb fun i hi => ?_).symm, (eq_wd hc fun i hi => ?_).symm, (eq_wd hd fun i hi => ?_).symm⟩
 ·have e1 : (64 * 0 + i) / 64 = 0 := by omega
  have e2 : (64 * 0 + i) % 64 = i := by omega
  simp only [mem4, e1, e2]; simp
 ·have e1 : (64 * 1 + i) / 64 = 1 := by omega
  have e2 : (64 * 1 + i) % 64 = i := by omega
  simp only [mem4, e1, e2]; simp
 ·have e1 : (64 * 2 + i) / 64 = 2 := by omega
  have e2 : (64 * 2 + i) % 64 = i := by omega
  simp only [mem4, e1, e2]; simp
 ·have e1 : (64 * 3 + i) / 64 = 3 := by omega
  have e2 : (64 * 3 + i) % 64 = i := by omega
  simp only [mem4, e1, e2]; simp

/-! ### The number of bits -/

def c1 (b : Nat → Bool) (j : Nat) : Nat := (b (2 * j + 1)).toNat + (b (2 * j)).toNat
def c2 (b : Nat → Bool) (j : Nat) : Nat := c1 b (2 * j + 1) + c1 b (2 * j)
def c3 (b : Nat → Bool) (j : Nat) : Nat := c2 b (2 * j + 1) + c2 b (2 * j)
/-! ### Trailing zeros -/

end Go.Proofs.YtobbifhflnlplaaDoor.S1
namespace Go.Proofs.YtobbifhflnlplaaDoor.S1
open Go.RowKit

theorem div_nat {c k : Nat} (h : c / 64 = k) : (c : Int) / 64 = k := by omega

set_option maxHeartbeats 400000 in
theorem one_in (c : Nat) (hc : c ≤ 255) (w : World) :
  Calls Tryd.prog 76 #[.int .u8 c] w fun e w' => e = .returned (.agg #[.int .u64 (wd (oneS c) 0), .int .u64 (wd (oneS c) 1), .int .u64 (wd (oneS c) 2), .int .u64 (wd (oneS c) 3)]) ∧ Below w.heap.size w w' := by
 have hk : c / 64 = 0 ∨ c / 64 = 1 ∨ c / 64 = 2 ∨ c / 64 = 3 := by omega
 have h0 : (0 : Int) ≤ c := by omega
 have h1 : (c : Int) ≤ 255 := by omega
 rcases hk with hk | hk | hk | hk
 ·have hq := div_nat hk
  have hw := one_wd hk
  have hz : (c : Int) / 64 = 0 := hq
  clear hq
  have z1 := one_wd_off (c := c) (k := 1) (by omega)
  have z2 := one_wd_off (c := c) (k := 2) (by omega)
  have z3 := one_wd_off (c := c) (k := 3) (by omega)
  go_enter Tryd.func76, Tryd.ntmps76
  go_wp2
  exact bodyPost_ret (v := (.agg #[.int .u64 (wd (oneS c) 0), .int .u64 (wd (oneS c) 1), .int .u64 (wd (oneS c) 2), .int .u64 (wd (oneS c) 3)])) (by simp [results, Tryd.results76, go_sem, z1, z2, z3]) rfl ⟨rfl, ((Below.refl _ _).alloc (Nat.le_refl _) _).alloc (by simp) _⟩
 ·have hq := div_nat hk
  have hw := one_wd hk
  have hz : (c : Int) / 64 = 1 := hq
  clear hq
  have z0 := one_wd_off (c := c) (k := 0) (by omega)
  have z2 := one_wd_off (c := c) (k := 2) (by omega)
  have z3 := one_wd_off (c := c) (k := 3) (by omega)
  go_enter Tryd.func76, Tryd.ntmps76
  go_wp2
  exact bodyPost_ret (v := (.agg #[.int .u64 (wd (oneS c) 0), .int .u64 (wd (oneS c) 1), .int .u64 (wd (oneS c) 2), .int .u64 (wd (oneS c) 3)])) (by simp [results, Tryd.results76, go_sem, z0, z2, z3]) rfl ⟨rfl, ((Below.refl _ _).alloc (Nat.le_refl _) _).alloc (by simp) _⟩
 ·have hq := div_nat hk
  have hw := one_wd hk
  have hz : (c : Int) / 64 = 2 := hq
  clear hq
  have z0 := one_wd_off (c := c) (k := 0) (by omega)
  have z1 := one_wd_off (c := c) (k := 1) (by omega)
  have z3 := one_wd_off (c := c) (k := 3) (by omega)
  go_enter Tryd.func76, Tryd.ntmps76
  go_wp2
  exact bodyPost_ret (v := (.agg #[.int .u64 (wd (oneS c) 0), .int .u64 (wd (oneS c) 1), .int .u64 (wd (oneS c) 2), .int .u64 (wd (oneS c) 3)])) (by simp [results, Tryd.results76, go_sem, z0, z1, z3]) rfl ⟨rfl, ((Below.refl _ _).alloc (Nat.le_refl _) _).alloc (by simp) _⟩
 ·have hq := div_nat hk
  have hw := one_wd hk
  have hz : (c : Int) / 64 = 3 := hq
  clear hq
  have z0 := one_wd_off (c := c) (k := 0) (by omega)
  have z1 := one_wd_off (c := c) (k := 1) (by omega)
  have z2 := one_wd_off (c := c) (k := 2) (by omega)
  go_enter Tryd.func76, Tryd.ntmps76
  go_wp2
  exact bodyPost_ret (v := (.agg #[.int .u64 (wd (oneS c) 0), .int .u64 (wd (oneS c) 1), .int .u64 (wd (oneS c) 2), .int .u64 (wd (oneS c) 3)])) (by simp [results, Tryd.results76, go_sem, z0, z1, z2]) rfl ⟨rfl, ((Below.refl _ _).alloc (Nat.le_refl _) _).alloc (by simp) _⟩

set_option maxHeartbeats 1000000 in
theorem or_in (f g : Nat → Bool) (w : World) :
  Calls Tryd.prog 100 #[(.agg #[.int .u64 (wd f 0), .int .u64 (wd f 1), .int .u64 (wd f 2), .int .u64 (wd f 3)]), (.agg #[.int .u64 (wd g 0), .int .u64 (wd g 1), .int .u64 (wd g 2), .int .u64 (wd g 3)])] w fun e w' => e = .returned (.agg #[.int .u64 (wd (orS f g) 0), .int .u64 (wd (orS f g) 1), .int .u64 (wd (orS f g) 2), .int .u64 (wd (orS f g) 3)]) ∧ Below w.heap.size w w' := by
 have o0 := or_wd f g 0
 have o1 := or_wd f g 1
 have o2 := or_wd f g 2
 have o3 := or_wd f g 3
 go_enter Tryd.func100, Tryd.ntmps100
 go_wp2
 refine wp_loop_rounds 5 ?_
 rw [rounds_succ]
 go_wp2
 go_region
 go_wp2
 rw [rounds_succ]
 go_wp2
 go_region
 go_wp2
 rw [rounds_succ]
 go_wp2
 go_region
 go_wp2
 rw [rounds_succ]
 go_wp2
 go_region
 go_wp2
 rw [rounds_succ]
 go_wp2
 exact bodyPost_ret (v := (.agg #[.int .u64 (wd (orS f g) 0), .int .u64 (wd (orS f g) 1), .int .u64 (wd (orS f g) 2), .int .u64 (wd (orS f g) 3)])) (by simp [results, Tryd.results100, go_sem]) rfl ⟨rfl, (((((((Below.refl _ _).alloc (Nat.le_refl _) _).alloc (by simp) _).alloc (by simp <;> omega) _).drew.drew.drew.drew)))⟩

set_option maxHeartbeats 1000000 in
theorem and_in (f g : Nat → Bool) (w : World) :
  Calls Tryd.prog 84 #[(.agg #[.int .u64 (wd f 0), .int .u64 (wd f 1), .int .u64 (wd f 2), .int .u64 (wd f 3)]), (.agg #[.int .u64 (wd g 0), .int .u64 (wd g 1), .int .u64 (wd g 2), .int .u64 (wd g 3)])] w fun e w' => e = .returned (.agg #[.int .u64 (wd (andS f g) 0), .int .u64 (wd (andS f g) 1), .int .u64 (wd (andS f g) 2), .int .u64 (wd (andS f g) 3)]) ∧ Below w.heap.size w w' := by
 have o0 := and_wd f g 0
 have o1 := and_wd f g 1
 have o2 := and_wd f g 2
 have o3 := and_wd f g 3
 go_enter Tryd.func84, Tryd.ntmps84
 go_wp2
 refine wp_loop_rounds 5 ?_
 rw [rounds_succ]
 go_wp2
 go_region
 go_wp2
 rw [rounds_succ]
 go_wp2
 go_region
 go_wp2
 rw [rounds_succ]
 go_wp2
 go_region
 go_wp2
 rw [rounds_succ]
 go_wp2
 go_region
 go_wp2
 rw [rounds_succ]
 go_wp2
 exact bodyPost_ret (v := (.agg #[.int .u64 (wd (andS f g) 0), .int .u64 (wd (andS f g) 1), .int .u64 (wd (andS f g) 2), .int .u64 (wd (andS f g) 3)])) (by simp [results, Tryd.results84, go_sem]) rfl ⟨rfl, (((((((Below.refl _ _).alloc (Nat.le_refl _) _).alloc (by simp) _).alloc (by simp <;> omega) _).drew.drew.drew.drew)))⟩

set_option maxHeartbeats 400000 in
theorem not_in (f : Nat → Bool) (w : World) :
  Calls Tryd.prog 91 #[(.agg #[.int .u64 (wd f 0), .int .u64 (wd f 1), .int .u64 (wd f 2), .int .u64 (wd f 3)])] w fun e w' => e = .returned (.agg #[.int .u64 (wd (notS f) 0), .int .u64 (wd (notS f) 1), .int .u64 (wd (notS f) 2), .int .u64 (wd (notS f) 3)]) ∧ Below w.heap.size w w' := by
 have o0 := not_wd f 0
 have o1 := not_wd f 1
 have o2 := not_wd f 2
 have o3 := not_wd f 3
 have hs : (IntKind.u64.signed = true) = False := by decide
 go_enter Tryd.func91, Tryd.ntmps91
 go_wp2
 refine wp_loop_rounds 5 ?_
 rw [rounds_succ]
 go_wp2
 rw [rounds_succ]
 go_wp2
 rw [rounds_succ]
 go_wp2
 rw [rounds_succ]
 go_wp2
 rw [rounds_succ]
 go_wp2
 exact bodyPost_ret (v := (.agg #[.int .u64 (wd (notS f) 0), .int .u64 (wd (notS f) 1), .int .u64 (wd (notS f) 2), .int .u64 (wd (notS f) 3)])) (by simp [results, Tryd.results91, go_sem]) rfl ⟨rfl, ((Below.refl _ _).alloc (Nat.le_refl _) _).alloc (by simp) _⟩

end Go.Proofs.YtobbifhflnlplaaDoor.S1
namespace Go.Proofs.YtobbifhflnlplaaDoor.S1
open Go.RowKit

/-! ### Equality of two sets -/
def eqB (f g : Nat → Bool) : Bool := (((wd f 0 : Nat) : Int) == (wd g 0 : Nat)) && (((wd f 1 : Nat) : Int) == (wd g 1 : Nat)) && (((wd f 2 : Nat) : Int) == (wd g 2 : Nat)) && (((wd f 3 : Nat) : Int) == (wd g 3 : Nat))
theorem eqB_true {f g : Nat → Bool} (h : ∀ c, c < 256 → f c = g c) : eqB f g = true := by
 unfold eqB
 rw [wd_congr (f := f) (g := g) (k := 0) (fun i hi => h _ (by omega)), wd_congr (f := f) (g := g) (k := 1) (fun i hi => h _ (by omega)),
  wd_congr (f := f) (g := g) (k := 2) (fun i hi => h _ (by omega)), wd_congr (f := f) (g := g) (k := 3) (fun i hi => h _ (by omega))]
 simp
theorem eqB_spec {f g : Nat → Bool} (h : eqB f g = true) : ∀ c, c < 256 → f c = g c := by
 unfold eqB at h
 simp only [Bool.and_eq_true, beq_iff_eq, Int.natCast_inj] at h
 obtain ⟨⟨⟨h0, h1⟩, h2⟩, h3⟩ := h
 intro c hc
 have hk : c / 64 = 0 ∨ c / 64 = 1 ∨ c / 64 = 2 ∨ c / 64 = 3 := by omega
 have e : 64 * (c / 64) + c % 64 = c := Nat.div_add_mod c 64
 have hm := Nat.mod_lt c (by decide : 0 < 64)
 rcases hk with hk | hk | hk | hk <;> rw [hk] at e
 ·have := wd_inj h0 (c % 64) hm; rw [e] at this; exact this
 ·have := wd_inj h1 (c % 64) hm; rw [e] at this; exact this
 ·have := wd_inj h2 (c % 64) hm; rw [e] at this; exact this
 ·have := wd_inj h3 (c % 64) hm; rw [e] at this; exact this
theorem u28 : Tryd.prog.underlying 24 = some (.array 4 22) := by kernel_rfl
theorem c26 : Tryd.prog.cellsOf 22 = 1 := by kernel_rfl
theorem i26 : ∃ i, Tryd.prog.info? 22 = some i := by
 cases h : Tryd.prog.info? 22 with
 | none =>
   have : (Tryd.prog.info? 22).isSome = true := by kernel_rfl
   rw [h] at this; cases this
 | some i => exact ⟨i, rfl⟩
theorem eq28 (a0 a1 a2 a3 b0 b1 b2 b3 : Int) (w : World) : (Op.equalIn 10000 24 (.agg #[.int .u64 a0, .int .u64 a1, .int .u64 a2, .int .u64 a3]) (.agg #[.int .u64 b0, .int .u64 b1, .int .u64 b2, .int .u64 b3])).run Tryd.prog w =
  .ok ((a0 == b0) && (a1 == b1) && (a2 == b2) && (a3 == b3)) w := by
 obtain ⟨i, hi⟩ := i26
 rw [run_equalIn_array w 9999 _ _ u28 hi, c26]
 have hr : List.range 4 = [0, 1, 2, 3] := rfl
 rw [hr]
 simp only [Op.eqItems, Sem.run_bind]
 simp [go_sem]
 by_cases h0 : a0 = b0 <;> by_cases h1 : a1 = b1 <;> by_cases h2 : a2 = b2 <;> by_cases h3 : a3 = b3 <;> simp [*]
theorem ret_bool {a b : Bool} (h : a = b) : Ending.returned (.bool a) = .returned (.bool b) := by rw [h]
theorem ret_int {k : IntKind} {a b : Int} (h : a = b) : Ending.returned (.int k a) = .returned (.int k b) := by rw [h]

set_option maxHeartbeats 400000 in
theorem empty_in (f : Nat → Bool) (w : World) :
  Calls Tryd.prog 85 #[(.agg #[.int .u64 (wd f 0), .int .u64 (wd f 1), .int .u64 (wd f 2), .int .u64 (wd f 3)])] w fun e w' => e = .returned (.bool (eqB f noS)) ∧ Below w.heap.size w w' := by
 have he := fun w => eq28 (wd f 0) (wd f 1) (wd f 2) (wd f 3) 0 0 0 0 w
 go_enter Tryd.func85, Tryd.ntmps85
 go_wp2
 go_ret
 exact ⟨ret_bool (by simp [eqB, no_wd]), (Below.refl _ _).alloc (Nat.le_refl _) _⟩

def Tab (w : World) : Prop := 0 < w.heap.size ∧ ∀ t : Nat, t < 64 → w.cell? ⟨0, (2 ^ t * 285870213051353865) % 18446744073709551616 / 288230376151711744, none⟩ = some (.int .u8 t)
theorem Tab.below {w w' : World} {B : Nat} (h : Tab w) (hb : Below B w w') (hB : 0 < B) : Tab w' :=
 ⟨Nat.lt_of_lt_of_le h.1 hb.size, fun t ht => (hb.cell (p := ⟨0, _, none⟩) hB).trans (h.2 t ht)⟩
theorem bit_div (a i : Nat) : ((((a / 2 ^ i : Nat) : Int) % 2) == 1) = a.testBit i := by
 rw [Bool.eq_iff_iff, beq_iff_eq, Nat.testBit_eq_decide_div_mod_eq, decide_eq_true_eq]
 omega

set_option maxHeartbeats 400000 in
theorem has_ref (f : Nat → Bool) (c : Nat) (hc : c ≤ 255) (w : World) :
  Calls Tryd.prog 43 #[(.agg #[.int .u64 (wd f 0), .int .u64 (wd f 1), .int .u64 (wd f 2), .int .u64 (wd f 3)]), .int .i64 c] w fun e w' => e = .returned (.bool (f c)) ∧ Below w.heap.size w w' := by
 have hk : c / 64 = 0 ∨ c / 64 = 1 ∨ c / 64 = 2 ∨ c / 64 = 3 := by omega
 have h0 : (0 : Int) ≤ c := by omega
 have h1 : (c : Int) ≤ 255 := by omega
 have hpl : (2 : Nat) ^ (c % 64) < 18446744073709551616 := Nat.pow_lt_pow_right (a := 2) (by decide) (Nat.mod_lt c (by decide : 0 < 64))
 have hw : IntKind.u64.wrap (2 ^ ((c : Int) % 64).toNat) = ((2 ^ (c % 64) : Nat) : Int) := by
  have e : ((c : Int) % 64).toNat = c % 64 := by omega
  have this : (2 : Int) ^ (c % 64) = ((2 ^ (c % 64) : Nat) : Int) := by simp
  rw [e, this]; exact wrap_nat hpl
 have hp := Nat.two_pow_pos (c % 64)
 rcases hk with hk | hk | hk | hk
 ·have hz : (c : Int) / 64 = 0 := div_nat hk
  have ha := wd_lt f 0
  have e := bit_div (wd f 0) (c % 64)
  rw [testBit_wd] at e
  have e2 : 64 * 0 + c % 64 = c := by omega
  have e3 : c % 64 < 64 := by omega
  rw [e2] at e
  simp only [e3, decide_true, Bool.true_and] at e
  have Q : IntKind.u64.wrap ((wd f 0 : Int) / ((2 ^ (c % 64) : Nat) : Int)) = ((wd f 0 / 2 ^ (c % 64) : Nat) : Int) := by
   rw [← Int.natCast_ediv]
   exact wrap_nat (Nat.lt_of_le_of_lt (Nat.div_le_self (wd f 0) (2 ^ (c % 64))) ha)
  generalize (2 ^ (c % 64) : Nat) = p at *
  generalize wd f 0 / p = d at *
  generalize f c = b at *
  have P1 : (1 : Int) ≤ p := by omega
  clear hk e2 e3 ha hpl hp
  go_enter Tryd.func43, Tryd.ntmps43
  go_wp2
  go_ret
  exact ⟨rfl, (Below.refl _ _).alloc (Nat.le_refl _) _⟩
 ·have hz : (c : Int) / 64 = 1 := div_nat hk
  have ha := wd_lt f 1
  have e := bit_div (wd f 1) (c % 64)
  rw [testBit_wd] at e
  have e2 : 64 * 1 + c % 64 = c := by omega
  have e3 : c % 64 < 64 := by omega
  rw [e2] at e
  simp only [e3, decide_true, Bool.true_and] at e
  have Q : IntKind.u64.wrap ((wd f 1 : Int) / ((2 ^ (c % 64) : Nat) : Int)) = ((wd f 1 / 2 ^ (c % 64) : Nat) : Int) := by
   rw [← Int.natCast_ediv]
   exact wrap_nat (Nat.lt_of_le_of_lt (Nat.div_le_self (wd f 1) (2 ^ (c % 64))) ha)
  generalize (2 ^ (c % 64) : Nat) = p at *
  generalize wd f 1 / p = d at *
  generalize f c = b at *
  have P1 : (1 : Int) ≤ p := by omega
  clear hk e2 e3 ha hpl hp
  go_enter Tryd.func43, Tryd.ntmps43
  go_wp2
  go_ret
  exact ⟨rfl, (Below.refl _ _).alloc (Nat.le_refl _) _⟩
 ·have hz : (c : Int) / 64 = 2 := div_nat hk
  have ha := wd_lt f 2
  have e := bit_div (wd f 2) (c % 64)
  rw [testBit_wd] at e
  have e2 : 64 * 2 + c % 64 = c := by omega
  have e3 : c % 64 < 64 := by omega
  rw [e2] at e
  simp only [e3, decide_true, Bool.true_and] at e
  have Q : IntKind.u64.wrap ((wd f 2 : Int) / ((2 ^ (c % 64) : Nat) : Int)) = ((wd f 2 / 2 ^ (c % 64) : Nat) : Int) := by
   rw [← Int.natCast_ediv]
   exact wrap_nat (Nat.lt_of_le_of_lt (Nat.div_le_self (wd f 2) (2 ^ (c % 64))) ha)
  generalize (2 ^ (c % 64) : Nat) = p at *
  generalize wd f 2 / p = d at *
  generalize f c = b at *
  have P1 : (1 : Int) ≤ p := by omega
  clear hk e2 e3 ha hpl hp
  go_enter Tryd.func43, Tryd.ntmps43
  go_wp2
  go_ret
  exact ⟨rfl, (Below.refl _ _).alloc (Nat.le_refl _) _⟩
 ·have hz : (c : Int) / 64 = 3 := div_nat hk
  have ha := wd_lt f 3
  have e := bit_div (wd f 3) (c % 64)
  rw [testBit_wd] at e
  have e2 : 64 * 3 + c % 64 = c := by omega
  have e3 : c % 64 < 64 := by omega
  rw [e2] at e
  simp only [e3, decide_true, Bool.true_and] at e
  have Q : IntKind.u64.wrap ((wd f 3 : Int) / ((2 ^ (c % 64) : Nat) : Int)) = ((wd f 3 / 2 ^ (c % 64) : Nat) : Int) := by
   rw [← Int.natCast_ediv]
   exact wrap_nat (Nat.lt_of_le_of_lt (Nat.div_le_self (wd f 3) (2 ^ (c % 64))) ha)
  generalize (2 ^ (c % 64) : Nat) = p at *
  generalize wd f 3 / p = d at *
  generalize f c = b at *
  have P1 : (1 : Int) ≤ p := by omega
  clear hk e2 e3 ha hpl hp
  go_enter Tryd.func43, Tryd.ntmps43
  go_wp2
  go_ret
  exact ⟨rfl, (Below.refl _ _).alloc (Nat.le_refl _) _⟩


end Go.Proofs.YtobbifhflnlplaaDoor.S1
