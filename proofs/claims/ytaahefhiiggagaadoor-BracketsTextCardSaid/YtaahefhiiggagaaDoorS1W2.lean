/- More contracts. -/
import Derived.Test.YtaahefhiiggagaaDoorS1W1
namespace Go.Proofs.YtaahefhiiggagaaDoor.S1
open Go.RowKit

/-! ### Equality of two sets -/
/-- Are the words of two sets alike? -/
def eqB (f g : Nat → Bool) : Bool := (((wd f 0 : Nat) : Int) == (wd g 0 : Nat)) && (((wd f 1 : Nat) : Int) == (wd g 1 : Nat)) && (((wd f 2 : Nat) : Int) == (wd g 2 : Nat)) && (((wd f 3 : Nat) : Int) == (wd g 3 : Nat))
theorem eqB_true {f g : Nat → Bool} (h : ∀ c, c < 256 → f c = g c) : eqB f g = true := by
  unfold eqB
  rw [wd_congr (f := f) (g := g) (k := 0) (fun i hi => h _ (by omega)), wd_congr (f := f) (g := g) (k := 1) (fun i hi => h _ (by omega)),
    wd_congr (f := f) (g := g) (k := 2) (fun i hi => h _ (by omega)), wd_congr (f := f) (g := g) (k := 3) (fun i hi => h _ (by omega))]
  simp
theorem eqB_spec {f g : Nat → Bool} (h : eqB f g = true) : ∀ c, c < 256 → f c = g c := by
  unfold eqB at h
  simp only [Bool.and_eq_true, beq_iff_eq, Int.natCast_inj] at h
  obtain ⟨⟨⟨h0, h1⟩, h2⟩, h3⟩ := h
  intro c hc
  have hk : c / 64 = 0 ∨ c / 64 = 1 ∨ c / 64 = 2 ∨ c / 64 = 3 := by omega
  have e : 64 * (c / 64) + c % 64 = c := Nat.div_add_mod c 64
  have hm := Nat.mod_lt c (by decide : 0 < 64)
  rcases hk with hk | hk | hk | hk <;> rw [hk] at e
  · have := wd_inj h0 (c % 64) hm; rw [e] at this; exact this
  · have := wd_inj h1 (c % 64) hm; rw [e] at this; exact this
  · have := wd_inj h2 (c % 64) hm; rw [e] at this; exact this
  · have := wd_inj h3 (c % 64) hm; rw [e] at this; exact this
theorem eqB_iff (f g : Nat → Bool) : eqB f g = true ↔ ∀ c, c < 256 → f c = g c := ⟨eqB_spec, eqB_true⟩

theorem u28 : Tryd.prog.underlying 24 = some (.array 4 22) := by kernel_rfl
theorem c26 : Tryd.prog.cellsOf 22 = 1 := by kernel_rfl
theorem i26 : ∃ i, Tryd.prog.info? 22 = some i := by
  cases h : Tryd.prog.info? 22 with
  | none => have : (Tryd.prog.info? 22).isSome = true := by kernel_rfl
            rw [h] at this; cases this
  | some i => exact ⟨i, rfl⟩
theorem u26 : Tryd.prog.underlying 22 = some (.int .u64) := by kernel_rfl
theorem eq28 (a0 a1 a2 a3 b0 b1 b2 b3 : Int) (w : World) : (Op.equalIn 10000 24 (.agg #[.int .u64 a0, .int .u64 a1, .int .u64 a2, .int .u64 a3]) (.agg #[.int .u64 b0, .int .u64 b1, .int .u64 b2, .int .u64 b3])).run Tryd.prog w =
    .ok ((a0 == b0) && (a1 == b1) && (a2 == b2) && (a3 == b3)) w := by
  obtain ⟨i, hi⟩ := i26
  rw [run_equalIn_array w 9999 _ _ u28 hi, c26]
  have hr : List.range 4 = [0, 1, 2, 3] := rfl
  rw [hr]
  simp only [Op.eqItems, Sem.run_bind]
  simp [go_sem]
  by_cases h0 : a0 = b0 <;> by_cases h1 : a1 = b1 <;> by_cases h2 : a2 = b2 <;> by_cases h3 : a3 = b3 <;> simp [*]
theorem ret_bool {a b : Bool} (h : a = b) : Ending.returned (.bool a) = .returned (.bool b) := by rw [h]
theorem ret_int {k : IntKind} {a b : Int} (h : a = b) : Ending.returned (.int k a) = .returned (.int k b) := by rw [h]

set_option maxHeartbeats 400000 in
theorem empty_in (f : Nat → Bool) (w : World) :
    Calls Tryd.prog 40 #[(.agg #[.int .u64 (wd f 0), .int .u64 (wd f 1), .int .u64 (wd f 2), .int .u64 (wd f 3)])] w fun e w' => e = .returned (.bool (eqB f noS)) ∧ Below w.heap.size w w' := by
  have he := fun w => eq28 (wd f 0) (wd f 1) (wd f 2) (wd f 3) 0 0 0 0 w
  go_enter Tryd.func40, Tryd.ntmps40
  go_wp2
  go_ret
  exact ⟨ret_bool (by simp [eqB, no_wd]), (Below.refl _ _).alloc (Nat.le_refl _) _⟩

theorem and_i64_127 (n : Nat) (h : n < 9223372036854775808) : bits .and .i64 n 127 = ((n % 128 : Nat) : Int) := by
  have := (bits_nat .i64 63 (by decide) (fun n h0 h1 => by rw [IntKind.wrap_i64]; omega) n 127 (by omega) (by decide)).1
  have e : n &&& 127 = n % 128 := Nat.and_two_pow_sub_one_eq_mod n 7
  rw [e] at this
  exact this

set_option maxHeartbeats 1000000 in
theorem ones_in (x : Nat) (hx : x < 18446744073709551616) (w : World) :
    Calls Tryd.prog 36 #[.int .u64 x] w fun e w' => e = .returned (.int .i64 (cnt x.testBit 64)) ∧ w = w' := by
  have s1 := step1 hx
  have s2 := step2 x.testBit
  obtain ⟨s3l, s3⟩ := step3 x.testBit
  obtain ⟨v, u, z, hv, hu, hz, ev, eu, ez, hcnt⟩ := step4 x.testBit
  have d1 : dgS 2 (c1 x.testBit) 32 < 18446744073709551616 := dgS_lt fun j _ => by have := c1_le x.testBit j; omega
  have d2 : dgS 4 (c2 x.testBit) 16 < 18446744073709551616 := dgS_lt fun j _ => by have := c2_le x.testBit j; omega
  have d3 : dgS 8 (c3 x.testBit) 8 < 18446744073709551616 := dgS_lt fun j _ => by have := c3_le x.testBit j; omega
  generalize dgS 2 (c1 x.testBit) 32 = a1 at *
  generalize dgS 4 (c2 x.testBit) 16 = a2 at *
  generalize dgS 8 (c3 x.testBit) 8 = a3 at *
  generalize cnt x.testBit 64 = n at *
  have q (m : Nat) (h : m < 18446744073709551616) : IntKind.u64.wrap (m : Int) = m := wrap_nat h
  have E1 : IntKind.u64.wrap (bits .and .u64 ((x : Int) / 2) 6148914691236517205 + bits .and .u64 x 6148914691236517205) = a1 := by
    have h1 := (bitsN (x / 2) 6148914691236517205 (by omega) (by decide)).1
    have h2 := (bitsN x 6148914691236517205 hx (by decide)).1
    have : ((x : Int) / 2) = ((x / 2 : Nat) : Int) := by omega
    rw [this]
    have h1' : bits .and .u64 ((x / 2 : Nat) : Int) 6148914691236517205 = _ := h1
    have h2' : bits .and .u64 (x : Int) 6148914691236517205 = _ := h2
    rw [h1', h2', ← Int.natCast_add, s1]
    exact q _ d1
  have E2 : IntKind.u64.wrap (bits .and .u64 ((a1 : Int) / 4) 3689348814741910323 + bits .and .u64 a1 3689348814741910323) = a2 := by
    have h1 := (bitsN (a1 / 4) 3689348814741910323 (by omega) (by decide)).1
    have h2 := (bitsN a1 3689348814741910323 d1 (by decide)).1
    have : ((a1 : Int) / 4) = ((a1 / 4 : Nat) : Int) := by omega
    rw [this]
    have h1' : bits .and .u64 ((a1 / 4 : Nat) : Int) 3689348814741910323 = _ := h1
    have h2' : bits .and .u64 (a1 : Int) 3689348814741910323 = _ := h2
    rw [h1', h2', ← Int.natCast_add, s2]
    exact q _ d2
  have E3 : bits .and .u64 (IntKind.u64.wrap ((a2 : Int) / 16 + a2)) 1085102592571150095 = a3 := by
    have : ((a2 : Int) / 16 + a2) = ((a2 / 16 + a2 : Nat) : Int) := by omega
    rw [this, q _ s3l]
    have h2 := (bitsN (a2 / 16 + a2) 1085102592571150095 s3l (by decide)).1
    have h2' : bits .and .u64 ((a2 / 16 + a2 : Nat) : Int) 1085102592571150095 = _ := h2
    rw [h2', s3]
  have E4 : IntKind.u64.wrap ((a3 : Int) + (a3 : Int) / 256) = v := by
    have : ((a3 : Int) + (a3 : Int) / 256) = (v : Int) := by omega
    rw [this]; exact q _ hv
  have E5 : IntKind.u64.wrap ((v : Int) + (v : Int) / 65536) = u := by
    have : ((v : Int) + (v : Int) / 65536) = (u : Int) := by omega
    rw [this]; exact q _ hu
  have E6 : IntKind.u64.wrap ((u : Int) + (u : Int) / 4294967296) = z := by
    have : ((u : Int) + (u : Int) / 4294967296) = (z : Int) := by omega
    rw [this]; exact q _ (by omega)
  have E7 : bits .and .i64 (wrap64 (z : Int)) 127 = n := by
    rw [IntWalk.wrap64_in _ ⟨by omega, by omega⟩, and_i64_127 z hz, hcnt]
  clear s1 s2 s3 s3l ev eu ez hcnt q d1 d2 d3 hv hu hz hx
  go_enter Tryd.func36, Tryd.ntmps36
  go_wp2
  go_ret
  exact ⟨rfl, rfl⟩

/-- The table of math/bits.TrailingZeros64 lies in block 0. -/
def Tab (w : World) : Prop := 18 < w.heap.size ∧ ∀ t : Nat, t < 64 → w.cell? ⟨18, (2 ^ t * 285870213051353865) % 18446744073709551616 / 288230376151711744, none⟩ = some (.int .u8 t)
theorem Tab.below {w w' : World} {B : Nat} (h : Tab w) (hb : Below B w w') (hB : 18 < B) : Tab w' :=
  ⟨Nat.lt_of_lt_of_le h.1 hb.size, fun t ht => (hb.cell (p := ⟨18, _, none⟩) hB).trans (h.2 t ht)⟩
theorem idx_lt : ∀ t : Nat, t < 64 → (2 ^ t * 285870213051353865) % 18446744073709551616 / 288230376151711744 < 64 := fun t _ => by
  have := Nat.mod_lt (2 ^ t * 285870213051353865) (by decide : 0 < 18446744073709551616)
  omega

def tabIx (t : Nat) : Nat := (2 ^ t * 285870213051353865) % 18446744073709551616 / 288230376151711744
theorem ctz_math (x t : Nat) (hx : x < 18446744073709551616) (h1 : x.testBit t = true) (h0 : ∀ i, i < t → x.testBit i = false) : t < 64 ∧ ((x : Int) == 0) = false ∧
    ∃ p y : Nat, bits .and .u64 (x : Int) (IntKind.u64.wrap (-(x : Int))) = (p : Int) ∧ IntKind.u64.wrap ((p : Int) * 285870213051353865) = (y : Int) ∧ (y : Int) / 288230376151711744 = (tabIx t : Nat) := by
  obtain ⟨hand, ht⟩ := and_neg hx h1 h0
  have hx0 : x ≠ 0 := fun e => by subst e; simp at h1
  refine ⟨ht, by simpa using hx0, 2 ^ t, (2 ^ t * 285870213051353865) % 18446744073709551616, ?_, ?_, ?_⟩
  · have e : IntKind.u64.wrap (-(x : Int)) = ((18446744073709551616 - x : Nat) : Int) := by rw [wrap_u64]; omega
    rw [e, (bitsN x _ hx (by omega)).1, hand]
  · rw [wrap_u64]
    generalize (2 : Nat) ^ t = p
    omega
  · unfold tabIx
    generalize (2 : Nat) ^ t * 285870213051353865 % 18446744073709551616 = y
    omega

set_option maxHeartbeats 400000 in
theorem ctz_core (x p y k t : Nat) (E1 : bits .and .u64 (x : Int) (IntKind.u64.wrap (-(x : Int))) = (p : Int)) (E2 : IntKind.u64.wrap ((p : Int) * 285870213051353865) = (y : Int)) (E3 : (y : Int) / 288230376151711744 = (k : Nat)) (hk : k < 64) (ht : t < 64)
    (hz : ((x : Int) == 0) = false) (w : World) (hcell : w.cell? ⟨18, k, none⟩ = some (.int .u8 t)) :
    Calls Tryd.prog 50 #[.int .u64 x] w fun e w' => e = .returned (.int .i64 t) ∧ w = w' := by
  go_enter Tryd.func50, Tryd.ntmps50
  go_wp2
  go_ret
  exact ⟨rfl, rfl⟩

theorem ctz_in (x t : Nat) (hx : x < 18446744073709551616) (h1 : x.testBit t = true) (h0 : ∀ i, i < t → x.testBit i = false) (w : World) (hT : Tab w) :
    Calls Tryd.prog 50 #[.int .u64 x] w fun e w' => e = .returned (.int .i64 t) ∧ w = w' := by
  obtain ⟨ht, hz, p, y, E1, E2, E3⟩ := ctz_math x t hx h1 h0
  exact ctz_core x p y (tabIx t) t E1 E2 E3 (idx_lt t ht) ht hz w (hT.2 t ht)

theorem bit_div (a i : Nat) : ((((a / 2 ^ i : Nat) : Int) % 2) == 1) = a.testBit i := by
  rw [Bool.eq_iff_iff, beq_iff_eq, Nat.testBit_eq_decide_div_mod_eq, decide_eq_true_eq]
  omega

set_option maxHeartbeats 400000 in
theorem has_ref (f : Nat → Bool) (c : Nat) (hc : c ≤ 255) (w : World) :
    Calls Tryd.prog 30 #[(.agg #[.int .u64 (wd f 0), .int .u64 (wd f 1), .int .u64 (wd f 2), .int .u64 (wd f 3)]), .int .i64 c] w fun e w' => e = .returned (.bool (f c)) ∧ Below w.heap.size w w' := by
  have hk : c / 64 = 0 ∨ c / 64 = 1 ∨ c / 64 = 2 ∨ c / 64 = 3 := by omega
  have h0 : (0 : Int) ≤ c := by omega
  have h1 : (c : Int) ≤ 255 := by omega
  have hpl : (2 : Nat) ^ (c % 64) < 18446744073709551616 := Nat.pow_lt_pow_right (a := 2) (by decide) (Nat.mod_lt c (by decide : 0 < 64))
  have hw : IntKind.u64.wrap (2 ^ ((c : Int) % 64).toNat) = ((2 ^ (c % 64) : Nat) : Int) := by
    have e : ((c : Int) % 64).toNat = c % 64 := by omega
    have this : (2 : Int) ^ (c % 64) = ((2 ^ (c % 64) : Nat) : Int) := by simp
    rw [e, this]; exact wrap_nat hpl
  have hp := Nat.two_pow_pos (c % 64)
  rcases hk with hk | hk | hk | hk
  · have hz : (c : Int) / 64 = 0 := div_nat hk
    have ha := wd_lt f 0
    have e := bit_div (wd f 0) (c % 64)
    rw [testBit_wd] at e
    have e2 : 64 * 0 + c % 64 = c := by omega
    have e3 : c % 64 < 64 := by omega
    rw [e2] at e
    simp only [e3, decide_true, Bool.true_and] at e
    have Q : IntKind.u64.wrap ((wd f 0 : Int) / ((2 ^ (c % 64) : Nat) : Int)) = ((wd f 0 / 2 ^ (c % 64) : Nat) : Int) := by
      rw [← Int.natCast_ediv]
      exact wrap_nat (Nat.lt_of_le_of_lt (Nat.div_le_self (wd f 0) (2 ^ (c % 64))) ha)
    generalize (2 ^ (c % 64) : Nat) = p at *
    generalize wd f 0 / p = d at *
    generalize f c = b at *
    have P1 : (1 : Int) ≤ p := by omega
    clear hk e2 e3 ha hpl hp
    go_enter Tryd.func30, Tryd.ntmps30
    go_wp2
    go_ret
    exact ⟨rfl, (Below.refl _ _).alloc (Nat.le_refl _) _⟩
  · have hz : (c : Int) / 64 = 1 := div_nat hk
    have ha := wd_lt f 1
    have e := bit_div (wd f 1) (c % 64)
    rw [testBit_wd] at e
    have e2 : 64 * 1 + c % 64 = c := by omega
    have e3 : c % 64 < 64 := by omega
    rw [e2] at e
    simp only [e3, decide_true, Bool.true_and] at e
    have Q : IntKind.u64.wrap ((wd f 1 : Int) / ((2 ^ (c % 64) : Nat) : Int)) = ((wd f 1 / 2 ^ (c % 64) : Nat) : Int) := by
      rw [← Int.natCast_ediv]
      exact wrap_nat (Nat.lt_of_le_of_lt (Nat.div_le_self (wd f 1) (2 ^ (c % 64))) ha)
    generalize (2 ^ (c % 64) : Nat) = p at *
    generalize wd f 1 / p = d at *
    generalize f c = b at *
    have P1 : (1 : Int) ≤ p := by omega
    clear hk e2 e3 ha hpl hp
    go_enter Tryd.func30, Tryd.ntmps30
    go_wp2
    go_ret
    exact ⟨rfl, (Below.refl _ _).alloc (Nat.le_refl _) _⟩
  · have hz : (c : Int) / 64 = 2 := div_nat hk
    have ha := wd_lt f 2
    have e := bit_div (wd f 2) (c % 64)
    rw [testBit_wd] at e
    have e2 : 64 * 2 + c % 64 = c := by omega
    have e3 : c % 64 < 64 := by omega
    rw [e2] at e
    simp only [e3, decide_true, Bool.true_and] at e
    have Q : IntKind.u64.wrap ((wd f 2 : Int) / ((2 ^ (c % 64) : Nat) : Int)) = ((wd f 2 / 2 ^ (c % 64) : Nat) : Int) := by
      rw [← Int.natCast_ediv]
      exact wrap_nat (Nat.lt_of_le_of_lt (Nat.div_le_self (wd f 2) (2 ^ (c % 64))) ha)
    generalize (2 ^ (c % 64) : Nat) = p at *
    generalize wd f 2 / p = d at *
    generalize f c = b at *
    have P1 : (1 : Int) ≤ p := by omega
    clear hk e2 e3 ha hpl hp
    go_enter Tryd.func30, Tryd.ntmps30
    go_wp2
    go_ret
    exact ⟨rfl, (Below.refl _ _).alloc (Nat.le_refl _) _⟩
  · have hz : (c : Int) / 64 = 3 := div_nat hk
    have ha := wd_lt f 3
    have e := bit_div (wd f 3) (c % 64)
    rw [testBit_wd] at e
    have e2 : 64 * 3 + c % 64 = c := by omega
    have e3 : c % 64 < 64 := by omega
    rw [e2] at e
    simp only [e3, decide_true, Bool.true_and] at e
    have Q : IntKind.u64.wrap ((wd f 3 : Int) / ((2 ^ (c % 64) : Nat) : Int)) = ((wd f 3 / 2 ^ (c % 64) : Nat) : Int) := by
      rw [← Int.natCast_ediv]
      exact wrap_nat (Nat.lt_of_le_of_lt (Nat.div_le_self (wd f 3) (2 ^ (c % 64))) ha)
    generalize (2 ^ (c % 64) : Nat) = p at *
    generalize wd f 3 / p = d at *
    generalize f c = b at *
    have P1 : (1 : Int) ≤ p := by omega
    clear hk e2 e3 ha hpl hp
    go_enter Tryd.func30, Tryd.ntmps30
    go_wp2
    go_ret
    exact ⟨rfl, (Below.refl _ _).alloc (Nat.le_refl _) _⟩


end Go.Proofs.YtaahefhiiggagaaDoor.S1
