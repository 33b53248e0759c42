/- Contracts of math/bits.OnesCount64 and TrailingZeros64. The second asks that its table lie in its block. -/
import Derived.Test.YtkdjojmegohonaaDoorProg
import Derived.Test.YtkdjojmegohonaaDoorM
import Derived.WalkKit
import Derived.WalkLawsBesides
import Derived.WalkSpells
import Derived.RegionTactic
import Derived.BigQuiet
import Derived.Below
import Derived.ChangeKeysEq
namespace Go.Proofs.YtkdjojmegohonaaDoor
open Go.RowKit
theorem ret_bool {a b : Bool} (h : a = b) : Ending.returned (.bool a) = .returned (.bool b) := by rw [h]
theorem ret_int {k : IntKind} {a b : Int} (h : a = b) : Ending.returned (.int k a) = .returned (.int k b) := by rw [h]
theorem and_i64_127 (n : Nat) (h : n < 9223372036854775808) : bits .and .i64 n 127 = ((n % 128 : Nat) : Int) := by
  have := (bits_nat .i64 63 (by decide) (fun n h0 h1 => by rw [IntKind.wrap_i64]; omega) n 127 (by omega) (by decide)).1
  have e : n &&& 127 = n % 128 := Nat.and_two_pow_sub_one_eq_mod n 7
  rw [e] at this
  exact this

set_option maxHeartbeats 1000000 in
theorem ones_in (x : Nat) (hx : x < 18446744073709551616) (w : World) :
    Calls Tryd.prog 29 #[.int .u64 x] w fun e w' => e = .returned (.int .i64 (cnt x.testBit 64)) ∧ w = w' := by
  have s1 := step1 hx
  have s2 := step2 x.testBit
  obtain ⟨s3l, s3⟩ := step3 x.testBit
  obtain ⟨v, u, z, hv, hu, hz, ev, eu, ez, hcnt⟩ := step4 x.testBit
  have d1 : dgS 2 (c1 x.testBit) 32 < 18446744073709551616 := dgS_lt fun j _ => by have := c1_le x.testBit j; omega
  have d2 : dgS 4 (c2 x.testBit) 16 < 18446744073709551616 := dgS_lt fun j _ => by have := c2_le x.testBit j; omega
  have d3 : dgS 8 (c3 x.testBit) 8 < 18446744073709551616 := dgS_lt fun j _ => by have := c3_le x.testBit j; omega
  generalize dgS 2 (c1 x.testBit) 32 = a1 at *
  generalize dgS 4 (c2 x.testBit) 16 = a2 at *
  generalize dgS 8 (c3 x.testBit) 8 = a3 at *
  generalize cnt x.testBit 64 = n at *
  have q (m : Nat) (h : m < 18446744073709551616) : IntKind.u64.wrap (m : Int) = m := wrap_nat h
  have E1 : IntKind.u64.wrap (bits .and .u64 ((x : Int) / 2) 6148914691236517205 + bits .and .u64 x 6148914691236517205) = a1 := by
    have h1 := (bitsN (x / 2) 6148914691236517205 (by omega) (by decide)).1
    have h2 := (bitsN x 6148914691236517205 hx (by decide)).1
    have : ((x : Int) / 2) = ((x / 2 : Nat) : Int) := by omega
    rw [this]
    have h1' : bits .and .u64 ((x / 2 : Nat) : Int) 6148914691236517205 = _ := h1
    have h2' : bits .and .u64 (x : Int) 6148914691236517205 = _ := h2
    rw [h1', h2', ← Int.natCast_add, s1]
    exact q _ d1
  have E2 : IntKind.u64.wrap (bits .and .u64 ((a1 : Int) / 4) 3689348814741910323 + bits .and .u64 a1 3689348814741910323) = a2 := by
    have h1 := (bitsN (a1 / 4) 3689348814741910323 (by omega) (by decide)).1
    have h2 := (bitsN a1 3689348814741910323 d1 (by decide)).1
    have : ((a1 : Int) / 4) = ((a1 / 4 : Nat) : Int) := by omega
    rw [this]
    have h1' : bits .and .u64 ((a1 / 4 : Nat) : Int) 3689348814741910323 = _ := h1
    have h2' : bits .and .u64 (a1 : Int) 3689348814741910323 = _ := h2
    rw [h1', h2', ← Int.natCast_add, s2]
    exact q _ d2
  have E3 : bits .and .u64 (IntKind.u64.wrap ((a2 : Int) / 16 + a2)) 1085102592571150095 = a3 := by
    have : ((a2 : Int) / 16 + a2) = ((a2 / 16 + a2 : Nat) : Int) := by omega
    rw [this, q _ s3l]
    have h2 := (bitsN (a2 / 16 + a2) 1085102592571150095 s3l (by decide)).1
    have h2' : bits .and .u64 ((a2 / 16 + a2 : Nat) : Int) 1085102592571150095 = _ := h2
    rw [h2', s3]
  have E4 : IntKind.u64.wrap ((a3 : Int) + (a3 : Int) / 256) = v := by
    have : ((a3 : Int) + (a3 : Int) / 256) = (v : Int) := by omega
    rw [this]; exact q _ hv
  have E5 : IntKind.u64.wrap ((v : Int) + (v : Int) / 65536) = u := by
    have : ((v : Int) + (v : Int) / 65536) = (u : Int) := by omega
    rw [this]; exact q _ hu
  have E6 : IntKind.u64.wrap ((u : Int) + (u : Int) / 4294967296) = z := by
    have : ((u : Int) + (u : Int) / 4294967296) = (z : Int) := by omega
    rw [this]; exact q _ (by omega)
  have E7 : bits .and .i64 (wrap64 (z : Int)) 127 = n := by
    rw [IntWalk.wrap64_in _ ⟨by omega, by omega⟩, and_i64_127 z hz, hcnt]
  clear s1 s2 s3 s3l ev eu ez hcnt q d1 d2 d3 hv hu hz hx
  go_enter Tryd.func29, Tryd.ntmps29
  go_wp2
  go_ret
  exact ⟨rfl, rfl⟩

/-- The table of math/bits.TrailingZeros64 lies in its block. -/
def Tab (w : World) : Prop := 1 < w.heap.size ∧ ∀ t : Nat, t < 64 → w.cell? ⟨1, (2 ^ t * 285870213051353865) % 18446744073709551616 / 288230376151711744, none⟩ = some (.int .u8 t)
theorem Tab.below {w w' : World} {B : Nat} (h : Tab w) (hb : Below B w w') (hB : 1 < B) : Tab w' :=
  ⟨Nat.lt_of_lt_of_le h.1 hb.size, fun t ht => (hb.cell (p := ⟨1, _, none⟩) hB).trans (h.2 t ht)⟩
theorem idx_lt : ∀ t : Nat, t < 64 → (2 ^ t * 285870213051353865) % 18446744073709551616 / 288230376151711744 < 64 := fun t _ => by
  have := Nat.mod_lt (2 ^ t * 285870213051353865) (by decide : 0 < 18446744073709551616)
  omega

def tabIx (t : Nat) : Nat := (2 ^ t * 285870213051353865) % 18446744073709551616 / 288230376151711744
theorem ctz_math (x t : Nat) (hx : x < 18446744073709551616) (h1 : x.testBit t = true) (h0 : ∀ i, i < t → x.testBit i = false) : t < 64 ∧ ((x : Int) == 0) = false ∧
    ∃ p y : Nat, bits .and .u64 (x : Int) (IntKind.u64.wrap (-(x : Int))) = (p : Int) ∧ IntKind.u64.wrap ((p : Int) * 285870213051353865) = (y : Int) ∧ (y : Int) / 288230376151711744 = (tabIx t : Nat) := by
  obtain ⟨hand, ht⟩ := and_neg hx h1 h0
  have hx0 : x ≠ 0 := fun e => by subst e; simp at h1
  refine ⟨ht, by simpa using hx0, 2 ^ t, (2 ^ t * 285870213051353865) % 18446744073709551616, ?_, ?_, ?_⟩
  · have e : IntKind.u64.wrap (-(x : Int)) = ((18446744073709551616 - x : Nat) : Int) := by rw [wrap_u64]; omega
    rw [e, (bitsN x _ hx (by omega)).1, hand]
  · rw [wrap_u64]
    generalize (2 : Nat) ^ t = p
    omega
  · unfold tabIx
    generalize (2 : Nat) ^ t * 285870213051353865 % 18446744073709551616 = y
    omega

set_option maxHeartbeats 400000 in
theorem ctz_core (x p y k t : Nat) (E1 : bits .and .u64 (x : Int) (IntKind.u64.wrap (-(x : Int))) = (p : Int)) (E2 : IntKind.u64.wrap ((p : Int) * 285870213051353865) = (y : Int)) (E3 : (y : Int) / 288230376151711744 = (k : Nat)) (hk : k < 64) (ht : t < 64)
    (hz : ((x : Int) == 0) = false) (w : World) (hcell : w.cell? ⟨1, k, none⟩ = some (.int .u8 t)) :
    Calls Tryd.prog 30 #[.int .u64 x] w fun e w' => e = .returned (.int .i64 t) ∧ w = w' := by
  go_enter Tryd.func30, Tryd.ntmps30
  go_wp2
  go_ret
  exact ⟨rfl, rfl⟩

theorem ctz_in (x t : Nat) (hx : x < 18446744073709551616) (h1 : x.testBit t = true) (h0 : ∀ i, i < t → x.testBit i = false) (w : World) (hT : Tab w) :
    Calls Tryd.prog 30 #[.int .u64 x] w fun e w' => e = .returned (.int .i64 t) ∧ w = w' := by
  obtain ⟨ht, hz, p, y, E1, E2, E3⟩ := ctz_math x t hx h1 h0
  exact ctz_core x p y (tabIx t) t E1 E2 E3 (idx_lt t ht) ht hz w (hT.2 t ht)

end Go.Proofs.YtkdjojmegohonaaDoor
