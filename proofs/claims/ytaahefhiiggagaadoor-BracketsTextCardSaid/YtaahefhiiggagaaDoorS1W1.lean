/- Contracts of the small functions of package sets (One, Or, And, Not, Empty), of math/bits.OnesCount64 and TrailingZeros64, and of the reference's Has: each returns what the set of its argument says and touches no old memory. TrailingZeros64 asks that its table lie in block 0. -/
import Derived.Test.YtaahefhiiggagaaDoorProg
import Derived.Test.YtaahefhiiggagaaDoorS1M
import Derived.WalkKit
import Derived.WalkLawsBesides
import Derived.WalkSpells
import Derived.RegionTactic
import Derived.BigQuiet
import Derived.Below
import Derived.ChangeKeysEq
namespace Go.Proofs.YtaahefhiiggagaaDoor.S1
open Go.RowKit

theorem div_nat {c k : Nat} (h : c / 64 = k) : (c : Int) / 64 = k := by omega

set_option maxHeartbeats 400000 in
theorem one_in (c : Nat) (hc : c ≤ 255) (w : World) :
    Calls Tryd.prog 15 #[.int .u8 c] w fun e w' => e = .returned (.agg #[.int .u64 (wd (oneS c) 0), .int .u64 (wd (oneS c) 1), .int .u64 (wd (oneS c) 2), .int .u64 (wd (oneS c) 3)]) ∧ Below w.heap.size w w' := by
  have hk : c / 64 = 0 ∨ c / 64 = 1 ∨ c / 64 = 2 ∨ c / 64 = 3 := by omega
  have h0 : (0 : Int) ≤ c := by omega
  have h1 : (c : Int) ≤ 255 := by omega
  rcases hk with hk | hk | hk | hk
  · have hq := div_nat hk
    have hw := one_wd hk
    have hz : (c : Int) / 64 = 0 := hq
    clear hq
    have z1 := one_wd_off (c := c) (k := 1) (by omega)
    have z2 := one_wd_off (c := c) (k := 2) (by omega)
    have z3 := one_wd_off (c := c) (k := 3) (by omega)
    go_enter Tryd.func15, Tryd.ntmps15
    go_wp2
    exact bodyPost_ret (v := (.agg #[.int .u64 (wd (oneS c) 0), .int .u64 (wd (oneS c) 1), .int .u64 (wd (oneS c) 2), .int .u64 (wd (oneS c) 3)])) (by simp [results, Tryd.results15, go_sem, z1, z2, z3]) rfl ⟨rfl, ((Below.refl _ _).alloc (Nat.le_refl _) _).alloc (by simp) _⟩
  · have hq := div_nat hk
    have hw := one_wd hk
    have hz : (c : Int) / 64 = 1 := hq
    clear hq
    have z0 := one_wd_off (c := c) (k := 0) (by omega)
    have z2 := one_wd_off (c := c) (k := 2) (by omega)
    have z3 := one_wd_off (c := c) (k := 3) (by omega)
    go_enter Tryd.func15, Tryd.ntmps15
    go_wp2
    exact bodyPost_ret (v := (.agg #[.int .u64 (wd (oneS c) 0), .int .u64 (wd (oneS c) 1), .int .u64 (wd (oneS c) 2), .int .u64 (wd (oneS c) 3)])) (by simp [results, Tryd.results15, go_sem, z0, z2, z3]) rfl ⟨rfl, ((Below.refl _ _).alloc (Nat.le_refl _) _).alloc (by simp) _⟩
  · have hq := div_nat hk
    have hw := one_wd hk
    have hz : (c : Int) / 64 = 2 := hq
    clear hq
    have z0 := one_wd_off (c := c) (k := 0) (by omega)
    have z1 := one_wd_off (c := c) (k := 1) (by omega)
    have z3 := one_wd_off (c := c) (k := 3) (by omega)
    go_enter Tryd.func15, Tryd.ntmps15
    go_wp2
    exact bodyPost_ret (v := (.agg #[.int .u64 (wd (oneS c) 0), .int .u64 (wd (oneS c) 1), .int .u64 (wd (oneS c) 2), .int .u64 (wd (oneS c) 3)])) (by simp [results, Tryd.results15, go_sem, z0, z1, z3]) rfl ⟨rfl, ((Below.refl _ _).alloc (Nat.le_refl _) _).alloc (by simp) _⟩
  · have hq := div_nat hk
    have hw := one_wd hk
    have hz : (c : Int) / 64 = 3 := hq
    clear hq
    have z0 := one_wd_off (c := c) (k := 0) (by omega)
    have z1 := one_wd_off (c := c) (k := 1) (by omega)
    have z2 := one_wd_off (c := c) (k := 2) (by omega)
    go_enter Tryd.func15, Tryd.ntmps15
    go_wp2
    exact bodyPost_ret (v := (.agg #[.int .u64 (wd (oneS c) 0), .int .u64 (wd (oneS c) 1), .int .u64 (wd (oneS c) 2), .int .u64 (wd (oneS c) 3)])) (by simp [results, Tryd.results15, go_sem, z0, z1, z2]) rfl ⟨rfl, ((Below.refl _ _).alloc (Nat.le_refl _) _).alloc (by simp) _⟩

set_option maxHeartbeats 1000000 in
theorem or_in (f g : Nat → Bool) (w : World) :
    Calls Tryd.prog 34 #[(.agg #[.int .u64 (wd f 0), .int .u64 (wd f 1), .int .u64 (wd f 2), .int .u64 (wd f 3)]), (.agg #[.int .u64 (wd g 0), .int .u64 (wd g 1), .int .u64 (wd g 2), .int .u64 (wd g 3)])] w fun e w' => e = .returned (.agg #[.int .u64 (wd (orS f g) 0), .int .u64 (wd (orS f g) 1), .int .u64 (wd (orS f g) 2), .int .u64 (wd (orS f g) 3)]) ∧ Below w.heap.size w w' := by
  have o0 := or_wd f g 0
  have o1 := or_wd f g 1
  have o2 := or_wd f g 2
  have o3 := or_wd f g 3
  go_enter Tryd.func34, Tryd.ntmps34
  go_wp2
  refine wp_loop_rounds 5 ?_
  rw [rounds_succ]
  go_wp2
  go_region
  go_wp2
  rw [rounds_succ]
  go_wp2
  go_region
  go_wp2
  rw [rounds_succ]
  go_wp2
  go_region
  go_wp2
  rw [rounds_succ]
  go_wp2
  go_region
  go_wp2
  rw [rounds_succ]
  go_wp2
  exact bodyPost_ret (v := (.agg #[.int .u64 (wd (orS f g) 0), .int .u64 (wd (orS f g) 1), .int .u64 (wd (orS f g) 2), .int .u64 (wd (orS f g) 3)])) (by simp [results, Tryd.results34, go_sem]) rfl ⟨rfl, (((((((Below.refl _ _).alloc (Nat.le_refl _) _).alloc (by simp) _).alloc (by simp <;> omega) _).drew.drew.drew.drew)))⟩

set_option maxHeartbeats 400000 in
theorem not_in (f : Nat → Bool) (w : World) :
    Calls Tryd.prog 19 #[(.agg #[.int .u64 (wd f 0), .int .u64 (wd f 1), .int .u64 (wd f 2), .int .u64 (wd f 3)])] w fun e w' => e = .returned (.agg #[.int .u64 (wd (notS f) 0), .int .u64 (wd (notS f) 1), .int .u64 (wd (notS f) 2), .int .u64 (wd (notS f) 3)]) ∧ Below w.heap.size w w' := by
  have o0 := not_wd f 0
  have o1 := not_wd f 1
  have o2 := not_wd f 2
  have o3 := not_wd f 3
  have hs : (IntKind.u64.signed = true) = False := by decide
  go_enter Tryd.func19, Tryd.ntmps19
  go_wp2
  refine wp_loop_rounds 5 ?_
  rw [rounds_succ]
  go_wp2
  rw [rounds_succ]
  go_wp2
  rw [rounds_succ]
  go_wp2
  rw [rounds_succ]
  go_wp2
  rw [rounds_succ]
  go_wp2
  exact bodyPost_ret (v := (.agg #[.int .u64 (wd (notS f) 0), .int .u64 (wd (notS f) 1), .int .u64 (wd (notS f) 2), .int .u64 (wd (notS f) 3)])) (by simp [results, Tryd.results19, go_sem]) rfl ⟨rfl, ((Below.refl _ _).alloc (Nat.le_refl _) _).alloc (by simp) _⟩

end Go.Proofs.YtaahefhiiggagaaDoor.S1
