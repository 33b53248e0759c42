/- The program's sum of more bytes behind a sum: half a byte at a time. It asks that the table of halves lie in block 0. -/
import Derived.Test.YtficnnlajpfkbaaDoorW1
namespace Go.Proofs.YtficnnlajpfkbaaDoor
open Go.RowKit
/-- The table of halves lies in block 0. -/
def Tab (w : World) : Prop := 0 < w.heap.size ∧ ∀ i : Nat, i < 16 → w.cell? ⟨0, i, none⟩ = some (.int .u32 (stp4 i : Nat))
theorem Tab.below {B : Nat} {w w' : World} (h : Tab w) (hb : Below B w w') (hB : 0 < B) : Tab w' :=
  ⟨Nat.lt_of_lt_of_le h.1 hb.size, fun i hi => (Below.cell hb hB).trans (h.2 i hi)⟩
theorem Tab.bel {w w' : World} (h : Tab w) (hb : Bel w w') : Tab w' := h.below hb h.1
theorem and15 {v : Nat} (hv : v < 2 ^ 32) : bits .and .u32 (v : Int) 15 = ((v % 16 : Nat) : Int) := by
  have h := u32_and_nat v 15 hv (by decide)
  have e : v &&& 15 = v % 16 := Nat.and_two_pow_sub_one_eq_mod v 4
  rw [e] at h
  exact h
theorem half_step {v : Nat} (hv : v < 2 ^ 32) : bits .xor .u32 ((v : Int) / 16) ((stp4 (v % 16) : Nat) : Int) = ((stp4 v : Nat) : Int) := by
  have e : ((v : Int) / 16) = ((v / 16 : Nat) : Int) := by omega
  rw [e, xor32 (by omega) (stp4_lt (by omega)), ← stp4_table]
theorem not_mod {s : Nat} (hs : s < 2 ^ 32) : bits .xor .u32 IntKind.u32.max (s : Int) = ((4294967295 - s : Nat) : Int) := by
  have h := xor32 (a := 4294967295) (b := s) (by decide) hs
  rw [not32 hs] at h
  exact h
set_option maxRecDepth 100000 in
set_option maxHeartbeats 1000000 in
theorem more_in (sum : Int) (s : Nat) (hsum : sum % 4294967296 = (s : Int)) (a : Option Addr) (c : Nat) (l : List Nat) (w : World) (hS : Src w a l.length c l) (hT : Tab w) (hm : l.length ≤ 100000) :
    Calls Tryd.prog 11 #[.int .i64 sum, .slice a l.length c] w fun e w' => e = .returned (.int .i64 (crcN s l : Nat)) ∧ w = w' := by
  have hs : s < 2 ^ 32 := by omega
  have hn0 := not_mod hs
  have hx0 : 4294967295 - s < 2 ^ 32 := by omega
  have hend : crcN s l = 4294967295 - rall (4294967295 - s) l := rfl
  have hsm : ∀ x ∈ l, x < 256 := fun x hx => by have := hS.small x hx; omega
  have hrl := fun k => rall_lt (l := l.take k) hx0 fun x hx => hsm x (List.mem_of_mem_take hx)
  rw [hend]
  clear hend
  generalize 4294967295 - s = x0 at *
  clear hs hx0
  replace hrl := Lib.hid hrl
  replace hsm := Lib.hid hsm
  replace hS := Lib.hid hS
  replace hT := Lib.hid hT
  have hc1 : IntKind.u32.wrap sum = (s : Int) := by rw [IntKind.wrap_u32]; exact hsum
  go_enter Tryd.func11, Tryd.ntmps11
  go_wp2
  go_loop [5, 13] (fun x i => ∃ k : Nat, k ≤ l.length ∧ i = .int .i64 k ∧ x = .int .u32 (rall x0 (l.take k) : Nat)) (fun _ i => l.length - (intOf i).toNat)
  case atStart => exact ⟨0, Nat.zero_le _, rfl, rfl⟩
  case round =>
    obtain ⟨k, hk, rfl, rfl⟩ := hrel
    by_cases hlt : k < l.length
    · obtain ⟨b, off, rfl, hcl⟩ := hS.out.at (by omega)
      have hcell := hcl k hlt
      have hx8 := hsm.out l[k] (List.getElem_mem hlt)
      have hxk := hrl.out k
      have hstep := Lib.hid (rall_take (x := x0) hlt)
      have hcap := hS.out.cap
      clear hcl
      generalize l[k] = y at *
      generalize rall x0 (l.take k) = z at *
      have hstep2 : Hid (rall x0 (l.take (k + 1)) = stp4 (stp4 (z ^^^ y))) := Lib.hid hstep.out
      have hy1 : (y : Int) % 4294967296 = y := by omega
      have f1 := xor32 hxk (b := y) (by omega)
      have hv := Nat.xor_lt_two_pow (n := 32) hxk (y := y) (by omega)
      generalize z ^^^ y = v at *
      have f2 := and15 hv
      have f3 := half_step hv
      have k1 := hT.out.2 (v % 16) (by omega)
      have hu := stp4_lt hv
      generalize stp4 v = u at *
      have f4 := and15 hu
      have f5 := half_step hu
      have k2 := hT.out.2 (u % 16) (by omega)
      have hi1 : v % 16 < 16 := by omega
      have hi2 : u % 16 < 16 := by omega
      clear hstep hv hu hxk
      generalize v % 16 = i1 at *
      generalize u % 16 = i2 at *
      generalize stp4 i1 = j1 at *
      generalize stp4 i2 = j2 at *
      go_wp2
      go_round
      case rel => exact ⟨k + 1, by omega, by go_num, by rw [hstep2.out]⟩
      case measure => simp [intOf]; omega
    · have e : l.take k = l := List.take_of_length_le (by omega)
      have hf := hrl.out k
      rw [e] at hf ⊢
      clear e
      have hz3 := Lib.hid (show wrap64 (bits .xor .u32 IntKind.u32.max (rall x0 l : Nat)) = ((4294967295 - rall x0 l : Nat) : Int) by rw [not_mod hf]; unfold wrap64; omega)
      clear hf hrl hsm
      go_wp2
      go_ret
      exact ⟨ret_int hz3.out, rfl⟩
end Go.Proofs.YtficnnlajpfkbaaDoor
