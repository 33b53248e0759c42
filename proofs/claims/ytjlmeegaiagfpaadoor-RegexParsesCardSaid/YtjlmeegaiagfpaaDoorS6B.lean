/- Texts of earlier layers, merged: S6W11, S6W12. -/
import Derived.Test.YtjlmeegaiagfpaaDoorS6W10a
import Derived.Test.YtjlmeegaiagfpaaDoorS5B
import Derived.Test.YtjlmeegaiagfpaaDoorS1D
import Derived.BigQuiet
import Derived.Deep.QuietTactic
namespace Go.Proofs.YtjlmeegaiagfpaaDoor.S6
open Go.RowKit
open S5 (nl nl_length nl_small at_nl nl_at Rd Sp Gives Two errV nl_strN nl_inj nl_append sp_small)
open S1 (Blk4 SetBox wd noS oneS spanS orS notS spU eqB el spAll spCells)
theorem pi_small {c : Nat} (hc : c ≤ 255) : ∀ x ∈ pi c, x ≤ 255 := sp_small (pi_sp hc)
theorem pi_sz {c : Nat} (hc : c ≤ 255) : (strN (pi c)).size ≤ 4 := by
  rw [strN_size]
  have := S5.sp_length (pi_sp hc)
  omega
theorem strN_app (x y : List Nat) : strN (x ++ y) = strN x ++ strN y := by
  apply ByteArray.ext
  apply Array.toList_inj.1
  unfold strN
  simp [strOfNums_data]
theorem dashB : strN [45] = ⟨#[45]⟩ := by decide
theorem u8_sub {a b : Nat} (h : a ≤ b) (hb : b ≤ 255) : IntKind.u8.wrap ((b : Int) - a) = ((b - a : Nat) : Int) := by rw [IntKind.wrap_u8]; omega
/-! ### A builder leaves what is not its own -/
/-- What lay in cells of another type than a byte's, apart from block b, lies as it lay. -/
def Keeps (b : Nat) (w w' : World) : Prop := ∀ (K : Nat) (cs : Array Value) (t : TypeId), t ≠ 5 → K ≠ b → w.heap[K]? = some (.cells cs t (0, 0)) → w'.heap[K]? = some (.cells cs t (0, 0))
end Go.Proofs.YtjlmeegaiagfpaaDoor.S6

namespace Go.Proofs.YtjlmeegaiagfpaaDoor.S6
open Go.RowKit
open S5 (nl nl_length nl_small at_nl nl_at Rd Sp Gives Two errV nl_strN nl_inj nl_append sp_small)
open S1 (Blk4 SetBox wd noS oneS spanS orS notS spU eqB el spAll spCells)
/-! ### Lengths -/
theorem pi_len {c : Nat} (hc : c ≤ 255) : 1 ≤ (pi c).length ∧ (pi c).length ≤ 4 := by
  have := S5.sp_length (pi_sp hc)
  omega
theorem itm_len {p : Nat × Nat} (h : p.1 ≤ p.2 ∧ p.2 ≤ 255) : (itm p).length ≤ 9 := by
  have h1 := pi_len (c := p.1) (by omega)
  have h2 := pi_len (c := p.2) (by omega)
  unfold itm
  split <;> split <;> simp <;> omega
theorem itm_small {p : Nat × Nat} (h : p.1 ≤ p.2 ∧ p.2 ≤ 255) : ∀ x ∈ itm p, x ≤ 255 := by
  have h1 := pi_small (c := p.1) (by omega)
  have h2 := pi_small (c := p.2) (by omega)
  intro x hx
  unfold itm at hx
  rcases List.mem_append.1 hx with hx | hx
  · rcases List.mem_append.1 hx with hx | hx
    · exact h1 x hx
    · split at hx
      · obtain rfl : x = 45 := by simpa using hx
        omega
      · simp at hx
  · split at hx
    · exact h2 x hx
    · simp at hx
theorem itms_len {ps : List (Nat × Nat)} (h : ∀ p ∈ ps, p.1 ≤ p.2 ∧ p.2 ≤ 255) : (itms ps).length ≤ 9 * ps.length := by
  induction ps with
  | nil => simp [itms]
  | cons p ps ih =>
    have h1 := itm_len (h p (by simp))
    have h2 := ih fun q hq => h q (by simp [hq])
    have e : itms (p :: ps) = itm p ++ itms ps := by simp [itms]
    rw [e, List.length_append, List.length_cons]
    omega
theorem itms_small {ps : List (Nat × Nat)} (h : ∀ p ∈ ps, p.1 ≤ p.2 ∧ p.2 ≤ 255) : ∀ x ∈ itms ps, x ≤ 255 := by
  intro x hx
  obtain ⟨p, hp, hx⟩ := List.mem_flatMap.1 hx
  exact itm_small (h p hp) x hx
theorem itms_bound {ps : List (Nat × Nat)} (h : ∀ p ∈ ps, p.1 ≤ p.2 ∧ p.2 ≤ 255) {k : Nat} (hk : k ≤ ps.length) (hl : ps.length ≤ 256) : (itms (ps.take k)).length ≤ 2304 := by
  have := itms_len (ps := ps.take k) fun p hp => h p (List.mem_of_mem_take hp)
  simp at this
  omega
theorem itms_take {ps : List (Nat × Nat)} {k : Nat} (h : k < ps.length) : itms (ps.take (k + 1)) = itms (ps.take k) ++ itm ps[k] := by
  rw [List.take_succ_eq_append_getElem h]
  unfold itms
  rw [List.flatMap_append]
  congr 1
  simp
theorem txt_small {pre : List Nat} {ps : List (Nat × Nat)} (h : ∀ p ∈ ps, p.1 ≤ p.2 ∧ p.2 ≤ 255) (hp : ∀ x ∈ pre, x ≤ 255 := by decide) : ∀ x ∈ pre ++ itms ps ++ [93], x ≤ 255 := by
  intro x hx
  rcases List.mem_append.1 hx with hx | hx
  · rcases List.mem_append.1 hx with hx | hx
    · exact hp x hx
    · exact itms_small h x hx
  · obtain rfl : x = 93 := by simpa using hx
    omega
theorem spAll_256 (f : Nat → Bool) : (spAll (el f 256)).length ≤ 256 := by
  have h1 := S1.spAll_len (el f 256)
  have h2 := S1.el_len f 256
  omega
theorem rng_ok' (f : Nat → Bool) : ∀ p ∈ spAll (el f 256), p.1 ≤ p.2 ∧ p.2 ≤ 255 := fun p hp => by
  have := (S1.spAll_el f 256 (Nat.le_refl _)).1 p hp
  omega
theorem el_cnt (f : Nat → Bool) (k : Nat) : ∀ n, n ≤ 64 → (el f (64 * k + n)).length = (el f (64 * k)).length + S1.cnt (wd f k).testBit n := by
  intro n
  induction n with
  | zero => intro _; simp [S1.cnt]
  | succ n ih =>
    intro hn
    have := ih (by omega)
    rw [show 64 * k + (n + 1) = (64 * k + n) + 1 by omega, el, List.length_append, this, S1.cnt, S1.testBit_wd]
    have hlt : n < 64 := by omega
    cases f (64 * k + n) <;> simp [hlt]
    omega
theorem szS_el (f : Nat → Bool) : S1.szS f = (el f 256).length := by
  have h0 := el_cnt f 0 64 (by omega)
  have h1 := el_cnt f 1 64 (by omega)
  have h2 := el_cnt f 2 64 (by omega)
  have h3 := el_cnt f 3 64 (by omega)
  simp only [Nat.mul_zero, Nat.zero_add, Nat.reduceMul, Nat.reduceAdd] at h0 h1 h2 h3
  have e0 : (el f 0).length = 0 := rfl
  unfold S1.szS
  omega
theorem wd_same {f g : Nat → Bool} (h : ∀ c, c < 256 → f c = g c) : wd f 0 = wd g 0 ∧ wd f 1 = wd g 1 ∧ wd f 2 = wd g 2 ∧ wd f 3 = wd g 3 :=
  ⟨S1.wd_congr fun i hi => h _ (by omega), S1.wd_congr fun i hi => h _ (by omega), S1.wd_congr fun i hi => h _ (by omega), S1.wd_congr fun i hi => h _ (by omega)⟩
theorem outV_ok (E1 E2 E4 : Value) {f g : Nat → Bool} (h : ∀ c, c < 256 → f c = g c) (t : Int) : outV E1 E2 E4 f t 0 = .tuple #[(.agg #[.int .u64 (S1.wd (g) 0), .int .u64 (S1.wd (g) 1), .int .u64 (S1.wd (g) 2), .int .u64 (S1.wd (g) 3)]), .int .i64 t, .nilIface] := by
  obtain ⟨h0, h1, h2, h3⟩ := wd_same h
  unfold outV
  rw [if_pos rfl, h0, h1, h2, h3]
theorem txtB_len (f : Nat → Bool) : (txtB f).length ≤ 2400 := by
  have h1 := itms_bound (ps := rng f) (rng_ok f) (Nat.le_refl _) (by unfold rng; exact spAll_256 _)
  rw [List.take_of_length_le (Nat.le_refl _)] at h1
  unfold txtB
  split <;> simp <;> omega
theorem txtB_small (f : Nat → Bool) : ∀ x ∈ txtB f, x ≤ 255 := by
  unfold txtB
  refine txt_small (pre := [91] ++ (if neg f then [94] else [])) (rng_ok f) ?_
  intro x hx
  cases hn : neg f <;> rw [hn] at hx <;> simp at hx <;> omega
/-! ### What lies in memory -/
end Go.Proofs.YtjlmeegaiagfpaaDoor.S6
