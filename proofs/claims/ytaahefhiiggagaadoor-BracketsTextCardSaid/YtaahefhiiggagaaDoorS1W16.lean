/- What SetsTell's walk wants of slices that calls hand back; how many members a set has. -/
import Derived.Test.YtaahefhiiggagaaDoorS1W15
import Derived.Laws.BytesArg
namespace Go.Proofs.YtaahefhiiggagaaDoor.S1
open Go.RowKit Go.Shelf

theorem row_form {w : World} {base : Nat} {e : TypeId} {size : Nat} {v : Value} {n : Nat} {xs : List Value} (h : w.ownsRow base e size v n xs) :
    ∃ (p : Option Addr) (cap : Nat), v = .slice p n cap ∧ (0 < n → ∃ g, p = some ⟨g, 0, none⟩ ∧ base ≤ g ∧ g < w.heap.size ∧ n ≤ cap ∧ ∀ j, j < n * size → w.cell? ⟨g, j, none⟩ = xs[j]?) := by
  rcases h.2 with ⟨h1, h2⟩ | ⟨g, cap, cur, hv2, hg, hh, hcap, r⟩
  · exact ⟨none, 0, by rw [h1, h2], fun h => by omega⟩
  · subst hv2
    exact ⟨some ⟨g, 0, none⟩, cap, rfl, fun _ => ⟨g, rfl, hg, (Array.getElem?_eq_some_iff.1 hh).1, hcap, fun j hj => h.cellAt j hj⟩⟩

def strN (ys : List Nat) : ByteArray := strOfNums (ys.map fun c : Nat => (c : Int))
theorem u22 : Tryd.prog.underlying 40 = some (.slice 5) := by kernel_rfl
theorem u9 : Tryd.prog.underlying 9 = some .string := by kernel_rfl
theorem u5' : Tryd.prog.underlying 5 = some (.int .u8) := by kernel_rfl
theorem conv_bytes {w : World} {base : Nat} {v : Value} {ys : List Nat} (h : w.ownsRow base 5 1 v ys.length (ys.map fun c : Nat => Value.int .u8 (c : Int))) :
    (convert 40 9 v).run Tryd.prog w = .ok (.string (strN ys)) w := by
  obtain ⟨p, cap, rfl, hc⟩ := row_form h
  rcases Nat.eq_zero_or_pos ys.length with h0 | h0
  · obtain rfl : ys = [] := List.length_eq_zero_iff.1 h0
    cases p with
    | none => rw [run_convert_bytes_nil w 40 5 u22 u5' _ _ 9 u9]; rfl
    | some a =>
      rw [run_convert_bytes_string w 40 9 5 (some a) _ cap u22 u5' u9]
      have := run_bytesToString (P := Tryd.prog) w a 0 cap [] (by simp [loadCells, loadCellsFrom])
      exact this
  · obtain ⟨g, rfl, _, _, hcap, hcell⟩ := hc h0
    refine run_convert_bytes_arg w 40 5 u22 u5' g 0 ys.length cap _ (by simp) (fun i hi => ?_) 9 u9
    rw [Nat.zero_add, hcell i (by omega)]
    simp [hi]

theorem el_cnt (f : Nat → Bool) (k : Nat) : ∀ n, n ≤ 64 → (el f (64 * k + n)).length = (el f (64 * k)).length + cnt (wd f k).testBit n := by
  intro n
  induction n with
  | zero => intro _; simp [cnt]
  | succ n ih =>
    intro hn
    have := ih (by omega)
    rw [show 64 * k + (n + 1) = (64 * k + n) + 1 by omega, el, List.length_append, this, cnt, testBit_wd]
    have hlt : n < 64 := by omega
    cases f (64 * k + n) <;> simp [hlt]
    omega
theorem szS_el (f : Nat → Bool) : szS f = (el f 256).length := by
  have h0 := el_cnt f 0 64 (by omega)
  have h1 := el_cnt f 1 64 (by omega)
  have h2 := el_cnt f 2 64 (by omega)
  have h3 := el_cnt f 3 64 (by omega)
  simp only [Nat.mul_zero, Nat.zero_add, Nat.reduceMul, Nat.reduceAdd] at h0 h1 h2 h3
  have e0 : (el f 0).length = 0 := rfl
  unfold szS
  omega
theorem empty_el (f : Nat → Bool) : eqB f noS = (((el f 256).length : Int) == 0) := by
  rw [Bool.eq_iff_iff, eqB_iff, beq_iff_eq]
  constructor
  · intro h
    have : el f 256 = [] := by
      apply List.eq_nil_iff_forall_not_mem.2
      intro x hx
      obtain ⟨h1, h2⟩ := el_mem.1 hx
      rw [h x h1] at h2
      cases h2
    rw [this]; rfl
  · intro h c hc
    have h0 : el f 256 = [] := List.length_eq_zero_iff.1 (by omega)
    cases hf : f c
    · rfl
    · have := el_mem.2 ⟨hc, hf⟩
      rw [h0] at this
      cases this
end Go.Proofs.YtaahefhiiggagaaDoor.S1
