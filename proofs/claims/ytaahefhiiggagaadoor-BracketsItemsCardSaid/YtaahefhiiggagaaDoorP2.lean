/- The table of math/bits out of the condition; a set that came in. -/
import Derived.Test.YtaahefhiiggagaaDoorRows
import Derived.Test.YtaahefhiiggagaaDoorLP
import Derived.Test.YtaahefhiiggagaaDoorS1W2
namespace Go.Proofs.YtaahefhiiggagaaDoor
open Go.ChangeShapes Go.WideShapes Go.ChangeAt Go.WideMaps Go.WideElems Go.RowKit
theorem gTab : Tryd.prog.globalNamed "math/bits.deBruijn64tab" = some 18 := by kernel_rfl
theorem tTab : (Tryd.prog.globals[18]?).map (·.type) = some 103 := by kernel_rfl
theorem uTab : Tryd.prog.underlying 103 = some (.array 64 5) := by kernel_rfl
theorem cB1 : Tryd.prog.cellsOf 5 = 1 := by kernel_rfl
theorem uB1 : Tryd.prog.underlying 5 = some (.int .u8) := by kernel_rfl
def tabL : List Nat := [0, 1, 56, 2, 57, 49, 28, 3, 61, 58, 42, 50, 38, 29, 17, 4, 62, 47, 59, 36, 45, 43, 51, 22, 53, 39, 33, 30, 24, 18, 12, 5, 63, 55, 48, 27, 60, 41, 37, 16, 46, 35, 44, 21, 52, 32, 23, 11, 54, 26, 40, 15, 34, 20, 31, 10, 25, 14, 19, 9, 13, 8, 7, 6]
theorem tab_ix : ∀ t : Nat, t < 64 → tabL[S1.tabIx t]? = some t := by decide +kernel
theorem cSet : Tryd.prog.cellsOf 24 = 4 := by kernel_rfl
theorem uSet : Tryd.prog.underlying 24 = some (.array 4 22) := by kernel_rfl
theorem cU : Tryd.prog.cellsOf 22 = 1 := by kernel_rfl
theorem uU : Tryd.prog.underlying 22 = some (.int .u64) := by kernel_rfl
theorem array4' {α : Type} {cs : Array α} (h : cs.size = 4) : ∃ c0 c1 c2 c3, cs = #[c0, c1, c2, c3] := by
  obtain ⟨l⟩ := cs
  match l, h with
  | [a, b, c, d], _ => exact ⟨a, b, c, d, rfl⟩
set_option maxRecDepth 100000 in
theorem open_set {H : Type} {enc : TypeId × Value → H} {W : World} {r : Reach} {b0 : Nat} {v : Value} {d : DataW H} {p : List MemPlace} (hv : Value.okWide Tryd.prog W r b0 24 v)
    (h : DataW.Trod enc Tryd.prog W 0 (fun _ => true) true 24 v d p) : ∃ f : Nat → Bool, v = (.agg #[.int .u64 (S1.wd (f) 0), .int .u64 (S1.wd (f) 1), .int .u64 (S1.wd (f) 2), .int .u64 (S1.wd (f) 3)]) := by
  obtain ⟨cs, rfl, hsz⟩ : ∃ cs, v = .agg cs ∧ cs.size = Tryd.prog.cellsOf 24 := by
    simp only [Value.okWide, uSet] at hv
    obtain ⟨cs, h1, h2, _⟩ := hv
    exact ⟨cs, h1, h2⟩
  obtain ⟨e0, e1, e2, e3, rfl⟩ := array4' (hsz.trans cSet)
  obtain ⟨fuel, hf⟩ := h
  obtain ⟨y0, y1, y2, y3, n, _, h0, h1, h2, h3⟩ := trod_array4 (c0 := e0) (c1 := e1) (c2 := e2) (c3 := e3) uSet cU (by simpa [Value.cells] using hf)
  obtain ⟨k0, a0, _, w0⟩ := DataW.trod_int uU h0
  obtain ⟨k1, a1, _, w1⟩ := DataW.trod_int uU h1
  obtain ⟨k2, a2, _, w2⟩ := DataW.trod_int uU h2
  obtain ⟨k3, a3, _, w3⟩ := DataW.trod_int uU h3
  simp only [List.cons.injEq, and_true] at a0 a1 a2 a3
  subst a0 a1 a2 a3
  have b0 := bounds_u64 w0
  have b1 := bounds_u64 w1
  have b2 := bounds_u64 w2
  have b3 := bounds_u64 w3
  obtain ⟨n0, rfl⟩ := Int.eq_ofNat_of_zero_le b0.1
  obtain ⟨n1, rfl⟩ := Int.eq_ofNat_of_zero_le b1.1
  obtain ⟨n2, rfl⟩ := Int.eq_ofNat_of_zero_le b2.1
  obtain ⟨n3, rfl⟩ := Int.eq_ofNat_of_zero_le b3.1
  obtain ⟨q0, q1, q2, q3⟩ := S1.wd_mem4 (a := n0) (b := n1) (c := n2) (d := n3) (by omega) (by omega) (by omega) (by omega)
  exact ⟨S1.mem4 n0 n1 n2 n3, by rw [q0, q1, q2, q3]⟩
end Go.Proofs.YtaahefhiiggagaaDoor
