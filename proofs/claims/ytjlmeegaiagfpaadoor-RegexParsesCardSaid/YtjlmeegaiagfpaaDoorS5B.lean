/- Texts of earlier layers, merged: S5W9, S5W10. -/
import Derived.Test.YtjlmeegaiagfpaaDoorS5A
import Derived.Lib.Builder
import Derived.Lib.AppendStr
import Derived.Lib.UnsafeStr
namespace Go.Proofs.YtjlmeegaiagfpaaDoor.S5
open Go.RowKit
end Go.Proofs.YtjlmeegaiagfpaaDoor.S5

namespace Go.Proofs.YtjlmeegaiagfpaaDoor.S5
open Go.RowKit
theorem strCells_nl (s : ByteArray) : Lib.strCells s = (nl s).map encN := by
  unfold Lib.strCells nl encN
  rw [List.map_map]
  rfl
/-! ### Text -/
/-- How a byte is written outside brackets. -/
def pl (c : Nat) : List Nat :=
  if c = 10 then [92, 110] else if c = 9 then [92, 116] else if c = 13 then [92, 114] else if c = 32 then [92, 115]
  else if c ∈ out then [92, c] else if 33 ≤ c ∧ c ≤ 126 then [c] else [92, 120, hx (c / 16), hx (c % 16)]
theorem pl_sp {c : Nat} (hc : c ≤ 255) : Sp out c (pl c) := by
  unfold pl
  split
  · rename_i h; subst h; exact .blank _ _ (by decide)
  split
  · rename_i h; subst h; exact .blank _ _ (by decide)
  split
  · rename_i h; subst h; exact .blank _ _ (by decide)
  split
  · rename_i h; subst h; exact .blank _ _ (by decide)
  split
  · rename_i h
    have := ex_mid (.inl rfl) c h
    exact .esc c h this.1 this.2.1
  split
  · rename_i h1 h2; exact .self c h1 h2.1 h2.2
  · exact .hex c (by assumption) (by assumption) (by assumption) (by assumption) (by assumption) (by omega) hc
def txt (l : List Nat) : List Nat := l.flatMap pl
theorem txt_snoc (l : List Nat) (c : Nat) : txt (l ++ [c]) = txt l ++ pl c := by simp [txt]
theorem txt_small {l : List Nat} (h : ∀ x ∈ l, x ≤ 255) : ∀ x ∈ txt l, x ≤ 255 := by
  intro x hx
  obtain ⟨c, hc, hx⟩ := List.mem_flatMap.1 hx
  exact sp_small (pl_sp (h c hc)) x hx
theorem txt_len {l : List Nat} (h : ∀ x ∈ l, x ≤ 255) : l.length ≤ (txt l).length ∧ (txt l).length ≤ 4 * l.length := by
  induction l with
  | nil => simp [txt]
  | cons c l ih =>
    have h1 := sp_length (pl_sp (h c (by simp)))
    have h2 := ih fun x hx => h x (by simp [hx])
    have e : txt (c :: l) = pl c ++ txt l := by simp [txt]
    rw [e]
    simp
    omega
end Go.Proofs.YtjlmeegaiagfpaaDoor.S5
