/- alive. -/
import Derived.Test.YtjlmeegaiagfpaaDoorS6C
namespace Go.Proofs.YtjlmeegaiagfpaaDoor.S6
open Go.RowKit
open S5 (nl nl_length nl_small at_nl nl_at Rd Sp Gives Two errV)
open S1 (Blk4 SetBox wd noS oneS spanS orS notS spU eqB)
abbrev aliveB : ByteArray := ⟨#[91, 97, 45, 99, 92, 110, 93]⟩
theorem alive_br : Br (nl aliveB) 0 (res false [(97, 99), (10, 10)]) 7 0 := by
  have e : nl aliveB = [91, 97, 45, 99, 92, 110, 93] := by decide
  rw [e]
  have nb : ∀ c : Nat, ¬ Bare c → ∀ (l : List Nat) (k : Nat), l[k]? = some c → ∀ x, l[k]? = some x → ¬ Bare x := fun c hc l k h x hx => by
    rw [h] at hx; cases hx; exact hc
  have o1 : One [91, 97, 45, 99, 92, 110, 93] 1 97 ((2 : Nat) : Int) 0 := .rd 1 97 _ 0 (nb 97 (by decide) _ _ (by decide)) (.plain 1 97 (by decide) (by decide))
  have o2 : One [91, 97, 45, 99, 92, 110, 93] 3 99 ((4 : Nat) : Int) 0 := .rd 3 99 _ 0 (nb 99 (by decide) _ _ (by decide)) (.plain 3 99 (by decide) (by decide))
  have o3 : One [91, 97, 45, 99, 92, 110, 93] 4 10 ((6 : Nat) : Int) 0 := .rd 4 10 _ 0 (nb 92 (by decide) _ _ (by decide)) (.blank 4 110 10 (by decide) (by decide) (by decide))
  exact Br.ok 0 _ 7 (by decide) (by decide) (.span true 1 97 2 99 4 _ _ _ (.inl rfl) o1 (by decide) o2 (by decide) (.one false 4 10 6 _ _ _ (.inr (by decide)) o3 (by decide) (.close 6 (by decide))))
theorem alive_sz : S1.szS (res false [(97, 99), (10, 10)]) = 4 := by
  decide +kernel
end Go.Proofs.YtjlmeegaiagfpaaDoor.S6
