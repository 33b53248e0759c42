/- The items: the program's items. -/
import Derived.Test.YtaahefhiiggagaaDoorW2
import Derived.Test.YtaahefhiiggagaaDoorS1W2
namespace Go.Proofs.YtaahefhiiggagaaDoor
open Go.RowKit
open S5 (nl nl_length nl_small at_nl nl_at Rd Sp Gives Two errV)
open S1 (Blk4 SetBox wd noS oneS spanS orS spU eqB)
/-- An error's value by its number. -/
def errT (E1 E2 E4 : Value) (e : Nat) : Value := if e = 1 then E1 else if e = 2 then E2 else E4
/-- The three error values lie in their variables. -/
structure Thr (w : World) (E1 E2 E4 : Value) : Prop where
  two : Two w E2 E4
  rang : w.cell? ⟨2, 0, none⟩ = some (.iface 105 E1)
theorem Thr.bel {w w' : World} {E1 E2 E4 : Value} (h : Thr w E1 E2 E4) (hb : Bel w w') : Thr w' E1 E2 E4 :=
  ⟨h.two.bel hb, hb.cell (World.block_lt_of_cell? _ _ h.rang) h.rang⟩
theorem errV_ne {E1 E2 E4 : Value} {e : Nat} (he : e ≠ 0) (h1 : e ≠ 1) : errV E2 E4 e = .iface 105 (errT E1 E2 E4 e) := by
  unfold errV errT
  rw [if_neg he, if_neg h1]
  split <;> rfl
/-- An item's outcome: its bytes, or an error. -/
def ItOut (s : ByteArray) (w : World) (k : Nat) (v : Value) : Prop := ∀ w', Below w.heap.size w w' → Gives 41 #[.string s, .int .i64 k] v w'
theorem it_one {s : ByteArray} (hm : s.size ≤ 99990) {E1 E2 E4 : Value} {w : World} (hT : Thr w E1 E2 E4) {k c n : Nat} (h1 : One (nl s) k c n 0) (h2 : (nl s)[n]? ≠ some 45) :
    ItOut s w k (.tuple #[(.agg #[.int .u64 (S1.wd (spU [(c, c)]) 0), .int .u64 (S1.wd (spU [(c, c)]) 1), .int .u64 (S1.wd (spU [(c, c)]) 2), .int .u64 (S1.wd (spU [(c, c)]) 3)]), .int .i64 n, .nilIface]) := fun w' hb => by
  have e : spU [(c, c)] = oneS c := by
    funext x
    rw [Bool.eq_iff_iff]; simp [spU, oneS]; omega
  rw [e]
  exact item_one (one_small (nl_small s) h1) hm h2 w' fun w2 hb2 => single_in h1 hm w2 ((hT.bel hb).bel hb2).two
theorem it_span {s : ByteArray} (hm : s.size ≤ 99990) {E1 E2 E4 : Value} {w : World} (hT : Thr w E1 E2 E4) {k c n d m : Nat} (h1 : One (nl s) k c n 0) (h2 : (nl s)[n]? = some 45) (h3 : One (nl s) (n + 1) d m 0) (h4 : c ≤ d) :
    ItOut s w k (.tuple #[(.agg #[.int .u64 (S1.wd (spU [(c, d)]) 0), .int .u64 (S1.wd (spU [(c, d)]) 1), .int .u64 (S1.wd (spU [(c, d)]) 2), .int .u64 (S1.wd (spU [(c, d)]) 3)]), .int .i64 m, .nilIface]) := fun w' hb => by
  have e : spU [(c, d)] = spanS c d := by
    funext x
    simp [spU, spanS]
  rw [e]
  exact item_span (one_small (nl_small s) h1) (one_small (nl_small s) h3) h4 hm h2 w' (fun w2 hb2 => single_in h1 hm w2 ((hT.bel hb).bel hb2).two) (fun w2 hb2 => single_in h3 hm w2 ((hT.bel hb).bel hb2).two)
theorem it_bad1 {s : ByteArray} (hm : s.size ≤ 99990) {E1 E2 E4 : Value} {w : World} (hT : Thr w E1 E2 E4) {k : Nat} {t : Int} {e : Nat} (h1 : One (nl s) k 0 t e) (he : e ≠ 0) :
    ItOut s w k (.tuple #[(.agg #[.int .u64 0, .int .u64 0, .int .u64 0, .int .u64 0]), .int .i64 t, .iface 105 (errT E1 E2 E4 e)]) := fun w' hb =>
  item_bad1 w' fun w2 hb2 => by
    have := single_in h1 hm w2 ((hT.bel hb).bel hb2).two
    rwa [errV_ne (E1 := E1) he (by rcases one_err h1 with h | h | h <;> omega)] at this
theorem it_bad2 {s : ByteArray} (hm : s.size ≤ 99990) {E1 E2 E4 : Value} {w : World} (hT : Thr w E1 E2 E4) {k c n : Nat} {t : Int} {e : Nat} (h1 : One (nl s) k c n 0) (h2 : (nl s)[n]? = some 45) (h3 : One (nl s) (n + 1) 0 t e) (he : e ≠ 0) :
    ItOut s w k (.tuple #[(.agg #[.int .u64 0, .int .u64 0, .int .u64 0, .int .u64 0]), .int .i64 t, .iface 105 (errT E1 E2 E4 e)]) := fun w' hb =>
  item_bad2 hm h2 w' (fun w2 hb2 => single_in h1 hm w2 ((hT.bel hb).bel hb2).two) fun w2 hb2 => by
    have := single_in h3 hm w2 ((hT.bel hb).bel hb2).two
    rwa [errV_ne (E1 := E1) he (by rcases one_err h3 with h | h | h <;> omega)] at this
theorem it_down {s : ByteArray} (hm : s.size ≤ 99990) {E1 E2 E4 : Value} {w : World} (hT : Thr w E1 E2 E4) {k c n d m : Nat} (h1 : One (nl s) k c n 0) (h2 : (nl s)[n]? = some 45) (h3 : One (nl s) (n + 1) d m 0) (h4 : d < c) :
    ItOut s w k (.tuple #[(.agg #[.int .u64 0, .int .u64 0, .int .u64 0, .int .u64 0]), .int .i64 (n + 1), .iface 105 (errT E1 E2 E4 1)]) := fun w' hb =>
  item_down (one_small (nl_small s) h1) h4 hm h2 w' (hT.bel hb).rang (fun w2 hb2 => single_in h1 hm w2 ((hT.bel hb).bel hb2).two) (fun w2 hb2 => single_in h3 hm w2 ((hT.bel hb).bel hb2).two)
/-! ### What is read so far -/
theorem spU_app (a b : List (Nat × Nat)) : spU (a ++ b) = orS (spU a) (spU b) := by
  funext x
  simp [spU, orS, List.any_append]
theorem acc_empty {acc : List (Nat × Nat)} (h : ∀ p ∈ acc, p.1 ≤ p.2 ∧ p.2 ≤ 255) : eqB (spU acc) noS = acc.isEmpty := by
  cases acc with
  | nil => exact S1.eqB_true fun c _ => by simp [spU, noS]
  | cons p r =>
    have hp := h p (by simp)
    show _ = false
    cases he : eqB (spU (p :: r)) noS with
    | false => rfl
    | true =>
      have := S1.eqB_spec he p.1 (by omega)
      simp [spU, noS] at this
      omega
end Go.Proofs.YtaahefhiiggagaaDoor
