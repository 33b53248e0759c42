/- Bracket expressions, small functions: is, single. -/
import Derived.Test.YtaahefhiiggagaaDoorM
import Derived.Test.YtaahefhiiggagaaDoorS5W5
namespace Go.Proofs.YtaahefhiiggagaaDoor
open Go.RowKit
open S5 (nl nl_length nl_small at_nl nl_at Rd Sp Gives Two errV ix ix_no ix_yes idx_at)

theorem is_in {s : ByteArray} {i d : Int} {k c : Nat} (hi : i = k) (hd : d = c) (hm : s.size ≤ 99990) {r : Bool} (hr : r = true ↔ (nl s)[k]? = some c) (w : World) :
    Calls Tryd.prog 25 #[.string s, .int .i64 i, .int .u8 d] w fun e w' => e = .returned (.bool r) ∧ w = w' := by
  subst hi hd
  by_cases hk : k < s.size
  · have hat := nl_at s k hk
    obtain ⟨x, hx⟩ : ∃ x, (s[k]).toNat = x := ⟨_, rfl⟩
    rw [hx] at hat
    rw [hat] at hr
    have e : ((x : Int) == (c : Int)) = r := by
      rw [Bool.eq_iff_iff, hr]
      simp
      omega
    clear hr hat
    go_enter Tryd.func25, Tryd.ntmps25
    go_wp2
    go_ret
    exact ⟨ret_bool (by simp [e]), rfl⟩
  · have hn : (nl s)[k]? = none := List.getElem?_eq_none (by rw [nl_length]; omega)
    rw [hn] at hr
    have e : r = false := by cases r <;> simp_all
    subst e
    clear hr hn
    go_enter Tryd.func25, Tryd.ntmps25
    go_wp2
    go_ret
    exact ⟨rfl, rfl⟩
abbrev barB : ByteArray := ⟨#[91, 93, 45, 47]⟩
theorem nl_bar : nl barB = [91, 93, 45, 47] := by decide
theorem single_bare {s : ByteArray} {k c : Nat} (h0 : (nl s)[k]? = some c) (hb : Bare c) (hm : s.size ≤ 99990) {E2 E4 : Value} (w : World) (hT : Two w E2 E4) :
    Gives 52 #[.string s, .int .i64 k] (.tuple #[.int .u8 0, .int .i64 k, .iface 105 E4]) w := by
  obtain ⟨hlt, hat⟩ := at_nl h0
  have hf := hT.form
  have hi : 0 ≤ ix barB c := ix_yes (by rw [nl_bar]; unfold Bare at hb; simp; omega)
  have c1 := Lib.hid (fun w => idx_at barB c w _ rfl)
  generalize ix barB c = i at *
  clear hT h0 hb
  unfold Gives
  go_enter Tryd.func52, Tryd.ntmps52
  go_wp2_with (go_at_call 58; (with_reducible refine (c1.out _).mono ?_); rintro e w' ⟨rfl, rfl⟩)
  go_quiet (fail)
  go_wp2
  refine bodyPost_ret (v := .tuple #[.int .u8 0, .int .i64 k, .iface 105 E4]) (by simp [results, Tryd.results52, go_sem]) rfl ?_
  exact ⟨rfl, below_drewN (Below.refl _ _) _⟩
theorem single_rd {s : ByteArray} {k : Nat} {x y z : Value} (hn : ∀ x, (nl s)[k]? = some x → ¬ Bare x) (hm : s.size ≤ 99990) (w : World) (hC : Gives 59 #[.string s, .int .i64 k] (.tuple #[x, y, z]) w) :
    Gives 52 #[.string s, .int .i64 k] (.tuple #[x, y, z]) w := by
  unfold Gives at hC ⊢
  have C := Lib.hid hC
  clear hC
  by_cases hk : k < s.size
  · have hat := nl_at s k hk
    obtain ⟨c, hx⟩ : ∃ c, (s[k]).toNat = c := ⟨_, rfl⟩
    rw [hx] at hat
    have hcs : c ≤ 255 := nl_small s c (List.mem_of_getElem? hat)
    have hb := hn c hat
    have c1 := Lib.hid (fun w => idx_at barB c w (-1) (ix_no hcs (by rw [nl_bar]; unfold Bare at hb; simp; omega)))
    clear hn hat hb
    go_enter Tryd.func52, Tryd.ntmps52
    go_wp2_with (first | (go_at_call 58; (with_reducible refine (c1.out _).mono ?_); rintro e w' ⟨rfl, rfl⟩) | (go_at_call 59; (with_reducible refine C.out.mono ?_); rintro e w' ⟨rfl, hb⟩))
    refine bodyPost_ret (v := .tuple #[x, y, z]) (by simp [results, Tryd.results52, go_sem]) rfl ?_
    exact ⟨rfl, hb⟩
  · clear hn
    go_enter Tryd.func52, Tryd.ntmps52
    go_wp2_with (go_at_call 59; (with_reducible refine C.out.mono ?_); rintro e w' ⟨rfl, hb⟩)
    refine bodyPost_ret (v := .tuple #[x, y, z]) (by simp [results, Tryd.results52, go_sem]) rfl ?_
    exact ⟨rfl, hb⟩
theorem single_in {s : ByteArray} {k c : Nat} {t : Int} {e : Nat} (h : One (nl s) k c t e) (hm : s.size ≤ 99990) {E2 E4 : Value} (w : World) (hT : Two w E2 E4) :
    Gives 52 #[.string s, .int .i64 k] (.tuple #[.int .u8 c, .int .i64 t, errV E2 E4 e]) w := by
  cases h with
  | bare _ h1 h2 => exact single_bare h1 h2 hm w hT
  | rd _ _ _ h1 h2 => exact single_rd h1 hm w (S5.read_in h2 hm w hT)
end Go.Proofs.YtaahefhiiggagaaDoor
