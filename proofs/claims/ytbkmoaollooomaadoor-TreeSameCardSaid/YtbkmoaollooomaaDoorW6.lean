/- The program's IsName; sound. -/
import Derived.Test.YtbkmoaollooomaaDoorW5
namespace Go.Proofs.YtbkmoaollooomaaDoor
open Go.RowKit
open Go.Tree7
open S5 (nl nl_length nl_small at_nl nl_at)
set_option maxRecDepth 10000 in
set_option maxHeartbeats 2000000 in
theorem isName_in {s : ByteArray} (hs : s.size ≤ 9223372036854775807) {r : Bool} (hr : r = true ↔ NameOk (nl s)) (w : World) :
    Calls Tryd.prog 23 #[.string s] w fun e w' => e = .returned (.bool r) ∧ w = w' := by
  have hn := nl_length s
  have no : ¬ NameOk (nl s) → r = false := fun h => by cases r; rfl; exact absurd (hr.1 rfl) h
  by_cases h0 : s.size < 1
  · have hno := Lib.hid (no fun h => by have := h.1; omega)
    clear hr no hn
    go_enter Tryd.func23, Tryd.ntmps23
    go_wp2
    go_ret
    exact ⟨ret_bool hno.out.symm, rfl⟩
  by_cases h1 : 12 < s.size
  · have hno := Lib.hid (no fun h => by have := h.2.1; omega)
    clear hr no hn
    go_enter Tryd.func23, Tryd.ntmps23
    go_wp2
    go_ret
    exact ⟨ret_bool hno.out.symm, rfl⟩
  have yes : (∀ j, j < s.size → ∀ x : Nat, (nl s)[j]? = some x → NameChar x ∧ (j = 0 → 97 ≤ x ∧ x ≤ 122)) → r = true := fun h => hr.2 ⟨by omega, by omega, fun c' h' => (h 0 (by omega) c' h').2 rfl, fun j x hx => (h j (by rw [← hn]; exact (List.getElem?_eq_some_iff.1 hx).1) x hx).1⟩
  have no2 : ∀ (k x : Nat), (nl s)[k]? = some x → ¬ (NameChar x ∧ (k = 0 → 97 ≤ x ∧ x ≤ 122)) → r = false := fun k x hx hc => no fun h => hc ⟨h.2.2.2 k x hx, fun e => by subst e; exact h.2.2.1 x hx⟩
  replace yes := Lib.hid yes
  replace no2 := Lib.hid no2
  have hat := Lib.hid (fun k (hk : k < s.size) => nl_at s k hk)
  clear hr no hn
  go_enter Tryd.func23, Tryd.ntmps23
  go_wp2
  go_loop [16] (fun i => ∃ k : Nat, k ≤ s.size ∧ i = .int .i64 k ∧ Hid (∀ j, j < k → ∀ x : Nat, (nl s)[j]? = some x → NameChar x ∧ (j = 0 → 97 ≤ x ∧ x ≤ 122))) (fun i => s.size - (intOf i).toNat)
  case atStart => exact ⟨0, Nat.zero_le _, rfl, Lib.hid fun j hj => by omega⟩
  case round =>
    obtain ⟨k, hk, rfl, hok⟩ := hrel
    by_cases hlt : k < s.size
    · have hx0 := hat.out k hlt
      obtain ⟨x, hx⟩ : ∃ x, (s[k]).toNat = x := ⟨_, rfl⟩
      rw [hx] at hx0
      by_cases hch : NameChar x ∧ (k = 0 → 97 ≤ x ∧ x ≤ 122)
      · have hok2 : Hid (∀ j, j < k + 1 → ∀ x : Nat, (nl s)[j]? = some x → NameChar x ∧ (j = 0 → 97 ≤ x ∧ x ≤ 122)) := Lib.hid fun j hj y hy => by
          by_cases e : j = k
          · subst e; rw [hx0] at hy; cases hy; exact hch
          · exact hok.out j (by omega) y hy
        clear hx0 hok
        obtain ⟨(⟨q1, q2⟩ | ⟨q1, q2⟩), q3⟩ := hch
        · clear q3
          have d1 : decide ((x : Int) ≥ 97) = true := by simp; omega
          have d2 : decide ((x : Int) ≤ 122) = true := by simp; omega
          by_cases hdg : 48 ≤ x ∧ x ≤ 57
          · omega
          have d3 : decide ((x : Int) ≥ 48) = true := by simp; omega
          have d4 : decide ((x : Int) ≤ 57) = false := by simp; omega
          go_wp2
          go_round
          case rel => exact ⟨k + 1, by omega, by go_num, hok2⟩
          case measure => simp [intOf]; omega
        · have hk0 : k ≠ 0 := fun e => by have := q3 e; omega
          clear q3
          have d1 : decide ((x : Int) ≥ 97) = false := by simp; omega
          have d3 : decide ((x : Int) ≥ 48) = true := by simp; omega
          have d4 : decide ((x : Int) ≤ 57) = true := by simp; omega
          go_wp2
          go_round
          case rel => exact ⟨k + 1, by omega, by go_num, hok2⟩
          case measure => simp [intOf]; omega
      · have hno := Lib.hid (no2.out k x hx0 hch)
        unfold NameChar at hch
        clear hx0 hok
        have hcase : (122 < x) ∨ (x < 97 ∧ 57 < x) ∨ x < 48 ∨ (48 ≤ x ∧ x ≤ 57 ∧ k = 0) := by
          by_cases q1 : 122 < x
          · exact .inl q1
          · by_cases q2 : x < 48
            · exact .inr (.inr (.inl q2))
            · by_cases q3 : x ≤ 57
              · exact .inr (.inr (.inr ⟨by omega, q3, by by_cases e : k = 0; exact e; exact absurd ⟨.inr ⟨by omega, q3⟩, fun e' => absurd e' e⟩ hch⟩))
              · exact .inr (.inl ⟨by by_cases e : x < 97; exact e; exact absurd ⟨.inl ⟨by omega, by omega⟩, fun _ => ⟨by omega, by omega⟩⟩ hch, by omega⟩)
        clear hch
        rcases hcase with q | ⟨q, q'⟩ | q | ⟨q, q', q''⟩
        · have d1 : decide ((x : Int) ≥ 97) = true := by simp; omega
          have d2 : decide ((x : Int) ≤ 122) = false := by simp; omega
          have d3 : decide ((x : Int) ≥ 48) = true := by simp; omega
          have d4 : decide ((x : Int) ≤ 57) = false := by simp; omega
          go_wp2
          all_goals
            go_ret
            exact ⟨ret_bool hno.out.symm, rfl⟩
        · have d1 : decide ((x : Int) ≥ 97) = false := by simp; omega
          have d3 : decide ((x : Int) ≥ 48) = true := by simp; omega
          have d4 : decide ((x : Int) ≤ 57) = false := by simp; omega
          go_wp2
          all_goals
            go_ret
            exact ⟨ret_bool hno.out.symm, rfl⟩
        · have d1 : decide ((x : Int) ≥ 97) = false := by simp; omega
          have d3 : decide ((x : Int) ≥ 48) = false := by simp; omega
          go_wp2
          all_goals
            go_ret
            exact ⟨ret_bool hno.out.symm, rfl⟩
        · subst q''
          have d1 : decide ((x : Int) ≥ 97) = false := by simp; omega
          have d3 : decide ((x : Int) ≥ 48) = true := by simp; omega
          have d4 : decide ((x : Int) ≤ 57) = true := by simp; omega
          go_wp2
          all_goals
            go_ret
            exact ⟨ret_bool hno.out.symm, rfl⟩
    · have hyes := Lib.hid (yes.out fun j hj => hok.out j (by omega))
      clear hok
      go_wp2
      go_ret
      exact ⟨ret_bool hyes.out.symm, rfl⟩
end Go.Proofs.YtbkmoaollooomaaDoor
