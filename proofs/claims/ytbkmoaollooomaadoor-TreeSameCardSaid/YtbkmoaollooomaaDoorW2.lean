/- The reference's IsName. -/
import Derived.Test.YtbkmoaollooomaaDoorLB
import Derived.Test.YtbkmoaollooomaaDoorS5A
namespace Go.Proofs.YtbkmoaollooomaaDoor
open Go.RowKit
open S5 (nl nl_length nl_small at_nl nl_at)
def NameChar (x : Nat) : Prop := (97 ≤ x ∧ x ≤ 122) ∨ (48 ≤ x ∧ x ≤ 57)
/-- A name is right. -/
def NameOk (l : List Nat) : Prop := 1 ≤ l.length ∧ l.length ≤ 12 ∧ (∀ c, l[0]? = some c → 97 ≤ c ∧ c ≤ 122) ∧ ∀ (j x : Nat), l[j]? = some x → NameChar x
set_option maxRecDepth 10000 in
set_option maxHeartbeats 2000000 in
theorem risName_in {s : ByteArray} (hs : s.size ≤ 9223372036854775807) {r : Bool} (hr : r = true ↔ NameOk (nl s)) (w : World) :
    Calls Tryd.prog 22 #[.string s] w fun e w' => e = .returned (.bool r) ∧ w = w' := by
  have hn := nl_length s
  have no : ¬ NameOk (nl s) → r = false := fun h => by cases r; rfl; exact absurd (hr.1 rfl) h
  by_cases h0 : s.size < 1
  · have hno := Lib.hid (no fun h => by have := h.1; omega)
    clear hr no hn
    go_enter Tryd.func22, Tryd.ntmps22
    go_wp2
    go_ret
    exact ⟨ret_bool hno.out.symm, rfl⟩
  by_cases h1 : 12 < s.size
  · have hno := Lib.hid (no fun h => by have := h.2.1; omega)
    clear hr no hn
    go_enter Tryd.func22, Tryd.ntmps22
    go_wp2
    go_ret
    exact ⟨ret_bool hno.out.symm, rfl⟩
  have hk0 : 0 < s.size := by omega
  have hat0 := nl_at s 0 hk0
  obtain ⟨c, hc⟩ : ∃ c, (s[0]).toNat = c := ⟨_, rfl⟩
  rw [hc] at hat0
  by_cases h2 : c < 97
  · have hno := Lib.hid (no fun h => by have := h.2.2.1 c hat0; omega)
    have d1 : decide ((c : Int) < 97) = true := by simp; omega
    clear hr no hn hat0
    go_enter Tryd.func22, Tryd.ntmps22
    go_wp2
    go_ret
    exact ⟨ret_bool hno.out.symm, rfl⟩
  by_cases h3 : 122 < c
  · have hno := Lib.hid (no fun h => by have := h.2.2.1 c hat0; omega)
    have d1 : decide ((c : Int) < 97) = false := by simp; omega
    have d2 : decide ((122 : Int) < c) = true := by simp; omega
    clear hr no hn hat0
    go_enter Tryd.func22, Tryd.ntmps22
    go_wp2
    go_ret
    exact ⟨ret_bool hno.out.symm, rfl⟩
  have e1 : decide ((c : Int) < 97) = false := by simp; omega
  have e2 : decide ((122 : Int) < c) = false := by simp; omega
  have yes : (∀ j, j < s.size → ∀ x : Nat, (nl s)[j]? = some x → NameChar x) → r = true := fun h => hr.2 ⟨by omega, by omega, fun c' h' => by rw [hat0] at h'; cases h'; omega, fun j x hx => h j (by rw [← hn]; exact (List.getElem?_eq_some_iff.1 hx).1) x hx⟩
  have no2 : ∀ (k x : Nat), (nl s)[k]? = some x → ¬ NameChar x → r = false := fun k x hx hc => no fun h => hc (h.2.2.2 k x hx)
  replace yes := Lib.hid yes
  replace no2 := Lib.hid no2
  have hat := Lib.hid (fun k (hk : k < s.size) => nl_at s k hk)
  clear hr no hn hat0
  go_enter Tryd.func22, Tryd.ntmps22
  go_wp2
  go_loop [3] (fun i => ∃ k : Nat, k ≤ s.size ∧ i = .int .i64 k ∧ Hid (∀ j, j < k → ∀ x : Nat, (nl s)[j]? = some x → NameChar x)) (fun i => s.size - (intOf i).toNat)
  case atStart => exact ⟨0, Nat.zero_le _, rfl, Lib.hid fun j hj => by omega⟩
  case round =>
    clear e1 e2
    obtain ⟨k, hk, rfl, hok⟩ := hrel
    by_cases hlt : k < s.size
    · have hx0 := hat.out k hlt
      obtain ⟨x, hx⟩ : ∃ x, (s[k]).toNat = x := ⟨_, rfl⟩
      rw [hx] at hx0
      by_cases hch : NameChar x
      · have hok2 : Hid (∀ j, j < k + 1 → ∀ x : Nat, (nl s)[j]? = some x → NameChar x) := Lib.hid fun j hj y hy => by
          by_cases e : j = k
          · subst e; rw [hx0] at hy; cases hy; exact hch
          · exact hok.out j (by omega) y hy
        clear hx0 hok
        rcases hch with ⟨q1, q2⟩ | ⟨q1, q2⟩
        · have d1 : decide ((x : Int) < 97) = false := by simp; omega
          have d2 : decide ((122 : Int) < x) = false := by simp; omega
          go_wp2
          go_round
          case rel => exact ⟨k + 1, by omega, by go_num, hok2⟩
          case measure => simp [intOf]; omega
        · have d1 : decide ((x : Int) < 97) = true := by simp; omega
          have d2 : decide ((x : Int) < 48) = false := by simp; omega
          have d3 : decide ((57 : Int) < x) = false := by simp; omega
          go_wp2
          go_round
          case rel => exact ⟨k + 1, by omega, by go_num, hok2⟩
          case measure => simp [intOf]; omega
      · have hno := Lib.hid (no2.out k x hx0 hch)
        unfold NameChar at hch
        clear hx0 hok
        by_cases q1 : 122 < x
        · have d1 : decide ((x : Int) < 97) = false := by simp; omega
          have d2 : decide ((122 : Int) < x) = true := by simp; omega
          have d3 : decide ((x : Int) < 48) = false := by simp; omega
          have d4 : decide ((57 : Int) < x) = true := by simp; omega
          clear hch
          go_wp2
          go_ret
          exact ⟨ret_bool hno.out.symm, rfl⟩
        · have d1 : decide ((x : Int) < 97) = true := by simp; omega
          by_cases q2 : x < 48
          · have d2 : decide ((x : Int) < 48) = true := by simp; omega
            clear hch
            go_wp2
            go_ret
            exact ⟨ret_bool hno.out.symm, rfl⟩
          · have d2 : decide ((x : Int) < 48) = false := by simp; omega
            have d3 : decide ((57 : Int) < x) = true := by simp; omega
            clear hch
            go_wp2
            go_ret
            exact ⟨ret_bool hno.out.symm, rfl⟩
    · have hyes := Lib.hid (yes.out fun j hj => hok.out j (by omega))
      clear hok
      go_wp2
      go_ret
      exact ⟨ret_bool hyes.out.symm, rfl⟩
end Go.Proofs.YtbkmoaollooomaaDoor
