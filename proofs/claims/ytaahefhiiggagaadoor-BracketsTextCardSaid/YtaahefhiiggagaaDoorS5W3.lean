/- How a byte is written: the reference. -/
import Derived.Test.YtaahefhiiggagaaDoorS5W2
import Derived.StillTailTactics
namespace Go.Proofs.YtaahefhiiggagaaDoor.S5
open Go.RowKit
theorem strN_append (a b : List Nat) : strN a ++ strN b = strN (a ++ b) := by
  apply ByteArray.ext
  apply Array.toList_inj.1
  unfold strN
  rw [ByteArray.data_append, Array.toList_append, strOfNums_data, strOfNums_data, strOfNums_data]
  simp
theorem in_yes {s : ByteArray} {c : Nat} (h : c ∈ nl s) (hm : s.size ≤ 1000) (w : World) : Calls Tryd.prog 55 #[.string s, .int .u8 c] w fun e w' => e = .returned (.bool true) ∧ w = w' := by
  obtain ⟨j, hj, hjc⟩ := List.getElem_of_mem h
  have hjs : j < s.size := by rw [← nl_length]; exact hj
  have hat : (s[j]).toNat = c := by
    have := nl_at s j hjs
    rw [List.getElem?_eq_getElem hj, hjc] at this
    exact (Option.some.inj this).symm
  clear h hj hjc
  have hat2 : (((s[j]).toNat : Int) == (c : Int)) = true := by rw [hat]; simp
  clear hat
  have H := Lib.hid hat2
  clear hat2
  go_enter Tryd.func55, Tryd.ntmps55
  go_wp2
  go_loop [5] (fun i => ∃ k : Nat, k ≤ j ∧ i = .int .i64 k) (fun i => s.size - (intOf i).toNat)
  case atStart => exact ⟨0, Nat.zero_le _, rfl⟩
  case round =>
    obtain ⟨k, hk, rfl⟩ := hrel
    have hlt : k < s.size := by omega
    by_cases e : k = j
    · subst e
      have h1 := H.out
      go_wp2
      go_ret
      exact ⟨rfl, rfl⟩
    · have hk' : k < j := by omega
      clear e
      by_cases e2 : (((s[k]).toNat : Int) == (c : Int)) = true
      · go_wp2
        go_ret
        exact ⟨rfl, rfl⟩
      · have e3 : (((s[k]).toNat : Int) == (c : Int)) = false := by simpa using e2
        clear e2
        go_wp2
        go_round
        case rel => exact ⟨k + 1, by omega, by go_num⟩
        case measure => simp [intOf]; omega
theorem in_no {s : ByteArray} {c : Nat} (h : c ∉ nl s) (hm : s.size ≤ 1000) (w : World) : Calls Tryd.prog 55 #[.string s, .int .u8 c] w fun e w' => e = .returned (.bool false) ∧ w = w' := by
  have hat : ∀ j (hj : j < s.size), (((s[j]).toNat : Int) == (c : Int)) = false := fun j hj => by
    rw [beq_eq_false_iff_ne]
    intro e
    apply h
    have := nl_at s j hj
    rw [show (s[j]).toNat = c by omega] at this
    exact List.mem_of_getElem? this
  clear h
  have H := Lib.hid hat
  clear hat
  go_enter Tryd.func55, Tryd.ntmps55
  go_wp2
  go_loop [5] (fun i => ∃ k : Nat, k ≤ s.size ∧ i = .int .i64 k) (fun i => s.size - (intOf i).toNat)
  case atStart => exact ⟨0, Nat.zero_le _, rfl⟩
  case round =>
    obtain ⟨k, hk, rfl⟩ := hrel
    by_cases hlt : k < s.size
    · have h1 := H.out k hlt
      go_wp2
      go_round
      case rel => exact ⟨k + 1, by omega, by go_num⟩
      case measure => simp [intOf]; omega
    · go_wp2
      go_ret
      exact ⟨rfl, rfl⟩
theorem digs_two : ∀ q r : Fin 16, digsB.extract q.val (q.val + 1) ++ digsB.extract r.val (r.val + 1) = strN [hx q.val, hx r.val] := by decide +kernel
theorem hex_in {c : Nat} (hc : c ≤ 255) (w : World) : Calls Tryd.prog 54 #[.int .u8 c] w fun e w' => e = .returned (.string (strN [hx (c / 16), hx (c % 16)])) ∧ Below w.heap.size w w' := by
  obtain ⟨q, hq⟩ : ∃ q, c / 16 = q := ⟨_, rfl⟩
  obtain ⟨r, hr⟩ : ∃ r, c % 16 = r := ⟨_, rfl⟩
  have q16 : q < 16 := by omega
  have r16 : r < 16 := by omega
  rw [hq, hr]
  have k1 : IntKind.u8.wrap ((c : Int) / 16) = (q : Int) := by rw [show (c : Int) / 16 = (q : Int) by omega]; exact wrap8 q (by omega)
  have k2 : IntKind.u8.wrap ((c : Int) % 16) = (r : Int) := by rw [show (c : Int) % 16 = (r : Int) by omega]; exact wrap8 r (by omega)
  have k3 : (c : Int) % 16 = (r : Int) := by omega
  have k4 : (c : Int) / 16 = (q : Int) := by omega
  clear hq hr
  go_enter Tryd.func54, Tryd.ntmps54
  go_wp2
  go_quiet (fail)
  go_wp2
  go_ret
  exact ⟨congrArg (fun x => Ending.returned (Value.string x)) (digs_two ⟨q, q16⟩ ⟨r, r16⟩), below_drewN (Below.refl _ _) _⟩
theorem spelled_in {s : ByteArray} {ex : List Nat} {c : Nat} {l : List Nat} (hs : nl s = ex) (hm : s.size ≤ 1000) (h : Sp ex c l) (w : World) :
    Calls Tryd.prog 42 #[.int .u8 c, .string s] w fun e w' => e = .returned (.string (strN l)) ∧ Below w.heap.size w w' := by
  cases h with
  | blank k hk =>
    simp at hk
    rcases hk with ⟨rfl, rfl⟩ | ⟨rfl, rfl⟩ | ⟨rfl, rfl⟩ | ⟨rfl, rfl⟩
    · have e1 : strN [92, 110] = ⟨#[92, 110]⟩ := by decide
      rw [e1]
      clear e1 hs
      go_enter Tryd.func42, Tryd.ntmps42
      go_wp2
      go_ret
      exact ⟨rfl, Below.refl _ _⟩
    · have e1 : strN [92, 116] = ⟨#[92, 116]⟩ := by decide
      rw [e1]
      clear e1 hs
      go_enter Tryd.func42, Tryd.ntmps42
      go_wp2
      go_ret
      exact ⟨rfl, Below.refl _ _⟩
    · have e1 : strN [92, 114] = ⟨#[92, 114]⟩ := by decide
      rw [e1]
      clear e1 hs
      go_enter Tryd.func42, Tryd.ntmps42
      go_wp2
      go_ret
      exact ⟨rfl, Below.refl _ _⟩
    · have e1 : strN [92, 115] = ⟨#[92, 115]⟩ := by decide
      rw [e1]
      clear e1 hs
      go_enter Tryd.func42, Tryd.ntmps42
      go_wp2
      go_ret
      exact ⟨rfl, Below.refl _ _⟩
  | esc h1 h2 h3 =>
    have c2 := Lib.hid (fun w => in_yes (c := c) (s := s) (hs ▸ h1) hm w)
    have hcv : ∀ w : World, (convert 40 9 (.slice (some ⟨w.heap.size, 0, none⟩) 1 1)).run Tryd.prog (w.alloc (.cells #[.int .u8 c] 5)) = .ok (.string (strN [c])) (w.alloc (.cells #[.int .u8 c] 5)) := conv_new [c] (by simp; omega)
    have e1 : (⟨#[92]⟩ : ByteArray) ++ strN [c] = strN [92, c] := strN_append [92] [c]
    clear hs h1
    go_enter Tryd.func42, Tryd.ntmps42
    go_wp2_with (go_at_call 55; (with_reducible refine (c2.out _).mono ?_); rintro e w' ⟨rfl, rfl⟩)
    go_ret
    exact ⟨rfl, Bel.new _ _⟩
  | self h1 h2 h3 =>
    have c2 := Lib.hid (fun w => in_no (c := c) (s := s) (hs ▸ h1) hm w)
    have hcv : ∀ w : World, (convert 40 9 (.slice (some ⟨w.heap.size, 0, none⟩) 1 1)).run Tryd.prog (w.alloc (.cells #[.int .u8 c] 5)) = .ok (.string (strN [c])) (w.alloc (.cells #[.int .u8 c] 5)) := conv_new [c] (by simp; omega)
    clear hs h1
    go_enter Tryd.func42, Tryd.ntmps42
    go_wp2_with (go_at_call 55; (with_reducible refine (c2.out _).mono ?_); rintro e w' ⟨rfl, rfl⟩)
    go_ret
    exact ⟨rfl, Bel.new _ _⟩
  | hex h1 h2 h3 h4 h5 h6 h7 =>
    have c2 := Lib.hid (fun w => hex_in h7 w)
    have e1 : (⟨#[92, 120]⟩ : ByteArray) ++ strN [hx (c / 16), hx (c % 16)] = strN [92, 120, hx (c / 16), hx (c % 16)] := strN_append [92, 120] _
    obtain ⟨l4, hl4⟩ : ∃ l4, strN [92, 120, hx (c / 16), hx (c % 16)] = l4 := ⟨_, rfl⟩
    obtain ⟨l2, hl2⟩ : ∃ l2, strN [hx (c / 16), hx (c % 16)] = l2 := ⟨_, rfl⟩
    have hz : l2.size ≤ 10 := by rw [← hl2, strN_size]; simp
    rw [hl2] at c2 e1
    rw [hl4] at e1 ⊢
    have g : decide ((c : Int) < 33) = false ∧ decide (126 < (c : Int)) = true ∨ decide ((c : Int) < 33) = true := by simp; omega
    clear hs h1 hl4 hl2 h6
    rcases g with ⟨g1, g2⟩ | g
    all_goals
      go_enter Tryd.func42, Tryd.ntmps42
      go_wp2_with (go_at_call 54; (with_reducible refine (c2.out _).mono ?_); rintro e w' ⟨rfl, hb⟩)
      go_ret
      exact ⟨rfl, hb⟩
theorem rinner_in {c : Nat} {l : List Nat} (h : Sp inn c l) (w : World) : Calls Tryd.prog 29 #[.int .u8 c] w fun e w' => e = .returned (.string (strN l)) ∧ Below w.heap.size w w' := by
  have C := Lib.hid (fun w => spelled_in nl_inn (by decide) h w)
  clear h
  go_enter Tryd.func29, Tryd.ntmps29
  go_wp2_with (go_at_call 42; (with_reducible refine (C.out _).mono ?_); rintro e w' ⟨rfl, hb⟩)
  go_ret
  exact ⟨rfl, hb⟩
end Go.Proofs.YtaahefhiiggagaaDoor.S5
