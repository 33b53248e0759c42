/- alive; SpellWrites. -/
import Derived.Test.YtgkjjcnopkiogaaDoorW6
namespace Go.Proofs.YtgkjjcnopkiogaaDoor
open Go.RowKit
theorem alive_rd : Rd (nl ⟨#[92, 120, 52, 97]⟩) 0 74 4 0 :=
  Rd.hex 0 52 4 97 10 (by decide) (by decide) (by decide) (Fig.num 52 (by decide) (by decide)) (by decide) (Fig.low 97 (by decide) (by decide))
theorem e110 : strN [92, 110] = ⟨#[92, 110]⟩ := by decide
theorem alive_in {E2 E4 : Value} (w : World) (hT : Two w E2 E4) : Calls Tryd.prog 6 #[] w fun e w' => e = .returned (.bool true) ∧ Below w.heap.size w w' := by
  have c1 := read_in alive_rd (by decide) w hT
  have c2 : ∀ w', Calls Tryd.prog 7 #[.int .u8 10] w' fun e w2 => e = .returned (.string ⟨#[92, 110]⟩) ∧ Below w'.heap.size w' w2 := fun w' => by
    rw [← e110]
    exact plain_in (c := 10) (Sp.blank 10 110 (by decide)) w'
  replace c2 := Lib.hid c2
  unfold Gives at c1
  rw [show errV E2 E4 0 = .nilIface from rfl] at c1
  replace c1 := Lib.hid c1
  clear hT
  go_enter Tryd.func6, Tryd.ntmps6
  go_wp2_with (first | (go_at_call 12; (with_reducible refine c1.out.mono ?_); rintro e w1 ⟨rfl, hb⟩) | (go_at_call 7; (with_reducible refine (c2.out _).mono ?_); rintro e w2 ⟨rfl, hb2⟩))
  go_ret
  exact ⟨rfl, hb.trans (hb2.mono hb.size)⟩
theorem sp_out_len {c : Nat} {l : List Nat} (h : Sp out c l) : c ∈ out ∧ 33 ≤ c ∧ c ≤ 126 ∧ l.length = 2 ∨ c ∉ out ∧ (c < 33 ∨ 126 < c ∨ l.length ≠ 2) := by
  cases h with
  | blank k hk =>
    simp at hk
    refine .inr ⟨fun hm => ?_, .inl (by omega)⟩
    have := ex_mid (.inl rfl) c hm
    omega
  | esc h1 h2 h3 => exact .inl ⟨h1, h2, h3, rfl⟩
  | self h1 h2 h3 => exact .inr ⟨h1, .inr (.inr (by simp))⟩
  | hex h1 h2 h3 h4 h5 h6 h7 => exact .inr ⟨h1, by omega⟩
set_option maxRecDepth 100000 in
set_option maxHeartbeats 1000000 in
theorem spellWrites_in {c : Nat} {a b : ByteArray} (hc : c ≤ 255) (ha : a.size ≤ 9223372036854775807) (hb : b.size ≤ 9223372036854775807) {E2 E4 : Value} (w : World) (hT : Two w E2 E4) :
    Calls Tryd.prog 3 #[.int .u8 c, .string a, .string b] w fun e w' => e = .returned (.bool true) ∧ Below w.heap.size w w' := by
  have cA := Lib.hid (fun w' (hb : Bel w w') => alive_in w' (hT.bel hb))
  by_cases h1 : 100 < a.size
  · have hq := Lib.hid (Bel.refl w)
    clear hT
    go_enter Tryd.func3, Tryd.ntmps3
    go_wp2_with (go_at_call 6; (with_reducible refine (cA.out _ hq.out).mono ?_); rintro e w1 ⟨rfl, hb⟩; replace hq := Lib.hid (hq.out.step hb); clear hb)
    go_ret
    exact ⟨rfl, hq.out⟩
  by_cases h2 : 100 < b.size
  · have hq := Lib.hid (Bel.refl w)
    clear hT
    go_enter Tryd.func3, Tryd.ntmps3
    go_wp2_with (go_at_call 6; (with_reducible refine (cA.out _ hq.out).mono ?_); rintro e w1 ⟨rfl, hb⟩; replace hq := Lib.hid (hq.out.step hb); clear hb)
    go_ret
    exact ⟨rfl, hq.out⟩
  have ha' : a.size ≤ 100 := by omega
  have hb' : b.size ≤ 100 := by omega
  clear ha hb h1 h2
  obtain ⟨l, hl⟩ := sp_some (.inl rfl) c hc
  obtain ⟨m, hm⟩ := sp_some (.inr rfl) c hc
  have hsp := sp_out_len hl
  have cP := Lib.hid (fun w' (_ : Bel w w') => plain_in hl w')
  have cI := Lib.hid (fun w' (_ : Bel w w') => inner_in hm w')
  have cQ := Lib.hid (fun w' (_ : Bel w w') => rplain_in hl w')
  have cJ := Lib.hid (fun w' (_ : Bel w w') => rinner_in hm w')
  have cS := Lib.hid (fun w' (_ : Bel w w') => special_in hc w')
  have zl := sp_length hl
  have zm := sp_length hm
  have rl := sp_read (.inl rfl) hl (nl a) (nl b)
  have rm := sp_read (.inr rfl) hm (nl a) (nl b)
  rw [← nl_strN (sp_small hl), ← nl_append, ← nl_append] at rl
  rw [← nl_strN (sp_small hm), ← nl_append, ← nl_append] at rm
  have sl : (strN l).size = l.length := strN_size l
  have sm : (strN m).size = m.length := strN_size m
  generalize strN l = P at *
  generalize strN m = I at *
  rw [nl_length, nl_length] at rl rm
  have cR := Lib.hid (fun w' (hb : Bel w w') => read_in rl (by simp [ByteArray.size_append]; omega) w' (hT.bel hb))
  have cM := Lib.hid (fun w' (hb : Bel w w') => read_in rm (by simp [ByteArray.size_append]; omega) w' (hT.bel hb))
  unfold Gives at cR cM
  have eR : ((a.size + P.size : Nat) : Int) = (a.size : Int) + P.size := by omega
  have eM : ((a.size + I.size : Nat) : Int) = (a.size : Int) + I.size := by omega
  rw [eR, show errV E2 E4 0 = .nilIface from rfl] at cR
  rw [eM, show errV E2 E4 0 = .nilIface from rfl] at cM
  have zP : P.size ≤ 4 := by omega
  have zI : I.size ≤ 4 := by omega
  have g : decide (c ∈ out) = true ∧ decide ((33 : Int) ≤ c) = true ∧ decide ((c : Int) ≤ 126) = true ∧ ((P.size : Int) == 2) = true ∨ decide (c ∈ out) = false ∧ (decide ((33 : Int) ≤ c) = false ∨ decide ((c : Int) ≤ 126) = false ∨ ((P.size : Int) == 2) = false) := by
    rcases hsp with ⟨x1, x2, x3, x4⟩ | ⟨x1, x2⟩
    · left
      refine ⟨by simpa using x1, by simp; omega, by simp; omega, by simp; omega⟩
    · right
      refine ⟨by simpa using x1, ?_⟩
      rcases x2 with x2 | x2 | x2
      · exact .inl (by simp; omega)
      · exact .inr (.inl (by simp; omega))
      · exact .inr (.inr (by simp; omega))
  have hq := Lib.hid (Bel.refl w)
  clear hT hsp zl zm rl rm sl sm eR eM hl hm hc
  generalize decide (c ∈ out) = S at *
  rcases g with ⟨rfl, g2, g3, g4⟩ | ⟨rfl, g2 | g2 | g2⟩
  all_goals
    go_enter Tryd.func3, Tryd.ntmps3
    go_wp2_with (first
      | (go_at_call 6; (with_reducible refine (cA.out _ hq.out).mono ?_); rintro e w1 ⟨rfl, hb⟩; replace hq := Lib.hid (hq.out.step hb); clear hb)
      | (go_at_call 7; (with_reducible refine (cP.out _ hq.out).mono ?_); rintro e w1 ⟨rfl, hb⟩; replace hq := Lib.hid (hq.out.step hb); clear hb)
      | (go_at_call 8; (with_reducible refine (cI.out _ hq.out).mono ?_); rintro e w1 ⟨rfl, hb⟩; replace hq := Lib.hid (hq.out.step hb); clear hb)
      | (go_at_call 9; (with_reducible refine (cQ.out _ hq.out).mono ?_); rintro e w1 ⟨rfl, hb⟩; replace hq := Lib.hid (hq.out.step hb); clear hb)
      | (go_at_call 10; (with_reducible refine (cJ.out _ hq.out).mono ?_); rintro e w1 ⟨rfl, hb⟩; replace hq := Lib.hid (hq.out.step hb); clear hb)
      | (go_at_call 11; (with_reducible refine (cS.out _ hq.out).mono ?_); rintro e w1 ⟨rfl, rfl⟩)
      | (go_at_call 12; (with_reducible refine (cR.out _ hq.out).mono ?_); rintro e w1 ⟨rfl, hb⟩; replace hq := Lib.hid (hq.out.step hb); clear hb)
      | (go_at_call 12; (with_reducible refine (cM.out _ hq.out).mono ?_); rintro e w1 ⟨rfl, hb⟩; replace hq := Lib.hid (hq.out.step hb); clear hb))
    all_goals
      go_ret
      exact ⟨ret_bool (by first | rfl | simp), hq.out⟩
end Go.Proofs.YtgkjjcnopkiogaaDoor
