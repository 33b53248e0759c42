/- SpellOne. -/
import Derived.Test.YtgkjjcnopkiogaaDoorW11
namespace Go.Proofs.YtgkjjcnopkiogaaDoor
open Go.RowKit
set_option maxRecDepth 100000 in
set_option maxHeartbeats 1000000 in
theorem spellOne_in {w : World} {a a' : Option Addr} {n n' c c' : Nat} {l l' : List Nat} (hs : Src w a n c l) (hs' : Src w a' n' c' l') (hn : n ≤ 9223372036854775807) (hn' : n' ≤ 9223372036854775807) {E2 E4 : Value} (hT : Two w E2 E4) :
    Calls Tryd.prog 5 #[.slice a n c, .slice a' n' c'] w fun e w' => e = .returned (.bool true) ∧ Below w.heap.size w w' := by
  have cA := Lib.hid (fun w' (hb : Bel w w') => alive_in w' (hT.bel hb))
  by_cases h1 : 200 < n
  · have hq := Lib.hid (Bel.refl w)
    clear hT hs hs'
    go_enter Tryd.func5, Tryd.ntmps5
    go_wp2_with (go_at_call 6; (with_reducible refine (cA.out _ hq.out).mono ?_); rintro e w1 ⟨rfl, hb⟩; replace hq := Lib.hid (hq.out.step hb); clear hb)
    go_ret
    exact ⟨rfl, hq.out⟩
  by_cases h2 : 200 < n'
  · have hq := Lib.hid (Bel.refl w)
    clear hT hs hs'
    go_enter Tryd.func5, Tryd.ntmps5
    go_wp2_with (go_at_call 6; (with_reducible refine (cA.out _ hq.out).mono ?_); rintro e w1 ⟨rfl, hb⟩; replace hq := Lib.hid (hq.out.step hb); clear hb)
    go_ret
    exact ⟨rfl, hq.out⟩
  have hn2 : n ≤ 200 := by omega
  have hn3 : n' ≤ 200 := by omega
  clear h1 h2 hn hn'
  have hl := hs.len
  have hl' := hs'.len
  have cT := Lib.hid (fun w' (hb : Bel w w') => text_in (hs.bel hb) (by omega))
  have cU := Lib.hid (fun w' (hb : Bel w w') => text_in (hs'.bel hb) (by omega))
  have b1 := txt_len hs.small
  have b2 := txt_len hs'.small
  have z1 := strN_size (txt l)
  have z2 := strN_size (txt l')
  have z3 := strN_size l
  have z4 := strN_size l'
  have y1 := nl_strN (txt_small hs.small)
  have y2 := nl_strN (txt_small hs'.small)
  have y3 : nl (strN (txt l) ++ strN (txt l')) = txt (l ++ l') := by rw [nl_append, y1, y2, txt_append]
  have sm : ∀ x ∈ l ++ l', x ≤ 255 := fun x hx => by
    rcases List.mem_append.1 hx with h | h
    · exact hs.small x h
    · exact hs'.small x h
  have cX := Lib.hid (fun w' (hb : Bel w w') => bytes_in y1 hs.small (by omega) w' (hT.bel hb))
  have cY := Lib.hid (fun w' (hb : Bel w w') => bytes_in y2 hs'.small (by omega) w' (hT.bel hb))
  have cZ := Lib.hid (fun w' (hb : Bel w w') => bytes_in y3 sm (by simp; omega) w' (hT.bel hb))
  have hzz := Lib.hid (strN_append l l').symm
  have hCa := Lib.hid (fun w' (hb : Bel w w') => (hs.bel hb).conv)
  have hCb := Lib.hid (fun w' (hb : Bel w w') => (hs'.bel hb).conv)
  have hCx := Lib.hid (fun w' p k (h : Src w' p l.length k l) => h.conv)
  have hCy := Lib.hid (fun w' p k (h : Src w' p l'.length k l') => h.conv)
  have hsa := Lib.hid hs
  have hsb := Lib.hid hs'
  have hq := Lib.hid (Bel.refl w)
  have q1 : (strN (txt l)).size ≤ 800 := by omega
  have q2 : (strN (txt l')).size ≤ 800 := by omega
  have q3 : (strN l).size ≤ 200 := by omega
  have q4 : (strN l').size ≤ 200 := by omega
  have hne : l ≠ l' → strN (txt l) ≠ strN (txt l') ∧ strN l ≠ strN l' := fun h => by
    have lt : ∀ (z : List Nat), (∀ x ∈ z, x ≤ 255) → ∀ x ∈ z, x < 256 := fun z hz x hx => by have := hz x hx; omega
    exact ⟨fun e => h (txt_inj l l' hs.small hs'.small (strN_inj (lt _ (txt_small hs.small)) (lt _ (txt_small hs'.small)) e)), fun e => h (strN_inj (lt _ hs.small) (lt _ hs'.small) e)⟩
  by_cases he : l = l'
  · subst he
    have e0 : n' = n := by omega
    subst e0
    replace hl := Lib.hid hl
    replace hn2 := hn3
    clear hs hs' hT y1 y2 y3 sm b1 b2 z1 z2 z3 z4 hne hl'
    generalize strN (txt l) = P at *
    generalize strN l = X at *
    go_enter Tryd.func5, Tryd.ntmps5
    go_wp2_with (first
      | (go_at_call 6; (with_reducible refine (cA.out _ hq.out).mono ?_); rintro e w1 ⟨rfl, hb⟩; replace hq := Lib.hid (hq.out.step hb); clear hb)
      | (go_at_call 15; (with_reducible refine (cT.out _ hq.out).mono ?_); rintro e w1 ⟨rfl, hb⟩; replace hq := Lib.hid (hq.out.step hb); clear hb)
      | (go_at_call 15; (with_reducible refine (cU.out _ hq.out).mono ?_); rintro e w1 ⟨rfl, hb⟩; replace hq := Lib.hid (hq.out.step hb); clear hb)
      | (go_at_call 16; (with_reducible refine (cX.out _ hq.out).mono ?_); rintro e w1 ⟨px, kx, rfl, hx, hb⟩; replace hx := Lib.hid hx; replace hq := Lib.hid (hq.out.step hb); clear hb cX)
      | (go_at_call 16; (with_reducible refine (cY.out _ hq.out).mono ?_); rintro e w1 ⟨py, ky, rfl, hy, hb⟩; replace hy := Lib.hid hy; replace hx := Lib.hid (hx.out.bel hb); replace hq := Lib.hid (hq.out.step hb); clear hb; have e1 := hCa.out _ hq.out; have e2 := hCb.out _ hq.out)
      | (go_at_call 16; (with_reducible refine (cZ.out _ hq.out).mono ?_); rintro e w1 ⟨pz, kz, rfl, hz, hb⟩; replace hy := Lib.hid (hy.out.bel hb); replace hx := Lib.hid (hx.out.bel hb); replace hq := Lib.hid (hq.out.step hb); clear hb e1 e2; have e1 := hz.conv; simp only [List.length_append] at e1; have e2 := hCx.out _ _ _ hx.out; have e3 := hCy.out _ _ _ hy.out; rw [hzz.out] at e1; clear hz; replace hsa := Lib.hid (hsa.out.bel hq.out); replace hsb := Lib.hid (hsb.out.bel hq.out))
      | (go_at_call 17; (with_reducible refine (sameBytes_in hx.out hsa.out).mono ?_); rintro e w1 ⟨rfl, rfl⟩)
      | (go_at_call 17; (with_reducible refine (sameBytes_in hy.out hsb.out).mono ?_); rintro e w1 ⟨rfl, rfl⟩))
    go_ret
    exact ⟨ret_bool (by first | rfl | simp), hq.out⟩
  obtain ⟨g1, g2⟩ := hne he
  replace hl := Lib.hid hl
  replace hl' := Lib.hid hl'
  clear hs hs' hT y1 y2 y3 sm b1 b2 z1 z2 z3 z4 hne he
  generalize strN (txt l) = P at *
  generalize strN (txt l') = Q at *
  generalize strN l = X at *
  generalize strN l' = Y at *
  have f1 : (P.toList == Q.toList) = false := by rw [beq_eq_false_iff_ne]; exact fun e => g1 (bytes_inj e)
  have f2 : (X.toList == Y.toList) = false := by rw [beq_eq_false_iff_ne]; exact fun e => g2 (bytes_inj e)
  clear g1 g2
  go_enter Tryd.func5, Tryd.ntmps5
  go_wp2_with (first
    | (go_at_call 6; (with_reducible refine (cA.out _ hq.out).mono ?_); rintro e w1 ⟨rfl, hb⟩; replace hq := Lib.hid (hq.out.step hb); clear hb)
    | (go_at_call 15; (with_reducible refine (cT.out _ hq.out).mono ?_); rintro e w1 ⟨rfl, hb⟩; replace hq := Lib.hid (hq.out.step hb); clear hb)
    | (go_at_call 15; (with_reducible refine (cU.out _ hq.out).mono ?_); rintro e w1 ⟨rfl, hb⟩; replace hq := Lib.hid (hq.out.step hb); clear hb)
    | (go_at_call 16; (with_reducible refine (cX.out _ hq.out).mono ?_); rintro e w1 ⟨px, kx, rfl, hx, hb⟩; replace hx := Lib.hid hx; replace hq := Lib.hid (hq.out.step hb); clear hb cX)
    | (go_at_call 16; (with_reducible refine (cY.out _ hq.out).mono ?_); rintro e w1 ⟨py, ky, rfl, hy, hb⟩; replace hy := Lib.hid hy; replace hx := Lib.hid (hx.out.bel hb); replace hq := Lib.hid (hq.out.step hb); clear hb; have e1 := hCa.out _ hq.out; have e2 := hCb.out _ hq.out)
    | (go_at_call 16; (with_reducible refine (cZ.out _ hq.out).mono ?_); rintro e w1 ⟨pz, kz, rfl, hz, hb⟩; replace hy := Lib.hid (hy.out.bel hb); replace hx := Lib.hid (hx.out.bel hb); replace hq := Lib.hid (hq.out.step hb); clear hb e1 e2; have e1 := hz.conv; simp only [List.length_append] at e1; have e2 := hCx.out _ _ _ hx.out; have e3 := hCy.out _ _ _ hy.out; rw [hzz.out] at e1; clear hz; replace hsa := Lib.hid (hsa.out.bel hq.out); replace hsb := Lib.hid (hsb.out.bel hq.out))
    | (go_at_call 17; (with_reducible refine (sameBytes_in hx.out hsa.out).mono ?_); rintro e w1 ⟨rfl, rfl⟩)
    | (go_at_call 17; (with_reducible refine (sameBytes_in hy.out hsb.out).mono ?_); rintro e w1 ⟨rfl, rfl⟩))
  go_ret
  exact ⟨ret_bool (by first | rfl | simp), hq.out⟩
end Go.Proofs.YtgkjjcnopkiogaaDoor
