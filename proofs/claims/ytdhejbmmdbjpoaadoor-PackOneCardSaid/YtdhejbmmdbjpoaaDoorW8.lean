/- The walk of PackOne. -/
import Derived.Test.YtdhejbmmdbjpoaaDoorW3
import Derived.Test.YtdhejbmmdbjpoaaDoorW7
namespace Go.Proofs.YtdhejbmmdbjpoaaDoor
open Go.RowKit
theorem isnum_num {l p : List Nat} (h : IsNum l p) (hs : ∀ x ∈ l, x ≤ 255) : numL (valL p) = p := by
  obtain ⟨⟨s, rfl⟩, he, -, hz⟩ := h
  exact (numL_of_ends p he (fun x hx => hs x (by simp [hx])) hz).symm
set_option maxRecDepth 100000 in
set_option maxHeartbeats 2000000 in
theorem packOne_in {w : World} {a : Option Addr} {n c : Nat} {l : List Nat} (hs : Src w a n c l) {E0 E1 E3 : Value}
    (h0 : w.cell? ⟨0, 0, none⟩ = some (.iface 78 E0)) (h1 : w.cell? ⟨1, 0, none⟩ = some (.iface 78 E1)) (h3 : w.cell? ⟨3, 0, none⟩ = some (.iface 78 E3)) :
    Calls Tryd.prog 4 #[.slice a n c] w fun e w' => e = .returned (.bool true) ∧ Below w.heap.size w w' := by
  have hA := Lib.hid (alive_in w)
  by_cases hm : n ≤ 100
  · have hm1 : ¬ (100 < (n : Int)) := by omega
    have hln := hs.len
    have hcap := hs.cap
    have hRead : ∀ w', Bel w w' → Calls Tryd.prog 18 #[.slice a n c] w' fun e w'' => ∃ b, e = .returned (.pointer (some ⟨b, 0, none⟩)) ∧ w'.heap.size ≤ b ∧ Rd w'' b l ∧ Below w'.heap.size w' w'' := fun w' hb => read_in (hs.bel hb) (by omega)
    have hNum : ∀ w' b, Bel w w' → Rd w' b l → Calls Tryd.prog 19 #[.pointer (some ⟨b, 0, none⟩), .int .i64 9223372036854775807] w' (NumDone w' b l 9223372036854775807) := fun w' b hb hr =>
      inum_in hr (by omega) (hb.cell (World.block_lt_of_cell? _ _ h0) h0) (hb.cell (World.block_lt_of_cell? _ _ h1) h1) (hb.cell (World.block_lt_of_cell? _ _ h3) h3) _
    have hW : ∀ (w' : World) (V : Nat), V ≤ 2147483647 → Calls Tryd.prog 8 #[.pointer (some ⟨w'.heap.size, 0, none⟩), .int .i64 V] (w'.alloc (.cells #[.slice none 0 0, .nilIface] 30 (0, 0))) fun e w'' => e = .returned (.tuple #[]) ∧ ∃ r', Ou w'' w'.heap.size r' ([] ++ numL V) ∧ Apt (w'.alloc (.cells #[.slice none 0 0, .nilIface] 30 (0, 0))) w'' w'.heap.size none ∧ Nxt (w'.alloc (.cells #[.slice none 0 0, .nilIface] 30 (0, 0))) none r' := fun w' V hV => onum_ok (Ou.new w') hV (by simp only [List.length_nil]; omega)
    have hsm := hs.small
    have hDone : ∀ (w' : World) (b : Nat) (r : Option Nat) (p : List Nat), Ou w' b r p → IsNum l p → Calls Tryd.prog 15 #[.pointer (some ⟨b, 0, none⟩)] w' fun e w'' => ∃ pp cap, e = .returned (.tuple #[.slice pp p.length cap, .nilIface]) ∧ (∀ w3, Bel w'' w3 → (convert 26 9 (.slice pp p.length cap)).run Tryd.prog w3 = .ok (.string (strN p)) w3) ∧ Below w'.heap.size w' w'' := by
      intro w' b r p ho hp
      have hp5 := hp.2.2.1
      refine (odone_ok ho (by omega)).mono ?_
      rintro e w'' ⟨v, rfl, hv, hb⟩
      obtain ⟨pp, cap, rfl, -, -, -⟩ := row_form hv
      refine ⟨pp, cap, rfl, fun w3 hb3 => conv_own (n := p.length) rfl ho.small (ownsRow_bel hv hb3), hb⟩
    have hSl : ∀ p s, IsNum l p → l = p ++ s → (p.length : Int) + (s.length : Int) = n ∧ ∃ bb off, a = some ⟨bb, off, none⟩ ∧ (∀ w', (Instr.sliceAt 26 (.slice a n c) none (some (.int .i64 p.length)) none).run Tryd.prog w' = .ok (.slice a p.length c) w') ∧ ∀ w', Bel w w' → (convert 26 9 (.slice a p.length c)).run Tryd.prog w' = .ok (.string (strN p)) w' := by
      intro p s hp hl
      subst hl
      have hpos := ends_pos hp.2.1
      simp only [List.length_append] at hln
      obtain ⟨bb, off, e, -⟩ := hs.at (by omega)
      refine ⟨by omega, bb, off, e, fun w' => ?_, fun w' hb => (hs.head.bel hb).conv⟩
      rw [e]
      exact slice_fore bb off n p.length c (by omega) hcap w'
    have hnp : ∀ p, IsNum l p → [] ++ numL (valL p) = p := fun p hp => isnum_num hp hsm
    replace hRead := Lib.hid hRead
    replace hNum := Lib.hid hNum
    replace hW := Lib.hid hW
    replace hDone := Lib.hid hDone
    replace hSl := Lib.hid hSl
    replace hnp := Lib.hid hnp
    clear hs h0 h1 h3 hsm
    go_enter Tryd.func4, Tryd.ntmps4
    go_wp2_with (first
      | (go_at_call 5; (with_reducible refine hA.out.mono ?_); rintro e w1 ⟨rfl, hb1⟩; replace hb1 : Hid (Bel w w1) := Lib.hid hb1)
      | (go_at_call 18; (with_reducible refine (hRead.out _ hb1.out).mono ?_); rintro e w2 ⟨b, rfl, hbb, hr2, hb2⟩; replace hr2 := Lib.hid hr2; replace hb2 : Hid (Bel w w2) := Lib.hid (hb1.out.step hb2); replace hbb : Hid (w.heap.size ≤ b) := Lib.hid (Nat.le_trans hb1.out.size hbb))
      | (go_at_call 19; (with_reducible refine (hNum.out _ _ hb2.out hr2.out).mono ?_); rintro e w3 ⟨⟨p, s, hp, hl, hv, -, rfl, hr3⟩ | ⟨-, rfl, E, hr3⟩, ha3⟩ <;> (replace hr3 := Lib.hid hr3; replace ha3 : Hid (Bel w w3) := Lib.hid (Apt.bel hb2.out ha3 hbb.out (fun k hk => by cases hk)); first | (have hEr := Lib.hid (ierr_failed hr3.out)) | (have hEr := Lib.hid (ierr_ok hr3.out); replace hl := Lib.hid hl; replace hv := Lib.hid hv; have hnpp := Lib.hid (hnp.out p hp); replace hp := Lib.hid hp)))
      | (go_at_call 20; (with_reducible refine hEr.out.mono ?_); rintro e w4 ⟨rfl, rfl⟩)
      | (go_at_call 8; (with_reducible refine (hW.out _ _ hv.out).mono ?_); rintro e w5 ⟨rfl, r5, ho5, ha5, -⟩; replace ho5 := Lib.hid ho5; replace ha5 := Lib.hid (Apt.fresh ha5))
      | (go_at_call 15; with_reducible refine (hDone.out _ _ _ p (by rw [← hnpp.out]; exact ho5.out) hp.out).mono ?_; rintro e w6 ⟨pp, cap, rfl, hcv, hb6⟩; replace hcv := Lib.hid hcv; replace hb6 := Lib.hid hb6))
    · have hb36 : Bel w3 w6 := ha5.out.step hb6.out
      have hr6 : Rd w6 b s := hr3.out.bel hb36
      have hb06 : Bel w w6 := ha3.out.step hb36
      obtain ⟨hsum, bb, off, rfl, hsl, hcv2⟩ := hSl.out p s hp.out hl.out
      have hL : ∀ k, Calls Tryd.prog 21 #[.pointer (some ⟨b, 0, none⟩)] (w6.drewN k) fun e w' => e = .returned (.int .i64 s.length) ∧ w' = w6.drewN k := fun k => (ileft_ok (hr6.bel (below_drewN (Below.refl _ _) _))).mono fun e w' ⟨h1, h2⟩ => ⟨h1, h2.symm⟩
      have hcv1 : ∀ k, (convert 26 9 (.slice pp p.length cap)).run Tryd.prog (w6.drewN k) = .ok (.string (strN p)) (w6.drewN k) := fun k => hcv.out _ (below_drewN (Below.refl _ _) _)
      have hcv3 : ∀ k, (convert 26 9 (.slice (some ⟨bb, off, none⟩) p.length c)).run Tryd.prog (w6.drewN k) = .ok (.string (strN p)) (w6.drewN k) := fun k => hcv2 _ (hb06.step (below_drewN (Below.refl _ _) _))
      have hwr : wrap64 ((p.length : Int) + (s.length : Int)) = (n : Int) := by rw [hsum]; unfold wrap64; omega
      have hs0 : decide ((0 : Int) ≤ (s.length : Int)) = true := by simp
      replace hL := Lib.hid hL
      replace hb06 := Lib.hid hb06
      clear hcv hcv2 hr6 hb36 hSl hl hp hnp hnpp hb6 ha5 hsum ho5 hr3 hr2 hNum hRead hW hDone
      go_wp2
      go_quiet (first | (go_at_call 21; refine Calls.quiet_of_same (hL.out _)))
      go_wp2
      go_ret
      exact ⟨rfl, hb06.out.step (below_drewN (Below.refl _ _) _)⟩
    · go_ret
      exact ⟨rfl, ha3.out⟩
  · have hm1 : 100 < (n : Int) := by omega
    go_enter Tryd.func4, Tryd.ntmps4
    go_wp2_with (go_at_call 5; refine hA.out.mono ?_; rintro e w1 ⟨rfl, hb1⟩; replace hb1 := Lib.hid hb1)
    go_ret
    exact ⟨rfl, hb1.out⟩
end Go.Proofs.YtdhejbmmdbjpoaaDoor
