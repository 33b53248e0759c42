/- The contract of the law's own 'same': marks and the reference's marks that hold one set answer alike. -/
import Derived.Test.YtkdjojmegohonaaDoorW14
import Derived.Deep.RegionHeld3
namespace Go.Proofs.YtkdjojmegohonaaDoor
open Go.RowKit
theorem quietW {P : World → Prop} {f : FuncId} {args : Array Value} {w : World} {v : Value} (h : ∀ w', Bel w w' → Calls Tryd.prog f args w' fun e w'' => e = .returned v ∧ w' = w'') :
    ∀ w', Bel w w' → Calls Tryd.prog f args w' fun e w'' => e = .returned v ∧ Below w'.heap.size w' w'' := fun w' hb => (h w' hb).mono fun _ _ ⟨he, h2⟩ => ⟨he, by rw [h2]; exact Below.refl _ _⟩
set_option maxRecDepth 100000 in
set_option maxHeartbeats 4000000 in
theorem lawsame_in {w : World} {b g br gr n : Nat} {f : Nat → Bool} (h : Mk w b g n f) (hr : Rf w br gr n f) (hT : Tab w) (i : Int) :
    Calls Tryd.prog 15 #[.pointer (some ⟨b, 0, none⟩), .pointer (some ⟨br, 0, none⟩), .int .i64 i] w fun e w' => e = .returned (.bool true) ∧ Below w.heap.size w w' := by
  obtain ⟨r, hri⟩ := after_ex h.top (sOf i)
  have hK : ∀ w', Bel w w' → Mk w' b g n f := fun w' hb => h.bel' hb
  have hR : ∀ w', Bel w w' → Rf w' br gr n f := fun w' hb => hr.bel hb (Nat.le_refl _)
  have hTT : ∀ w', Bel w w' → Tab w' := fun w' hb => hT.bel hb
  have hlen : (mem f n).length ≤ 65536 := Nat.le_trans (mem_le f n) h.le
  have L1 := Lib.hid (fun w' hb => list_in (hK w' hb) (hTT w' hb))
  have L2 := Lib.hid (fun w' hb => rlist_in (hR w' hb))
  have C20 := quietW (P := fun _ => True) (fun w' hb => len_in (hK w' hb))
  rw [← mem_len] at C20
  replace C20 := Lib.hid C20
  have C22 := Lib.hid (quietW (P := fun _ => True) (fun w' hb => has_in (hK w' hb) i))
  have C14 := Lib.hid (quietW (P := fun _ => True) (fun w' hb => rhas_in (hR w' hb) i))
  have C25 := Lib.hid (quietW (P := fun _ => True) (fun w' hb => after_in (hK w' hb) (hTT w' hb) i hri))
  have C26 := Lib.hid (quietW (P := fun _ => True) (fun w' hb => rafter_in (hR w' hb) hri))
  have C19 := Lib.hid (fun w' hb => key_in (hK w' hb) (hTT w' hb))
  have C27 := Lib.hid (fun w' hb => rkey_in (hR w' hb))
  have C28 := Lib.hid (quietW (P := fun _ => True) (fun w' hb => size_in (hK w' hb)))
  have hc0 : ∀ w', Bel w w' → w'.cell? ⟨br, 0, none⟩ = some (.slice (some ⟨gr, 0, none⟩) n n) := fun w' hb => (hR w' hb).c0
  have hn := h.le
  clear hK hR hTT h hr hri
  generalize strN (keyN (mem f n)) = SS at *
  generalize mem f n = l at *
  generalize wasIn f n i = ib at *
  have hq0 : Bel w w := Bel.refl w
  have hq : Bel w w.drew := Bel.drew hq0
  unfold GivesList at L1 L2
  go_enter Tryd.func15, Tryd.ntmps15
  go_wp2_with fail
  go_region_held3 (Bel w) (first | assumption | exact Bel.drew ‹_›) (first | (go_at_call 24; refine (L1.out _ ‹Bel w _›).mono ?_; rintro e w' ⟨v1, rfl, hr1, hb⟩; replace hb := Bel.step ‹Bel w _› hb) | (go_at_call 11; have hr1' := hr1; refine (L2.out _ ‹Bel w _›).mono ?_; rintro e w' ⟨v2, rfl, hr2, hb⟩; replace hr1 := ownsRow_bel hr1' hb; clear hr1'; replace hb := Bel.step ‹Bel w _› hb) | (go_at_call 18; refine (sameints_in hr1 hr2 hlen hlen (r := true) (by simp [Agree])).mono ?_; clear hr1 hr2; rintro e w' ⟨rfl, hb⟩; replace hb := Bel.step ‹Bel w _› hb) | (go_at_call 11; refine (L2.out _ ‹Bel w _›).mono ?_; rintro e w' ⟨v3, rfl, hr3, hb⟩; obtain ⟨p3, c3, rfl, -⟩ := row_form hr3; clear hr3; replace hb := Bel.step ‹Bel w _› hb) | (go_at_call 20; refine (C20.out _ ‹Bel w _›).mono ?_; rintro e w' ⟨rfl, hb⟩; replace hb := Bel.step ‹Bel w _› hb) | (go_at_call 22; refine (C22.out _ ‹Bel w _›).mono ?_; rintro e w' ⟨rfl, hb⟩; replace hb := Bel.step ‹Bel w _› hb) | (go_at_call 14; refine (C14.out _ ‹Bel w _›).mono ?_; rintro e w' ⟨rfl, hb⟩; replace hb := Bel.step ‹Bel w _› hb) | (go_at_call 25; refine (C25.out _ ‹Bel w _›).mono ?_; rintro e w' ⟨rfl, hb⟩; replace hb := Bel.step ‹Bel w _› hb) | (go_at_call 26; refine (C26.out _ ‹Bel w _›).mono ?_; rintro e w' ⟨rfl, hb⟩; replace hb := Bel.step ‹Bel w _› hb) | (go_at_call 19; refine (C19.out _ ‹Bel w _›).mono ?_; rintro e w' ⟨rfl, hb⟩; replace hb := Bel.step ‹Bel w _› hb) | (go_at_call 27; refine (C27.out _ ‹Bel w _›).mono ?_; rintro e w' ⟨rfl, hb⟩; replace hb := Bel.step ‹Bel w _› hb) | (go_at_call 28; refine (C28.out _ ‹Bel w _›).mono ?_; rintro e w' ⟨rfl, hb⟩; replace hb := Bel.step ‹Bel w _› hb))
  have hq9 := Lib.hid ‹Bel w _›
  go_wp2_with fail
  go_ret
  exact ⟨rfl, hq9.out⟩
end Go.Proofs.YtkdjojmegohonaaDoor
