/- SpellReads. -/
import Derived.Test.YtgkjjcnopkiogaaDoorW7
import Derived.Test.YtgkjjcnopkiogaaDoorLE
namespace Go.Proofs.YtgkjjcnopkiogaaDoor
open Go.RowKit
theorem num_nil (w : World) : Calls Tryd.prog 14 #[.nilIface] w fun e w' => e = .returned (.int .i64 0) ∧ Below w.heap.size w w' := by
  go_enter Tryd.func14, Tryd.ntmps14
  go_wp2
  go_ret
  exact ⟨rfl, Below.refl _ _⟩
theorem rd_err {l : List Nat} {i : Int} {c : Nat} {t : Int} {e : Nat} (h : Rd l i c t e) : e = 0 ∨ e = 2 ∨ e = 4 := by
  cases h <;> simp
theorem num_errV {A : Nat → Addr} {e : Nat} (he : e = 0 ∨ e = 2 ∨ e = 4) (w : World) (hE : Errs w A) :
    Calls Tryd.prog 14 #[errV (.pointer (some (A 1))) (.pointer (some (A 3))) e] w fun e' w' => e' = .returned (.int .i64 e) ∧ Below w.heap.size w w' := by
  rcases he with rfl | rfl | rfl
  · exact num_nil w
  · exact (num_in A 1 (by decide) w hE).mono fun _ _ h => ⟨by rw [h.1]; rfl, h.2⟩
  · exact (num_in A 3 (by decide) w hE).mono fun _ _ h => ⟨by rw [h.1]; rfl, h.2⟩
theorem Errs.two {w : World} {A : Nat → Addr} (h : Errs w A) : Two w (.pointer (some (A 1))) (.pointer (some (A 3))) := ⟨h.var 1 (by decide), h.var 3 (by decide)⟩
set_option maxRecDepth 100000 in
set_option maxHeartbeats 1000000 in
theorem spellReads_in {s : ByteArray} {i : Int} (hs : s.size ≤ 9223372036854775807) {A : Nat → Addr} (w : World) (hE : Errs w A) :
    Calls Tryd.prog 4 #[.string s, .int .i64 i] w fun e w' => e = .returned (.bool true) ∧ Below w.heap.size w w' := by
  have cA := Lib.hid (fun w' (hb : Bel w w') => alive_in w' (hE.bel hb).two)
  by_cases h1 : 300 < s.size
  · have hq := Lib.hid (Bel.refl w)
    clear hE
    go_enter Tryd.func4, Tryd.ntmps4
    go_wp2_with (go_at_call 6; (with_reducible refine (cA.out _ hq.out).mono ?_); rintro e w1 ⟨rfl, hb⟩; replace hq := Lib.hid (hq.out.step hb); clear hb)
    go_ret
    exact ⟨rfl, hq.out⟩
  have hs' : s.size ≤ 300 := by omega
  clear hs h1
  obtain ⟨c, t, e, hR⟩ := rd_some (nl s) i
  have cR := Lib.hid (fun w' (hb : Bel w w') => read_in hR (by omega) w' (hE.bel hb).two)
  have cQ := Lib.hid (fun w' (_ : Bel w w') => rread_in hR (by omega) w')
  have cN := Lib.hid (fun w' (hb : Bel w w') => num_errV (rd_err hR) w' (hE.bel hb))
  unfold Gives at cR cQ
  generalize errV (.pointer (some (A 1))) (.pointer (some (A 3))) e = V at *
  have hq := Lib.hid (Bel.refl w)
  clear hE hR
  go_enter Tryd.func4, Tryd.ntmps4
  go_wp2_with (first
    | (go_at_call 6; (with_reducible refine (cA.out _ hq.out).mono ?_); rintro e w1 ⟨rfl, hb⟩; replace hq := Lib.hid (hq.out.step hb); clear hb)
    | (go_at_call 12; (with_reducible refine (cR.out _ hq.out).mono ?_); rintro e w1 ⟨rfl, hb⟩; replace hq := Lib.hid (hq.out.step hb); clear hb)
    | (go_at_call 13; (with_reducible refine (cQ.out _ hq.out).mono ?_); rintro e w1 ⟨rfl, hb⟩; replace hq := Lib.hid (hq.out.step hb); clear hb)
    | (go_at_call 14; (with_reducible refine (cN.out _ hq.out).mono ?_); rintro e w1 ⟨rfl, hb⟩; replace hq := Lib.hid (hq.out.step hb); clear hb))
  go_ret
  exact ⟨ret_bool (by first | rfl | simp), hq.out⟩
end Go.Proofs.YtgkjjcnopkiogaaDoor
