/- SpellOne: the given card: for every two lists of bytes the law returns true and leaves them as they were. -/
import Derived.Test.YtgkjjcnopkiogaaDoorRows
import Derived.Test.YtgkjjcnopkiogaaDoorTie
import Derived.Test.YtgkjjcnopkiogaaDoorCards
import Derived.Test.YtgkjjcnopkiogaaDoorW12
import Derived.Test.YtgkjjcnopkiogaaDoorLP
import Derived.SevenTiedAt
namespace Go.Proofs.YtgkjjcnopkiogaaDoor
open Go.ChangeShapes Go.WideShapes Go.ChangeAt Go.WideMaps Go.WideElems Go.RowKit

def sent_spellOne : List (String × DataW Unit) := [("doffer/api.ErrShort", Rows.laid_doffer_api_ErrShort), ("doffer/api.ErrForm", Rows.laid_doffer_api_ErrForm)]
def ord_spellOne (k : Nat) : Nat := [0, 3].getD k 0
theorem sent_text_spellOne : ∀ x ∈ sent_spellOne, ∃ text, x.2 = .iface "*errors.errorString" (.ptr (.agg [.lit (.string text)])) := by
  intro x hx
  simp only [sent_spellOne, List.mem_cons, List.not_mem_nil, or_false] at hx
  rcases hx with rfl | rfl <;> exact ⟨_, rfl⟩
theorem sent_at_spellOne : ∀ k, k < 2 → ∃ x, sent_spellOne[k]? = some x ∧ Tryd.prog.globalNamed x.1 = some (ord_spellOne k) ∧ (Tryd.prog.globals[ord_spellOne k]?).map (·.type) = some 26 := by
  intro k hk
  match k, hk with
  | 0, _ => exact ⟨_, rfl, by kernel_rfl, by kernel_rfl⟩
  | 1, _ => exact ⟨_, rfl, by kernel_rfl, by kernel_rfl⟩
  | n + 2, h => omega
theorem errs_spellOne {W : World} (h : laidMet Tryd.prog (sent_spellOne ++ []) W) : ∃ A : Nat → Addr, (∀ k, k < 2 → W.cell? ⟨ord_spellOne k, 0, none⟩ = some (.iface 68 (.pointer (some (A k))))) ∧ (∀ i j, i < j → j < 2 → A i ≠ A j) ∧ (∀ k, k < 2 → ∃ c t, W.heap[(A k).block]? = some (.cells c t (0, 0))) ∧ ∃ q, DataW.LaidVars Tryd.prog W [] q := by
  obtain ⟨ps, hv, hnd, hrows⟩ := h
  have hg : ∀ x ∈ sent_spellOne, ∃ g, Tryd.prog.globalNamed x.1 = some g ∧ (Tryd.prog.globals[g]?).map (·.type) = some 26 := by
    intro x hx
    obtain ⟨k, hk, rfl⟩ := List.getElem_of_mem hx
    obtain ⟨y, h1, h2, h3⟩ := sent_at_spellOne k (by simpa [sent_spellOne] using hk)
    rw [List.getElem?_eq_getElem hk] at h1
    cases h1
    exact ⟨_, h2, h3⟩
  obtain ⟨al, hl, hvar, hsub, hcell, q, hq⟩ := sentinels Tryd.underlying26 row60 Tryd.underlying68 Tryd.underlying92 rfl rfl Tryd.underlying9 cells85 cells9 sent_spellOne ps sent_text_spellOne hg hv hrows
  have hl18 : al.length = 2 := hl
  refine ⟨fun k => al.getD k ⟨0, 0, none⟩, ?_, ?_, ?_, q, hq⟩
  · intro k hk
    obtain ⟨x, h1, h2, _⟩ := sent_at_spellOne k hk
    have ha : al[k]? = some (al.getD k ⟨0, 0, none⟩) := by
      rw [List.getElem?_eq_getElem (by omega), getD_at (by omega)]
    obtain ⟨g, hg1, hc⟩ := hvar k x _ h1 ha
    obtain rfl := Option.some.inj (h2.symm.trans hg1)
    exact hc
  · intro i j hij hj e
    have hn := hnd.sublist hsub
    rw [List.nodup_iff_pairwise_ne, List.pairwise_iff_getElem] at hn
    have := hn i j (by simp; omega) (by simp; omega) hij
    apply this
    dsimp only at e
    rw [getD_at (by omega), getD_at (by omega)] at e
    simp only [List.getElem_map, e]
  · intro k hk
    exact hcell _ (by dsimp only; rw [getD_at (by omega)]; exact List.getElem_mem _)
theorem door_met_spellOne (os : Os) (args : Array Value) : laidMetH Tryd.prog Rows.spellOneRow.laid ((World.doorLaid Tryd.prog 400 os).forCall (fun _ _ => 0) ⟨#[], args, []⟩).memory :=
  laidMetH_of_parts3 (fuel := 8) (laidMet_of_run' 8 (by kernel_rfl) (by kernel_rfl)) (by kernel_rfl) (by kernel_rfl)
set_option maxRecDepth 100000 in
theorem lifted_spellOne (os : Os) (started : os.Started) (H : Type) (enc : TypeId × Value → H) :
    ReturnsInHanded {} Tryd.checked os 5 .any (fun w args => (Rows.spellOneSpec.pre enc Tryd.prog Tryd.f5 [] false w args ∧ laidMetH Tryd.prog Rows.spellOneRow.laid w) ∧ sizedMet enc Tryd.prog Tryd.f5 (OpenSpec.ofChange Rows.spellOneSpec) false w args)
      (Rows.spellOneSpec.post enc Tryd.prog Tryd.f5 false true false false) := by
  refine returnsInHanded_of_change_and (C := Tryd.checked) (X := fun w _ => laidMetH Tryd.prog Rows.spellOneRow.laid w) (fun _ _ _ hh h => h.of_heap hh) own started (by kernel_rfl) Tryd.func5
    (ChangeSpec.witness_shaped (enc := enc) (C := Tryd.checked) (os := os) (X := fun w _ => laidMetH Tryd.prog Rows.spellOneRow.laid w) false (World.doorLaid Tryd.prog 400 os) #[.slice none 0 0, .slice none 0 0] 8 rfl (World.shaped_of_RefB (by kernel_rfl) (by kernel_rfl)) (by kernel_rfl) (by kernel_rfl) (by kernel_rfl) (door_met_spellOne os _)) ?_
  intro W base args ds gs before hval0 hW _ _ hL _
  have hval : ∀ (j : Nat) t v, Tryd.f5.params[j]? = some t → args[j]? = some v → Value.okWide Tryd.prog W .any base t v := hval0
  have hW' := hW
  obtain ⟨p, q, hA0, hV, rfl, hfz, hnd⟩ := hW
  have hA : DataW.TrodAll enc Tryd.prog W 0 (fun _ => true) true Tryd.f5.params.toList args.toList ds p := hA0
  rw [Tryd.params5] at hA hval
  rw [MakeChecks.laidMetH_plain _ _ _ (by kernel_rfl)] at hL
  obtain ⟨E, hE, -, -, -⟩ := errs_spellOne hL
  have hT : Two W (.pointer (some (E 0))) (.pointer (some (E 1))) := ⟨hE 0 (by decide), hE 1 (by decide)⟩
  obtain ⟨v0, v1, d0, d1, p0, p1, rfl, rfl, rfl, h0, h1⟩ := trodAll_two hA
  obtain ⟨rfl, rfl⟩ := trodVars_none hV
  have k0 := h0
  have k1 := h1
  have lt0 : ∀ x ∈ p0, x.block < W.heap.size := by obtain ⟨m, hm⟩ := k0; exact DataW.trod_lt m _ _ _ hm
  have lt1 : ∀ x ∈ p1, x.block < W.heap.size := by obtain ⟨m, hm⟩ := k1; exact DataW.trod_lt m _ _ _ hm
  obtain ⟨a0, c0, l0, rfl, hs0, hn0⟩ := open_bytes (hval 0 34 v0 rfl rfl) h0
  obtain ⟨a1, c1, l1, rfl, hs1, hn1⟩ := open_bytes (hval 1 34 v1 rfl rfl) h1
  clear hA0 hval0
  refine (spellOne_in hs0 hs1 hn0 hn1 hT).mono fun e W' ⟨he, bel⟩ => ?_
  subst he
  exact ⟨_, rfl, _, _, _, [], _, [], hW', trodAll_mk1 (shut_bool Tryd.underlying4 _),
    (trodAll_cons_mk (Below.trod laidOut (by kernel_rfl) (of_decide_eq_true (by kernel_rfl)) k0 bel lt0) (trodAll_cons_mk (Below.trod laidOut (by kernel_rfl) (of_decide_eq_true (by kernel_rfl)) k1 bel lt1) trodAll_mk0)), rfl, bel.frame _, fun h => by cases h⟩

theorem spellOne_row : Rows.SpellOneSaid :=
  OpenClaim.holds_of_wide 5 Tryd.f5 rfl rfl rfl rfl rfl rfl rfl ⟨rfl, rfl, rfl, rfl, rfl⟩ rfl rfl rfl rfl rfl (by kernel_rfl) Tryd.func5 (by kernel_rfl)
    (of_decide_eq_true (by kernel_rfl)) (by unfold Func.isWrapper; first | (rw [if_pos (by decide +kernel)]; kernel_rfl) | (rw [if_neg (by decide +kernel)]; exact ⟨rfl, rfl⟩))
    (fun os started H enc _ => lifted_spellOne os started H enc)

theorem spellOne_holds : Rows.SpellOneCardSaid :=
  Claim7.holds_tied_plain_at .later [] [.sentinel, .sentinel] true (true, "d6f025a52ff3ff311231d4584b56e9a61bb787005382d8c411e77065bd92fca2") true
    spellOne_row (fun _ h => by cases h) (by kernel_rfl) (fun _ h => by cases h) spellOne_row_tie rfl ⟨rfl, rfl⟩ (by kernel_rfl) rfl
    (fun f fn hf hfn => by
      obtain rfl : f = 5 := Option.some.inj ((show Tryd.prog.funcNamed "doffer/dofferlaw05.SpellOne" = some 5 by kernel_rfl).symm.trans hf) |>.symm
      obtain rfl : fn = Tryd.f5 := (Option.some.inj (Tryd.func5.symm.trans hfn)).symm
      exact ⟨by kernel_rfl, fun j t ht => by
        rw [Tryd.params5] at ht
        have hm : t ∈ [34, 34] := by simpa using Array.mem_of_getElem? ht
        have hall : ([34, 34].all fun u => !Tryd.prog.wantsStandIn u) = true := by kernel_rfl
        exact (show Tryd.prog.wantsStandIn t = false by simpa using List.all_eq_true.1 hall t hm)⟩)
    (by kernel_rfl)
#print axioms spellOne_holds
end Go.Proofs.YtgkjjcnopkiogaaDoor
