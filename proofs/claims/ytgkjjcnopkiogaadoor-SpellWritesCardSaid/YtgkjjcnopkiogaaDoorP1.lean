/- SpellWrites: the given card: for every byte and every two strings the law returns true and leaves them as they were. -/
import Derived.Test.YtgkjjcnopkiogaaDoorRows
import Derived.Test.YtgkjjcnopkiogaaDoorTie
import Derived.Test.YtgkjjcnopkiogaaDoorCards
import Derived.Test.YtgkjjcnopkiogaaDoorW7
import Derived.Test.YtgkjjcnopkiogaaDoorLP
import Derived.SevenTiedAt
import Derived.ChangeMaps5
namespace Go.Proofs.YtgkjjcnopkiogaaDoor
open Go.ChangeShapes Go.WideShapes Go.ChangeAt Go.WideMaps Go.WideElems Go.RowKit

def sent_spellWrites : List (String × DataW Unit) := [("doffer/api.ErrShort", Rows.laid_doffer_api_ErrShort), ("doffer/api.ErrForm", Rows.laid_doffer_api_ErrForm)]
def ord_spellWrites (k : Nat) : Nat := [0, 3].getD k 0
theorem sent_text_spellWrites : ∀ x ∈ sent_spellWrites, ∃ text, x.2 = .iface "*errors.errorString" (.ptr (.agg [.lit (.string text)])) := by
  intro x hx
  simp only [sent_spellWrites, List.mem_cons, List.not_mem_nil, or_false] at hx
  rcases hx with rfl | rfl <;> exact ⟨_, rfl⟩
theorem sent_at_spellWrites : ∀ k, k < 2 → ∃ x, sent_spellWrites[k]? = some x ∧ Tryd.prog.globalNamed x.1 = some (ord_spellWrites k) ∧ (Tryd.prog.globals[ord_spellWrites k]?).map (·.type) = some 26 := by
  intro k hk
  match k, hk with
  | 0, _ => exact ⟨_, rfl, by kernel_rfl, by kernel_rfl⟩
  | 1, _ => exact ⟨_, rfl, by kernel_rfl, by kernel_rfl⟩
  | n + 2, h => omega
theorem errs_spellWrites {W : World} (h : laidMet Tryd.prog (sent_spellWrites ++ []) W) : ∃ A : Nat → Addr, (∀ k, k < 2 → W.cell? ⟨ord_spellWrites k, 0, none⟩ = some (.iface 68 (.pointer (some (A k))))) ∧ (∀ i j, i < j → j < 2 → A i ≠ A j) ∧ (∀ k, k < 2 → ∃ c t, W.heap[(A k).block]? = some (.cells c t (0, 0))) ∧ ∃ q, DataW.LaidVars Tryd.prog W [] q := by
  obtain ⟨ps, hv, hnd, hrows⟩ := h
  have hg : ∀ x ∈ sent_spellWrites, ∃ g, Tryd.prog.globalNamed x.1 = some g ∧ (Tryd.prog.globals[g]?).map (·.type) = some 26 := by
    intro x hx
    obtain ⟨k, hk, rfl⟩ := List.getElem_of_mem hx
    obtain ⟨y, h1, h2, h3⟩ := sent_at_spellWrites k (by simpa [sent_spellWrites] using hk)
    rw [List.getElem?_eq_getElem hk] at h1
    cases h1
    exact ⟨_, h2, h3⟩
  obtain ⟨al, hl, hvar, hsub, hcell, q, hq⟩ := sentinels Tryd.underlying26 row60 Tryd.underlying68 Tryd.underlying92 rfl rfl Tryd.underlying9 cells85 cells9 sent_spellWrites ps sent_text_spellWrites hg hv hrows
  have hl18 : al.length = 2 := hl
  refine ⟨fun k => al.getD k ⟨0, 0, none⟩, ?_, ?_, ?_, q, hq⟩
  · intro k hk
    obtain ⟨x, h1, h2, _⟩ := sent_at_spellWrites k hk
    have ha : al[k]? = some (al.getD k ⟨0, 0, none⟩) := by
      rw [List.getElem?_eq_getElem (by omega), getD_at (by omega)]
    obtain ⟨g, hg1, hc⟩ := hvar k x _ h1 ha
    obtain rfl := Option.some.inj (h2.symm.trans hg1)
    exact hc
  · intro i j hij hj e
    have hn := hnd.sublist hsub
    rw [List.nodup_iff_pairwise_ne, List.pairwise_iff_getElem] at hn
    have := hn i j (by simp; omega) (by simp; omega) hij
    apply this
    dsimp only at e
    rw [getD_at (by omega), getD_at (by omega)] at e
    simp only [List.getElem_map, e]
  · intro k hk
    exact hcell _ (by dsimp only; rw [getD_at (by omega)]; exact List.getElem_mem _)
theorem door_met_spellWrites (os : Os) (args : Array Value) : laidMetH Tryd.prog Rows.spellWritesRow.laid ((World.doorLaid Tryd.prog 400 os).forCall (fun _ _ => 0) ⟨#[], args, []⟩).memory :=
  laidMetH_of_parts3 (fuel := 8) (laidMet_of_run' 8 (by kernel_rfl) (by kernel_rfl)) (by kernel_rfl) (by kernel_rfl)
set_option maxRecDepth 100000 in
theorem lifted_spellWrites (os : Os) (started : os.Started) (H : Type) (enc : TypeId × Value → H) :
    ReturnsInHanded {} Tryd.checked os 3 .any (fun w args => (Rows.spellWritesSpec.pre enc Tryd.prog Tryd.f3 [] false w args ∧ laidMetH Tryd.prog Rows.spellWritesRow.laid w) ∧ sizedMet enc Tryd.prog Tryd.f3 (OpenSpec.ofChange Rows.spellWritesSpec) false w args)
      (Rows.spellWritesSpec.post enc Tryd.prog Tryd.f3 false true false false) := by
  refine returnsInHanded_of_change_and (C := Tryd.checked) (X := fun w _ => laidMetH Tryd.prog Rows.spellWritesRow.laid w) (fun _ _ _ hh h => h.of_heap hh) own started (by kernel_rfl) Tryd.func3
    (ChangeSpec.witness_shaped (enc := enc) (C := Tryd.checked) (os := os) (X := fun w _ => laidMetH Tryd.prog Rows.spellWritesRow.laid w) false (World.doorLaid Tryd.prog 400 os) #[.int .u8 0, .string ⟨#[]⟩, .string ⟨#[]⟩] 8 rfl (World.shaped_of_RefB (by kernel_rfl) (by kernel_rfl)) (by kernel_rfl) (by kernel_rfl) (by kernel_rfl) (door_met_spellWrites os _)) ?_
  intro W base args ds gs before hval0 hW _ _ hL _
  have hval : ∀ (j : Nat) t v, Tryd.f3.params[j]? = some t → args[j]? = some v → Value.okWide Tryd.prog W .any base t v := hval0
  have hW' := hW
  obtain ⟨p, q, hA0, hV, rfl, hfz, hnd⟩ := hW
  have hA : DataW.TrodAll enc Tryd.prog W 0 (fun _ => true) true Tryd.f3.params.toList args.toList ds p := hA0
  rw [Tryd.params3] at hA hval
  rw [MakeChecks.laidMetH_plain _ _ _ (by kernel_rfl)] at hL
  obtain ⟨E, hE, -, -, -⟩ := errs_spellWrites hL
  have hT : Two W (.pointer (some (E 0))) (.pointer (some (E 1))) := ⟨hE 0 (by decide), hE 1 (by decide)⟩
  obtain ⟨v0, v1, v2, d0, d1, d2, p0, p1, p2, rfl, rfl, rfl, h0, h1, h2⟩ := trodAll_three hA
  obtain ⟨rfl, rfl⟩ := trodVars_none hV
  obtain ⟨by_, rfl, rfl, rfl, wb⟩ := open_int Tryd.underlying5 (hval 0 5 v0 rfl rfl) h0
  obtain ⟨s1, rfl, rfl, rfl, ws1⟩ := Go.ChangeMaps.open_string Tryd.underlying9 (hval 1 9 v1 rfl rfl) h1
  obtain ⟨s2, rfl, rfl, rfl, ws2⟩ := Go.ChangeMaps.open_string Tryd.underlying9 (hval 2 9 v2 rfl rfl) h2
  have bb := bounds_u8 wb
  obtain ⟨bn, rfl⟩ := Int.eq_ofNat_of_zero_le bb.1
  clear hA0 hval0
  refine (spellWrites_in (by omega) ws1 ws2 W hT).mono fun e W' ⟨he, bel⟩ => ?_
  subst he
  exact ⟨_, rfl, _, _, _, [], _, [], hW', trodAll_mk1 (shut_bool Tryd.underlying4 _),
    (trodAll_cons_mk (shut_int Tryd.underlying5 wb) (trodAll_cons_mk (Go.ChangeMaps.shut_string Tryd.underlying9 ws1) (trodAll_cons_mk (Go.ChangeMaps.shut_string Tryd.underlying9 ws2) trodAll_mk0))), rfl, bel.frame _, fun h => by cases h⟩

theorem spellWrites_row : Rows.SpellWritesSaid :=
  OpenClaim.holds_of_wide 3 Tryd.f3 rfl rfl rfl rfl rfl rfl rfl ⟨rfl, rfl, rfl, rfl, rfl⟩ rfl rfl rfl rfl rfl (by kernel_rfl) Tryd.func3 (by kernel_rfl)
    (of_decide_eq_true (by kernel_rfl)) (by unfold Func.isWrapper; first | (rw [if_pos (by decide +kernel)]; kernel_rfl) | (rw [if_neg (by decide +kernel)]; exact ⟨rfl, rfl⟩))
    (fun os started H enc _ => lifted_spellWrites os started H enc)

theorem spellWrites_holds : Rows.SpellWritesCardSaid :=
  Claim7.holds_tied_plain_at .later [] [.sentinel, .sentinel] true (true, "d6f025a52ff3ff311231d4584b56e9a61bb787005382d8c411e77065bd92fca2") true
    spellWrites_row (fun _ h => by cases h) (by kernel_rfl) (fun _ h => by cases h) spellWrites_row_tie rfl ⟨rfl, rfl⟩ (by kernel_rfl) rfl
    (fun f fn hf hfn => by
      obtain rfl : f = 3 := Option.some.inj ((show Tryd.prog.funcNamed "doffer/dofferlaw05.SpellWrites" = some 3 by kernel_rfl).symm.trans hf) |>.symm
      obtain rfl : fn = Tryd.f3 := (Option.some.inj (Tryd.func3.symm.trans hfn)).symm
      exact ⟨by kernel_rfl, fun j t ht => by
        rw [Tryd.params3] at ht
        have hm : t ∈ [5, 9, 9] := by simpa using Array.mem_of_getElem? ht
        have hall : ([5, 9, 9].all fun u => !Tryd.prog.wantsStandIn u) = true := by kernel_rfl
        exact (show Tryd.prog.wantsStandIn t = false by simpa using List.all_eq_true.1 hall t hm)⟩)
    (by kernel_rfl)
#print axioms spellWrites_holds
end Go.Proofs.YtgkjjcnopkiogaaDoor
