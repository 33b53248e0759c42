/- RegexParses: the given card: for every string the law returns true and leaves it as it was. -/
import Derived.Test.YtjlmeegaiagfpaaDoorRows
import Derived.Test.YtjlmeegaiagfpaaDoorTie
import Derived.Test.YtjlmeegaiagfpaaDoorCards
import Derived.Test.YtjlmeegaiagfpaaDoorW50
import Derived.Test.YtjlmeegaiagfpaaDoorLP
import Derived.SevenTiedAt
import Derived.ChangeMaps5
namespace Go.Proofs.YtjlmeegaiagfpaaDoor
open Go.ChangeShapes Go.WideShapes Go.ChangeAt Go.WideMaps Go.WideElems Go.RowKit

def sent_regexParses : List (String × DataW Unit) := [("doffer/api.ErrRange", Rows.laid_doffer_api_ErrRange), ("doffer/api.ErrShort", Rows.laid_doffer_api_ErrShort), ("doffer/api.ErrLong", Rows.laid_doffer_api_ErrLong), ("doffer/api.ErrForm", Rows.laid_doffer_api_ErrForm), ("doffer/api.ErrName", Rows.laid_doffer_api_ErrName), ("doffer/api.ErrDup", Rows.laid_doffer_api_ErrDup), ("doffer/api.ErrDepth", Rows.laid_doffer_api_ErrDepth), ("doffer/api.ErrLoop", Rows.laid_doffer_api_ErrLoop), ("doffer/api.ErrLimit", Rows.laid_doffer_api_ErrLimit), ("doffer/api.ErrSum", Rows.laid_doffer_api_ErrSum), ("doffer/api.ErrVersion", Rows.laid_doffer_api_ErrVersion), ("doffer/api.ErrIndex", Rows.laid_doffer_api_ErrIndex), ("doffer/api.ErrFull", Rows.laid_doffer_api_ErrFull), ("doffer/api.ErrCredit", Rows.laid_doffer_api_ErrCredit), ("doffer/api.ErrNone", Rows.laid_doffer_api_ErrNone), ("doffer/api.ErrState", Rows.laid_doffer_api_ErrState), ("doffer/api.ErrParked", Rows.laid_doffer_api_ErrParked), ("doffer/api.ErrTag", Rows.laid_doffer_api_ErrTag)]
def ord_regexParses (k : Nat) : Nat := [3, 0, 4, 5, 6, 7, 1, 8, 2, 9, 10, 11, 12, 13, 14, 15, 16, 17].getD k 0
theorem sent_text_regexParses : ∀ x ∈ sent_regexParses, ∃ text, x.2 = .iface "*errors.errorString" (.ptr (.agg [.lit (.string text)])) := by
  intro x hx
  simp only [sent_regexParses, List.mem_cons, List.not_mem_nil, or_false] at hx
  rcases hx with rfl | rfl | rfl | rfl | rfl | rfl | rfl | rfl | rfl | rfl | rfl | rfl | rfl | rfl | rfl | rfl | rfl | rfl <;> exact ⟨_, rfl⟩
theorem sent_at_regexParses : ∀ k, k < 18 → ∃ x, sent_regexParses[k]? = some x ∧ Tryd.prog.globalNamed x.1 = some (ord_regexParses k) ∧ (Tryd.prog.globals[ord_regexParses k]?).map (·.type) = some 30 := by
  intro k hk
  match k, hk with
  | 0, _ => exact ⟨_, rfl, by kernel_rfl, by kernel_rfl⟩
  | 1, _ => exact ⟨_, rfl, by kernel_rfl, by kernel_rfl⟩
  | 2, _ => exact ⟨_, rfl, by kernel_rfl, by kernel_rfl⟩
  | 3, _ => exact ⟨_, rfl, by kernel_rfl, by kernel_rfl⟩
  | 4, _ => exact ⟨_, rfl, by kernel_rfl, by kernel_rfl⟩
  | 5, _ => exact ⟨_, rfl, by kernel_rfl, by kernel_rfl⟩
  | 6, _ => exact ⟨_, rfl, by kernel_rfl, by kernel_rfl⟩
  | 7, _ => exact ⟨_, rfl, by kernel_rfl, by kernel_rfl⟩
  | 8, _ => exact ⟨_, rfl, by kernel_rfl, by kernel_rfl⟩
  | 9, _ => exact ⟨_, rfl, by kernel_rfl, by kernel_rfl⟩
  | 10, _ => exact ⟨_, rfl, by kernel_rfl, by kernel_rfl⟩
  | 11, _ => exact ⟨_, rfl, by kernel_rfl, by kernel_rfl⟩
  | 12, _ => exact ⟨_, rfl, by kernel_rfl, by kernel_rfl⟩
  | 13, _ => exact ⟨_, rfl, by kernel_rfl, by kernel_rfl⟩
  | 14, _ => exact ⟨_, rfl, by kernel_rfl, by kernel_rfl⟩
  | 15, _ => exact ⟨_, rfl, by kernel_rfl, by kernel_rfl⟩
  | 16, _ => exact ⟨_, rfl, by kernel_rfl, by kernel_rfl⟩
  | 17, _ => exact ⟨_, rfl, by kernel_rfl, by kernel_rfl⟩
  | n + 18, h => omega
theorem errs_regexParses {W : World} (h : laidMet Tryd.prog (sent_regexParses ++ []) W) : ∃ A : Nat → Addr, (∀ k, k < 18 → W.cell? ⟨ord_regexParses k, 0, none⟩ = some (.iface 139 (.pointer (some (A k))))) ∧ (∀ i j, i < j → j < 18 → A i ≠ A j) ∧ (∀ k, k < 18 → ∃ c t, W.heap[(A k).block]? = some (.cells c t (0, 0))) ∧ ∃ q, DataW.LaidVars Tryd.prog W [] q := by
  obtain ⟨ps, hv, hnd, hrows⟩ := h
  have hg : ∀ x ∈ sent_regexParses, ∃ g, Tryd.prog.globalNamed x.1 = some g ∧ (Tryd.prog.globals[g]?).map (·.type) = some 30 := by
    intro x hx
    obtain ⟨k, hk, rfl⟩ := List.getElem_of_mem hx
    obtain ⟨y, h1, h2, h3⟩ := sent_at_regexParses k (by simpa [sent_regexParses] using hk)
    rw [List.getElem?_eq_getElem hk] at h1
    cases h1
    exact ⟨_, h2, h3⟩
  obtain ⟨al, hl, hvar, hsub, hcell, q, hq⟩ := sentinels Tryd.underlying30 row60 Tryd.underlying139 Tryd.underlying164 rfl rfl Tryd.underlying9 cells85 cells9 sent_regexParses ps sent_text_regexParses hg hv hrows
  have hl18 : al.length = 18 := hl
  refine ⟨fun k => al.getD k ⟨0, 0, none⟩, ?_, ?_, ?_, q, hq⟩
  · intro k hk
    obtain ⟨x, h1, h2, _⟩ := sent_at_regexParses k hk
    have ha : al[k]? = some (al.getD k ⟨0, 0, none⟩) := by
      rw [List.getElem?_eq_getElem (by omega), getD_at (by omega)]
    obtain ⟨g, hg1, hc⟩ := hvar k x _ h1 ha
    obtain rfl := Option.some.inj (h2.symm.trans hg1)
    exact hc
  · intro i j hij hj e
    have hn := hnd.sublist hsub
    rw [List.nodup_iff_pairwise_ne, List.pairwise_iff_getElem] at hn
    have := hn i j (by simp; omega) (by simp; omega) hij
    apply this
    dsimp only at e
    rw [getD_at (by omega), getD_at (by omega)] at e
    simp only [List.getElem_map, e]
  · intro k hk
    exact hcell _ (by dsimp only; rw [getD_at (by omega)]; exact List.getElem_mem _)
theorem errs18_regexParses {W : World} (h : laidMet Tryd.prog (sent_regexParses ++ []) W) : (∃ A, Errs W A) ∧ ∃ q, DataW.LaidVars Tryd.prog W [] q := by
  obtain ⟨A, h1, h2, h3, h4⟩ := errs_regexParses h
  exact ⟨⟨A, ⟨h1, h2, h3⟩⟩, h4⟩
theorem door_met_regexParses (os : Os) (args : Array Value) : laidMetH Tryd.prog Rows.regexParsesRow.laid ((World.doorLaid Tryd.prog 400 os).forCall (fun _ _ => 0) ⟨#[], args, []⟩).memory :=
  laidMetH_of_parts3 (fuel := 8) (laidMet_of_run' 8 (by kernel_rfl) (by kernel_rfl)) (by kernel_rfl) (by kernel_rfl)
set_option maxRecDepth 100000 in
theorem lifted_regexParses (os : Os) (started : os.Started) (H : Type) (enc : TypeId × Value → H) :
    ReturnsInHanded {} Tryd.checked os 3 .any (fun w args => (Rows.regexParsesSpec.pre enc Tryd.prog Tryd.f3 [] false w args ∧ laidMetH Tryd.prog Rows.regexParsesRow.laid w) ∧ sizedMet enc Tryd.prog Tryd.f3 (OpenSpec.ofChange Rows.regexParsesSpec) false w args)
      (Rows.regexParsesSpec.post enc Tryd.prog Tryd.f3 false true false false) := by
  refine returnsInHanded_of_change_and (C := Tryd.checked) (X := fun w _ => laidMetH Tryd.prog Rows.regexParsesRow.laid w) (fun _ _ _ hh h => h.of_heap hh) own started (by kernel_rfl) Tryd.func3
    (ChangeSpec.witness_shaped (enc := enc) (C := Tryd.checked) (os := os) (X := fun w _ => laidMetH Tryd.prog Rows.regexParsesRow.laid w) false (World.doorLaid Tryd.prog 400 os) #[.string ⟨#[]⟩] 8 rfl (World.shaped_of_RefB (by kernel_rfl) (by kernel_rfl)) (by kernel_rfl) (by kernel_rfl) (by kernel_rfl) (door_met_regexParses os _)) ?_
  intro W base args ds gs before hval0 hW _ _ hL _
  have hval : ∀ (j : Nat) t v, Tryd.f3.params[j]? = some t → args[j]? = some v → Value.okWide Tryd.prog W .any base t v := hval0
  have hW' := hW
  obtain ⟨p, q, hA0, hV, rfl, hfz, hnd⟩ := hW
  have hA : DataW.TrodAll enc Tryd.prog W 0 (fun _ => true) true Tryd.f3.params.toList args.toList ds p := hA0
  rw [Tryd.params3] at hA hval
  rw [MakeChecks.laidMetH_plain _ _ _ (by kernel_rfl)] at hL
  obtain ⟨⟨E, hE⟩, -⟩ := errs18_regexParses hL
  obtain ⟨v0, d0, rfl, rfl, h0⟩ := trodAll_one hA
  obtain ⟨rfl, rfl⟩ := trodVars_none hV
  obtain ⟨s1, rfl, rfl, rfl, ws1⟩ := Go.ChangeMaps.open_string Tryd.underlying9 (hval 0 9 v0 rfl rfl) h0
  clear hA0 hval0
  refine (regexParses_in ws1 W hE).mono fun e W' ⟨he, bel⟩ => ?_
  subst he
  exact ⟨_, rfl, _, _, _, [], _, [], hW', trodAll_mk1 (shut_bool Tryd.underlying4 _),
    trodAll_mk1 (Go.ChangeMaps.shut_string Tryd.underlying9 ws1), rfl, bel.frame _, fun h => by cases h⟩

theorem regexParses_row : Rows.RegexParsesSaid :=
  OpenClaim.holds_of_wide 3 Tryd.f3 rfl rfl rfl rfl rfl rfl rfl ⟨rfl, rfl, rfl, rfl, rfl⟩ rfl rfl rfl rfl rfl (by kernel_rfl) Tryd.func3 (by kernel_rfl)
    (of_decide_eq_true (by kernel_rfl)) (by unfold Func.isWrapper; first | (rw [if_pos (by decide +kernel)]; kernel_rfl) | (rw [if_neg (by decide +kernel)]; exact ⟨rfl, rfl⟩))
    (fun os started H enc _ => lifted_regexParses os started H enc)

theorem regexParses_holds : Rows.RegexParsesCardSaid :=
  Claim7.holds_tied_plain_at .later [] [.sentinel, .sentinel, .sentinel, .sentinel, .sentinel, .sentinel, .sentinel, .sentinel, .sentinel, .sentinel, .sentinel, .sentinel, .sentinel, .sentinel, .sentinel, .sentinel, .sentinel, .sentinel] true (true, "7b98953a23ed8b8ba483a4e94dcc2e03c5b51ba045d9492f25184a479b5bfaa1") true
    regexParses_row (fun _ h => by cases h) (by kernel_rfl) (fun _ h => by cases h) regexParses_row_tie rfl ⟨rfl, rfl⟩ (by kernel_rfl) rfl
    (fun f fn hf hfn => by
      obtain rfl : f = 3 := Option.some.inj ((show Tryd.prog.funcNamed "doffer/dofferlaw08.RegexParses" = some 3 by kernel_rfl).symm.trans hf) |>.symm
      obtain rfl : fn = Tryd.f3 := (Option.some.inj (Tryd.func3.symm.trans hfn)).symm
      exact ⟨by kernel_rfl, fun j t ht => by
        rw [Tryd.params3] at ht
        have hm : t ∈ [9] := by simpa using Array.mem_of_getElem? ht
        have hall : ([9].all fun u => !Tryd.prog.wantsStandIn u) = true := by kernel_rfl
        exact (show Tryd.prog.wantsStandIn t = false by simpa using List.all_eq_true.1 hall t hm)⟩)
    (by kernel_rfl)
#print axioms regexParses_holds
end Go.Proofs.YtjlmeegaiagfpaaDoor
