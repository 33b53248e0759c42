/- BracketsText: the given card: for every set and every two strings the law returns true and leaves them as they were. -/
import Derived.Test.YtaahefhiiggagaaDoorRows
import Derived.Test.YtaahefhiiggagaaDoorTie
import Derived.Test.YtaahefhiiggagaaDoorCards
import Derived.Test.YtaahefhiiggagaaDoorP2
import Derived.Test.YtaahefhiiggagaaDoorW14
import Derived.Test.YtaahefhiiggagaaDoorLP
import Derived.SevenTiedAt
import Derived.ChangeMaps5
namespace Go.Proofs.YtaahefhiiggagaaDoor
open Go.ChangeShapes Go.WideShapes Go.ChangeAt Go.WideMaps Go.WideElems Go.RowKit

def sent_bracketsText : List (String × DataW Unit) := [("doffer/api.ErrRange", Rows.laid_doffer_api_ErrRange), ("doffer/api.ErrShort", Rows.laid_doffer_api_ErrShort), ("doffer/api.ErrForm", Rows.laid_doffer_api_ErrForm)]
def ord_bracketsText (k : Nat) : Nat := [2, 0, 1].getD k 0
theorem sent_text_bracketsText : ∀ x ∈ sent_bracketsText, ∃ text, x.2 = .iface "*errors.errorString" (.ptr (.agg [.lit (.string text)])) := by
  intro x hx
  simp only [sent_bracketsText, List.mem_cons, List.not_mem_nil, or_false] at hx
  rcases hx with rfl | rfl | rfl <;> exact ⟨_, rfl⟩
theorem sent_at_bracketsText : ∀ k, k < 3 → ∃ x, sent_bracketsText[k]? = some x ∧ Tryd.prog.globalNamed x.1 = some (ord_bracketsText k) ∧ (Tryd.prog.globals[ord_bracketsText k]?).map (·.type) = some 28 := by
  intro k hk
  match k, hk with
  | 0, _ => exact ⟨_, rfl, by kernel_rfl, by kernel_rfl⟩
  | 1, _ => exact ⟨_, rfl, by kernel_rfl, by kernel_rfl⟩
  | 2, _ => exact ⟨_, rfl, by kernel_rfl, by kernel_rfl⟩
  | n + 3, h => omega
theorem parts_bracketsText {W : World} (h : laidMetH Tryd.prog Rows.bracketsTextRow.laid W) : S1.Tab W ∧ ∃ A : Nat → Addr, ∀ k, k < 3 → W.cell? ⟨ord_bracketsText k, 0, none⟩ = some (.iface 105 (.pointer (some (A k)))) := by
  rw [MakeChecks.laidMetH_plain _ _ _ (by kernel_rfl)] at h
  obtain ⟨ps, ⟨g0, t0, cs0, f0, p0, q0, hg0, ht0, hv0, hd0, hr, e0⟩, hnd, hrows⟩ := h
  obtain rfl := Option.some.inj (gTab.symm.trans hg0)
  obtain rfl := Option.some.inj (tTab.symm.trans ht0)
  refine ⟨?_, ?_⟩
  · obtain ⟨xs, m1, rfl, hx1, hlen, hn, hel⟩ := DataW.trod_array uTab hd0
    simp only [Prod.mk.injEq] at hx1
    have hd : (xs.map (·.1)) = tabL.map fun n : Nat => (DataW.lit (.int .u8 (n : Int)) : DataW _) := by
      have := hx1.1
      simp only [Rows.laid_math_bits_deBruijn64tab, DataW.agg.injEq] at this
      rw [← this]
      rfl
    have cells : ∀ i : Nat, i < 64 → ∀ n : Nat, tabL[i]? = some n → W.cell? ⟨18, i, none⟩ = some (.int .u8 (n : Int)) := by
      intro i hi n hin
      have h1 := hel i hi
      have hxi : (xs.map (·.1))[i]? = some (.lit (.int .u8 (n : Int))) := by rw [hd]; simp [hin]
      rw [List.getElem?_map] at hxi
      cases hx : xs[i]? with
      | none => rw [hx] at hxi; cases hxi
      | some y =>
        rw [hx] at h1 hxi
        simp only [Option.map_some, Option.some.injEq] at hxi
        obtain ⟨k, e1, e2, _⟩ := DataW.trod_int uB1 h1
        rw [e2] at hxi
        have hk : k = (n : Int) := by simpa using hxi
        subst hk
        rw [World.var?_cell gTab hv0 i]
        rw [cB1] at e1
        have e3 : ((cs0.toList.drop (i * 1)).take 1)[0]? = some (.int .u8 (n : Int)) := by rw [e1]; rfl
        rw [List.getElem?_take, List.getElem?_drop] at e3
        simpa using e3
    exact ⟨World.block_lt_of_cell? _ _ (cells 0 (by decide) 0 (by decide)), fun t ht => cells _ (S1.idx_lt t ht) t (tab_ix t ht)⟩
  · have hg : ∀ x ∈ sent_bracketsText, ∃ g, Tryd.prog.globalNamed x.1 = some g ∧ (Tryd.prog.globals[g]?).map (·.type) = some 28 := by
      intro x hx
      obtain ⟨k, hk, rfl⟩ := List.getElem_of_mem hx
      obtain ⟨y, h1, h2, h3⟩ := sent_at_bracketsText k (by simpa [sent_bracketsText] using hk)
      rw [List.getElem?_eq_getElem hk] at h1
      cases h1
      exact ⟨_, h2, h3⟩
    obtain ⟨al, hl, hvar, -, -, -⟩ := sentinels Tryd.underlying28 row60 Tryd.underlying105 Tryd.underlying128 rfl rfl Tryd.underlying9 cells85 cells9 sent_bracketsText q0 sent_text_bracketsText hg (rest := []) (by simpa [sent_bracketsText] using hr) (fun b off hb => hrows b off (by subst e0; simp [hb]))
    have hl3 : al.length = 3 := hl
    refine ⟨fun k => al.getD k ⟨0, 0, none⟩, fun k hk => ?_⟩
    obtain ⟨x, h1, h2, _⟩ := sent_at_bracketsText k (by simpa [sent_bracketsText] using hk)
    have ha : al[k]? = some (al.getD k ⟨0, 0, none⟩) := by
      rw [List.getElem?_eq_getElem (by omega), getD_at (by omega)]
    obtain ⟨g, hg1, hc⟩ := hvar k x _ h1 ha
    obtain rfl := Option.some.inj (h2.symm.trans hg1)
    exact hc
theorem door_met_bracketsText (os : Os) (args : Array Value) : laidMetH Tryd.prog Rows.bracketsTextRow.laid ((World.doorLaid Tryd.prog 400 os).forCall (fun _ _ => 0) ⟨#[], args, []⟩).memory :=
  laidMetH_of_parts3 (fuel := 8) (laidMet_of_run' 8 (by kernel_rfl) (by kernel_rfl)) (by kernel_rfl) (by kernel_rfl)
set_option maxRecDepth 100000 in
theorem lifted_bracketsText (os : Os) (started : os.Started) (H : Type) (enc : TypeId × Value → H) :
    ReturnsInHanded {} Tryd.checked os 3 .any (fun w args => (Rows.bracketsTextSpec.pre enc Tryd.prog Tryd.f3 [] false w args ∧ laidMetH Tryd.prog Rows.bracketsTextRow.laid w) ∧ sizedMet enc Tryd.prog Tryd.f3 (OpenSpec.ofChange Rows.bracketsTextSpec) false w args)
      (Rows.bracketsTextSpec.post enc Tryd.prog Tryd.f3 false true false false) := by
  refine returnsInHanded_of_change_and (C := Tryd.checked) (X := fun w _ => laidMetH Tryd.prog Rows.bracketsTextRow.laid w) (fun _ _ _ hh h => h.of_heap hh) own started (by kernel_rfl) Tryd.func3
    (ChangeSpec.witness_shaped (enc := enc) (C := Tryd.checked) (os := os) (X := fun w _ => laidMetH Tryd.prog Rows.bracketsTextRow.laid w) false (World.doorLaid Tryd.prog 400 os) #[.agg #[.int .u64 0, .int .u64 0, .int .u64 0, .int .u64 0], .string ⟨#[]⟩, .string ⟨#[]⟩] 8 rfl (World.shaped_of_RefB (by kernel_rfl) (by kernel_rfl)) (by kernel_rfl) (by kernel_rfl) (by kernel_rfl) (door_met_bracketsText os _)) ?_
  intro W base args ds gs before hval0 hW _ _ hL _
  have hval : ∀ (j : Nat) t v, Tryd.f3.params[j]? = some t → args[j]? = some v → Value.okWide Tryd.prog W .any base t v := hval0
  have hW' := hW
  obtain ⟨p, q, hA0, hV, rfl, hfz, hnd⟩ := hW
  have hA : DataW.TrodAll enc Tryd.prog W 0 (fun _ => true) true Tryd.f3.params.toList args.toList ds p := hA0
  rw [Tryd.params3] at hA hval
  obtain ⟨hTab, E, hE⟩ := parts_bracketsText hL
  have hT : Thr W (.pointer (some (E 0))) (.pointer (some (E 1))) (.pointer (some (E 2))) := ⟨⟨hE 1 (by decide), hE 2 (by decide)⟩, hE 0 (by decide)⟩
  obtain ⟨v0, v1, v2, d0, d1, d2, p0, p1, p2, rfl, rfl, rfl, h0, h1, h2⟩ := trodAll_three hA
  obtain ⟨rfl, rfl⟩ := trodVars_none hV
  have k0 := h0
  have lt0 : ∀ x ∈ p0, x.block < W.heap.size := by obtain ⟨m, hm⟩ := k0; exact DataW.trod_lt m _ _ _ hm
  obtain ⟨f, rfl⟩ := open_set (hval 0 24 v0 rfl rfl) h0
  obtain ⟨s1, rfl, rfl, rfl, ws1⟩ := Go.ChangeMaps.open_string Tryd.underlying9 (hval 1 9 v1 rfl rfl) h1
  obtain ⟨s2, rfl, rfl, rfl, ws2⟩ := Go.ChangeMaps.open_string Tryd.underlying9 (hval 2 9 v2 rfl rfl) h2
  clear hA0 hval0
  refine (bracketsText_in f ws1 ws2 W hT hTab).mono fun e W' ⟨he, bel⟩ => ?_
  subst he
  exact ⟨_, rfl, _, _, _, [], _, [], hW', trodAll_mk1 (shut_bool Tryd.underlying4 _),
    (trodAll_cons_mk (Below.trod laidOut (by kernel_rfl) (of_decide_eq_true (by kernel_rfl)) k0 bel lt0) (trodAll_cons_mk (Go.ChangeMaps.shut_string Tryd.underlying9 ws1) (trodAll_cons_mk (Go.ChangeMaps.shut_string Tryd.underlying9 ws2) trodAll_mk0))), rfl, bel.frame _, fun h => by cases h⟩

theorem bracketsText_row : Rows.BracketsTextSaid :=
  OpenClaim.holds_of_wide 3 Tryd.f3 rfl rfl rfl rfl rfl rfl rfl ⟨rfl, rfl, rfl, rfl, rfl⟩ rfl rfl rfl rfl rfl (by kernel_rfl) Tryd.func3 (by kernel_rfl)
    (of_decide_eq_true (by kernel_rfl)) (by unfold Func.isWrapper; first | (rw [if_pos (by decide +kernel)]; kernel_rfl) | (rw [if_neg (by decide +kernel)]; exact ⟨rfl, rfl⟩))
    (fun os started H enc _ => lifted_bracketsText os started H enc)

theorem bracketsText_holds : Rows.BracketsTextCardSaid :=
  Claim7.holds_tied_plain_at .later [] [.data, .sentinel, .sentinel, .sentinel] true (true, "0a7bd172bc3975452a81052ba6c4213bbfcce6e5f323e2549c47d392486898ba") true
    bracketsText_row (fun _ h => by cases h) (by kernel_rfl) (fun _ h => by cases h) bracketsText_row_tie rfl ⟨rfl, rfl⟩ (by kernel_rfl) rfl
    (fun f fn hf hfn => by
      obtain rfl : f = 3 := Option.some.inj ((show Tryd.prog.funcNamed "doffer/dofferlaw06.BracketsText" = some 3 by kernel_rfl).symm.trans hf) |>.symm
      obtain rfl : fn = Tryd.f3 := (Option.some.inj (Tryd.func3.symm.trans hfn)).symm
      exact ⟨by kernel_rfl, fun j t ht => by
        rw [Tryd.params3] at ht
        have hm : t ∈ [24, 9, 9] := by simpa using Array.mem_of_getElem? ht
        have hall : ([24, 9, 9].all fun u => !Tryd.prog.wantsStandIn u) = true := by kernel_rfl
        exact (show Tryd.prog.wantsStandIn t = false by simpa using List.all_eq_true.1 hall t hm)⟩)
    (by kernel_rfl)
#print axioms bracketsText_holds
end Go.Proofs.YtaahefhiiggagaaDoor
