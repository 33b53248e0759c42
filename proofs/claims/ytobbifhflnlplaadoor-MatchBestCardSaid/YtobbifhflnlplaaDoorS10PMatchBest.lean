/- MatchBest: the given card: for every tree the law returns true and leaves it as it was. -/
import Derived.Test.YtobbifhflnlplaaDoorRows
import Derived.Test.YtobbifhflnlplaaDoorTie
import Derived.Test.YtobbifhflnlplaaDoorCards
import Derived.Test.YtobbifhflnlplaaDoorBC
import Derived.Test.YtobbifhflnlplaaDoorPN
import Derived.SevenTiedAt
import Derived.ChangeMaps5
namespace Go.Proofs.YtobbifhflnlplaaDoor
open Go.ChangeShapes Go.WideShapes Go.ChangeAt Go.WideMaps Go.WideElems Go.RowKit

abbrev VA9 (A : Nat → Addr) : Nat → Value := fun e => .pointer (some (A (e - 1)))
def six6 (i : Nat) : Nat := if i = 0 then 0 else if i = 1 then 1 else if i = 3 then 2 else if i = 4 then 3 else if i = 6 then 4 else 5
def sent_matchBest : List (String × DataW Unit) := [("doffer/api.ErrRange", Rows.laid_doffer_api_ErrRange), ("doffer/api.ErrShort", Rows.laid_doffer_api_ErrShort), ("doffer/api.ErrForm", Rows.laid_doffer_api_ErrForm), ("doffer/api.ErrName", Rows.laid_doffer_api_ErrName), ("doffer/api.ErrDepth", Rows.laid_doffer_api_ErrDepth), ("doffer/api.ErrLimit", Rows.laid_doffer_api_ErrLimit)]
def ord_matchBest (k : Nat) : Nat := [4, 0, 3, 5, 1, 2].getD k 0
theorem sent_text_matchBest : ∀ x ∈ sent_matchBest, ∃ text, x.2 = .iface "*errors.errorString" (.ptr (.agg [.lit (.string text)])) := by
 intro x hx
 simp only [sent_matchBest, List.mem_cons, List.not_mem_nil, or_false] at hx
 rcases hx with rfl | rfl | rfl | rfl | rfl | rfl <;> exact ⟨_, rfl⟩
theorem sent_at_matchBest : ∀ k, k < 6 → ∃ x, sent_matchBest[k]? = some x ∧ Tryd.prog.globalNamed x.1 = some (ord_matchBest k) ∧ (Tryd.prog.globals[ord_matchBest k]?).map (·.type) = some 54 := by
 intro k hk
 match k, hk with
 | 0, _ => exact ⟨_, rfl, by kernel_rfl, by kernel_rfl⟩
 | 1, _ => exact ⟨_, rfl, by kernel_rfl, by kernel_rfl⟩
 | 2, _ => exact ⟨_, rfl, by kernel_rfl, by kernel_rfl⟩
 | 3, _ => exact ⟨_, rfl, by kernel_rfl, by kernel_rfl⟩
 | 4, _ => exact ⟨_, rfl, by kernel_rfl, by kernel_rfl⟩
 | 5, _ => exact ⟨_, rfl, by kernel_rfl, by kernel_rfl⟩
 | n + 6, h => omega
theorem errs_matchBest {W : World} (h : laidMet Tryd.prog (sent_matchBest ++ []) W) : ∃ A : Nat → Addr, (∀ k, k < 6 → W.cell? ⟨ord_matchBest k, 0, none⟩ = some (.iface 135 (.pointer (some (A k))))) ∧ (∀ i j, i < j → j < 6 → A i ≠ A j) ∧ (∀ k, k < 6 → ∃ c t, W.heap[(A k).block]? = some (.cells c t (0, 0))) ∧ ∃ q, DataW.LaidVars Tryd.prog W [] q := by
 obtain ⟨ps, hv, hnd, hrows⟩ := h
 have hg : ∀ x ∈ sent_matchBest, ∃ g, Tryd.prog.globalNamed x.1 = some g ∧ (Tryd.prog.globals[g]?).map (·.type) = some 54 := by
  intro x hx
  obtain ⟨k, hk, rfl⟩ := List.getElem_of_mem hx
  obtain ⟨y, h1, h2, h3⟩ := sent_at_matchBest k (by simpa [sent_matchBest] using hk)
  rw [List.getElem?_eq_getElem hk] at h1
  cases h1
  exact ⟨_, h2, h3⟩
 obtain ⟨al, hl, hvar, hsub, hcell, q, hq⟩ := sentinels Tryd.underlying54 row60 Tryd.underlying135 Tryd.underlying152 rfl rfl Tryd.underlying9 cells85 cells9 sent_matchBest ps sent_text_matchBest hg hv hrows
 have hl18 : al.length = 6 := hl
 refine ⟨fun k => al.getD k ⟨0, 0, none⟩, ?_, ?_, ?_, q, hq⟩
 ·intro k hk
  obtain ⟨x, h1, h2, _⟩ := sent_at_matchBest k hk
  have ha : al[k]? = some (al.getD k ⟨0, 0, none⟩) := by
   rw [List.getElem?_eq_getElem (by omega), getD_at (by omega)]
  obtain ⟨g, hg1, hc⟩ := hvar k x _ h1 ha
  obtain rfl := Option.some.inj (h2.symm.trans hg1)
  exact hc
 ·intro i j hij hj e
  have hn := hnd.sublist hsub
  rw [List.nodup_iff_pairwise_ne, List.pairwise_iff_getElem] at hn
  have := hn i j (by simp; omega) (by simp; omega) hij
  apply this
  dsimp only at e
  rw [getD_at (by omega), getD_at (by omega)] at e
  simp only [List.getElem_map, e]
 ·intro k hk
  exact hcell _ (by dsimp only; rw [getD_at (by omega)]; exact List.getElem_mem _)
theorem door_met_matchBest (os : Os) (args : Array Value) : laidMetH Tryd.prog Rows.matchBestRow.laid ((World.doorLaid Tryd.prog 400 os).forCall (fun _ _ => 0) ⟨#[], args, []⟩).memory :=
 laidMetH_of_parts3 (fuel := 8) (laidMet_of_run' 8 (by kernel_rfl) (by kernel_rfl)) (by kernel_rfl) (by kernel_rfl)
set_option maxRecDepth 100000 in
theorem lifted_matchBest (os : Os) (started : os.Started) (H : Type) (enc : TypeId × Value → H) :
  ReturnsInHanded {} Tryd.checked os 4 .any (fun w args => (Rows.matchBestSpec.pre enc Tryd.prog Tryd.f4 [] false w args ∧ laidMetH Tryd.prog Rows.matchBestRow.laid w) ∧ sizedMet enc Tryd.prog Tryd.f4 (OpenSpec.ofChange Rows.matchBestSpec) false w args)
   (Rows.matchBestSpec.post enc Tryd.prog Tryd.f4 false true false false) := by
 refine returnsInHanded_of_change_and (C := Tryd.checked) (X := fun w _ => laidMetH Tryd.prog Rows.matchBestRow.laid w) (fun _ _ _ hh h => h.of_heap hh) own started (by kernel_rfl) Tryd.func4
  (ChangeSpec.witness_shaped (enc := enc) (C := Tryd.checked) (os := os) (X := fun w _ => laidMetH Tryd.prog Rows.matchBestRow.laid w) false (World.doorLaid Tryd.prog 400 os) #[.slice none 0 0, .slice none 0 0, .int .i64 0] 8 rfl (World.shaped_of_RefB (by kernel_rfl) (by kernel_rfl)) (by kernel_rfl) (by kernel_rfl) (by kernel_rfl) (door_met_matchBest os _)) ?_
 intro W base args ds gs before hval0 hW _ _ hL _
 have hval : ∀ (j : Nat) t v, Tryd.f4.params[j]? = some t → args[j]? = some v → Value.okWide Tryd.prog W .any base t v := hval0
 have hW' := hW
 obtain ⟨p, q, hA0, hV, rfl, hfz, hnd⟩ := hW
 have hA : DataW.TrodAll enc Tryd.prog W 0 (fun _ => true) true Tryd.f4.params.toList args.toList ds p := hA0
 rw [Tryd.params4] at hA hval
 rw [MakeChecks.laidMetH_plain _ _ _ (by kernel_rfl)] at hL
 obtain ⟨E, hE, -⟩ := errs_matchBest hL
 have hS : Six W (VA9 fun i => E (six6 i)) := ⟨hE 0 (by decide), hE 1 (by decide), hE 2 (by decide), hE 3 (by decide), hE 4 (by decide), hE 5 (by decide)⟩
 obtain ⟨v0, v1, v2, d0, d1, d2, p0, p1, p2, rfl, rfl, rfl, h0, h1, h2⟩ := trodAll_three hA
 obtain ⟨rfl, rfl⟩ := trodVars_none hV
 have k0 := h0
 have lt0 : ∀ x ∈ p0, x.block < W.heap.size := by obtain ⟨m, hm⟩ := k0; exact DataW.trod_lt m _ _ _ hm
 obtain ⟨p0, q0, t0, rfl, hr0, hi0, hn0⟩ := open_list10 (hval 0 25 v0 rfl rfl) h0
 have k1 := h1
 have lt1 : ∀ x ∈ p1, x.block < W.heap.size := by obtain ⟨m, hm⟩ := k1; exact DataW.trod_lt m _ _ _ hm
 obtain ⟨a1, c1, l1, rfl, hs1, hn1⟩ := open_bytes (hval 1 28 v1 rfl rfl) h1
 obtain ⟨i2, rfl, rfl, rfl, wi2⟩ := open_int Tryd.underlying3 (hval 2 3 v2 rfl rfl) h2
 clear hA0 hval0
 refine (matchBest_in W hr0 hi0 hn0 hs1 hn1 i2 (fun w' hb => alive10_in w' (hS.bel hb))).mono fun e W' ⟨he, bel⟩ => ?_
 subst he
 exact ⟨_, rfl, _, _, _, [], _, [], hW', trodAll_mk1 (shut_bool Tryd.underlying4 _),
  (trodAll_cons_mk (Below.trod laidOut (by kernel_rfl) (of_decide_eq_true (by kernel_rfl)) k0 bel lt0) (trodAll_cons_mk (Below.trod laidOut (by kernel_rfl) (of_decide_eq_true (by kernel_rfl)) k1 bel lt1) (trodAll_cons_mk (shut_int Tryd.underlying3 wi2) trodAll_mk0))), rfl, bel.frame _, fun h => by cases h⟩

theorem matchBest_row : Rows.MatchBestSaid :=
 OpenClaim.holds_of_wide 4 Tryd.f4 rfl rfl rfl rfl rfl rfl rfl ⟨rfl, rfl, rfl, rfl, rfl⟩ rfl rfl rfl rfl rfl (by kernel_rfl) Tryd.func4 (by kernel_rfl)
  (of_decide_eq_true (by kernel_rfl)) (by unfold Func.isWrapper; first | (rw [if_pos (by decide +kernel)]; kernel_rfl) | (rw [if_neg (by decide +kernel)]; exact ⟨rfl, rfl⟩))
  (fun os started H enc _ => lifted_matchBest os started H enc)

theorem matchBest_holds : Rows.MatchBestCardSaid :=
 Claim7.holds_tied_plain_at .later [] [.sentinel, .sentinel, .sentinel, .sentinel, .sentinel, .sentinel] true (true, "5f2f1ba5c4958ddc33837946c4887825950be87278ed59affef503bf424f8d1e") false
  matchBest_row (fun _ h => by cases h) (by kernel_rfl) (fun _ h => by cases h) matchBest_row_tie rfl ⟨rfl, rfl⟩ (by kernel_rfl) rfl
  (fun f fn hf hfn => by
   obtain rfl : f = 4 := Option.some.inj ((show Tryd.prog.funcNamed "doffer/dofferlaw10.MatchBest" = some 4 by kernel_rfl).symm.trans hf) |>.symm
   obtain rfl : fn = Tryd.f4 := (Option.some.inj (Tryd.func4.symm.trans hfn)).symm
   exact ⟨by kernel_rfl, fun j t ht => by
    rw [Tryd.params4] at ht
    have hm : t ∈ [25, 28, 3] := by simpa using Array.mem_of_getElem? ht
    have hall : ([25, 28, 3].all fun u => !Tryd.prog.wantsStandIn u) = true := by kernel_rfl
    exact (show Tryd.prog.wantsStandIn t = false by simpa using List.all_eq_true.1 hall t hm)⟩)
  (by kernel_rfl)
#print axioms matchBest_holds
end Go.Proofs.YtobbifhflnlplaaDoor
