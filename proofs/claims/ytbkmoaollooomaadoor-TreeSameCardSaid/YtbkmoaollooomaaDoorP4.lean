/- TreeSame: the given card: for every two trees the law returns true and leaves them as they were. -/
import Derived.Test.YtbkmoaollooomaaDoorRows
import Derived.Test.YtbkmoaollooomaaDoorTie
import Derived.Test.YtbkmoaollooomaaDoorCards
import Derived.Test.YtbkmoaollooomaaDoorP0
import Derived.Test.YtbkmoaollooomaaDoorW43
import Derived.Test.YtbkmoaollooomaaDoorPN
import Derived.Test.YtbkmoaollooomaaDoorLP
import Derived.SevenTiedAt
import Derived.ChangeMaps5
namespace Go.Proofs.YtbkmoaollooomaaDoor
open Go.ChangeShapes Go.WideShapes Go.ChangeAt Go.WideMaps Go.WideElems Go.RowKit

theorem parts_treeSame {W : World} (h : laidMetH Tryd.prog Rows.treeSameRow.laid W) : S1.Tab W := by
  rw [MakeChecks.laidMetH_plain _ _ _ (by kernel_rfl)] at h
  obtain ⟨ps, ⟨g1, t1, cs1, f1, p1, q1, -, -, -, -, hr, -⟩, -, -⟩ := h
  obtain ⟨g0, t0, cs0, f0, p0, q0, hg0, ht0, hv0, hd0, -, -⟩ := hr
  obtain rfl := Option.some.inj (gTab.symm.trans hg0)
  obtain rfl := Option.some.inj (tTab.symm.trans ht0)
  obtain ⟨xs, m1, rfl, hx1, hlen, hn, hel⟩ := DataW.trod_array uTab hd0
  simp only [Prod.mk.injEq] at hx1
  have hd : (xs.map (·.1)) = tabL.map fun n : Nat => (DataW.lit (.int .u8 (n : Int)) : DataW _) := by
    have := hx1.1
    simp only [Rows.laid_math_bits_deBruijn64tab, DataW.agg.injEq] at this
    rw [← this]
    rfl
  have cells : ∀ i : Nat, i < 64 → ∀ n : Nat, tabL[i]? = some n → W.cell? ⟨0, i, none⟩ = some (.int .u8 (n : Int)) := by
    intro i hi n hin
    have h1 := hel i hi
    have hxi : (xs.map (·.1))[i]? = some (.lit (.int .u8 (n : Int))) := by rw [hd]; simp [hin]
    rw [List.getElem?_map] at hxi
    cases hx : xs[i]? with
    | none => rw [hx] at hxi; cases hxi
    | some y =>
      rw [hx] at h1 hxi
      simp only [Option.map_some, Option.some.injEq] at hxi
      obtain ⟨k, e1, e2, _⟩ := DataW.trod_int uB1 h1
      rw [e2] at hxi
      have hk : k = (n : Int) := by simpa using hxi
      subst hk
      rw [World.var?_cell gTab hv0 i]
      rw [cB1] at e1
      have e3 : ((cs0.toList.drop (i * 1)).take 1)[0]? = some (.int .u8 (n : Int)) := by rw [e1]; rfl
      rw [List.getElem?_take, List.getElem?_drop] at e3
      simpa using e3
  exact ⟨World.block_lt_of_cell? _ _ (cells 0 (by decide) 0 (by decide)), fun t ht => cells _ (S1.idx_lt t ht) t (tab_ix t ht)⟩
theorem door_met_treeSame (os : Os) (args : Array Value) : laidMetH Tryd.prog Rows.treeSameRow.laid ((World.doorLaid Tryd.prog 400 os).forCall (fun _ _ => 0) ⟨#[], args, []⟩).memory :=
  laidMetH_of_parts3 (fuel := 8) (laidMet_of_run' 8 (by kernel_rfl) (by kernel_rfl)) (by kernel_rfl) (by kernel_rfl)
set_option maxRecDepth 100000 in
theorem lifted_treeSame (os : Os) (started : os.Started) (H : Type) (enc : TypeId × Value → H) :
    ReturnsInHanded {} Tryd.checked os 4 .any (fun w args => (Rows.treeSameSpec.pre enc Tryd.prog Tryd.f4 [] false w args ∧ laidMetH Tryd.prog Rows.treeSameRow.laid w) ∧ sizedMet enc Tryd.prog Tryd.f4 (OpenSpec.ofChange Rows.treeSameSpec) false w args)
      (Rows.treeSameSpec.post enc Tryd.prog Tryd.f4 false true false false) := by
  refine returnsInHanded_of_change_and (C := Tryd.checked) (X := fun w _ => laidMetH Tryd.prog Rows.treeSameRow.laid w) (fun _ _ _ hh h => h.of_heap hh) own started (by kernel_rfl) Tryd.func4
    (ChangeSpec.witness_shaped (enc := enc) (C := Tryd.checked) (os := os) (X := fun w _ => laidMetH Tryd.prog Rows.treeSameRow.laid w) false (World.doorLaid Tryd.prog 400 os) #[.agg #[.int .i64 0, .int .u64 0, .int .u64 0, .int .u64 0, .int .u64 0, .slice none 0 0, .int .i64 0, .int .i64 0, .string ⟨#[]⟩], .agg #[.int .i64 0, .int .u64 0, .int .u64 0, .int .u64 0, .int .u64 0, .slice none 0 0, .int .i64 0, .int .i64 0, .string ⟨#[]⟩]] 8 rfl (World.shaped_of_RefB (by kernel_rfl) (by kernel_rfl)) (by kernel_rfl) (by kernel_rfl) (by kernel_rfl) (door_met_treeSame os _)) ?_
  intro W base args ds gs before hval0 hW _ _ hL _
  have hval : ∀ (j : Nat) t v, Tryd.f4.params[j]? = some t → args[j]? = some v → Value.okWide Tryd.prog W .any base t v := hval0
  have hW' := hW
  obtain ⟨p, q, hA0, hV, rfl, hfz, hnd⟩ := hW
  have hA : DataW.TrodAll enc Tryd.prog W 0 (fun _ => true) true Tryd.f4.params.toList args.toList ds p := hA0
  rw [Tryd.params4] at hA hval
  have hTab := parts_treeSame hL
  obtain ⟨v0, v1, d0, d1, p0, p1, rfl, rfl, rfl, h0, h1⟩ := trodAll_two hA
  obtain ⟨rfl, rfl⟩ := trodVars_none hV
  have k0 := h0
  have k1 := h1
  have lt0 : ∀ x ∈ p0, x.block < W.heap.size := by obtain ⟨m, hm⟩ := k0; exact DataW.trod_lt m _ _ _ hm
  have lt1 : ∀ x ∈ p1, x.block < W.heap.size := by obtain ⟨m, hm⟩ := k1; exact DataW.trod_lt m _ _ _ hm
  obtain ⟨t0, rfl, ht0⟩ := open_node (hval 0 27 v0 rfl rfl) h0
  obtain ⟨t1, rfl, ht1⟩ := open_node (hval 1 27 v1 rfl rfl) h1
  clear hA0 hval0
  refine (treeSame_in ht0 ht1 hTab).mono fun e W' ⟨he, bel⟩ => ?_
  subst he
  exact ⟨_, rfl, _, _, _, [], _, [], hW', trodAll_mk1 (shut_bool Tryd.underlying4 _),
    (trodAll_cons_mk (Below.trod laidOut (by kernel_rfl) (of_decide_eq_true (by kernel_rfl)) k0 bel lt0) (trodAll_cons_mk (Below.trod laidOut (by kernel_rfl) (of_decide_eq_true (by kernel_rfl)) k1 bel lt1) trodAll_mk0)), rfl, bel.frame _, fun h => by cases h⟩

theorem treeSame_row : Rows.TreeSameSaid :=
  OpenClaim.holds_of_wide 4 Tryd.f4 rfl rfl rfl rfl rfl rfl rfl ⟨rfl, rfl, rfl, rfl, rfl⟩ rfl rfl rfl rfl rfl (by kernel_rfl) Tryd.func4 (by kernel_rfl)
    (of_decide_eq_true (by kernel_rfl)) (by unfold Func.isWrapper; first | (rw [if_pos (by decide +kernel)]; kernel_rfl) | (rw [if_neg (by decide +kernel)]; exact ⟨rfl, rfl⟩))
    (fun os started H enc _ => lifted_treeSame os started H enc)

theorem treeSame_holds : Rows.TreeSameCardSaid :=
  Claim7.holds_tied_plain_at .later [] [.data, .data, .data] true (true, "a0edbb370c7fcc1c81db91d274dc91641b5672c3b26df901ed1704265f376111") false
    treeSame_row (fun _ h => by cases h) (by kernel_rfl) (fun _ h => by cases h) treeSame_row_tie rfl ⟨rfl, rfl⟩ (by kernel_rfl) rfl
    (fun f fn hf hfn => by
      obtain rfl : f = 4 := Option.some.inj ((show Tryd.prog.funcNamed "doffer/dofferlaw07.TreeSame" = some 4 by kernel_rfl).symm.trans hf) |>.symm
      obtain rfl : fn = Tryd.f4 := (Option.some.inj (Tryd.func4.symm.trans hfn)).symm
      exact ⟨by kernel_rfl, fun j t ht => by
        rw [Tryd.params4] at ht
        have hm : t ∈ [27, 27] := by simpa using Array.mem_of_getElem? ht
        have hall : ([27, 27].all fun u => !Tryd.prog.wantsStandIn u) = true := by kernel_rfl
        exact (show Tryd.prog.wantsStandIn t = false by simpa using List.all_eq_true.1 hall t hm)⟩)
    (by kernel_rfl)
#print axioms treeSame_holds
end Go.Proofs.YtbkmoaollooomaaDoor
