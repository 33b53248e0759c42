/- RegexBack: the given card: for every tree the law returns true and leaves it as it was. -/
import Derived.Test.YtjlmeegaiagfpaaGreatDoorRows
import Derived.Test.YtjlmeegaiagfpaaGreatDoorTie
import Derived.Test.YtjlmeegaiagfpaaGreatDoorCards
import Derived.Test.YtjlmeegaiagfpaaGreatDoorW51
import Derived.Test.YtjlmeegaiagfpaaGreatDoorP0
import Derived.Test.YtjlmeegaiagfpaaGreatDoorPN
import Derived.Test.YtjlmeegaiagfpaaGreatDoorLP
import Derived.SevenTiedAt
import Derived.ChangeMaps5
namespace Go.Proofs.YtjlmeegaiagfpaaGreatDoor
open Go.ChangeShapes Go.WideShapes Go.ChangeAt Go.WideMaps Go.WideElems Go.RowKit

/-- Of six error values, which. -/
def six6 (i : Nat) : Nat := if i = 0 then 0 else if i = 1 then 1 else if i = 3 then 2 else if i = 4 then 3 else if i = 6 then 4 else 5
theorem laidMet_tail {P : Program} {n : String} {d : DataW Unit} {r : List (String × DataW Unit)} {w : World} (h : laidMet P ((n, d) :: r) w) : laidMet P r w := by
  obtain ⟨ps, ⟨g, t, cs, f, p, q, -, -, -, -, hr, rfl⟩, hnd, hrows⟩ := h
  exact ⟨q, hr, (List.nodup_append.1 hnd).2.1, fun b off hm => hrows b off (List.mem_append_right _ hm)⟩
theorem parts_regexBack {W : World} (h : laidMetH Tryz.prog Rows.regexBackRow.laid W) : S1.Tab W := by
  rw [MakeChecks.laidMetH_plain _ _ _ (by kernel_rfl)] at h
  obtain ⟨ps, ⟨g1, t1, cs1, f1, p1, q1, -, -, -, -, hr, -⟩, -, -⟩ := h
  obtain ⟨g0, t0, cs0, f0, p0, q0, hg0, ht0, hv0, hd0, -, -⟩ := hr
  obtain rfl := Option.some.inj (gTab.symm.trans hg0)
  obtain rfl := Option.some.inj (tTab.symm.trans ht0)
  obtain ⟨xs, m1, rfl, hx1, hlen, hn, hel⟩ := DataW.trod_array uTab hd0
  simp only [Prod.mk.injEq] at hx1
  have hd : (xs.map (·.1)) = tabL.map fun n : Nat => (DataW.lit (.int .u8 (n : Int)) : DataW _) := by
    have := hx1.1
    simp only [Rows.laid_math_bits_deBruijn64tab, DataW.agg.injEq] at this
    rw [← this]
    rfl
  have cells : ∀ i : Nat, i < 64 → ∀ n : Nat, tabL[i]? = some n → W.cell? ⟨7, i, none⟩ = some (.int .u8 (n : Int)) := by
    intro i hi n hin
    have h1 := hel i hi
    have hxi : (xs.map (·.1))[i]? = some (.lit (.int .u8 (n : Int))) := by rw [hd]; simp [hin]
    rw [List.getElem?_map] at hxi
    cases hx : xs[i]? with
    | none => rw [hx] at hxi; cases hxi
    | some y =>
      rw [hx] at h1 hxi
      simp only [Option.map_some, Option.some.injEq] at hxi
      obtain ⟨k, e1, e2, _⟩ := DataW.trod_int uB1 h1
      rw [e2] at hxi
      have hk : k = (n : Int) := by simpa using hxi
      subst hk
      rw [World.var?_cell gTab hv0 i]
      rw [cB1] at e1
      have e3 : ((cs0.toList.drop (i * 1)).take 1)[0]? = some (.int .u8 (n : Int)) := by rw [e1]; rfl
      rw [List.getElem?_take, List.getElem?_drop] at e3
      simpa using e3
  exact ⟨World.block_lt_of_cell? _ _ (cells 0 (by decide) 0 (by decide)), fun t ht => cells _ (S1.idx_lt t ht) t (tab_ix t ht)⟩
def sent_regexBack : List (String × DataW Unit) := [("doffer/api.ErrRange", Rows.laid_doffer_api_ErrRange), ("doffer/api.ErrShort", Rows.laid_doffer_api_ErrShort), ("doffer/api.ErrForm", Rows.laid_doffer_api_ErrForm), ("doffer/api.ErrName", Rows.laid_doffer_api_ErrName), ("doffer/api.ErrDepth", Rows.laid_doffer_api_ErrDepth), ("doffer/api.ErrLimit", Rows.laid_doffer_api_ErrLimit)]
def ord_regexBack (k : Nat) : Nat := [4, 0, 3, 5, 1, 2].getD k 0
theorem sent_text_regexBack : ∀ x ∈ sent_regexBack, ∃ text, x.2 = .iface "*errors.errorString" (.ptr (.agg [.lit (.string text)])) := by
  intro x hx
  simp only [sent_regexBack, List.mem_cons, List.not_mem_nil, or_false] at hx
  rcases hx with rfl | rfl | rfl | rfl | rfl | rfl <;> exact ⟨_, rfl⟩
theorem sent_at_regexBack : ∀ k, k < 6 → ∃ x, sent_regexBack[k]? = some x ∧ Tryz.prog.globalNamed x.1 = some (ord_regexBack k) ∧ (Tryz.prog.globals[ord_regexBack k]?).map (·.type) = some 38 := by
  intro k hk
  match k, hk with
  | 0, _ => exact ⟨_, rfl, by kernel_rfl, by kernel_rfl⟩
  | 1, _ => exact ⟨_, rfl, by kernel_rfl, by kernel_rfl⟩
  | 2, _ => exact ⟨_, rfl, by kernel_rfl, by kernel_rfl⟩
  | 3, _ => exact ⟨_, rfl, by kernel_rfl, by kernel_rfl⟩
  | 4, _ => exact ⟨_, rfl, by kernel_rfl, by kernel_rfl⟩
  | 5, _ => exact ⟨_, rfl, by kernel_rfl, by kernel_rfl⟩
  | n + 6, h => omega
theorem errs_regexBack {W : World} (h : laidMet Tryz.prog (sent_regexBack ++ []) W) : ∃ A : Nat → Addr, (∀ k, k < 6 → W.cell? ⟨ord_regexBack k, 0, none⟩ = some (.iface 135 (.pointer (some (A k))))) ∧ (∀ i j, i < j → j < 6 → A i ≠ A j) ∧ (∀ k, k < 6 → ∃ c t, W.heap[(A k).block]? = some (.cells c t (0, 0))) ∧ ∃ q, DataW.LaidVars Tryz.prog W [] q := by
  obtain ⟨ps, hv, hnd, hrows⟩ := h
  have hg : ∀ x ∈ sent_regexBack, ∃ g, Tryz.prog.globalNamed x.1 = some g ∧ (Tryz.prog.globals[g]?).map (·.type) = some 38 := by
    intro x hx
    obtain ⟨k, hk, rfl⟩ := List.getElem_of_mem hx
    obtain ⟨y, h1, h2, h3⟩ := sent_at_regexBack k (by simpa [sent_regexBack] using hk)
    rw [List.getElem?_eq_getElem hk] at h1
    cases h1
    exact ⟨_, h2, h3⟩
  obtain ⟨al, hl, hvar, hsub, hcell, q, hq⟩ := sentinels Tryz.underlying38 row60 Tryz.underlying135 Tryz.underlying149 rfl rfl Tryz.underlying9 cells85 cells9 sent_regexBack ps sent_text_regexBack hg hv hrows
  have hl18 : al.length = 6 := hl
  refine ⟨fun k => al.getD k ⟨0, 0, none⟩, ?_, ?_, ?_, q, hq⟩
  · intro k hk
    obtain ⟨x, h1, h2, _⟩ := sent_at_regexBack k hk
    have ha : al[k]? = some (al.getD k ⟨0, 0, none⟩) := by
      rw [List.getElem?_eq_getElem (by omega), getD_at (by omega)]
    obtain ⟨g, hg1, hc⟩ := hvar k x _ h1 ha
    obtain rfl := Option.some.inj (h2.symm.trans hg1)
    exact hc
  · intro i j hij hj e
    have hn := hnd.sublist hsub
    rw [List.nodup_iff_pairwise_ne, List.pairwise_iff_getElem] at hn
    have := hn i j (by simp; omega) (by simp; omega) hij
    apply this
    dsimp only at e
    rw [getD_at (by omega), getD_at (by omega)] at e
    simp only [List.getElem_map, e]
  · intro k hk
    exact hcell _ (by dsimp only; rw [getD_at (by omega)]; exact List.getElem_mem _)
theorem door_met_regexBack (os : Os) (args : Array Value) : laidMetH Tryz.prog Rows.regexBackRow.laid ((World.doorLaid Tryz.prog 400 os).forCall (fun _ _ => 0) ⟨#[], args, []⟩).memory :=
  laidMetH_of_parts3 (fuel := 8) (laidMet_of_run' 8 (by kernel_rfl) (by kernel_rfl)) (by kernel_rfl) (by kernel_rfl)
set_option maxRecDepth 100000 in
theorem lifted_regexBack (os : Os) (started : os.Started) (H : Type) (enc : TypeId × Value → H) :
    ReturnsInHanded {} Tryz.checked os 3 .any (fun w args => (Rows.regexBackSpec.pre enc Tryz.prog Tryz.f3 [] false w args ∧ laidMetH Tryz.prog Rows.regexBackRow.laid w) ∧ sizedMet enc Tryz.prog Tryz.f3 (OpenSpec.ofChange Rows.regexBackSpec) false w args)
      (Rows.regexBackSpec.post enc Tryz.prog Tryz.f3 false true false false) := by
  refine returnsInHanded_of_change_and (C := Tryz.checked) (X := fun w _ => laidMetH Tryz.prog Rows.regexBackRow.laid w) (fun _ _ _ hh h => h.of_heap hh) own started (by kernel_rfl) Tryz.func3
    (ChangeSpec.witness_shaped (enc := enc) (C := Tryz.checked) (os := os) (X := fun w _ => laidMetH Tryz.prog Rows.regexBackRow.laid w) false (World.doorLaid Tryz.prog 400 os) #[.agg #[.int .i64 0, .int .u64 0, .int .u64 0, .int .u64 0, .int .u64 0, .slice none 0 0, .int .i64 0, .int .i64 0, .string ⟨#[]⟩]] 8 rfl (World.shaped_of_RefB (by kernel_rfl) (by kernel_rfl)) (by kernel_rfl) (by kernel_rfl) (by kernel_rfl) (door_met_regexBack os _)) ?_
  intro W base args ds gs before hval0 hW _ _ hL _
  have hval : ∀ (j : Nat) t v, Tryz.f3.params[j]? = some t → args[j]? = some v → Value.okWide Tryz.prog W .any base t v := hval0
  have hW' := hW
  obtain ⟨p, q, hA0, hV, rfl, hfz, hnd⟩ := hW
  have hA : DataW.TrodAll enc Tryz.prog W 0 (fun _ => true) true Tryz.f3.params.toList args.toList ds p := hA0
  rw [Tryz.params3] at hA hval
  have hTb := parts_regexBack hL
  rw [MakeChecks.laidMetH_plain _ _ _ (by kernel_rfl)] at hL
  obtain ⟨E, hE, -⟩ := errs_regexBack (laidMet_tail (laidMet_tail (laidMet_tail hL)))
  have hS : Six W (VA fun i => E (six6 i)) := ⟨hE 0 (by decide), hE 1 (by decide), hE 2 (by decide), hE 3 (by decide), hE 4 (by decide), hE 5 (by decide)⟩
  obtain ⟨v0, d0, rfl, rfl, h0⟩ := trodAll_one hA
  obtain ⟨rfl, rfl⟩ := trodVars_none hV
  have k0 := h0
  have lt0 : ∀ x ∈ p, x.block < W.heap.size := by obtain ⟨m, hm⟩ := k0; exact DataW.trod_lt m _ _ _ hm
  obtain ⟨t0, rfl, ht0⟩ := open_node (hval 0 27 v0 rfl rfl) h0
  clear hA0 hval0
  refine (regexBack_in W ht0 hS hTb).mono fun e W' ⟨he, bel⟩ => ?_
  subst he
  exact ⟨_, rfl, _, _, _, [], _, [], hW', trodAll_mk1 (shut_bool Tryz.underlying4 _),
    trodAll_mk1 (Below.trod laidOut (by kernel_rfl) (of_decide_eq_true (by kernel_rfl)) k0 bel lt0), rfl, bel.frame _, fun h => by cases h⟩

theorem regexBack_row : Rows.RegexBackSaid :=
  OpenClaim.holds_of_wide 3 Tryz.f3 rfl rfl rfl rfl rfl rfl rfl ⟨rfl, rfl, rfl, rfl, rfl⟩ rfl rfl rfl rfl rfl (by kernel_rfl) Tryz.func3 (by kernel_rfl)
    (of_decide_eq_true (by kernel_rfl)) (by unfold Func.isWrapper; first | (rw [if_pos (by decide +kernel)]; kernel_rfl) | (rw [if_neg (by decide +kernel)]; exact ⟨rfl, rfl⟩))
    (fun os started H enc _ => lifted_regexBack os started H enc)

theorem regexBack_holds : Rows.RegexBackCardSaid :=
  Claim7.holds_tied_plain_at .later [] [.data, .data, .data, .sentinel, .sentinel, .sentinel, .sentinel, .sentinel, .sentinel] true (true, "c0f167df7f5af42ba10d676fee19f554bb954e9ba71f37dafafbe10b4d97e7e0") false
    regexBack_row (fun _ h => by cases h) (by kernel_rfl) (fun _ h => by cases h) regexBack_row_tie rfl ⟨rfl, rfl⟩ (by kernel_rfl) rfl
    (fun f fn hf hfn => by
      obtain rfl : f = 3 := Option.some.inj ((show Tryz.prog.funcNamed "doffer/dofferlaw08.RegexBack" = some 3 by kernel_rfl).symm.trans hf) |>.symm
      obtain rfl : fn = Tryz.f3 := (Option.some.inj (Tryz.func3.symm.trans hfn)).symm
      exact ⟨by kernel_rfl, fun j t ht => by
        rw [Tryz.params3] at ht
        have hm : t ∈ [27] := by simpa using Array.mem_of_getElem? ht
        have hall : ([27].all fun u => !Tryz.prog.wantsStandIn u) = true := by kernel_rfl
        exact (show Tryz.prog.wantsStandIn t = false by simpa using List.all_eq_true.1 hall t hm)⟩)
    (by kernel_rfl)
#print axioms regexBack_holds
end Go.Proofs.YtjlmeegaiagfpaaGreatDoor
