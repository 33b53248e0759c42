/- SetsMake: the given card: for every two bytes and every list of bytes the law returns true and leaves its arguments as they were. -/
import Derived.Test.YtfgdbpepgahclaaDoorP2
import Derived.Test.YtfgdbpepgahclaaDoorW19
import Derived.SevenTiedAt
namespace Go.Proofs.YtfgdbpepgahclaaDoor
open Go.ChangeShapes Go.WideShapes Go.ChangeAt Go.WideMaps Go.WideElems Go.RowKit

set_option maxRecDepth 100000 in
theorem liftedM (os : Os) (started : os.Started) (H : Type) (enc : TypeId × Value → H) :
    ReturnsInHanded {} Tryd.checked os 3 .any (fun w args => (Rows.setsMakeSpec.pre enc Tryd.prog Tryd.f3 [] false w args ∧ laidMetH Tryd.prog Rows.setsMakeRow.laid w) ∧ sizedMet enc Tryd.prog Tryd.f3 (OpenSpec.ofChange Rows.setsMakeSpec) false w args)
      (Rows.setsMakeSpec.post enc Tryd.prog Tryd.f3 false true false false) := by
  refine returnsInHanded_of_change_and (C := Tryd.checked) (X := fun w _ => laidMetH Tryd.prog Rows.setsMakeRow.laid w) (fun _ _ _ hh h => h.of_heap hh) own started (by kernel_rfl) Tryd.func3
    (ChangeSpec.witness_shaped (enc := enc) (C := Tryd.checked) (os := os) (X := fun w _ => laidMetH Tryd.prog Rows.setsMakeRow.laid w) false (World.doorLaid Tryd.prog 400 os) #[.int .u8 0, .int .u8 0, .slice none 0 0] 8 rfl (World.shaped_of_RefB (by kernel_rfl) (by kernel_rfl)) (by kernel_rfl) (by kernel_rfl) (by kernel_rfl) (door_met os _)) ?_
  intro W base args ds gs before hval0 hW _ _ hL _
  have hval : ∀ (j : Nat) t v, Tryd.f3.params[j]? = some t → args[j]? = some v → Value.okWide Tryd.prog W .any base t v := hval0
  have hW' := hW
  obtain ⟨p, q, hA0, hV, rfl, hfz, hnd⟩ := hW
  have hA : DataW.TrodAll enc Tryd.prog W 0 (fun _ => true) true Tryd.f3.params.toList args.toList ds p := hA0
  rw [Tryd.params3] at hA hval
  obtain ⟨v0, v1, v2, d0, d1, d2, p0, p1, p2, rfl, rfl, rfl, h0, h1, h2⟩ := trodAll_three hA
  obtain ⟨rfl, rfl⟩ := trodVars_none hV
  have k2 := h2
  have lt2 : ∀ x ∈ p2, x.block < W.heap.size := by obtain ⟨m, hm⟩ := k2; exact DataW.trod_lt m _ _ _ hm
  obtain ⟨li, rfl, rfl, rfl, wl⟩ := open_int Tryd.underlying5 (hval 0 5 v0 rfl rfl) h0
  obtain ⟨hj, rfl, rfl, rfl, wh⟩ := open_int Tryd.underlying5 (hval 1 5 v1 rfl rfl) h1
  have bl := bounds_u8 wl
  have bh := bounds_u8 wh
  obtain ⟨lo, rfl⟩ := Int.eq_ofNat_of_zero_le bl.1
  obtain ⟨hi, rfl⟩ := Int.eq_ofNat_of_zero_le bh.1
  obtain ⟨a, len, cap, rfl⟩ := okWide_slice Tryd.underlying22 (hval 2 22 v2 rfl rfl)
  obtain ⟨l, hll, hS⟩ : ∃ l : List Nat, l.length = len ∧ Src W a len cap l := by
    obtain ⟨fuel, hf⟩ := h2
    rcases open_ints Tryd.underlying22 Tryd.underlying5 (by kernel_rfl) hf with ⟨hcs, _⟩ | ⟨x, l, c, zs, hcs, _, hl, hm, hz, _, hcell, hwz⟩
    · simp [Value.cells] at hcs
      obtain ⟨rfl, rfl, rfl⟩ := hcs
      exact ⟨[], rfl, ⟨rfl, by simp, fun _ => ⟨rfl, rfl⟩, fun ad e => (by cases e), Nat.le_refl _⟩⟩
    · simp [Value.cells] at hcs
      obtain ⟨rfl, rfl, rfl⟩ := hcs
      have hz' : zs.length = cap := by simpa using hz
      have hlen : ((zs.take len).map Int.toNat).length = len := by simp; omega
      refine ⟨(zs.take len).map Int.toNat, hlen, ⟨hlen, ?_, fun e => (by cases e), ?_, hl⟩⟩
      · intro y hy
        obtain ⟨z, hzm, rfl⟩ := List.mem_map.1 hy
        have := bounds_u8 (hwz z (List.mem_of_mem_take hzm))
        omega
      · intro ad e j u hu
        obtain rfl : x = ad := by simpa using e
        rw [List.getElem?_map, List.getElem?_map] at hu
        have hj : j < len := by
          rcases Nat.lt_or_ge j len with h | h
          · exact h
          · rw [List.getElem?_eq_none (by simp; omega)] at hu; cases hu
        have hjz : j < zs.length := by omega
        rw [List.getElem?_take, if_pos hj, List.getElem?_eq_getElem hjz] at hu
        simp only [Option.map_some, Option.some.injEq] at hu
        subst hu
        rw [hcell j hjz]
        have hb := bounds_u8 (hwz zs[j] (List.getElem_mem hjz))
        have e1 : zs.getD j 0 = zs[j] := by simp [List.getD, hjz]
        rw [e1]
        unfold encN
        rw [Int.toNat_of_nonneg hb.1]
  subst hll
  have hT := tab_of_laid hL
  clear hA0 hval0
  refine (make_in lo hi (by omega) (by omega) a cap l W hS hT).mono fun e W' ⟨he, bel⟩ => ?_
  subst he
  exact ⟨_, rfl, _, _, _, [], _, [], hW', trodAll_mk1 (shut_bool Tryd.underlying4 _),
    (trodAll_cons_mk (shut_int Tryd.underlying5 wl) (trodAll_cons_mk (shut_int Tryd.underlying5 wh) (trodAll_cons_mk (Below.trod laidOut (by kernel_rfl) (of_decide_eq_true (by kernel_rfl)) k2 bel lt2) trodAll_mk0))), rfl, bel.frame _, fun h => by cases h⟩

theorem setsMake_row : Rows.SetsMakeSaid :=
  OpenClaim.holds_of_wide 3 Tryd.f3 rfl rfl rfl rfl rfl rfl rfl ⟨rfl, rfl, rfl, rfl, rfl⟩ rfl rfl rfl rfl rfl (by kernel_rfl) Tryd.func3 (by kernel_rfl)
    (of_decide_eq_true (by kernel_rfl)) (by unfold Func.isWrapper; first | (rw [if_pos (by decide +kernel)]; kernel_rfl) | (rw [if_neg (by decide +kernel)]; exact ⟨rfl, rfl⟩))
    (fun os started H enc _ => liftedM os started H enc)

theorem setsMake_holds : Rows.SetsMakeCardSaid :=
  Claim7.holds_tied_plain_at .later [] [.data] true (true, "a7a03b382a3ac06ac9f79f0e9cb6fc0f8e5aad8cb5c5a26f43efd6bf2ceb09a2") false
    setsMake_row (fun _ h => by cases h) (by kernel_rfl) (fun _ h => by cases h) setsMake_row_tie rfl ⟨rfl, rfl⟩ (by kernel_rfl) rfl
    (fun f fn hf hfn => by
      obtain rfl : f = 3 := Option.some.inj ((show Tryd.prog.funcNamed "doffer/dofferlaw01.SetsMake" = some 3 by kernel_rfl).symm.trans hf) |>.symm
      obtain rfl : fn = Tryd.f3 := (Option.some.inj (Tryd.func3.symm.trans hfn)).symm
      exact ⟨by kernel_rfl, fun j t ht => by
        rw [Tryd.params3] at ht
        have hm : t ∈ [5, 5, 22] := by simpa using Array.mem_of_getElem? ht
        have hall : ([5, 5, 22].all fun u => !Tryd.prog.wantsStandIn u) = true := by kernel_rfl
        exact (show Tryd.prog.wantsStandIn t = false by simpa using List.all_eq_true.1 hall t hm)⟩)
    (by kernel_rfl)
#print axioms setsMake_holds
end Go.Proofs.YtfgdbpepgahclaaDoor
