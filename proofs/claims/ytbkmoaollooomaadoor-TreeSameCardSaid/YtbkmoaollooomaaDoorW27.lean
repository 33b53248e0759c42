/- The reference's Right. -/
import Derived.Test.YtbkmoaollooomaaDoorW26
import Derived.Test.YtbkmoaollooomaaDoorW8
namespace Go.Proofs.YtbkmoaollooomaaDoor
open Go.RowKit
open Go.Tree7
/-- A step's fields fit their types. -/
def FitS (s : Step) : Prop := fits s.k s.u.1 s.u.2.1 s.u.2.2.1 s.u.2.2.2 s.mn s.mx s.tx ∧ s.kids ≤ maxLen
theorem step_fits {w : World} {B : Nat} {t : T} (h : T.In w B t) (lv : Nat) : FitS (t.step lv) := by
  cases h with
  | mk hb hm hf _ _ => exact ⟨hf, by simp only [T.step]; omega⟩
theorem pre_fits {w : World} {B : Nat} : ∀ (d lv : Nat) (t : T), T.In w B t → ∀ s ∈ pre d lv t, FitS s := by
  intro d
  induction d with
  | zero =>
    intro lv t h s hs
    simp only [pre, List.mem_cons, List.not_mem_nil, or_false] at hs
    subst hs
    exact step_fits h lv
  | succ d ih =>
    intro lv t h s hs
    simp only [pre, List.mem_cons, List.mem_flatMap] at hs
    rcases hs with rfl | ⟨t', ht', hs⟩
    · exact step_fits h lv
    · refine ih _ t' ?_ s hs
      cases h with
      | mk _ _ _ _ hk => exact hk t' ht'
theorem all_fits {w : World} {B : Nat} {t : T} (h : T.In w B t) : ∀ s ∈ allS t, FitS s := fun s hs => pre_fits 24 1 t h s (List.mem_of_mem_take hs)
/-- A step by itself is right. -/
noncomputable def okS (s : Step) : Bool := okB (S1.mem4 s.u.1.toNat s.u.2.1.toNat s.u.2.2.1.toNat s.u.2.2.2.toNat) s.k s.kids s.mn s.mx s.tx
theorem okS_step (t : T) (lv : Nat) : okS (t.step lv) = T.ok t := by cases t; rfl
theorem allS_map (t : T) : allS t = (allT t).map fun x => x.2.step x.1 := by
  unfold allS allT
  rw [← preT_map, List.map_take]
theorem right_iffS (t : T) : rightB t = true ↔ (∀ s ∈ allS t, s.level ≤ 24 ∧ okS s = true) ∧ (allS t).length ≤ 600 := by
  rw [rightB_iff, allS_map]
  unfold RightP
  simp only [List.length_map, List.mem_map]
  have hl : ∀ x : Nat × T, (x.2.step x.1).level = x.1 := fun x => by cases x.2; rfl
  constructor
  · rintro ⟨h1, h2⟩
    refine ⟨fun s ⟨x, hx, e⟩ => ?_, h2⟩
    subst e
    rw [hl, okS_step]
    exact h1 x hx
  · rintro ⟨h1, h2⟩
    refine ⟨fun x hx => ?_, h2⟩
    have := h1 _ ⟨x, hx, rfl⟩
    rwa [hl, okS_step] at this
theorem rone_step {s : Step} (h : FitS s) (w : World) : Calls Tryd.prog 25 #[.agg (scells s).toArray] w fun e w' => e = .returned (.bool (okS s)) ∧ Below w.heap.size w w' := by
  obtain ⟨hf, hk⟩ := h
  have := rone_in (S1.mem4 s.u.1.toNat s.u.2.1.toNat s.u.2.2.1.toNat s.u.2.2.2.toNat) s.k s.kids s.mn s.mx s.level s.tx (by unfold maxLen at hk; omega) (by have := hf.2.2.2.2; unfold maxLen at this; omega) w
  obtain ⟨e0, e1, e2, e3⟩ := wd_f hf.2.1
  rw [e0, e1, e2, e3] at this
  exact this
set_option maxRecDepth 10000 in
set_option maxHeartbeats 4000000 in
theorem rright_in {t : T} {w : World} (hT : T.In w w.heap.size t) : Calls Tryd.prog 11 #[.agg t.cells.toArray] w fun e w' => e = .returned (.bool (rightB t)) ∧ Below w.heap.size w w' := by
  have hB1 : Below w.heap.size w (w.alloc (.cells t.cells.toArray 32)) := (Below.refl w.heap.size w).alloc (Nat.le_refl _) _
  have cW := walk_all ((hT.keep hB1).mono hB1.size)
  have hfit := Lib.hid (all_fits hT)
  have hr := right_iffS t
  obtain ⟨S, hS⟩ : ∃ S, allS t = S := ⟨_, rfl⟩
  have hSl : S.length ≤ 601 := by rw [← hS]; exact allS_len t
  rw [hS] at cW hfit hr
  obtain ⟨R, hR⟩ : ∃ R, rightB t = R := ⟨_, rfl⟩
  rw [hR] at hr ⊢
  have hno : Hid (∀ i (hi : i < S.length), ¬ (S[i].level ≤ 24 ∧ okS S[i] = true) → R = false) := Lib.hid fun i hi h => by
    cases R with
    | false => rfl
    | true => exact absurd ((hr.1 rfl).1 _ (List.getElem_mem hi)) h
  have hend : Hid ((∀ i (hi : i < S.length), S[i].level ≤ 24 ∧ okS S[i] = true) → R = decide (S.length ≤ 600)) := Lib.hid fun h => by
    rw [Bool.eq_iff_iff, hr, decide_eq_true_eq]
    refine ⟨fun q => q.2, fun q => ⟨fun s hs => ?_, q⟩⟩
    obtain ⟨i, hi, rfl⟩ := List.getElem_of_mem hs
    exact h i hi
  replace cW := Lib.hid cW
  replace hB1 := Lib.hid hB1
  clear hS hR hr hT
  cases t with
  | mk k u0 u1 u2 u3 p cap mn mx tx ks =>
    simp only [T.cells] at *
    go_enter Tryd.func11, Tryd.ntmps11
    go_wp2_with (go_at_call 10; (with_reducible refine cW.out.mono ?_); rintro e w2 ⟨v, rfl, hrow, hb2⟩; obtain ⟨pv, cv, rfl, hpg, hpc⟩ := step_at hrow; clear hrow; replace hpg := Lib.hid hpg; replace hpc := Lib.hid hpc; replace hb2 := Lib.hid (hB1.out.trans (hb2.mono hB1.out.size)))
    go_loopw [10] (fun i wr => ∃ j : Nat, j ≤ S.length ∧ i = .int .i64 j ∧ Hid (Below w2.heap.size w2 wr) ∧ Hid (∀ i (hi : i < S.length), i < j → S[i].level ≤ 24 ∧ okS S[i] = true)) (fun i _ => S.length - (intOf i).toNat)
    case atStart => exact ⟨0, Nat.zero_le _, rfl, Lib.hid (Below.refl _ _), Lib.hid fun i hi h => by omega⟩
    case round =>
      obtain ⟨j, hj, rfl, hB, hso⟩ := hrel
      by_cases hlt : j < S.length
      · obtain ⟨g, hpv, hbase, hgl⟩ := hpg.out (by omega)
        have hc := hpc.out g hpv j hlt
        subst hpv
        have hcl : ∀ q, q < 11 → wr.cell? ⟨g, j * 11 + q, none⟩ = (scells S[j])[q]? := fun q hq => by
          rw [← hc q hq]
          exact hB.out.cell (p := ⟨g, j * 11 + q, none⟩) hgl
        have hx := hfit.out S[j] (List.getElem_mem hlt)
        have hy := Lib.hid (hno.out j hlt)
        have hso2 : (S[j].level ≤ 24 ∧ okS S[j] = true) → Hid (∀ i (hi : i < S.length), i < j + 1 → S[i].level ≤ 24 ∧ okS S[i] = true) := fun h => Lib.hid fun i hi h2 => by
          by_cases e : i = j
          · subst e; exact h
          · exact hso.out i hi (by omega)
        clear hc hso
        have hsw := hB.out.size
        generalize S[j] = s at *
        have cR := rone_step hx
        generalize okS s = R9 at *
        obtain ⟨sk, ⟨su0, su1, su2, su3⟩, smn, smx, stx, slv, skids⟩ := s
        simp only [scells] at hcl cR
        replace cR := Lib.hid cR
        replace hx := Lib.hid hx
        obtain ⟨c0, c1, c2, c3, c4, c5, c6, c7, c8, c9, c10⟩ := eleven_of hcl
        clear hcl
        simp only at hy hso2
        by_cases h24 : 24 < slv
        · have hA := Lib.hid (hy.out fun h => by omega)
          have d1 : decide ((slv : Int) > 24) = true := by simp; omega
          clear hy hso2
          go_wp2
          go_ret
          exact ⟨by rw [hA.out]; rfl, hb2.out.trans ((hB.out.alloc hsw _).mono hb2.out.size)⟩
        · have d1 : decide ((slv : Int) > 24) = false := by simp; omega
          cases R9 with
          | true =>
            have hso3 := hso2 ⟨by omega, rfl⟩
            clear hy hso2
            go_wp2_with (go_at_call 25; (with_reducible refine (cR.out _).mono ?_); rintro e w3 ⟨rfl, hb3⟩; replace hb3 := Lib.hid ((hB.out.alloc hsw _).trans (hb3.mono (by simp; omega))))
            go_roundw
            case rel => exact ⟨j + 1, by omega, by go_num, hb3, hso3⟩
            case measure => simp [intOf]; omega
          | false =>
            have hA := Lib.hid (hy.out fun h => by cases h.2)
            clear hy hso2
            go_wp2_with (go_at_call 25; (with_reducible refine (cR.out _).mono ?_); rintro e w3 ⟨rfl, hb3⟩; replace hb3 := Lib.hid ((hB.out.alloc hsw _).trans (hb3.mono (by simp; omega))))
            go_ret
            exact ⟨by rw [hA.out]; rfl, hb2.out.trans (hb3.out.mono hb2.out.size)⟩
      · have hA := Lib.hid (hend.out fun i hi => hso.out i hi (by omega))
        clear hso
        go_wp2
        go_ret
        exact ⟨ret_bool (by rw [hA.out]; simp; omega), hb2.out.trans (hB.out.mono hb2.out.size)⟩
end Go.Proofs.YtbkmoaollooomaaDoor
