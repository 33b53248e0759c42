/- Texts merged: S7W26, S7W27. -/

import Derived.Test.YtobbifhflnlplaaDoorS7W25
import Derived.Test.YtobbifhflnlplaaDoorS7W8
namespace Go.Proofs.YtobbifhflnlplaaDoor.S7
open Lib (hid)
open Go.RowKit
open Go.Tree7
theorem scells_length (s : Step) : (scells s).length = 11 := rfl
theorem flat11 : ∀ (l : List Step) (i j : Nat) (hi : i < l.length), j < 11 → (rcells l)[i * 11 + j]? = (scells l[i])[j]? := by
 intro l
 induction l with
 | nil => intro i j hi; simp at hi
 | cons t l ih =>
  intro i j hi hj
  unfold rcells at *
  rw [List.flatMap_cons]
  cases i with
  | zero => rw [List.getElem?_append_left (by rw [scells_length]; omega)]; simp
  | succ i =>
   rw [List.getElem?_append_right (by rw [scells_length]; omega), scells_length, show (i + 1) * 11 + j - 11 = i * 11 + j by omega]
   exact ih i j (by simpa using hi) hj
theorem step_at {w : World} {base : Nat} {v : Value} {l : List Step} (h : w.ownsRow base 81 11 v l.length (rcells l)) : ∃ (p : Option Addr) (cap : Nat), v = .slice p l.length cap ∧ (0 < l.length → ∃ g, p = some ⟨g, 0, none⟩ ∧ base ≤ g ∧ g < w.heap.size) ∧ ∀ g, p = some ⟨g, 0, none⟩ → ∀ i (hi : i < l.length), ∀ q, q < 11 → w.cell? ⟨g, i * 11 + q, none⟩ = (scells l[i])[q]? := by
 obtain ⟨p, cap, rfl, hcap, hnil, hc⟩ := row_form h
 refine ⟨p, cap, rfl, fun hn => ?_, fun g hg i hi q hq => ?_⟩
 ·obtain ⟨g, h1, h2, h3, -⟩ := hc hn
  exact ⟨g, h1, h2, h3⟩
 ·obtain ⟨g', h1, -, -, h4⟩ := hc (by omega)
  rw [hg] at h1
  cases h1
  rw [h4 _ (by omega), flat11 l i q hi hq]
theorem eleven_of {w : World} {b o : Nat} {c0 c1 c2 c3 c4 c5 c6 c7 c8 c9 c10 : Value} (h : ∀ q, q < 11 → w.cell? ⟨b, o + q, none⟩ = [c0, c1, c2, c3, c4, c5, c6, c7, c8, c9, c10][q]?) :
  w.cell? ⟨b, o, none⟩ = some c0 ∧ w.cell? ⟨b, o + 1, none⟩ = some c1 ∧ w.cell? ⟨b, o + 2, none⟩ = some c2 ∧ w.cell? ⟨b, o + 3, none⟩ = some c3 ∧ w.cell? ⟨b, o + 4, none⟩ = some c4 ∧ w.cell? ⟨b, o + 5, none⟩ = some c5 ∧ w.cell? ⟨b, o + 6, none⟩ = some c6 ∧ w.cell? ⟨b, o + 7, none⟩ = some c7 ∧ w.cell? ⟨b, o + 8, none⟩ = some c8 ∧ w.cell? ⟨b, o + 9, none⟩ = some c9 ∧ w.cell? ⟨b, o + 10, none⟩ = some c10 :=
 ⟨h 0 (by decide), h 1 (by decide), h 2 (by decide), h 3 (by decide), h 4 (by decide), h 5 (by decide), h 6 (by decide), h 7 (by decide), h 8 (by decide), h 9 (by decide), h 10 (by decide)⟩
def allS (t : T) : List Step := (pre 24 1 t).take 601
theorem allS_len (t : T) : (allS t).length ≤ 601 := by unfold allS; simp; omega
theorem walk_all {t : T} {w : World} (hT : T.In w w.heap.size t) : Calls Tryd.prog 38 #[.agg t.cells.toArray, .int .i64 1, .slice none 0 0] w (GivesSteps w.heap.size w (allS t)) := by
 have := refWalk_in 24 t 1 [] (.slice none 0 0) w.heap.size w rfl hT (World.ownsRow_nil _ _ _ _) (by decide) (Nat.le_refl _)
 rw [walk_pre 24 1 [] t (by decide), List.nil_append] at this
 exact this
end Go.Proofs.YtobbifhflnlplaaDoor.S7
namespace Go.Proofs.YtobbifhflnlplaaDoor.S7
open Lib (hid)
open Go.RowKit
open Go.Tree7
def FitS (s : Step) : Prop := fits s.k s.u.1 s.u.2.1 s.u.2.2.1 s.u.2.2.2 s.mn s.mx s.tx ∧ s.kids ≤ maxLen
theorem step_fits {w : World} {B : Nat} {t : T} (h : T.In w B t) (lv : Nat) : FitS (t.step lv) := by
 cases h with
 | mk hb hm hf _ _ => exact ⟨hf, by simp only [T.step]; omega⟩
theorem pre_fits {w : World} {B : Nat} : ∀ (d lv : Nat) (t : T), T.In w B t → ∀ s ∈ pre d lv t, FitS s := by
 intro d
 induction d with
 | zero =>
  intro lv t h s hs
  simp only [pre, List.mem_cons, List.not_mem_nil, or_false] at hs
  subst hs
  exact step_fits h lv
 | succ d ih =>
  intro lv t h s hs
  simp only [pre, List.mem_cons, List.mem_flatMap] at hs
  rcases hs with rfl | ⟨t', ht', hs⟩
  ·exact step_fits h lv
  ·refine ih _ t' ?_ s hs
   cases h with
   | mk _ _ _ _ hk => exact hk t' ht'
theorem all_fits {w : World} {B : Nat} {t : T} (h : T.In w B t) : ∀ s ∈ allS t, FitS s := fun s hs => pre_fits 24 1 t h s (List.mem_of_mem_take hs)
noncomputable def okS (s : Step) : Bool := okB (S1.mem4 s.u.1.toNat s.u.2.1.toNat s.u.2.2.1.toNat s.u.2.2.2.toNat) s.k s.kids s.mn s.mx s.tx
theorem okS_step (t : T) (lv : Nat) : okS (t.step lv) = T.ok t := by cases t; rfl
theorem allS_map (t : T) : allS t = (allT t).map fun x => x.2.step x.1 := by
 unfold allS allT
 rw [← preT_map, List.map_take]
theorem right_iffS (t : T) : rightB t = true ↔ (∀ s ∈ allS t, s.level ≤ 24 ∧ okS s = true) ∧ (allS t).length ≤ 600 := by
 rw [rightB_iff, allS_map]
 unfold RightP
 simp only [List.length_map, List.mem_map]
 have hl : ∀ x : Nat × T, (x.2.step x.1).level = x.1 := fun x => by cases x.2; rfl
 constructor
 ·rintro ⟨h1, h2⟩
  refine ⟨fun s ⟨x, hx, e⟩ => ?_, h2⟩
  subst e
  rw [hl, okS_step]
  exact h1 x hx
 ·rintro ⟨h1, h2⟩
  refine ⟨fun x hx => ?_, h2⟩
  have := h1 _ ⟨x, hx, rfl⟩
  rwa [hl, okS_step] at this
theorem rone_step {s : Step} (h : FitS s) (w : World) : Calls Tryd.prog 39 #[.agg (scells s).toArray] w fun e w' => e = .returned (.bool (okS s)) ∧ Below w.heap.size w w' := by
 obtain ⟨hf, hk⟩ := h
 have := rone_in (S1.mem4 s.u.1.toNat s.u.2.1.toNat s.u.2.2.1.toNat s.u.2.2.2.toNat) s.k s.kids s.mn s.mx s.level s.tx (by unfold maxLen at hk; omega) (by have := hf.2.2.2.2; unfold maxLen at this; omega) w
 obtain ⟨e0, e1, e2, e3⟩ := wd_f hf.2.1
 rw [e0, e1, e2, e3] at this
 exact this
set_option maxRecDepth 10000 in
set_option maxHeartbeats 4000000 in
theorem rright_in {t : T} {w : World} (hT : T.In w w.heap.size t) : Calls Tryd.prog 24 #[.agg t.cells.toArray] w fun e w' => e = .returned (.bool (rightB t)) ∧ Below w.heap.size w w' := by
 have hB1 : Below w.heap.size w (w.alloc (.cells t.cells.toArray 32)) := (Below.refl w.heap.size w).alloc (Nat.le_refl _) _
 have cW := walk_all ((hT.keep hB1).mono hB1.size)
 have hfit := hid (all_fits hT)
 have hr := right_iffS t
 obtain ⟨S, hS⟩ : ∃ S, allS t = S := ⟨_, rfl⟩
 have hSl : S.length ≤ 601 := by rw [← hS]; exact allS_len t
 rw [hS] at cW hfit hr
 obtain ⟨R, hR⟩ : ∃ R, rightB t = R := ⟨_, rfl⟩
 rw [hR] at hr ⊢
 have hno : Hid (∀ i (hi : i < S.length), ¬ (S[i].level ≤ 24 ∧ okS S[i] = true) → R = false) := hid fun i hi h => by
  cases R with
  | false => rfl
  | true => exact absurd ((hr.1 rfl).1 _ (List.getElem_mem hi)) h
 have hend : Hid ((∀ i (hi : i < S.length), S[i].level ≤ 24 ∧ okS S[i] = true) → R = decide (S.length ≤ 600)) := hid fun h => by
  rw [Bool.eq_iff_iff, hr, decide_eq_true_eq]
  refine ⟨fun q => q.2, fun q => ⟨fun s hs => ?_, q⟩⟩
  obtain ⟨i, hi, rfl⟩ := List.getElem_of_mem hs
  exact h i hi
 replace cW := hid cW
 replace hB1 := hid hB1
 clear hS hR hr hT
 cases t with
 | mk k u0 u1 u2 u3 p cap mn mx tx ks =>
  simp only [T.cells] at *
  go_enter Tryd.func24, Tryd.ntmps24
  go_wp2_with (go_at_call 38; (with_reducible refine cW.out.mono ?_); rintro e w2 ⟨v, rfl, hrow, hb2⟩; obtain ⟨pv, cv, rfl, hpg, hpc⟩ := step_at hrow; clear hrow; replace hpg := hid hpg; replace hpc := hid hpc; replace hb2 := hid (hB1.out.trans (hb2.mono hB1.out.size)))
  go_loopw [10] (fun i wr => ∃ j : Nat, j ≤ S.length ∧ i = .int .i64 j ∧ Hid (Below w2.heap.size w2 wr) ∧ Hid (∀ i (hi : i < S.length), i < j → S[i].level ≤ 24 ∧ okS S[i] = true)) (fun i _ => S.length - (intOf i).toNat)
  case atStart => exact ⟨0, Nat.zero_le _, rfl, hid (Below.refl _ _), hid fun i hi h => by omega⟩
  case round =>
   obtain ⟨j, hj, rfl, hB, hso⟩ := hrel
   by_cases hlt : j < S.length
   ·obtain ⟨g, hpv, hbase, hgl⟩ := hpg.out (by omega)
    have hc := hpc.out g hpv j hlt
    subst hpv
    have hcl : ∀ q, q < 11 → wr.cell? ⟨g, j * 11 + q, none⟩ = (scells S[j])[q]? := fun q hq => by
     rw [← hc q hq]
     exact hB.out.cell (p := ⟨g, j * 11 + q, none⟩) hgl
    have hx := hfit.out S[j] (List.getElem_mem hlt)
    have hy := hid (hno.out j hlt)
    have hso2 : (S[j].level ≤ 24 ∧ okS S[j] = true) → Hid (∀ i (hi : i < S.length), i < j + 1 → S[i].level ≤ 24 ∧ okS S[i] = true) := fun h => hid fun i hi h2 => by
     by_cases e : i = j
     ·subst e; exact h
     ·exact hso.out i hi (by omega)
    clear hc hso
    have hsw := hB.out.size
    generalize S[j] = s at *
    have cR := rone_step hx
    generalize okS s = R9 at *
    obtain ⟨sk, ⟨su0, su1, su2, su3⟩, smn, smx, stx, slv, skids⟩ := s
    simp only [scells] at hcl cR
    replace cR := hid cR
    replace hx := hid hx
    obtain ⟨c0, c1, c2, c3, c4, c5, c6, c7, c8, c9, c10⟩ := eleven_of hcl
    clear hcl
    simp only at hy hso2
    by_cases h24 : 24 < slv
    ·have hA := hid (hy.out fun h => by omega)
     have d1 : decide ((slv : Int) > 24) = true := by simp; omega
     clear hy hso2
     go_wp2
     go_ret
     exact ⟨by rw [hA.out]; rfl, hb2.out.trans ((hB.out.alloc hsw _).mono hb2.out.size)⟩
    ·have d1 : decide ((slv : Int) > 24) = false := by simp; omega
     cases R9 with
     | true =>
      have hso3 := hso2 ⟨by omega, rfl⟩
      clear hy hso2
      go_wp2_with (go_at_call 39; (with_reducible refine (cR.out _).mono ?_); rintro e w3 ⟨rfl, hb3⟩; replace hb3 := hid ((hB.out.alloc hsw _).trans (hb3.mono (by simp; omega))))
      go_roundw
      case rel => exact ⟨j + 1, by omega, by go_num, hb3, hso3⟩
      case measure => simp [intOf]; omega
     | false =>
      have hA := hid (hy.out fun h => by cases h.2)
      clear hy hso2
      go_wp2_with (go_at_call 39; (with_reducible refine (cR.out _).mono ?_); rintro e w3 ⟨rfl, hb3⟩; replace hb3 := hid ((hB.out.alloc hsw _).trans (hb3.mono (by simp; omega))))
      go_ret
      exact ⟨by rw [hA.out]; rfl, hb2.out.trans (hb3.out.mono hb2.out.size)⟩
   ·have hA := hid (hend.out fun i hi => hso.out i hi (by omega))
    clear hso
    go_wp2
    go_ret
    exact ⟨ret_bool (by rw [hA.out]; simp; omega), hb2.out.trans (hB.out.mono hb2.out.size)⟩
end Go.Proofs.YtobbifhflnlplaaDoor.S7
