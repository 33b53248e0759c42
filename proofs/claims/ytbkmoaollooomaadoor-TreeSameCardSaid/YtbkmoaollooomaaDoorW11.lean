/- How one byte of a set is written, how a repetition is. -/
import Derived.Test.YtbkmoaollooomaaDoorW10
import Derived.Test.YtbkmoaollooomaaDoorS6B
import Derived.Test.YtbkmoaollooomaaDoorS1E
import Derived.Deep.QuietTactic
namespace Go.Proofs.YtbkmoaollooomaaDoor
open Go.RowKit
open Go.Tree7
open S5 (nl nl_length nl_small at_nl nl_at nl_strN)
open S1 (el eqB notS oneS wd)
theorem kept_row {W W' : World} {b : Nat} {o : Obj} (h : W.heap[b]? = some o) (hb : Below W.heap.size W W') : W'.heap[b]? = some o := (hb.block b (Array.getElem?_eq_some_iff.1 h).1).trans h
theorem cells_of {W : World} {b : Nat} {cs : Array Value} {t : TypeId} (h : W.heap[b]? = some (.cells cs t (0, 0))) : ∀ q v, cs[q]? = some v → W.cell? ⟨b, q, none⟩ = some v ∧ W.frozen? ⟨b, q, none⟩ = false := fun q v hv => by
  refine ⟨?_, ?_⟩
  · rw [cell_of_row _ _ _ _ _ (0, 0) h]; exact hv
  · simp [World.frozen?, h]
/-- All bytes but 10. -/
def dotS : Nat → Bool := notS (oneS 10)
set_option maxRecDepth 10000 in
set_option maxHeartbeats 1000000 in
theorem dot_in (w : World) : Calls Tryd.prog 59 #[] w fun e w' => e = .returned (.agg #[.int .u64 (S1.wd (dotS) 0), .int .u64 (S1.wd (dotS) 1), .int .u64 (S1.wd (dotS) 2), .int .u64 (S1.wd (dotS) 3)]) ∧ Below w.heap.size w w' := by
  have C := fun w => S1.one_in 10 (by decide) w
  have D := fun w => S1.not_in (oneS 10) w
  unfold dotS
  have o0 := C
  clear o0
  generalize wd (oneS 10) 0 = a0 at *
  generalize wd (oneS 10) 1 = a1 at *
  generalize wd (oneS 10) 2 = a2 at *
  generalize wd (oneS 10) 3 = a3 at *
  generalize wd (notS (oneS 10)) 0 = b0 at *
  generalize wd (notS (oneS 10)) 1 = b1 at *
  generalize wd (notS (oneS 10)) 2 = b2 at *
  generalize wd (notS (oneS 10)) 3 = b3 at *
  replace C := Lib.hid C
  replace D := Lib.hid D
  go_enter Tryd.func59, Tryd.ntmps59
  go_wp2_with (first | (go_at_call 24; refine (C.out _).mono ?_; rintro e w1 ⟨rfl, hb1⟩; replace hb1 := Lib.hid hb1) | (go_at_call 68; (with_reducible refine (D.out _).mono ?_); rintro e w2 ⟨rfl, hb2⟩; have hk := cells_of (kept_row (kept_row (World.alloc_heap_new _ _) hb1.out) hb2); obtain ⟨c0, f0⟩ := hk 0 _ rfl; obtain ⟨c1, f1⟩ := hk 1 _ rfl; obtain ⟨c2, f2⟩ := hk 2 _ rfl; obtain ⟨c3, f3⟩ := hk 3 _ rfl; clear hk; have hl : w.heap.size < w2.heap.size := Nat.lt_of_lt_of_le (by have := hb1.out.size; simp at this; omega) hb2.size; replace hb2 := Lib.hid hb2))
  have hB : Below w.heap.size w w2 := ((Below.refl w.heap.size w).alloc (Nat.le_refl _) _).trans ((hb1.out.mono (by simp)).trans (hb2.out.mono (by have := hb1.out.size; simp at this; omega)))
  exact bodyPost_ret (v := (.agg #[.int .u64 b0, .int .u64 b1, .int .u64 b2, .int .u64 b3])) (by simp [results, Tryd.results59, go_sem, c0, c1, c2, c3]) rfl ⟨rfl, (((hB.setCell (p := ⟨w.heap.size, 0, none⟩) (Nat.le_refl _) _).setCell (p := ⟨w.heap.size, 1, none⟩) (Nat.le_refl _) _).setCell (p := ⟨w.heap.size, 2, none⟩) (Nat.le_refl _) _).setCell (p := ⟨w.heap.size, 3, none⟩) (Nat.le_refl _) _⟩
/-- How a byte is written. -/
noncomputable def po (c : Nat) : List Nat := if h : c ≤ 255 then Classical.choose (S5.sp_some (.inl rfl) c h : ∃ l, S5.Sp S5.out c l) else []
theorem po_sp {c : Nat} (h : c ≤ 255) : S5.Sp S5.out c (po c) := by
  unfold po
  rw [dif_pos h]
  exact Classical.choose_spec (S5.sp_some (.inl rfl) c h)
/-- How one byte of a set is written. -/
noncomputable def oneL (f : Nat → Bool) : List Nat := if (el f 256).length = 1 then po ((el f 256).headD 0) else if eqB f dotS = true then [46] else S6.txtB f
theorem oneL_len (f : Nat → Bool) : (oneL f).length ≤ 2400 := by
  unfold oneL
  split
  · by_cases h : (el f 256).headD 0 ≤ 255
    · have := (S5.sp_length (po_sp h)).2
      omega
    · unfold po; rw [dif_neg h]; simp
  · split
    · simp
    · exact S6.txtB_len f
theorem oneL_small (f : Nat → Bool) : ∀ x ∈ oneL f, x ≤ 255 := by
  unfold oneL
  split
  · by_cases h : (el f 256).headD 0 ≤ 255
    · exact S5.sp_small (po_sp h)
    · unfold po; rw [dif_neg h]; simp
  · split
    · simp
    · exact S6.txtB_small f
theorem dot_of (f : Nat → Bool) : eqB f dotS = true ↔ (el f 256).length = 255 ∧ f 10 = false := by
  have h1 : (el dotS 256).length = 255 := by kernel_rfl
  constructor
  · intro h
    have hs := S1.eqB_spec h
    refine ⟨?_, by rw [hs 10 (by decide)]; rfl⟩
    have : el f 256 = el dotS 256 := by
      have key : ∀ p, p ≤ 256 → el f p = el dotS p := by
        intro p
        induction p with
        | zero => intro _; rfl
        | succ p ih =>
          intro hp
          simp only [el]
          rw [ih (by omega), hs p (by omega)]
      exact key 256 (Nat.le_refl _)
    rw [this, h1]
  · rintro ⟨hl, h10⟩
    refine S1.eqB_true fun c hc => ?_
    -- a part of a row as long as the row
    have key : ∀ p, p ≤ 256 → (el f p).Sublist (el dotS p) := by
      intro p
      induction p with
      | zero => intro _; exact List.Sublist.refl _
      | succ p ih =>
        intro hp
        simp only [el]
        refine List.Sublist.append (ih (by omega)) ?_
        by_cases e : p = 10
        · subst e; rw [h10]; simp
        · have : dotS p = true := by simp [dotS, notS, oneS, e]
          rw [this]
          split <;> simp
    have he := (key 256 (Nat.le_refl _)).eq_of_length (by rw [hl, h1])
    have hm : c ∈ el f 256 ↔ c ∈ el dotS 256 := by rw [he]
    rw [S1.el_mem, S1.el_mem] at hm
    cases hf : f c <;> cases hd : dotS c <;> simp_all
end Go.Proofs.YtbkmoaollooomaaDoor
