/- A right tree is told by its walk: mathematics. -/
import Derived.Test.YtbkmoaollooomaaDoorW36
import Derived.Test.YtbkmoaollooomaaDoorW27
namespace Go.Tree7
open Go.RowKit
theorem flat_inj {d lv : Nat} (H : ∀ (t t' : T) (r r' : List Step), (∀ s ∈ pre d lv t, s.level ≤ 24) → (∀ s ∈ pre d lv t', s.level ≤ 24) → pre d lv t ++ r = pre d lv t' ++ r' → t.strip = t'.strip ∧ r = r') :
    ∀ (ks ks' : List T) (r r' : List Step), ks.length = ks'.length → (∀ s ∈ ks.flatMap (pre d lv), s.level ≤ 24) → (∀ s ∈ ks'.flatMap (pre d lv), s.level ≤ 24) → ks.flatMap (pre d lv) ++ r = ks'.flatMap (pre d lv) ++ r' → ks.map T.strip = ks'.map T.strip ∧ r = r' := by
  intro ks
  induction ks with
  | nil =>
    intro ks' r r' hl _ _ h
    cases ks' with
    | nil => exact ⟨rfl, by simpa using h⟩
    | cons => simp at hl
  | cons t ks ih =>
    intro ks' r r' hl h1 h2 h
    cases ks' with
    | nil => simp at hl
    | cons t' ks' =>
      simp only [List.flatMap_cons, List.append_assoc] at h
      simp only [List.flatMap_cons, List.mem_append] at h1 h2
      obtain ⟨e1, e2⟩ := H t t' _ _ (fun s hs => h1 s (.inl hs)) (fun s hs => h2 s (.inl hs)) h
      obtain ⟨e3, e4⟩ := ih ks' r r' (by simpa using hl) (fun s hs => h1 s (.inr hs)) (fun s hs => h2 s (.inr hs)) e2
      exact ⟨by rw [List.map_cons, List.map_cons, e1, e3], e4⟩
theorem pre_inj : ∀ (d lv : Nat), lv + d = 25 → ∀ (t t' : T) (r r' : List Step), (∀ s ∈ pre d lv t, s.level ≤ 24) → (∀ s ∈ pre d lv t', s.level ≤ 24) → pre d lv t ++ r = pre d lv t' ++ r' → t.strip = t'.strip ∧ r = r' := by
  intro d
  induction d with
  | zero =>
    intro lv hd t t' r r' h1 _ _
    have := h1 (t.step lv) (by simp [pre])
    cases t
    simp only [T.step] at this
    omega
  | succ d ih =>
    intro lv hd t t' r r' h1 h2 h
    cases t with
    | mk k u0 u1 u2 u3 p cap mn mx tx ks =>
    cases t' with
    | mk k' u0' u1' u2' u3' p' cap' mn' mx' tx' ks' =>
    simp only [pre, T.kids, T.step, List.cons_append, List.cons.injEq, Step.mk.injEq, Prod.mk.injEq] at h
    obtain ⟨⟨e1, ⟨e2, e3, e4, e5⟩, e6, e7, e8, -, e9⟩, h⟩ := h
    simp only [pre, T.kids, List.mem_cons] at h1 h2
    obtain ⟨e10, e11⟩ := flat_inj (ih (lv + 1) (by omega)) ks ks' r r' e9 (fun s hs => h1 s (.inr hs)) (fun s hs => h2 s (.inr hs)) h
    refine ⟨?_, e11⟩
    rw [T.strip_mk, T.strip_mk, e1, e2, e3, e4, e5, e6, e7, e8, e10]
end Go.Tree7
namespace Go.Proofs.YtbkmoaollooomaaDoor
open Go.RowKit
open Go.Tree7
theorem all_whole {t : T} (h : rightB t = true) : allS t = pre 24 1 t ∧ ∀ s ∈ pre 24 1 t, s.level ≤ 24 := by
  obtain ⟨h1, h2⟩ := (right_iffS t).1 h
  have e : allS t = pre 24 1 t := by
    unfold allS at h2 ⊢
    simp only [List.length_take] at h2
    exact List.take_of_length_le (by omega)
  exact ⟨e, fun s hs => (h1 s (by rw [e]; exact hs)).1⟩
/-- What the reference's Same tells. -/
noncomputable def rsameT (a b : T) : Bool := @decide (rightB a = true ∧ rightB b = true ∧ allS a = allS b) (Classical.propDecidable _)
theorem rsame_eq (a b : T) : rsameT a b = sameT a b := by
  unfold rsameT sameT
  rw [Bool.eq_iff_iff, @decide_eq_true_iff _ (Classical.propDecidable _), Bool.and_eq_true, eqT_iff]
  constructor
  · rintro ⟨h1, h2, h3⟩
    refine ⟨h1, ?_⟩
    obtain ⟨a1, a2⟩ := all_whole h1
    obtain ⟨b1, b2⟩ := all_whole h2
    rw [a1, b1] at h3
    exact (pre_inj 24 1 rfl a b [] [] a2 b2 (by rw [h3])).1
  · rintro ⟨h1, h2⟩
    exact ⟨h1, by rw [← right_of_strip h2]; exact h1, allS_of_strip h2⟩
theorem same_strip {a a' b b' : T} (h : a.strip = a'.strip) (h' : b.strip = b'.strip) : sameT a b = sameT a' b' := by
  unfold sameT
  rw [right_of_strip h, Bool.eq_iff_iff, Bool.and_eq_true, Bool.and_eq_true, eqT_iff, eqT_iff, h, h']
end Go.Proofs.YtbkmoaollooomaaDoor
