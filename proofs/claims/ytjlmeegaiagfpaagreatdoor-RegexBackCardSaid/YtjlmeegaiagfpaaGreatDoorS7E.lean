/- Texts of earlier layers, merged: S7W26, S7W27, S7W37. -/
import Derived.Test.YtjlmeegaiagfpaaGreatDoorS7W25
import Derived.Test.YtjlmeegaiagfpaaGreatDoorS7W8
import Derived.Test.YtjlmeegaiagfpaaGreatDoorS7D
namespace Go.Proofs.YtjlmeegaiagfpaaGreatDoor.S7
open Go.RowKit
open Go.Tree7
theorem scells_length (s : Step) : (scells s).length = 11 := rfl
theorem flat11 : ∀ (l : List Step) (i j : Nat) (hi : i < l.length), j < 11 → (rcells l)[i * 11 + j]? = (scells l[i])[j]? := by
  intro l
  induction l with
  | nil => intro i j hi; simp at hi
  | cons t l ih =>
    intro i j hi hj
    unfold rcells at *
    rw [List.flatMap_cons]
    cases i with
    | zero => rw [List.getElem?_append_left (by rw [scells_length]; omega)]; simp
    | succ i =>
      rw [List.getElem?_append_right (by rw [scells_length]; omega), scells_length, show (i + 1) * 11 + j - 11 = i * 11 + j by omega]
      exact ih i j (by simpa using hi) hj
theorem eleven_of {w : World} {b o : Nat} {c0 c1 c2 c3 c4 c5 c6 c7 c8 c9 c10 : Value} (h : ∀ q, q < 11 → w.cell? ⟨b, o + q, none⟩ = [c0, c1, c2, c3, c4, c5, c6, c7, c8, c9, c10][q]?) :
    w.cell? ⟨b, o, none⟩ = some c0 ∧ w.cell? ⟨b, o + 1, none⟩ = some c1 ∧ w.cell? ⟨b, o + 2, none⟩ = some c2 ∧ w.cell? ⟨b, o + 3, none⟩ = some c3 ∧ w.cell? ⟨b, o + 4, none⟩ = some c4 ∧ w.cell? ⟨b, o + 5, none⟩ = some c5 ∧ w.cell? ⟨b, o + 6, none⟩ = some c6 ∧ w.cell? ⟨b, o + 7, none⟩ = some c7 ∧ w.cell? ⟨b, o + 8, none⟩ = some c8 ∧ w.cell? ⟨b, o + 9, none⟩ = some c9 ∧ w.cell? ⟨b, o + 10, none⟩ = some c10 :=
  ⟨h 0 (by decide), h 1 (by decide), h 2 (by decide), h 3 (by decide), h 4 (by decide), h 5 (by decide), h 6 (by decide), h 7 (by decide), h 8 (by decide), h 9 (by decide), h 10 (by decide)⟩
/-- What the document's walk comes to. -/
def allS (t : T) : List Step := (pre 24 1 t).take 601
theorem allS_len (t : T) : (allS t).length ≤ 601 := by unfold allS; simp; omega
theorem allS_of_strip {t t' : T} (h : t.strip = t'.strip) : allS t = allS t' := by unfold allS; rw [pre_of_strip h]
/-- The tree has more than is asked. -/
def heavyB (t : T) : Bool := decide (2000 ≤ t.size) || (allS t).any fun s => decide (50 < s.tx.size)
end Go.Proofs.YtjlmeegaiagfpaaGreatDoor.S7

namespace Go.Proofs.YtjlmeegaiagfpaaGreatDoor.S7
open Go.RowKit
open Go.Tree7
/-- A step's fields fit their types. -/
def FitS (s : Step) : Prop := fits s.k s.u.1 s.u.2.1 s.u.2.2.1 s.u.2.2.2 s.mn s.mx s.tx ∧ s.kids ≤ maxLen
theorem step_fits {w : World} {B : Nat} {t : T} (h : T.In w B t) (lv : Nat) : FitS (t.step lv) := by
  cases h with
  | mk hb hm hf _ _ => exact ⟨hf, by simp only [T.step]; omega⟩
theorem pre_fits {w : World} {B : Nat} : ∀ (d lv : Nat) (t : T), T.In w B t → ∀ s ∈ pre d lv t, FitS s := by
  intro d
  induction d with
  | zero =>
    intro lv t h s hs
    simp only [pre, List.mem_cons, List.not_mem_nil, or_false] at hs
    subst hs
    exact step_fits h lv
  | succ d ih =>
    intro lv t h s hs
    simp only [pre, List.mem_cons, List.mem_flatMap] at hs
    rcases hs with rfl | ⟨t', ht', hs⟩
    · exact step_fits h lv
    · refine ih _ t' ?_ s hs
      cases h with
      | mk _ _ _ _ hk => exact hk t' ht'
theorem all_fits {w : World} {B : Nat} {t : T} (h : T.In w B t) : ∀ s ∈ allS t, FitS s := fun s hs => pre_fits 24 1 t h s (List.mem_of_mem_take hs)
/-- A step by itself is right. -/
noncomputable def okS (s : Step) : Bool := okB (S1.mem4 s.u.1.toNat s.u.2.1.toNat s.u.2.2.1.toNat s.u.2.2.2.toNat) s.k s.kids s.mn s.mx s.tx
theorem okS_step (t : T) (lv : Nat) : okS (t.step lv) = T.ok t := by cases t; rfl
theorem allS_map (t : T) : allS t = (allT t).map fun x => x.2.step x.1 := by
  unfold allS allT
  rw [← preT_map, List.map_take]
theorem right_iffS (t : T) : rightB t = true ↔ (∀ s ∈ allS t, s.level ≤ 24 ∧ okS s = true) ∧ (allS t).length ≤ 600 := by
  rw [rightB_iff, allS_map]
  unfold RightP
  simp only [List.length_map, List.mem_map]
  have hl : ∀ x : Nat × T, (x.2.step x.1).level = x.1 := fun x => by cases x.2; rfl
  constructor
  · rintro ⟨h1, h2⟩
    refine ⟨fun s ⟨x, hx, e⟩ => ?_, h2⟩
    subst e
    rw [hl, okS_step]
    exact h1 x hx
  · rintro ⟨h1, h2⟩
    refine ⟨fun x hx => ?_, h2⟩
    have := h1 _ ⟨x, hx, rfl⟩
    rwa [hl, okS_step] at this
end Go.Proofs.YtjlmeegaiagfpaaGreatDoor.S7

namespace Go.Tree7
open Go.RowKit
theorem flat_inj {d lv : Nat} (H : ∀ (t t' : T) (r r' : List Step), (∀ s ∈ pre d lv t, s.level ≤ 24) → (∀ s ∈ pre d lv t', s.level ≤ 24) → pre d lv t ++ r = pre d lv t' ++ r' → t.strip = t'.strip ∧ r = r') :
    ∀ (ks ks' : List T) (r r' : List Step), ks.length = ks'.length → (∀ s ∈ ks.flatMap (pre d lv), s.level ≤ 24) → (∀ s ∈ ks'.flatMap (pre d lv), s.level ≤ 24) → ks.flatMap (pre d lv) ++ r = ks'.flatMap (pre d lv) ++ r' → ks.map T.strip = ks'.map T.strip ∧ r = r' := by
  intro ks
  induction ks with
  | nil =>
    intro ks' r r' hl _ _ h
    cases ks' with
    | nil => exact ⟨rfl, by simpa using h⟩
    | cons => simp at hl
  | cons t ks ih =>
    intro ks' r r' hl h1 h2 h
    cases ks' with
    | nil => simp at hl
    | cons t' ks' =>
      simp only [List.flatMap_cons, List.append_assoc] at h
      simp only [List.flatMap_cons, List.mem_append] at h1 h2
      obtain ⟨e1, e2⟩ := H t t' _ _ (fun s hs => h1 s (.inl hs)) (fun s hs => h2 s (.inl hs)) h
      obtain ⟨e3, e4⟩ := ih ks' r r' (by simpa using hl) (fun s hs => h1 s (.inr hs)) (fun s hs => h2 s (.inr hs)) e2
      exact ⟨by rw [List.map_cons, List.map_cons, e1, e3], e4⟩
theorem pre_inj : ∀ (d lv : Nat), lv + d = 25 → ∀ (t t' : T) (r r' : List Step), (∀ s ∈ pre d lv t, s.level ≤ 24) → (∀ s ∈ pre d lv t', s.level ≤ 24) → pre d lv t ++ r = pre d lv t' ++ r' → t.strip = t'.strip ∧ r = r' := by
  intro d
  induction d with
  | zero =>
    intro lv hd t t' r r' h1 _ _
    have := h1 (t.step lv) (by simp [pre])
    cases t
    simp only [T.step] at this
    omega
  | succ d ih =>
    intro lv hd t t' r r' h1 h2 h
    cases t with
    | mk k u0 u1 u2 u3 p cap mn mx tx ks =>
    cases t' with
    | mk k' u0' u1' u2' u3' p' cap' mn' mx' tx' ks' =>
    simp only [pre, T.kids, T.step, List.cons_append, List.cons.injEq, Step.mk.injEq, Prod.mk.injEq] at h
    obtain ⟨⟨e1, ⟨e2, e3, e4, e5⟩, e6, e7, e8, -, e9⟩, h⟩ := h
    simp only [pre, T.kids, List.mem_cons] at h1 h2
    obtain ⟨e10, e11⟩ := flat_inj (ih (lv + 1) (by omega)) ks ks' r r' e9 (fun s hs => h1 s (.inr hs)) (fun s hs => h2 s (.inr hs)) h
    refine ⟨?_, e11⟩
    rw [T.strip_mk, T.strip_mk, e1, e2, e3, e4, e5, e6, e7, e8, e10]
end Go.Tree7
namespace Go.Proofs.YtjlmeegaiagfpaaGreatDoor.S7
open Go.RowKit
open Go.Tree7
theorem all_whole {t : T} (h : rightB t = true) : allS t = pre 24 1 t ∧ ∀ s ∈ pre 24 1 t, s.level ≤ 24 := by
  obtain ⟨h1, h2⟩ := (right_iffS t).1 h
  have e : allS t = pre 24 1 t := by
    unfold allS at h2 ⊢
    simp only [List.length_take] at h2
    exact List.take_of_length_le (by omega)
  exact ⟨e, fun s hs => (h1 s (by rw [e]; exact hs)).1⟩
/-- What the reference's Same tells. -/
noncomputable def rsameT (a b : T) : Bool := @decide (rightB a = true ∧ rightB b = true ∧ allS a = allS b) (Classical.propDecidable _)
theorem rsame_eq (a b : T) : rsameT a b = sameT a b := by
  unfold rsameT sameT
  rw [Bool.eq_iff_iff, @decide_eq_true_iff _ (Classical.propDecidable _), Bool.and_eq_true, eqT_iff]
  constructor
  · rintro ⟨h1, h2, h3⟩
    refine ⟨h1, ?_⟩
    obtain ⟨a1, a2⟩ := all_whole h1
    obtain ⟨b1, b2⟩ := all_whole h2
    rw [a1, b1] at h3
    exact (pre_inj 24 1 rfl a b [] [] a2 b2 (by rw [h3])).1
  · rintro ⟨h1, h2⟩
    exact ⟨h1, by rw [← right_of_strip h2]; exact h1, allS_of_strip h2⟩
theorem same_strip {a a' b b' : T} (h : a.strip = a'.strip) (h' : b.strip = b'.strip) : sameT a b = sameT a' b' := by
  unfold sameT
  rw [right_of_strip h, Bool.eq_iff_iff, Bool.and_eq_true, Bool.and_eq_true, eqT_iff, eqT_iff, h, h']
end Go.Proofs.YtjlmeegaiagfpaaGreatDoor.S7
