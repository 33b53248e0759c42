/- The text of a tree: mathematics. -/
import Derived.Test.YtbkmoaollooomaaDoorW9
import Derived.Test.YtbkmoaollooomaaDoorW13
namespace Go.Proofs.YtbkmoaollooomaaDoor
open Go.RowKit
open Go.Tree7
open S5 (nl nl_length nl_small at_nl nl_at nl_strN)
/-- Every node of a tree. -/
inductive T.All (P : T → Prop) : T → Prop
  | mk {k u0 u1 u2 u3 : Int} {p : Option Addr} {cap : Nat} {mn mx : Int} {tx : ByteArray} {ks : List T} (h : P (.mk k u0 u1 u2 u3 p cap mn mx tx ks)) (hk : ∀ t ∈ ks, T.All P t) : T.All P (.mk k u0 u1 u2 u3 p cap mn mx tx ks)
theorem T.All.imp {P Q : T → Prop} (h : ∀ t, P t → Q t) {t : T} (a : T.All P t) : T.All Q t := by
  induction a with
  | mk h' _ ih => exact .mk (h _ h') ih
theorem all_pre {P : T → Prop} : ∀ (d lv : Nat) (t : T), lv + d = 25 → (∀ x ∈ preT d lv t, x.1 ≤ 24 ∧ P x.2) → T.All P t ∧ (preT d lv t).length = t.size := by
  intro d
  induction d with
  | zero =>
    intro lv t hd h
    have := (h (lv, t) (by simp [preT])).1
    simp at this
    omega
  | succ d ih =>
    intro lv t hd h
    cases t with
    | mk k u0 u1 u2 u3 p cap mn mx tx ks =>
      have each : ∀ t ∈ ks, T.All P t ∧ (preT d (lv + 1) t).length = t.size := fun t ht => ih (lv + 1) t (by omega) fun x hx => h x (by
        simp only [preT, T.kids, List.mem_cons, List.mem_flatMap]
        exact .inr ⟨t, ht, hx⟩)
      refine ⟨.mk (h (lv, .mk k u0 u1 u2 u3 p cap mn mx tx ks) (by simp [preT])).2 (fun t ht => (each t ht).1), ?_⟩
      rw [T.size_mk]
      simp only [preT, T.kids, List.length_cons, List.length_flatMap]
      have e : (ks.map fun t => (preT d (lv + 1) t).length) = ks.map T.size := List.map_congr_left fun t ht => (each t ht).2
      rw [e]
      omega
theorem right_all {t : T} (h : RightP t) : T.All (fun t => T.ok t = true) t ∧ t.size ≤ 600 := by
  obtain ⟨h1, h2⟩ := h
  have hl : (preT 24 1 t).length ≤ 600 := by
    unfold allT at h2
    simp at h2
    omega
  have e : allT t = preT 24 1 t := by unfold allT; exact List.take_of_length_le (by omega)
  rw [e] at h1
  obtain ⟨a, b⟩ := all_pre (P := fun t => T.ok t = true) 24 1 t rfl h1
  exact ⟨a, by omega⟩
/-- A kid's text, in parentheses where its kind is among cl. -/
def itm (cl : List Int) (k : Int) (l : List Nat) : List Nat := if k ∈ cl then [40] ++ l ++ [41] else l
def joinS (sep : List Nat) : List (List Nat) → List Nat
  | [] => []
  | x :: xs => x ++ xs.flatMap fun y => sep ++ y
theorem joinS_snoc (sep : List Nat) (l : List (List Nat)) (x : List Nat) : joinS sep (l ++ [x]) = joinS sep l ++ (if l.length = 0 then [] else sep) ++ x := by
  cases l <;> simp [joinS]
theorem joinS_len (sep : List Nat) (l : List (List Nat)) : (joinS sep l).length ≤ (l.map fun x => x.length + sep.length).sum := by
  cases l with
  | nil => simp [joinS]
  | cons x xs =>
    simp only [joinS, List.length_append, List.length_flatMap, List.map_cons, List.sum_cons]
    have : (xs.map fun y => sep.length + y.length).sum = (xs.map fun x => x.length + sep.length).sum := by
      congr 1
      refine List.map_congr_left fun y _ => by omega
    omega
theorem joinS_small {sep : List Nat} {l : List (List Nat)} (hs : ∀ x ∈ sep, x ≤ 255) (hl : ∀ y ∈ l, ∀ x ∈ y, x ≤ 255) : ∀ x ∈ joinS sep l, x ≤ 255 := by
  cases l with
  | nil => simp [joinS]
  | cons y ys =>
    intro x hx
    simp only [joinS, List.mem_append, List.mem_flatMap] at hx
    rcases hx with hx | ⟨z, hz, hx | hx⟩
    · exact hl y (by simp) x hx
    · exact hs x hx
    · exact hl z (by simp [hz]) x hx
def T.k : T → Int
  | .mk k _ _ _ _ _ _ _ _ _ _ => k
/-- The text of a tree. -/
noncomputable def T.txt : T → List Nat
  | .mk k u0 u1 u2 u3 _ _ mn mx tx ks =>
    if k = 1 then oneL (S1.mem4 u0.toNat u1.toNat u2.toNat u3.toNat)
    else if k = 2 then (if ks.length = 0 then [40, 41] else joinS [] (ks.attach.map fun ⟨t, _⟩ => itm [2, 3] (T.k t) (T.txt t)))
    else if k = 3 then joinS [124] (ks.attach.map fun ⟨t, _⟩ => itm [3] (T.k t) (T.txt t))
    else if k = 4 then joinS [] (ks.attach.map fun ⟨t, _⟩ => itm [2, 3, 4] (T.k t) (T.txt t)) ++ timesL mn mx
    else [123] ++ nl tx ++ [125]
/-- The texts of the kids. -/
noncomputable def its (cl : List Int) (ks : List T) : List (List Nat) := ks.map fun t => itm cl (T.k t) (T.txt t)
theorem txt_mk (k u0 u1 u2 u3 : Int) (p : Option Addr) (cap : Nat) (mn mx : Int) (tx : ByteArray) (ks : List T) : T.txt (.mk k u0 u1 u2 u3 p cap mn mx tx ks) =
    if k = 1 then oneL (S1.mem4 u0.toNat u1.toNat u2.toNat u3.toNat)
    else if k = 2 then (if ks.length = 0 then [40, 41] else joinS [] (its [2, 3] ks))
    else if k = 3 then joinS [124] (its [3] ks)
    else if k = 4 then joinS [] (its [2, 3, 4] ks) ++ timesL mn mx
    else [123] ++ nl tx ++ [125] := by
  rw [T.txt]
  unfold its
  simp
theorem itm_len (cl : List Int) (k : Int) (l : List Nat) : (itm cl k l).length ≤ l.length + 2 := by unfold itm; split <;> simp
theorem its_sum {cl : List Int} {sep : List Nat} {ks : List T} (hs : sep.length ≤ 1) (h : ∀ t ∈ ks, (T.txt t).length + 3 ≤ 2413 * t.size) : (joinS sep (its cl ks)).length ≤ 2413 * (ks.map T.size).sum := by
  refine Nat.le_trans (joinS_len _ _) ?_
  unfold its
  rw [List.map_map]
  have key : ∀ l : List T, (∀ t ∈ l, (T.txt t).length + 3 ≤ 2413 * t.size) → (l.map (fun t => (itm cl (T.k t) (T.txt t)).length + sep.length)).sum ≤ 2413 * (l.map T.size).sum := by
    intro l
    induction l with
    | nil => intro _; simp
    | cons t l ih =>
      intro h
      simp only [List.map_cons, List.sum_cons]
      have h1 := h t (by simp)
      have h2 := itm_len cl (T.k t) (T.txt t)
      have h3 := ih (fun t ht => h t (by simp [ht]))
      omega
  exact key ks h
theorem ok5 {k u0 u1 u2 u3 : Int} {p : Option Addr} {cap : Nat} {mn mx : Int} {tx : ByteArray} {ks : List T} (h : T.ok (.mk k u0 u1 u2 u3 p cap mn mx tx ks) = true) :
    k = 1 ∨ k = 2 ∨ (k = 3 ∧ 2 ≤ ks.length) ∨ (k = 4 ∧ ks.length = 1 ∧ boundsB mn mx = true) ∨ (k = 5 ∧ NameOk (nl tx)) := by
  replace h : okB _ k ks.length mn mx tx = true := h
  unfold okB at h
  split at h
  · exact .inl (by assumption)
  · split at h
    · exact .inr (.inl (by assumption))
    · split at h
      · simp only [Bool.and_eq_true, decide_eq_true_eq] at h
        exact .inr (.inr (.inl ⟨by assumption, h.1⟩))
      · split at h
        · simp only [Bool.and_eq_true, decide_eq_true_eq] at h
          exact .inr (.inr (.inr (.inl ⟨by assumption, h.1.1, h.1.2⟩)))
        · split at h
          · simp only [Bool.and_eq_true, decide_eq_true_eq] at h
            exact .inr (.inr (.inr (.inr ⟨by assumption, (nameB_iff _).1 h.1.2⟩)))
          · cases h
theorem txt_len {t : T} (h : T.All (fun t => T.ok t = true) t) : (T.txt t).length + 3 ≤ 2413 * t.size := by
  induction h with
  | @mk k u0 u1 u2 u3 p cap mn mx tx ks h _ ih =>
    rw [txt_mk, T.size_mk]
    have j2 := its_sum (cl := [2, 3]) (sep := []) (by simp) ih
    have j3 := its_sum (cl := [3]) (sep := [124]) (by simp) ih
    have j4 := its_sum (cl := [2, 3, 4]) (sep := []) (by simp) ih
    have ht := timesL_len mn mx
    have h1 := oneL_len (S1.mem4 u0.toNat u1.toNat u2.toNat u3.toNat)
    rcases ok5 h with rfl | rfl | ⟨rfl, -⟩ | ⟨rfl, -, -⟩ | ⟨rfl, hn⟩
    · simp only [if_true]; omega
    · simp only [show ¬ (2 : Int) = 1 by decide, if_false, if_true]
      split
      · simp; omega
      · omega
    · simp only [show ¬ (3 : Int) = 1 by decide, show ¬ (3 : Int) = 2 by decide, if_false, if_true]; omega
    · simp only [show ¬ (4 : Int) = 1 by decide, show ¬ (4 : Int) = 2 by decide, show ¬ (4 : Int) = 3 by decide, if_false, if_true, List.length_append]; omega
    · simp only [show ¬ (5 : Int) = 1 by decide, show ¬ (5 : Int) = 2 by decide, show ¬ (5 : Int) = 3 by decide, show ¬ (5 : Int) = 4 by decide, if_false, List.length_append, List.length_cons, List.length_nil]
      have := hn.2.1
      omega
theorem txt_small {t : T} (h : T.All (fun t => T.ok t = true) t) : ∀ x ∈ T.txt t, x ≤ 255 := by
  induction h with
  | @mk k u0 u1 u2 u3 p cap mn mx tx ks h _ ih =>
    rw [txt_mk]
    have hi : ∀ cl, ∀ y ∈ its cl ks, ∀ x ∈ y, x ≤ 255 := fun cl y hy x hx => by
      unfold its at hy
      obtain ⟨t, ht, rfl⟩ := List.mem_map.1 hy
      unfold itm at hx
      split at hx
      · simp only [List.mem_append, List.mem_cons, List.not_mem_nil, or_false] at hx
        rcases hx with (rfl | hx) | rfl
        · decide
        · exact ih t ht x hx
        · decide
      · exact ih t ht x hx
    rcases ok5 h with rfl | rfl | ⟨rfl, -⟩ | ⟨rfl, -, hb⟩ | ⟨rfl, hn⟩
    · simp only [if_true]; exact oneL_small _
    · simp only [show ¬ (2 : Int) = 1 by decide, if_false, if_true]
      split
      · simp
      · exact joinS_small (by simp) (hi _)
    · simp only [show ¬ (3 : Int) = 1 by decide, show ¬ (3 : Int) = 2 by decide, if_false, if_true]; exact joinS_small (by simp) (hi _)
    · simp only [show ¬ (4 : Int) = 1 by decide, show ¬ (4 : Int) = 2 by decide, show ¬ (4 : Int) = 3 by decide, if_false, if_true]
      intro x hx
      rcases List.mem_append.1 hx with hx | hx
      · exact joinS_small (by simp) (hi _) x hx
      · exact timesL_small hb x hx
    · simp only [show ¬ (5 : Int) = 1 by decide, show ¬ (5 : Int) = 2 by decide, show ¬ (5 : Int) = 3 by decide, show ¬ (5 : Int) = 4 by decide, if_false]
      intro x hx
      simp only [List.mem_append, List.mem_cons, List.not_mem_nil, or_false] at hx
      rcases hx with (rfl | hx) | rfl
      · decide
      · exact nl_small _ x hx
      · decide
end Go.Proofs.YtbkmoaollooomaaDoor
