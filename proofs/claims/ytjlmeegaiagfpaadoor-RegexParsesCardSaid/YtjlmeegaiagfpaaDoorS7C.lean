/- Texts of earlier layers, merged: S7W10, S7W11, S7W12, S7W13, S7W14, S7W19, S7W21, S7W22a, S7W23. -/
import Derived.Test.YtjlmeegaiagfpaaDoorS7B
import Derived.Test.YtjlmeegaiagfpaaDoorS5A
import Derived.Test.YtjlmeegaiagfpaaDoorS6B
import Derived.Test.YtjlmeegaiagfpaaDoorS1E
import Derived.Deep.QuietTactic
import Derived.Test.YtjlmeegaiagfpaaDoorS1C
import Derived.Deep.RegionWith
import Derived.Test.YtjlmeegaiagfpaaDoorS7W9
namespace Go.Proofs.YtjlmeegaiagfpaaDoor.S7
open Go.RowKit
open Go.Tree7
open S5 (nl nl_length nl_small at_nl nl_at nl_strN)
/-- A small number's figures. -/
def figs (n : Nat) : List Nat := if n < 10 then [48 + n] else [48 + n / 10, 48 + n % 10]
end Go.Proofs.YtjlmeegaiagfpaaDoor.S7

namespace Go.Proofs.YtjlmeegaiagfpaaDoor.S7
open Go.RowKit
open Go.Tree7
open S5 (nl nl_length nl_small at_nl nl_at nl_strN)
open S1 (el eqB notS oneS wd)
theorem cells_of {W : World} {b : Nat} {cs : Array Value} {t : TypeId} (h : W.heap[b]? = some (.cells cs t (0, 0))) : ∀ q v, cs[q]? = some v → W.cell? ⟨b, q, none⟩ = some v ∧ W.frozen? ⟨b, q, none⟩ = false := fun q v hv => by
  refine ⟨?_, ?_⟩
  · rw [cell_of_row _ _ _ _ _ (0, 0) h]; exact hv
  · simp [World.frozen?, h]
/-- All bytes but 10. -/
def dotS : Nat → Bool := notS (oneS 10)
set_option maxRecDepth 10000 in
set_option maxHeartbeats 1000000 in
theorem dot_in (w : World) : Calls Tryd.prog 66 #[] w fun e w' => e = .returned (.agg #[.int .u64 (S1.wd (dotS) 0), .int .u64 (S1.wd (dotS) 1), .int .u64 (S1.wd (dotS) 2), .int .u64 (S1.wd (dotS) 3)]) ∧ Below w.heap.size w w' := by
  have C := fun w => S1.one_in 10 (by decide) w
  have D := fun w => S1.not_in (oneS 10) w
  unfold dotS
  have o0 := C
  clear o0
  generalize wd (oneS 10) 0 = a0 at *
  generalize wd (oneS 10) 1 = a1 at *
  generalize wd (oneS 10) 2 = a2 at *
  generalize wd (oneS 10) 3 = a3 at *
  generalize wd (notS (oneS 10)) 0 = b0 at *
  generalize wd (notS (oneS 10)) 1 = b1 at *
  generalize wd (notS (oneS 10)) 2 = b2 at *
  generalize wd (notS (oneS 10)) 3 = b3 at *
  replace C := Lib.hid C
  replace D := Lib.hid D
  go_enter Tryd.func66, Tryd.ntmps66
  go_wp2_with (first | (go_at_call 69; refine (C.out _).mono ?_; rintro e w1 ⟨rfl, hb1⟩; replace hb1 := Lib.hid hb1) | (go_at_call 80; (with_reducible refine (D.out _).mono ?_); rintro e w2 ⟨rfl, hb2⟩; have hk := cells_of (kept_row (kept_row (World.alloc_heap_new _ _) hb1.out) hb2); obtain ⟨c0, f0⟩ := hk 0 _ rfl; obtain ⟨c1, f1⟩ := hk 1 _ rfl; obtain ⟨c2, f2⟩ := hk 2 _ rfl; obtain ⟨c3, f3⟩ := hk 3 _ rfl; clear hk; have hl : w.heap.size < w2.heap.size := Nat.lt_of_lt_of_le (by have := hb1.out.size; simp at this; omega) hb2.size; replace hb2 := Lib.hid hb2))
  have hB : Below w.heap.size w w2 := ((Below.refl w.heap.size w).alloc (Nat.le_refl _) _).trans ((hb1.out.mono (by simp)).trans (hb2.out.mono (by have := hb1.out.size; simp at this; omega)))
  exact bodyPost_ret (v := (.agg #[.int .u64 b0, .int .u64 b1, .int .u64 b2, .int .u64 b3])) (by simp [results, Tryd.results66, go_sem, c0, c1, c2, c3]) rfl ⟨rfl, (((hB.setCell (p := ⟨w.heap.size, 0, none⟩) (Nat.le_refl _) _).setCell (p := ⟨w.heap.size, 1, none⟩) (Nat.le_refl _) _).setCell (p := ⟨w.heap.size, 2, none⟩) (Nat.le_refl _) _).setCell (p := ⟨w.heap.size, 3, none⟩) (Nat.le_refl _) _⟩
/-- How a byte is written. -/
noncomputable def po (c : Nat) : List Nat := if h : c ≤ 255 then Classical.choose (S5.sp_some (.inl rfl) c h : ∃ l, S5.Sp S5.out c l) else []
theorem po_sp {c : Nat} (h : c ≤ 255) : S5.Sp S5.out c (po c) := by
  unfold po
  rw [dif_pos h]
  exact Classical.choose_spec (S5.sp_some (.inl rfl) c h)
/-- How one byte of a set is written. -/
noncomputable def oneL (f : Nat → Bool) : List Nat := if (el f 256).length = 1 then po ((el f 256).headD 0) else if eqB f dotS = true then [46] else S6.txtB f
theorem oneL_len (f : Nat → Bool) : (oneL f).length ≤ 2400 := by
  unfold oneL
  split
  · by_cases h : (el f 256).headD 0 ≤ 255
    · have := (S5.sp_length (po_sp h)).2
      omega
    · unfold po; rw [dif_neg h]; simp
  · split
    · simp
    · exact S6.txtB_len f
theorem oneL_small (f : Nat → Bool) : ∀ x ∈ oneL f, x ≤ 255 := by
  unfold oneL
  split
  · by_cases h : (el f 256).headD 0 ≤ 255
    · exact S5.sp_small (po_sp h)
    · unfold po; rw [dif_neg h]; simp
  · split
    · simp
    · exact S6.txtB_small f
theorem dot_of (f : Nat → Bool) : eqB f dotS = true ↔ (el f 256).length = 255 ∧ f 10 = false := by
  have h1 : (el dotS 256).length = 255 := by kernel_rfl
  constructor
  · intro h
    have hs := S1.eqB_spec h
    refine ⟨?_, by rw [hs 10 (by decide)]; rfl⟩
    have : el f 256 = el dotS 256 := by
      have key : ∀ p, p ≤ 256 → el f p = el dotS p := by
        intro p
        induction p with
        | zero => intro _; rfl
        | succ p ih =>
          intro hp
          simp only [el]
          rw [ih (by omega), hs p (by omega)]
      exact key 256 (Nat.le_refl _)
    rw [this, h1]
  · rintro ⟨hl, h10⟩
    refine S1.eqB_true fun c hc => ?_
    -- a part of a row as long as the row
    have key : ∀ p, p ≤ 256 → (el f p).Sublist (el dotS p) := by
      intro p
      induction p with
      | zero => intro _; exact List.Sublist.refl _
      | succ p ih =>
        intro hp
        simp only [el]
        refine List.Sublist.append (ih (by omega)) ?_
        by_cases e : p = 10
        · subst e; rw [h10]; simp
        · have : dotS p = true := by simp [dotS, notS, oneS, e]
          rw [this]
          split <;> simp
    have he := (key 256 (Nat.le_refl _)).eq_of_length (by rw [hl, h1])
    have hm : c ∈ el f 256 ↔ c ∈ el dotS 256 := by rw [he]
    rw [S1.el_mem, S1.el_mem] at hm
    cases hf : f c <;> cases hd : dotS c <;> simp_all
end Go.Proofs.YtjlmeegaiagfpaaDoor.S7

namespace Go.Proofs.YtjlmeegaiagfpaaDoor.S7
open Go.RowKit
open Go.Tree7
open S5 (nl nl_length nl_small at_nl nl_at nl_strN)
open S1 (el eqB notS oneS wd)
theorem el_one {f : Nat → Bool} (h : (el f 256).length = 1) : ∃ c, el f 256 = [c] ∧ c ≤ 255 := by
  obtain ⟨c, hc⟩ := List.length_eq_one_iff.1 h
  refine ⟨c, hc, ?_⟩
  have : c ∈ el f 256 := by rw [hc]; simp
  have := S1.el_lt this
  omega
end Go.Proofs.YtjlmeegaiagfpaaDoor.S7

namespace Go.Proofs.YtjlmeegaiagfpaaDoor.S7
open Go.RowKit
open Go.Tree7
open S5 (nl nl_length nl_small at_nl nl_at nl_strN)
/-- How a repetition is written. -/
def timesL (mn mx : Int) : List Nat :=
  if mn = 0 ∧ mx = -1 then [42] else if mn = 1 ∧ mx = -1 then [43] else if mn = 0 ∧ mx = 1 then [63]
  else if mn = mx then [123] ++ figs mn.toNat ++ [125] else if mx = -1 then [123] ++ figs mn.toNat ++ [44, 125] else [123] ++ figs mn.toNat ++ [44] ++ figs mx.toNat ++ [125]
theorem figs_len (n : Nat) : (figs n).length ≤ 2 := by unfold figs; split <;> simp
theorem figs_small {n : Nat} (h : n ≤ 40) : ∀ x ∈ figs n, x ≤ 255 := by unfold figs; split <;> simp <;> omega
theorem timesL_len (mn mx : Int) : (timesL mn mx).length ≤ 10 := by
  have h1 := figs_len mn.toNat
  have h2 := figs_len mx.toNat
  unfold timesL
  split
  · simp
  · split
    · simp
    · split
      · simp
      · split
        · simp; omega
        · split
          · simp; omega
          · simp; omega
theorem lit42 : strN [42] = ⟨#[42]⟩ := by decide +kernel
theorem lit43 : strN [43] = ⟨#[43]⟩ := by decide +kernel
theorem lit63 : strN [63] = ⟨#[63]⟩ := by decide +kernel
theorem lit123 : strN [123] = ⟨#[123]⟩ := by decide +kernel
theorem lit125 : strN [125] = ⟨#[125]⟩ := by decide +kernel
theorem lit44 : strN [44] = ⟨#[44]⟩ := by decide +kernel
theorem lit44' : strN [44, 125] = ⟨#[44, 125]⟩ := by decide +kernel
theorem bounds_nat {mn mx : Int} (h : boundsB mn mx = true) : ∃ a : Nat, mn = a ∧ a ≤ 40 ∧ (mx = -1 ∨ ∃ b : Nat, mx = b ∧ a ≤ b ∧ 1 ≤ b ∧ b ≤ 40) := by
  unfold boundsB at h
  simp only [Bool.and_eq_true, Bool.or_eq_true, decide_eq_true_eq] at h
  obtain ⟨⟨h1, h2⟩, h3⟩ := h
  refine ⟨mn.toNat, by omega, by omega, ?_⟩
  rcases h3 with h3 | ⟨⟨h3, h4⟩, h5⟩
  · exact .inl h3
  · exact .inr ⟨mx.toNat, by omega, by omega, by omega, by omega⟩
theorem timesL_small {mn mx : Int} (h : boundsB mn mx = true) : ∀ x ∈ timesL mn mx, x ≤ 255 := by
  obtain ⟨a, rfl, ha, hx⟩ := bounds_nat h
  have h1 := figs_small ha
  rcases hx with rfl | ⟨b, rfl, hab, hb1, hb⟩
  · unfold timesL
    intro x hx
    rw [Int.toNat_natCast] at hx
    repeat' split at hx
    all_goals
      simp only [List.mem_append, List.mem_cons, List.not_mem_nil, or_false] at hx
      first
        | omega
        | (rcases hx with (rfl | hx) | hx
           · omega
           · exact h1 x hx
           · omega)
        | skip
  · have h2 := figs_small hb
    unfold timesL
    intro x hx
    rw [Int.toNat_natCast, Int.toNat_natCast] at hx
    repeat' split at hx
    all_goals
      simp only [List.mem_append, List.mem_cons, List.not_mem_nil, or_false] at hx
      first
        | omega
        | (rcases hx with (rfl | hx) | hx
           · omega
           · exact h1 x hx
           · omega)
        | (rcases hx with (((rfl | hx) | rfl) | hx) | rfl
           · omega
           · exact h1 x hx
           · omega
           · exact h2 x hx
           · omega)
end Go.Proofs.YtjlmeegaiagfpaaDoor.S7

namespace Go.Proofs.YtjlmeegaiagfpaaDoor.S7
open Go.RowKit
open Go.Tree7
open S5 (nl nl_length nl_small at_nl nl_at nl_strN)
/-- Every node of a tree. -/
inductive T.All (P : T → Prop) : T → Prop
  | mk {k u0 u1 u2 u3 : Int} {p : Option Addr} {cap : Nat} {mn mx : Int} {tx : ByteArray} {ks : List T} (h : P (.mk k u0 u1 u2 u3 p cap mn mx tx ks)) (hk : ∀ t ∈ ks, T.All P t) : T.All P (.mk k u0 u1 u2 u3 p cap mn mx tx ks)
theorem T.All.imp {P Q : T → Prop} (h : ∀ t, P t → Q t) {t : T} (a : T.All P t) : T.All Q t := by
  induction a with
  | mk h' _ ih => exact .mk (h _ h') ih
theorem all_pre {P : T → Prop} : ∀ (d lv : Nat) (t : T), lv + d = 25 → (∀ x ∈ preT d lv t, x.1 ≤ 24 ∧ P x.2) → T.All P t ∧ (preT d lv t).length = t.size := by
  intro d
  induction d with
  | zero =>
    intro lv t hd h
    have := (h (lv, t) (by simp [preT])).1
    simp at this
    omega
  | succ d ih =>
    intro lv t hd h
    cases t with
    | mk k u0 u1 u2 u3 p cap mn mx tx ks =>
      have each : ∀ t ∈ ks, T.All P t ∧ (preT d (lv + 1) t).length = t.size := fun t ht => ih (lv + 1) t (by omega) fun x hx => h x (by
        simp only [preT, T.kids, List.mem_cons, List.mem_flatMap]
        exact .inr ⟨t, ht, hx⟩)
      refine ⟨.mk (h (lv, .mk k u0 u1 u2 u3 p cap mn mx tx ks) (by simp [preT])).2 (fun t ht => (each t ht).1), ?_⟩
      rw [T.size_mk]
      simp only [preT, T.kids, List.length_cons, List.length_flatMap]
      have e : (ks.map fun t => (preT d (lv + 1) t).length) = ks.map T.size := List.map_congr_left fun t ht => (each t ht).2
      rw [e]
      omega
theorem right_all {t : T} (h : RightP t) : T.All (fun t => T.ok t = true) t ∧ t.size ≤ 600 := by
  obtain ⟨h1, h2⟩ := h
  have hl : (preT 24 1 t).length ≤ 600 := by
    unfold allT at h2
    simp at h2
    omega
  have e : allT t = preT 24 1 t := by unfold allT; exact List.take_of_length_le (by omega)
  rw [e] at h1
  obtain ⟨a, b⟩ := all_pre (P := fun t => T.ok t = true) 24 1 t rfl h1
  exact ⟨a, by omega⟩
/-- A kid's text, in parentheses where its kind is among cl. -/
def itm (cl : List Int) (k : Int) (l : List Nat) : List Nat := if k ∈ cl then [40] ++ l ++ [41] else l
def joinS (sep : List Nat) : List (List Nat) → List Nat
  | [] => []
  | x :: xs => x ++ xs.flatMap fun y => sep ++ y
theorem joinS_snoc (sep : List Nat) (l : List (List Nat)) (x : List Nat) : joinS sep (l ++ [x]) = joinS sep l ++ (if l.length = 0 then [] else sep) ++ x := by
  cases l <;> simp [joinS]
theorem joinS_len (sep : List Nat) (l : List (List Nat)) : (joinS sep l).length ≤ (l.map fun x => x.length + sep.length).sum := by
  cases l with
  | nil => simp [joinS]
  | cons x xs =>
    simp only [joinS, List.length_append, List.length_flatMap, List.map_cons, List.sum_cons]
    have : (xs.map fun y => sep.length + y.length).sum = (xs.map fun x => x.length + sep.length).sum := by
      congr 1
      refine List.map_congr_left fun y _ => by omega
    omega
theorem joinS_small {sep : List Nat} {l : List (List Nat)} (hs : ∀ x ∈ sep, x ≤ 255) (hl : ∀ y ∈ l, ∀ x ∈ y, x ≤ 255) : ∀ x ∈ joinS sep l, x ≤ 255 := by
  cases l with
  | nil => simp [joinS]
  | cons y ys =>
    intro x hx
    simp only [joinS, List.mem_append, List.mem_flatMap] at hx
    rcases hx with hx | ⟨z, hz, hx | hx⟩
    · exact hl y (by simp) x hx
    · exact hs x hx
    · exact hl z (by simp [hz]) x hx
def T.k : T → Int
  | .mk k _ _ _ _ _ _ _ _ _ _ => k
/-- The text of a tree. -/
noncomputable def T.txt : T → List Nat
  | .mk k u0 u1 u2 u3 _ _ mn mx tx ks =>
    if k = 1 then oneL (S1.mem4 u0.toNat u1.toNat u2.toNat u3.toNat)
    else if k = 2 then (if ks.length = 0 then [40, 41] else joinS [] (ks.attach.map fun ⟨t, _⟩ => itm [2, 3] (T.k t) (T.txt t)))
    else if k = 3 then joinS [124] (ks.attach.map fun ⟨t, _⟩ => itm [3] (T.k t) (T.txt t))
    else if k = 4 then joinS [] (ks.attach.map fun ⟨t, _⟩ => itm [2, 3, 4] (T.k t) (T.txt t)) ++ timesL mn mx
    else [123] ++ nl tx ++ [125]
/-- The texts of the kids. -/
noncomputable def its (cl : List Int) (ks : List T) : List (List Nat) := ks.map fun t => itm cl (T.k t) (T.txt t)
theorem txt_mk (k u0 u1 u2 u3 : Int) (p : Option Addr) (cap : Nat) (mn mx : Int) (tx : ByteArray) (ks : List T) : T.txt (.mk k u0 u1 u2 u3 p cap mn mx tx ks) =
    if k = 1 then oneL (S1.mem4 u0.toNat u1.toNat u2.toNat u3.toNat)
    else if k = 2 then (if ks.length = 0 then [40, 41] else joinS [] (its [2, 3] ks))
    else if k = 3 then joinS [124] (its [3] ks)
    else if k = 4 then joinS [] (its [2, 3, 4] ks) ++ timesL mn mx
    else [123] ++ nl tx ++ [125] := by
  rw [T.txt]
  unfold its
  simp
theorem itm_len (cl : List Int) (k : Int) (l : List Nat) : (itm cl k l).length ≤ l.length + 2 := by unfold itm; split <;> simp
theorem its_sum {cl : List Int} {sep : List Nat} {ks : List T} (hs : sep.length ≤ 1) (h : ∀ t ∈ ks, (T.txt t).length + 3 ≤ 2413 * t.size) : (joinS sep (its cl ks)).length ≤ 2413 * (ks.map T.size).sum := by
  refine Nat.le_trans (joinS_len _ _) ?_
  unfold its
  rw [List.map_map]
  have key : ∀ l : List T, (∀ t ∈ l, (T.txt t).length + 3 ≤ 2413 * t.size) → (l.map (fun t => (itm cl (T.k t) (T.txt t)).length + sep.length)).sum ≤ 2413 * (l.map T.size).sum := by
    intro l
    induction l with
    | nil => intro _; simp
    | cons t l ih =>
      intro h
      simp only [List.map_cons, List.sum_cons]
      have h1 := h t (by simp)
      have h2 := itm_len cl (T.k t) (T.txt t)
      have h3 := ih (fun t ht => h t (by simp [ht]))
      omega
  exact key ks h
theorem ok5 {k u0 u1 u2 u3 : Int} {p : Option Addr} {cap : Nat} {mn mx : Int} {tx : ByteArray} {ks : List T} (h : T.ok (.mk k u0 u1 u2 u3 p cap mn mx tx ks) = true) :
    k = 1 ∨ k = 2 ∨ (k = 3 ∧ 2 ≤ ks.length) ∨ (k = 4 ∧ ks.length = 1 ∧ boundsB mn mx = true) ∨ (k = 5 ∧ NameOk (nl tx)) := by
  replace h : okB _ k ks.length mn mx tx = true := h
  unfold okB at h
  split at h
  · exact .inl (by assumption)
  · split at h
    · exact .inr (.inl (by assumption))
    · split at h
      · simp only [Bool.and_eq_true, decide_eq_true_eq] at h
        exact .inr (.inr (.inl ⟨by assumption, h.1⟩))
      · split at h
        · simp only [Bool.and_eq_true, decide_eq_true_eq] at h
          exact .inr (.inr (.inr (.inl ⟨by assumption, h.1.1, h.1.2⟩)))
        · split at h
          · simp only [Bool.and_eq_true, decide_eq_true_eq] at h
            exact .inr (.inr (.inr (.inr ⟨by assumption, (nameB_iff _).1 h.1.2⟩)))
          · cases h
theorem txt_len {t : T} (h : T.All (fun t => T.ok t = true) t) : (T.txt t).length + 3 ≤ 2413 * t.size := by
  induction h with
  | @mk k u0 u1 u2 u3 p cap mn mx tx ks h _ ih =>
    rw [txt_mk, T.size_mk]
    have j2 := its_sum (cl := [2, 3]) (sep := []) (by simp) ih
    have j3 := its_sum (cl := [3]) (sep := [124]) (by simp) ih
    have j4 := its_sum (cl := [2, 3, 4]) (sep := []) (by simp) ih
    have ht := timesL_len mn mx
    have h1 := oneL_len (S1.mem4 u0.toNat u1.toNat u2.toNat u3.toNat)
    rcases ok5 h with rfl | rfl | ⟨rfl, -⟩ | ⟨rfl, -, -⟩ | ⟨rfl, hn⟩
    · simp only [if_true]; omega
    · simp only [show ¬ (2 : Int) = 1 by decide, if_false, if_true]
      split
      · simp; omega
      · omega
    · simp only [show ¬ (3 : Int) = 1 by decide, show ¬ (3 : Int) = 2 by decide, if_false, if_true]; omega
    · simp only [show ¬ (4 : Int) = 1 by decide, show ¬ (4 : Int) = 2 by decide, show ¬ (4 : Int) = 3 by decide, if_false, if_true, List.length_append]; omega
    · simp only [show ¬ (5 : Int) = 1 by decide, show ¬ (5 : Int) = 2 by decide, show ¬ (5 : Int) = 3 by decide, show ¬ (5 : Int) = 4 by decide, if_false, List.length_append, List.length_cons, List.length_nil]
      have := hn.2.1
      omega
theorem txt_small {t : T} (h : T.All (fun t => T.ok t = true) t) : ∀ x ∈ T.txt t, x ≤ 255 := by
  induction h with
  | @mk k u0 u1 u2 u3 p cap mn mx tx ks h _ ih =>
    rw [txt_mk]
    have hi : ∀ cl, ∀ y ∈ its cl ks, ∀ x ∈ y, x ≤ 255 := fun cl y hy x hx => by
      unfold its at hy
      obtain ⟨t, ht, rfl⟩ := List.mem_map.1 hy
      unfold itm at hx
      split at hx
      · simp only [List.mem_append, List.mem_cons, List.not_mem_nil, or_false] at hx
        rcases hx with (rfl | hx) | rfl
        · decide
        · exact ih t ht x hx
        · decide
      · exact ih t ht x hx
    rcases ok5 h with rfl | rfl | ⟨rfl, -⟩ | ⟨rfl, -, hb⟩ | ⟨rfl, hn⟩
    · simp only [if_true]; exact oneL_small _
    · simp only [show ¬ (2 : Int) = 1 by decide, if_false, if_true]
      split
      · simp
      · exact joinS_small (by simp) (hi _)
    · simp only [show ¬ (3 : Int) = 1 by decide, show ¬ (3 : Int) = 2 by decide, if_false, if_true]; exact joinS_small (by simp) (hi _)
    · simp only [show ¬ (4 : Int) = 1 by decide, show ¬ (4 : Int) = 2 by decide, show ¬ (4 : Int) = 3 by decide, if_false, if_true]
      intro x hx
      rcases List.mem_append.1 hx with hx | hx
      · exact joinS_small (by simp) (hi _) x hx
      · exact timesL_small hb x hx
    · simp only [show ¬ (5 : Int) = 1 by decide, show ¬ (5 : Int) = 2 by decide, show ¬ (5 : Int) = 3 by decide, show ¬ (5 : Int) = 4 by decide, if_false]
      intro x hx
      simp only [List.mem_append, List.mem_cons, List.not_mem_nil, or_false] at hx
      rcases hx with (rfl | hx) | rfl
      · decide
      · exact nl_small _ x hx
      · decide
end Go.Proofs.YtjlmeegaiagfpaaDoor.S7

namespace Go.Proofs.YtjlmeegaiagfpaaDoor.S7
open Go.RowKit
open Go.Tree7
open S5 (nl nl_length nl_small at_nl nl_at nl_strN nl_inj)
/-- A leaf: one byte of a set. -/
def leafT (f : Nat → Bool) : T := .mk 1 (S1.wd f 0 : Nat) (S1.wd f 1 : Nat) (S1.wd f 2 : Nat) (S1.wd f 3 : Nat) none 0 0 0 ⟨#[]⟩ []
theorem wf_nat {n : Nat} (h : n < 18446744073709551616) : (Lit.int .u64 n).wf = true := WalkArith.wf_u64 (by omega)
theorem leaf_in (f : Nat → Bool) (w : World) (B : Nat) : T.In w B (leafT f) :=
  .mk (Nat.le_refl _) (Nat.zero_le _) ⟨by decide, ⟨wf_nat (S1.wd_lt f 0), wf_nat (S1.wd_lt f 1), wf_nat (S1.wd_lt f 2), wf_nat (S1.wd_lt f 3)⟩, by decide, by decide, by decide⟩ (fun i hi => by simp at hi) (fun t ht => by simp at ht)
theorem plain0 : plainB S1.noS 0 0 ⟨#[]⟩ = true := by
  have e : (⟨#[]⟩ : ByteArray).toList.isEmpty = true := by rw [ByteArray.toList_eq]; rfl
  unfold plainB
  rw [empty_noS, e]
  rfl
theorem leaf_ok (f : Nat → Bool) : T.ok (leafT f) = true := by
  show okB _ 1 0 0 0 ⟨#[]⟩ = true
  unfold okB
  rw [if_pos rfl, plain0]
  rfl
theorem el_a : S1.el (S1.oneS 97) 256 = [97] := by kernel_rfl
/-- The tree of the example. -/
def starT (g : Nat) : T := .mk 4 0 0 0 0 (some ⟨g, 0, none⟩) 1 0 (-1) ⟨#[]⟩ [leafT (S1.oneS 97)]
theorem star_ok (g : Nat) : T.ok (starT g) = true := by
  show okB _ 4 1 0 (-1) ⟨#[]⟩ = true
  have h0 : S1.eqB (S1.mem4 0 0 0 0) S1.noS = true := S1.eqB_true fun c _ => by simp [S1.mem4, S1.noS]
  have e : (⟨#[]⟩ : ByteArray).toList.isEmpty = true := by rw [ByteArray.toList_eq]; rfl
  unfold okB
  rw [if_neg (by decide), if_neg (by decide), if_neg (by decide), if_pos rfl]
  unfold plainB T.f starT
  simp only [Int.toNat_zero]
  rw [h0, e]
  rfl
theorem star_right (g : Nat) : rightB (starT g) = true := by
  refine (rightB_iff _).2 ?_
  have e : allT (starT g) = [(1, starT g), (2, leafT (S1.oneS 97))] := rfl
  refine ⟨fun x hx => ?_, by rw [e]; simp⟩
  rw [e] at hx
  simp only [List.mem_cons, List.not_mem_nil, or_false] at hx
  rcases hx with rfl | rfl
  · exact ⟨by simp, star_ok g⟩
  · exact ⟨by simp, leaf_ok _⟩
theorem star_in {g : Nat} {w : World} {B : Nat} {u0 u1 u2 u3 : Nat} (h0 : S1.wd (S1.oneS 97) 0 = u0) (h1 : S1.wd (S1.oneS 97) 1 = u1) (h2 : S1.wd (S1.oneS 97) 2 = u2) (h3 : S1.wd (S1.oneS 97) 3 = u3) (hB : g < B) (h : w.heap[g]? = some (.cells #[.int .i64 1, .int .u64 u0, .int .u64 u1, .int .u64 u2, .int .u64 u3, .slice none 0 0, .int .i64 0, .int .i64 0, .string ⟨#[]⟩] 28 (0, 0))) : T.In w B (starT g) := by
  refine .mk (Nat.le_refl _) (by decide) ⟨by decide, ⟨by decide, by decide, by decide, by decide⟩, by decide, by decide, by decide⟩ (fun i hi => ⟨⟨g, 0, none⟩, rfl, hB, fun j hj => ?_⟩) (fun t ht => ?_)
  · simp only [List.length_cons, List.length_nil] at hi
    obtain rfl : i = 0 := by omega
    have e : (⟨g, 0, none⟩ : Addr).add (0 * 9 + j) = ⟨g, j, none⟩ := by unfold Addr.add; split <;> simp_all
    rw [e, cell_of_row _ _ _ _ _ (0, 0) h]
    simp [leafT, T.cells, h0, h1, h2, h3]
  · simp only [List.mem_cons, List.not_mem_nil, or_false] at ht
    subst ht
    exact leaf_in _ _ _
theorem litA : strN [97, 42] = ⟨#[97, 42]⟩ := by decide +kernel
end Go.Proofs.YtjlmeegaiagfpaaDoor.S7

namespace Go.Tree7
open Go.RowKit
/-- Its nodes lie in w, in blocks of S. -/
inductive T.InP (w : World) (S : Nat → Prop) : T → Prop
  | mk {k u0 u1 u2 u3 : Int} {p : Option Addr} {cap : Nat} {mn mx : Int} {tx : ByteArray} {kids : List T} (hb : kids.length ≤ cap) (hm : cap ≤ maxLen) (hf : fits k u0 u1 u2 u3 mn mx tx)
      (h : ∀ i (_ : i < kids.length), ∃ a, p = some a ∧ S a.block ∧ ∀ j, j < 9 → w.cell? (a.add (i * 9 + j)) = (kids[i].cells)[j]?) (hk : ∀ t ∈ kids, T.InP w S t) : T.InP w S (.mk k u0 u1 u2 u3 p cap mn mx tx kids)
theorem T.InP.keep {w w' : World} {S : Nat → Prop} (hk : ∀ b, S b → w'.heap[b]? = w.heap[b]?) {t : T} (h : T.InP w S t) : T.InP w' S t := by
  induction h with
  | mk hl hm hf h _ ih =>
    refine .mk hl hm hf (fun i hi => ?_) ih
    obtain ⟨a, rfl, ha, hc⟩ := h i hi
    refine ⟨a, rfl, ha, fun j hj => ?_⟩
    rw [← hc j hj]
    refine World.cell?_of_block ?_
    have e : (a.add (i * 9 + j)).block = a.block := by unfold Addr.add; split <;> rfl
    rw [e]
    exact hk _ ha
theorem T.InP.imp {w : World} {S S' : Nat → Prop} (hS : ∀ b, S b → S' b) {t : T} (h : T.InP w S t) : T.InP w S' t := by
  induction h with
  | mk hl hm hf h _ ih =>
    refine .mk hl hm hf (fun i hi => ?_) ih
    obtain ⟨a, rfl, ha, hc⟩ := h i hi
    exact ⟨a, rfl, hS _ ha, hc⟩
theorem T.InP.toIn {w : World} {S : Nat → Prop} {B : Nat} (hS : ∀ b, S b → b < B) {t : T} (h : T.InP w S t) : T.In w B t := by
  induction h with
  | mk hl hm hf h _ ih =>
    refine .mk hl hm hf (fun i hi => ?_) ih
    obtain ⟨a, rfl, ha, hc⟩ := h i hi
    exact ⟨a, rfl, hS _ ha, hc⟩
theorem T.In.toP {w : World} {B : Nat} {t : T} (h : T.In w B t) : T.InP w (fun b => b < B) t := by
  induction h with
  | mk hl hm hf h _ ih =>
    refine .mk hl hm hf (fun i hi => ?_) ih
    obtain ⟨a, rfl, ha, hc⟩ := h i hi
    exact ⟨a, rfl, ha, hc⟩
end Go.Tree7
namespace Go.Proofs.YtjlmeegaiagfpaaDoor.S7
open Go.RowKit
open Go.Tree7
/-- A chain: a leaf, so many levels above it. -/
inductive IsChain (l : T) : Nat → T → Prop
  | zero : IsChain l 0 l
  | succ {j : Nat} {t : T} (g : Nat) (h : IsChain l j t) : IsChain l (j + 1) (.mk 2 0 0 0 0 (some ⟨g, 0, none⟩) 1 0 0 ⟨#[]⟩ [t])
theorem cat_ok (p : Option Addr) (cap : Nat) (ks : List T) : T.ok (.mk 2 0 0 0 0 p cap 0 0 ⟨#[]⟩ ks) = true := by
  show okB _ 2 _ 0 0 ⟨#[]⟩ = true
  have h0 : S1.eqB (S1.mem4 0 0 0 0) S1.noS = true := S1.eqB_true fun c _ => by simp [S1.mem4, S1.noS]
  have e : (⟨#[]⟩ : ByteArray).toList.isEmpty = true := by rw [ByteArray.toList_eq]; rfl
  unfold okB
  rw [if_neg (by decide), if_pos rfl]
  unfold plainB T.f
  simp only [Int.toNat_zero]
  rw [h0, e]
  rfl
theorem leaf_pre (f : Nat → Bool) (d lv : Nat) : preT d lv (leafT f) = [(lv, leafT f)] := by cases d <;> simp [preT, leafT, T.kids]
theorem chain_pre {f : Nat → Bool} {j : Nat} {t : T} (h : IsChain (leafT f) j t) : ∀ d lv, (∀ x ∈ preT d lv t, T.ok x.2 = true) ∧ (preT d lv t).map Prod.fst = (List.range (min j d + 1)).map (lv + ·) := by
  induction h with
  | zero =>
    intro d lv
    rw [leaf_pre]
    exact ⟨fun x hx => by simp at hx; subst hx; exact leaf_ok f, by simp⟩
  | @succ j t g h ih =>
    intro d lv
    cases d with
    | zero => exact ⟨fun x hx => by simp only [preT, List.mem_cons, List.not_mem_nil, or_false] at hx; subst hx; exact cat_ok _ _ _, by simp [preT]⟩
    | succ d =>
      obtain ⟨h1, h2⟩ := ih d (lv + 1)
      simp only [preT, T.kids, List.flatMap_cons, List.flatMap_nil, List.append_nil]
      refine ⟨fun x hx => ?_, ?_⟩
      · rcases List.mem_cons.1 hx with rfl | hx
        · exact cat_ok _ _ _
        · exact h1 x hx
      · rw [List.map_cons, h2, show min (j + 1) (d + 1) + 1 = (min j d + 1) + 1 by omega, List.range_succ_eq_map (n := min j d + 1), List.map_cons, List.map_map]
        congr 1
        refine List.map_congr_left fun x _ => ?_
        simp only [Function.comp_apply]
        omega
theorem chain_all {f : Nat → Bool} {j : Nat} {t : T} (h : IsChain (leafT f) j t) : allT t = preT 24 1 t ∧ (allT t).length = min j 24 + 1 := by
  have h2 := (chain_pre h 24 1).2
  have hl : (preT 24 1 t).length = min j 24 + 1 := by have := congrArg List.length h2; simpa using this
  have e : allT t = preT 24 1 t := by unfold allT; exact List.take_of_length_le (by omega)
  exact ⟨e, by rw [e, hl]⟩
theorem chain_right {f : Nat → Bool} {j : Nat} {t : T} (h : IsChain (leafT f) j t) : rightB t = decide (j < 24) := by
  obtain ⟨h1, h2⟩ := chain_pre h 24 1
  obtain ⟨h3, h4⟩ := chain_all h
  rw [Bool.eq_iff_iff, rightB_iff, decide_eq_true_eq]
  unfold RightP
  rw [h4, h3]
  constructor
  · rintro ⟨h5, -⟩
    rcases Nat.lt_or_ge j 24 with h6 | h6
    · exact h6
    · exfalso
      have hm : (25 : Nat) ∈ (preT 24 1 t).map Prod.fst := by
        rw [h2]
        exact List.mem_map.2 ⟨24, List.mem_range.2 (by omega), rfl⟩
      obtain ⟨x, hx, e⟩ := List.mem_map.1 hm
      have := (h5 x hx).1
      omega
  · intro h6
    refine ⟨fun x hx => ⟨?_, h1 x hx⟩, by omega⟩
    have hm : x.1 ∈ (preT 24 1 t).map Prod.fst := List.mem_map.2 ⟨x, hx, rfl⟩
    rw [h2] at hm
    obtain ⟨y, hy, e⟩ := List.mem_map.1 hm
    have := List.mem_range.1 hy
    omega
theorem fold_range (n : Nat) : ((List.range (n + 1)).map (1 + ·)).foldl max 0 = n + 1 := by
  induction n with
  | zero => rfl
  | succ n ih =>
    rw [List.range_succ, List.map_append, List.foldl_append, ih]
    simp
    omega
theorem chain_deep {f : Nat → Bool} {j : Nat} {t : T} (h : IsChain (leafT f) j t) : deepOf (allT t) = min (j + 1) 25 := by
  unfold deepOf
  rw [(chain_all h).1, (chain_pre h 24 1).2, fold_range]
  omega
/-- A wide tree: so many leaves. -/
def wideT (f : Nat → Bool) (m : Nat) (p : Option Addr) (cap : Nat) : T := .mk 2 0 0 0 0 p cap 0 0 ⟨#[]⟩ (List.replicate m (leafT f))
theorem wide_all (f : Nat → Bool) (m : Nat) (p : Option Addr) (cap : Nat) : allT (wideT f m p cap) = ((1, wideT f m p cap) :: List.replicate m (2, leafT f)).take 601 := by
  unfold allT
  congr 1
  rw [show (24 : Nat) = 23 + 1 by rfl, preT]
  congr 1
  simp only [wideT, T.kids]
  have : ∀ m : Nat, (List.replicate m (leafT f)).flatMap (preT 23 (1 + 1)) = List.replicate m (2, leafT f) := by
    intro m
    induction m with
    | zero => rfl
    | succ m ih => rw [List.replicate_succ, List.flatMap_cons, ih, leaf_pre, List.replicate_succ]; rfl
  exact this m
theorem wide_len (f : Nat → Bool) (m : Nat) (p : Option Addr) (cap : Nat) : (allT (wideT f m p cap)).length = min (m + 1) 601 := by
  rw [wide_all]
  simp
  omega
theorem wide_right (f : Nat → Bool) (m : Nat) (p : Option Addr) (cap : Nat) : rightB (wideT f m p cap) = decide (m < 600) := by
  rw [Bool.eq_iff_iff, rightB_iff, decide_eq_true_eq]
  unfold RightP
  rw [wide_len]
  constructor
  · rintro ⟨-, h⟩; omega
  · intro h
    refine ⟨fun x hx => ?_, by omega⟩
    rw [wide_all] at hx
    have := List.mem_of_mem_take hx
    rcases List.mem_cons.1 this with rfl | h1
    · exact ⟨by simp, cat_ok _ _ _⟩
    · obtain ⟨-, rfl⟩ := List.mem_replicate.1 h1
      exact ⟨by simp, leaf_ok f⟩
/-- A wide tree's kids lie in a row of one's own. -/
theorem wide_in {w : World} {base m : Nat} {f : Nat → Bool} {v : Value} (h : w.ownsRow base 28 9 v m (List.replicate m (leafT f).cells).flatten) : ∃ p cap, v = .slice p m cap ∧ T.In w w.heap.size (wideT f m p cap) := by
  have h9 : ∀ m : Nat, ∀ i j : Nat, i < m → j < 9 → (List.replicate m (leafT f).cells).flatten[i * 9 + j]? = (leafT f).cells[j]? := by
    intro m
    induction m with
    | zero => intro i j h1; omega
    | succ m ih =>
      intro i j h1 h2
      rw [List.replicate_succ, List.flatten_cons]
      cases i with
      | zero => rw [List.getElem?_append_left (by rw [T.cells_length]; omega)]; simp
      | succ i =>
        rw [List.getElem?_append_right (by rw [T.cells_length]; omega), T.cells_length, show (i + 1) * 9 + j - 9 = i * 9 + j by omega]
        exact ih i j (by omega) h2
  obtain ⟨p, cap, rfl, hcap, hnil, hc⟩ := row_form h
  have hmax : cap ≤ maxLen := by
    rcases h.2 with ⟨e, -⟩ | ⟨g, cap', cur, e, -, -, -, hm, -⟩
    · cases e; exact Nat.zero_le _
    · cases e; exact hm
  refine ⟨p, cap, rfl, .mk (by simpa using hcap) hmax ⟨by decide, ⟨by decide, by decide, by decide, by decide⟩, by decide, by decide, by decide⟩ (fun i hi => ?_) (fun t ht => ?_)⟩
  · have hi' : i < m := by simpa using hi
    obtain ⟨g, rfl, hb, hg, hcell⟩ := hc (by omega)
    refine ⟨⟨g, 0, none⟩, rfl, hg, fun j hj => ?_⟩
    have e : (⟨g, 0, none⟩ : Addr).add (i * 9 + j) = ⟨g, i * 9 + j, none⟩ := by unfold Addr.add; split <;> simp_all
    rw [e, hcell _ (by omega), h9 m i j hi' hj]
    simp
  · obtain ⟨-, rfl⟩ := List.mem_replicate.1 ht
    exact leaf_in f _ _
end Go.Proofs.YtjlmeegaiagfpaaDoor.S7

namespace Go.Proofs.YtjlmeegaiagfpaaDoor.S7
open Go.RowKit
open Go.Tree7
theorem box_set {w : World} {b : Nat} {cs : Array Value} {t : TypeId} (h : w.heap[b]? = some (.cells cs t (0, 0))) (q : Nat) (v : Value) : (w.setCell ⟨b, q, none⟩ v).heap[b]? = some (.cells (cs.setIfInBounds q v) t (0, 0)) := by
  simp [World.setCell, Array.getElem?_modify, h]
theorem size_set (w : World) (a : Addr) (v : Value) : (w.setCell a v).heap.size = w.heap.size := by simp [World.setCell]
/-- A node's nine cells, all set. -/
theorem arr9 {c0 c1 c2 c3 c4 c5 c6 c7 c8 d0 d1 d2 d3 d4 d5 d6 d7 d8 : Value} : ((((((((((#[c0, c1, c2, c3, c4, c5, c6, c7, c8] : Array Value).setIfInBounds 0 d0).setIfInBounds 1 d1).setIfInBounds 2 d2).setIfInBounds 3 d3).setIfInBounds 4 d4).setIfInBounds 5 d5).setIfInBounds 6 d6).setIfInBounds 7 d7).setIfInBounds 8 d8) = #[d0, d1, d2, d3, d4, d5, d6, d7, d8] := by
  simp
theorem set9 {w : World} {b : Nat} {c0 c1 c2 c3 c4 c5 c6 c7 c8 d0 d1 d2 d3 d4 d5 d6 d7 d8 : Value} {t : TypeId} (h : w.heap[b]? = some (.cells #[c0, c1, c2, c3, c4, c5, c6, c7, c8] t (0, 0))) (W : World) (hW : W = (((((((((w.setCell ⟨b, 0, none⟩ d0).setCell ⟨b, 1, none⟩ d1).setCell ⟨b, 2, none⟩ d2).setCell ⟨b, 3, none⟩ d3).setCell ⟨b, 4, none⟩ d4).setCell ⟨b, 5, none⟩ d5).setCell ⟨b, 6, none⟩ d6).setCell ⟨b, 7, none⟩ d7).setCell ⟨b, 8, none⟩ d8)) :
    W.heap[b]? = some (.cells #[d0, d1, d2, d3, d4, d5, d6, d7, d8] t (0, 0)) ∧ W.heap.size = w.heap.size ∧ (∀ k, k ≠ b → W.heap[k]? = w.heap[k]?) ∧ ∀ n, n ≤ b → Below n w W := by
  have a0 := box_set h 0 d0
  have a1 := box_set a0 1 d1
  have a2 := box_set a1 2 d2
  have a3 := box_set a2 3 d3
  have a4 := box_set a3 4 d4
  have a5 := box_set a4 5 d5
  have a6 := box_set a5 6 d6
  have a7 := box_set a6 7 d7
  have a8 := box_set a7 8 d8
  rw [arr9, ← hW] at a8
  refine ⟨a8, by rw [hW]; simp only [size_set], fun k hk => ?_, fun n hn => ?_⟩
  · rw [hW]
    iterate 9 rw [Below.heap_setCell _ _ _ _ hk]
  · rw [hW]
    have s0 := (Below.refl n w).setCell (p := ⟨b, 0, none⟩) hn d0
    have s1 := s0.setCell (p := ⟨b, 1, none⟩) hn d1
    have s2 := s1.setCell (p := ⟨b, 2, none⟩) hn d2
    have s3 := s2.setCell (p := ⟨b, 3, none⟩) hn d3
    have s4 := s3.setCell (p := ⟨b, 4, none⟩) hn d4
    have s5 := s4.setCell (p := ⟨b, 5, none⟩) hn d5
    have s6 := s5.setCell (p := ⟨b, 6, none⟩) hn d6
    have s7 := s6.setCell (p := ⟨b, 7, none⟩) hn d7
    exact s7.setCell (p := ⟨b, 8, none⟩) hn d8
end Go.Proofs.YtjlmeegaiagfpaaDoor.S7

namespace Go.Tree7
open Go.RowKit
/-- A tree without its places. -/
def T.strip : T → T
  | .mk k u0 u1 u2 u3 _ _ mn mx tx ks => .mk k u0 u1 u2 u3 none 0 mn mx tx (ks.attach.map fun ⟨t, _⟩ => t.strip)
theorem T.strip_mk (k u0 u1 u2 u3 : Int) (p : Option Addr) (cap : Nat) (mn mx : Int) (tx : ByteArray) (ks : List T) : (T.mk k u0 u1 u2 u3 p cap mn mx tx ks).strip = .mk k u0 u1 u2 u3 none 0 mn mx tx (ks.map T.strip) := by
  rw [T.strip]
  simp
/-- A proof over the kids first. -/
theorem T.ind {P : T → Prop} (h : ∀ k u0 u1 u2 u3 p cap mn mx tx ks, (∀ t ∈ ks, P t) → P (.mk k u0 u1 u2 u3 p cap mn mx tx ks)) : ∀ t, P t
  | .mk k u0 u1 u2 u3 p cap mn mx tx ks => h k u0 u1 u2 u3 p cap mn mx tx ks fun t _ => T.ind h t
theorem T.size_pos (t : T) : 1 ≤ t.size := by
  cases t
  rw [T.size_mk]
  omega
theorem strip_parts {k u0 u1 u2 u3 k' u0' u1' u2' u3' : Int} {p p' : Option Addr} {cap cap' : Nat} {mn mx mn' mx' : Int} {tx tx' : ByteArray} {ks ks' : List T} (h : (T.mk k u0 u1 u2 u3 p cap mn mx tx ks).strip = (T.mk k' u0' u1' u2' u3' p' cap' mn' mx' tx' ks').strip) :
    k = k' ∧ u0 = u0' ∧ u1 = u1' ∧ u2 = u2' ∧ u3 = u3' ∧ mn = mn' ∧ mx = mx' ∧ tx = tx' ∧ ks.map T.strip = ks'.map T.strip := by
  rw [T.strip_mk, T.strip_mk] at h
  injection h with h1 h2 h3 h4 h5 h6 h7 h8 h9 h10 h11
  exact ⟨h1, h2, h3, h4, h5, h8, h9, h10, h11⟩
theorem map_of_strip {α : Type} {F : T → α} (hF : ∀ t, F t.strip = F t) {ks ks' : List T} (h : ks.map T.strip = ks'.map T.strip) : ks.map F = ks'.map F := by
  have e : ∀ l : List T, l.map F = (l.map T.strip).map F := fun l => by
    rw [List.map_map]
    exact List.map_congr_left fun t _ => (hF t).symm
  rw [e ks, e ks', h]
theorem size_strip : ∀ t : T, t.strip.size = t.size := by
  refine T.ind fun k u0 u1 u2 u3 p cap mn mx tx ks ih => ?_
  rw [T.strip_mk, T.size_mk, T.size_mk, List.map_map]
  congr 2
  exact List.map_congr_left fun t ht => ih t ht
theorem pre_strip : ∀ (d lv : Nat) (t : T), pre d lv t.strip = pre d lv t := by
  intro d
  induction d with
  | zero => intro lv t; cases t; rw [T.strip_mk]; simp [pre, T.step]
  | succ d ih =>
    intro lv t
    cases t
    rw [T.strip_mk]
    simp only [pre, T.kids, T.step, List.length_map, List.flatMap_map]
    congr 1
    congr 1
    funext t
    exact ih _ _
theorem pre_of_strip {t t' : T} (h : t.strip = t'.strip) (d lv : Nat) : pre d lv t = pre d lv t' := by rw [← pre_strip d lv t, h, pre_strip]
theorem size_of_strip {t t' : T} (h : t.strip = t'.strip) : t.size = t'.size := by rw [← size_strip t, h, size_strip]
theorem T.InP.length {w : World} {S : Nat → Prop} {k u0 u1 u2 u3 : Int} {p : Option Addr} {cap : Nat} {mn mx : Int} {tx : ByteArray} {ks : List T} (h : T.InP w S (.mk k u0 u1 u2 u3 p cap mn mx tx ks)) : ks.length ≤ maxLen := by
  cases h with | mk h1 h2 => omega
end Go.Tree7
namespace Go.Proofs.YtjlmeegaiagfpaaDoor.S7
open Go.RowKit
open Go.Tree7
theorem k_strip (t : T) : T.k t.strip = T.k t := by cases t; rw [T.strip_mk]; rfl
theorem ok_strip (t : T) : T.ok t.strip = T.ok t := by cases t; rw [T.strip_mk]; simp only [T.ok, T.f, List.length_map]
theorem its_of {cl : List Int} {ks : List T} (h : ∀ t ∈ ks, T.txt t.strip = T.txt t) : its cl (ks.map T.strip) = its cl ks := by
  unfold its
  rw [List.map_map]
  exact List.map_congr_left fun t ht => by simp only [Function.comp_apply]; rw [k_strip, h t ht]
theorem txt_strip : ∀ t : T, T.txt t.strip = T.txt t := by
  refine T.ind fun k u0 u1 u2 u3 p cap mn mx tx ks ih => ?_
  rw [T.strip_mk, txt_mk, txt_mk, its_of ih, its_of ih, its_of ih, List.length_map]
theorem txt_of_strip {t t' : T} (h : t.strip = t'.strip) : T.txt t = T.txt t' := by rw [← txt_strip t, h, txt_strip]
theorem preT_strip : ∀ (d lv : Nat) (t : T), preT d lv t.strip = (preT d lv t).map fun x => (x.1, x.2.strip) := by
  intro d
  induction d with
  | zero => intro lv t; simp [preT]
  | succ d ih =>
    intro lv t
    cases t
    simp only [preT, List.map_cons, List.map_flatMap]
    rw [T.strip_mk]
    simp only [T.kids, List.flatMap_map]
    congr 1
    congr 1
    funext t
    exact ih _ _
theorem allT_strip (t : T) : allT t.strip = (allT t).map fun x => (x.1, x.2.strip) := by
  unfold allT
  rw [preT_strip, List.map_take]
theorem right_strip (t : T) : rightB t.strip = rightB t := by
  rw [Bool.eq_iff_iff, rightB_iff, rightB_iff]
  unfold RightP
  rw [allT_strip]
  simp only [List.length_map, List.mem_map]
  constructor
  · rintro ⟨h1, h2⟩
    refine ⟨fun x hx => ?_, h2⟩
    have := h1 _ ⟨x, hx, rfl⟩
    rw [ok_strip] at this
    exact this
  · rintro ⟨h1, h2⟩
    refine ⟨fun x hx => ?_, h2⟩
    obtain ⟨y, hy, rfl⟩ := hx
    have := h1 _ hy
    rw [← ok_strip] at this
    exact this
theorem right_of_strip {t t' : T} (h : t.strip = t'.strip) : rightB t = rightB t' := by rw [← right_strip t, h, right_strip]
end Go.Proofs.YtjlmeegaiagfpaaDoor.S7
