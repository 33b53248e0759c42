/- Texts merged: M9a, M9b, M9c, M9d, S9W1, S9W2, S9W0, S9V1, S9V2. -/

import Derived.Test.YtaebhbcamhmhoaaDoorS7W9
import Derived.Test.YtaebhbcamhmhoaaDoorS7C
import Derived.Test.YtaebhbcamhmhoaaDoorS1C
import Derived.Test.YtaebhbcamhmhoaaDoorS7K
import Derived.Test.YtaebhbcamhmhoaaDoorS1D
import Derived.Test.YtaebhbcamhmhoaaDoorLL
namespace Go.Proofs.YtaebhbcamhmhoaaDoor
open Go.Tree7
open S7
/-- A tree's value out of its node and its kids with their values. -/
def T.para {α : Type} (f : T → List (T × α) → α) : T → α
  | .mk k u0 u1 u2 u3 p cap mn mx tx ks => f (.mk k u0 u1 u2 u3 p cap mn mx tx ks) (ks.attach.map fun ⟨t, _⟩ => (t, T.para f t))
theorem T.para_mk {α : Type} (f : T → List (T × α) → α) (k u0 u1 u2 u3 : Int) (p : Option Addr) (cap : Nat) (mn mx : Int) (tx : ByteArray) (ks : List T) :
    T.para f (.mk k u0 u1 u2 u3 p cap mn mx tx ks) = f (.mk k u0 u1 u2 u3 p cap mn mx tx ks) (ks.map fun t => (t, T.para f t)) := by
  rw [T.para]
  congr 1
  simp
/-- A number up to 2^20. -/
def cut20 (n : Int) : Int := if n > 1048576 then 1048576 else n
theorem cut20_min (n : Int) : cut20 n = min n 1048576 := by unfold cut20; split <;> omega
theorem cut20_cut (a b : Int) (h : 0 ≤ b) : cut20 (cut20 a + b) = cut20 (a + b) := by rw [cut20_min, cut20_min, cut20_min]; omega
def voidF (t : T) (xs : List (T × Bool)) : Bool := match t with
  | .mk k u0 u1 u2 u3 _ _ mn _ _ _ => if k = 1 then (u0 == 0 && u1 == 0 && u2 == 0 && u3 == 0) else if k = 4 then decide (0 < mn) && (xs.map Prod.snd).headD true else if k = 5 then true else if k = 2 then xs.any Prod.snd else xs.all Prod.snd
/-- Has the language no text? -/
def voidT : T → Bool := T.para voidF
theorem voidT_mk (k u0 u1 u2 u3 : Int) (p : Option Addr) (cap : Nat) (mn mx : Int) (tx : ByteArray) (ks : List T) : voidT (.mk k u0 u1 u2 u3 p cap mn mx tx ks) =
    if k = 1 then (u0 == 0 && u1 == 0 && u2 == 0 && u3 == 0) else if k = 4 then decide (0 < mn) && (ks.map voidT).headD true else if k = 5 then true else if k = 2 then ks.any voidT else ks.all voidT := by
  show T.para voidF _ = _
  rw [T.para_mk]
  simp only [voidF, List.map_map, List.any_map, List.all_map]
  rfl
def nullF (t : T) (xs : List (T × Bool)) : Bool := match t with
  | .mk k _ _ _ _ _ _ mn _ _ _ => if k = 1 ∨ k = 5 then false else if k = 4 then decide (mn = 0) || (xs.map Prod.snd).headD false else if k = 2 then xs.all Prod.snd else xs.any Prod.snd
/-- Is the empty text in it? -/
def nullT : T → Bool := T.para nullF
theorem nullT_mk (k u0 u1 u2 u3 : Int) (p : Option Addr) (cap : Nat) (mn mx : Int) (tx : ByteArray) (ks : List T) : nullT (.mk k u0 u1 u2 u3 p cap mn mx tx ks) =
    if k = 1 ∨ k = 5 then false else if k = 4 then decide (mn = 0) || (ks.map nullT).headD false else if k = 2 then ks.all nullT else ks.any nullT := by
  show T.para nullF _ = _
  rw [T.para_mk]
  simp only [nullF, List.map_map, List.any_map, List.all_map]
  rfl
/-- The kids' values, those of the void ones left out. -/
def live {α : Type} (xs : List (T × α)) : List α := (xs.filter fun x => !voidT x.1).map Prod.snd
/-- The kids that are not void. -/
def alives (ks : List T) : List T := ks.filter fun t => !voidT t
theorem live_map {α : Type} (g : T → α) (ks : List T) : live (ks.map fun t => (t, g t)) = (alives ks).map g := by
  unfold live alives
  rw [List.filter_map, List.map_map]
  rfl
def sumT (xs : List Int) : Int := xs.foldl (fun s x => cut20 (s + x)) 0
def leastOf (xs : List Int) : Int := xs.foldl (fun o x => if o < 0 ∨ x < o then x else o) (-1)
def mostOf (xs : List Int) : Int := xs.foldl (fun o x => if x > o then x else o) 0
def leastF (t : T) (xs : List (T × Int)) : Int := match t with
  | .mk k _ _ _ _ _ _ mn _ _ _ => if k = 1 then 1 else if k = 4 then if mn = 0 then 0 else cut20 (mn * (xs.map Prod.snd).headD 0) else if k = 2 then sumT (live xs) else leastOf (live xs)
/-- The least length, of a tree that isn't void. -/
def leastT : T → Int := T.para leastF
theorem leastT_mk (k u0 u1 u2 u3 : Int) (p : Option Addr) (cap : Nat) (mn mx : Int) (tx : ByteArray) (ks : List T) : leastT (.mk k u0 u1 u2 u3 p cap mn mx tx ks) =
    if k = 1 then 1 else if k = 4 then if mn = 0 then 0 else cut20 (mn * (ks.map leastT).headD 0) else if k = 2 then sumT ((alives ks).map leastT) else leastOf ((alives ks).map leastT) := by
  show T.para leastF _ = _
  rw [T.para_mk]
  simp only [leastF, live_map, List.map_map]
  rfl
def mostRep (mx : Int) (v : Bool) (x : Int) : Int := if v = true then 0 else if x = 0 then 0 else if mx = -1 then 1048576 else cut20 (mx * x)
def mostF (t : T) (xs : List (T × Int)) : Int := match t with
  | .mk k _ _ _ _ _ _ _ mx _ _ => if k = 1 then 1 else if k = 4 then mostRep mx ((xs.map fun x => voidT x.1).headD true) ((xs.map Prod.snd).headD 0) else if k = 2 then sumT (live xs) else mostOf (live xs)
/-- The greatest length. -/
def mostT : T → Int := T.para mostF
theorem mostT_mk (k u0 u1 u2 u3 : Int) (p : Option Addr) (cap : Nat) (mn mx : Int) (tx : ByteArray) (ks : List T) : mostT (.mk k u0 u1 u2 u3 p cap mn mx tx ks) =
    if k = 1 then 1 else if k = 4 then mostRep mx ((ks.map voidT).headD true) ((ks.map mostT).headD 0) else if k = 2 then sumT ((alives ks).map mostT) else mostOf ((alives ks).map mostT) := by
  show T.para mostF _ = _
  rw [T.para_mk]
  simp only [mostF, live_map, List.map_map]
  rfl
/-- What a kid weighs in its parent. -/
def kidW (k mn mx x : Int) : Int := if k = 4 ∧ mx = -1 then cut20 (x * (mn + 1)) else if k = 4 then cut20 (x * mx) else x
def weightF (t : T) (xs : List (T × Int)) : Int := match t with
  | .mk k _ _ _ _ _ _ mn mx _ _ => xs.foldl (fun w x => cut20 (w + kidW k mn mx x.2)) 1
def weightT : T → Int := T.para weightF
theorem weightT_mk (k u0 u1 u2 u3 : Int) (p : Option Addr) (cap : Nat) (mn mx : Int) (tx : ByteArray) (ks : List T) : weightT (.mk k u0 u1 u2 u3 p cap mn mx tx ks) = ks.foldl (fun w t => cut20 (w + kidW k mn mx (weightT t))) 1 := by
  show T.para weightF _ = _
  rw [T.para_mk]
  simp only [weightF, List.foldl_map]
  rfl
/-- The kids of a Cat up to the first that hasn't the empty text (the void ones passed over). -/
def ahead {α : Type} (v n : α → Bool) : List α → List α
  | [] => []
  | x :: xs => if v x = true then ahead v n xs else if n x = true then x :: ahead v n xs else [x]
theorem ahead_map {α β : Type} (v n : β → Bool) (g : α → β) : ∀ xs : List α, ahead v n (xs.map g) = (ahead (fun x => v (g x)) (fun x => n (g x)) xs).map g
  | [] => rfl
  | x :: xs => by
    rw [List.map_cons, ahead, ahead, ahead_map v n g xs]
    split
    · rfl
    · split <;> rfl
def turned {α : Type} (back : Bool) (xs : List α) : List α := if back = true then xs.reverse else xs
def unionS (xs : List (Nat → Bool)) : Nat → Bool := fun c => xs.any fun f => f c
def endsF (back : Bool) (t : T) (xs : List (T × (Nat → Bool))) : Nat → Bool := match t with
  | .mk k u0 u1 u2 u3 _ _ _ _ _ _ => if k = 1 then S1.mem4 u0.toNat u1.toNat u2.toNat u3.toNat else
      if k = 2 then unionS ((ahead (fun x => voidT x.1) (fun x => nullT x.1) (turned back xs)).map Prod.snd) else unionS (live (turned back xs))
/-- With which bytes some text begins (or ends). -/
def endsT (back : Bool) : T → Nat → Bool := T.para (endsF back)
theorem turned_map {α β : Type} (back : Bool) (g : α → β) (xs : List α) : turned back (xs.map g) = (turned back xs).map g := by
  unfold turned
  split
  · rw [List.map_reverse]
  · rfl
theorem endsT_mk (back : Bool) (k u0 u1 u2 u3 : Int) (p : Option Addr) (cap : Nat) (mn mx : Int) (tx : ByteArray) (ks : List T) : endsT back (.mk k u0 u1 u2 u3 p cap mn mx tx ks) =
    if k = 1 then S1.mem4 u0.toNat u1.toNat u2.toNat u3.toNat else if k = 2 then unionS ((ahead voidT nullT (turned back ks)).map (endsT back)) else unionS ((alives (turned back ks)).map (endsT back)) := by
  show T.para (endsF back) _ = _
  rw [T.para_mk]
  simp only [endsF, turned_map, live_map, ahead_map, List.map_map]
  rfl
def alphaF (t : T) (xs : List (T × (Nat → Bool))) : Nat → Bool := match t with
  | .mk k u0 u1 u2 u3 _ _ _ _ _ _ => if k = 1 then S1.mem4 u0.toNat u1.toNat u2.toNat u3.toNat else unionS (live xs)
/-- Which bytes stand in some text. -/
def alphaT : T → Nat → Bool := T.para alphaF
theorem alphaT_mk (k u0 u1 u2 u3 : Int) (p : Option Addr) (cap : Nat) (mn mx : Int) (tx : ByteArray) (ks : List T) : alphaT (.mk k u0 u1 u2 u3 p cap mn mx tx ks) =
    if k = 1 then S1.mem4 u0.toNat u1.toNat u2.toNat u3.toNat else unionS ((alives ks).map alphaT) := by
  show T.para alphaF _ = _
  rw [T.para_mk]
  simp only [alphaF, live_map]
  rfl
/-- What all bounds rest upon: a sum, a least and a greatest of numbers within 2^20 are within it. -/
def Within (n : Int) : Prop := 0 ≤ n ∧ n ≤ 1048576
theorem within_cut {n : Int} (h : 0 ≤ n) : Within (cut20 n) := by rw [cut20_min]; constructor <;> omega
theorem sum_within : ∀ (xs : List Int) (s : Int), Within s → (∀ x ∈ xs, 0 ≤ x) → Within (xs.foldl (fun s x => cut20 (s + x)) s)
  | [], _, h, _ => h
  | x :: xs, s, h, hx => sum_within xs _ (within_cut (by have := h.1; have := hx x (by simp); omega)) fun y hy => hx y (List.mem_cons_of_mem _ hy)
theorem sumT_within {xs : List Int} (h : ∀ x ∈ xs, 0 ≤ x) : Within (sumT xs) := sum_within xs 0 ⟨by omega, by omega⟩ h
theorem leastOf_go : ∀ (xs : List Int) (o : Int), Within o → (∀ x ∈ xs, Within x) → Within (xs.foldl (fun o x => if o < 0 ∨ x < o then x else o) o)
  | [], _, h, _ => h
  | x :: xs, o, h, hx => leastOf_go xs _ (by dsimp only; split; exact hx x (by simp); exact h) fun y hy => hx y (List.mem_cons_of_mem _ hy)
theorem leastOf_within {xs : List Int} (hn : xs ≠ []) (h : ∀ x ∈ xs, Within x) : Within (leastOf xs) := by
  cases xs with
  | nil => exact absurd rfl hn
  | cons x xs =>
    have hx := h x (by simp)
    unfold leastOf
    rw [List.foldl_cons, if_pos (Or.inl (by omega))]
    exact leastOf_go xs x hx fun y hy => h y (List.mem_cons_of_mem _ hy)
theorem mostOf_go : ∀ (xs : List Int) (o : Int), Within o → (∀ x ∈ xs, Within x) → Within (xs.foldl (fun o x => if x > o then x else o) o)
  | [], _, h, _ => h
  | x :: xs, o, h, hx => mostOf_go xs _ (by dsimp only; split; exact hx x (by simp); exact h) fun y hy => hx y (List.mem_cons_of_mem _ hy)
theorem mostOf_within {xs : List Int} (h : ∀ x ∈ xs, Within x) : Within (mostOf xs) := mostOf_go xs 0 ⟨by omega, by omega⟩ h
theorem alives_sub {ks : List T} {t : T} (h : t ∈ alives ks) : t ∈ ks ∧ voidT t = false := by
  unfold alives at h
  rw [List.mem_filter] at h
  exact ⟨h.1, by simpa using h.2⟩
end Go.Proofs.YtaebhbcamhmhoaaDoor
namespace Go.Proofs.YtaebhbcamhmhoaaDoor
open Go.Tree7
open S7
/-- What a right node is. -/
inductive Okn (k mn mx : Int) (ks : List T) : Prop
  | bytes (h : k = 1) (h2 : ks = [])
  | cat (h : k = 2)
  | alt (h : k = 3) (h2 : 2 ≤ ks.length)
  | rep (h : k = 4) (t : T) (h2 : ks = [t]) (h3 : 0 ≤ mn ∧ mn ≤ 40) (h4 : mx = -1 ∨ (mn ≤ mx ∧ 1 ≤ mx ∧ mx ≤ 40))
  | name (h : k = 5) (h2 : ks = [])
theorem okn_of {k u0 u1 u2 u3 : Int} {p : Option Addr} {cap : Nat} {mn mx : Int} {tx : ByteArray} {ks : List T} (h : T.ok (.mk k u0 u1 u2 u3 p cap mn mx tx ks) = true) : Okn k mn mx ks := by
  replace h : okB _ k ks.length mn mx tx = true := h
  unfold okB at h
  split at h
  · simp only [Bool.and_eq_true, decide_eq_true_eq] at h
    exact .bytes ‹_› (List.length_eq_zero_iff.1 h.1)
  · split at h
    · exact .cat ‹_›
    · split at h
      · simp only [Bool.and_eq_true, decide_eq_true_eq] at h
        exact .alt ‹_› h.1
      · split at h
        · unfold boundsB at h
          simp only [Bool.and_eq_true, Bool.or_eq_true, decide_eq_true_eq] at h
          obtain ⟨t, e⟩ := List.length_eq_one_iff.1 h.1.1
          exact .rep ‹_› t e ⟨by omega, by omega⟩ (by omega)
        · split at h
          · simp only [Bool.and_eq_true, decide_eq_true_eq] at h
            exact .name ‹_› (List.length_eq_zero_iff.1 h.1.1)
          · cases h
theorem weight_within {t : T} (h : T.All (fun t => T.ok t = true) t) : 1 ≤ weightT t ∧ weightT t ≤ 1048576 := by
  induction h with
  | @mk k u0 u1 u2 u3 p cap mn mx tx ks ho _ ih =>
    rw [weightT_mk]
    have hk := okn_of ho
    have hw : ∀ t ∈ ks, 0 ≤ kidW k mn mx (weightT t) := fun t ht => by
      have h1 := (ih t ht).1
      unfold kidW
      cases hk with
      | rep e _ _ h3 h4 =>
        by_cases hm : mx = -1
        · rw [if_pos ⟨e, hm⟩, cut20_min]
          have := Int.mul_nonneg (a := weightT t) (b := mn + 1) (by omega) (by omega)
          omega
        · rw [if_neg (by omega), if_pos e, cut20_min]
          have := Int.mul_nonneg (a := weightT t) (b := mx) (by omega) (by omega)
          omega
      | _ =>
        rw [if_neg (by omega), if_neg (by omega)]
        omega
    clear ih hk ho
    have go : ∀ (l : List T) (w : Int), (∀ t ∈ l, 0 ≤ kidW k mn mx (weightT t)) → 1 ≤ w ∧ w ≤ 1048576 → 1 ≤ l.foldl (fun w t => cut20 (w + kidW k mn mx (weightT t))) w ∧ l.foldl (fun w t => cut20 (w + kidW k mn mx (weightT t))) w ≤ 1048576 := by
      intro l
      induction l with
      | nil => exact fun w _ h => h
      | cons t l ih =>
        intro w hl h
        rw [List.foldl_cons]
        have := hl t (by simp)
        exact ih _ (fun t ht => hl t (List.mem_cons_of_mem _ ht)) (by rw [cut20_min]; omega)
    exact go ks 1 hw ⟨by omega, by omega⟩
theorem least_within {t : T} (h : T.All (fun t => T.ok t = true) t) (hv : voidT t = false) : Within (leastT t) := by
  induction h with
  | @mk k u0 u1 u2 u3 p cap mn mx tx ks ho _ ih =>
    rw [leastT_mk]
    have hk := okn_of ho
    have hl : ∀ x ∈ (alives ks).map leastT, Within x := fun x hx => by
      obtain ⟨t, ht, rfl⟩ := List.mem_map.1 hx
      obtain ⟨h1, h2⟩ := alives_sub ht
      exact ih t h1 h2
    cases hk with
    | bytes e => rw [if_pos e]; exact ⟨by omega, by omega⟩
    | cat e =>
      subst e
      rw [if_neg (by omega), if_neg (by omega), if_pos rfl]
      exact sumT_within fun x hx => (hl x hx).1
    | alt e h2 =>
      subst e
      rw [if_neg (by omega), if_neg (by omega), if_neg (by omega)]
      refine leastOf_within (fun e => ?_) hl
      rw [List.map_eq_nil_iff] at e
      rw [voidT_mk, if_neg (by omega), if_neg (by omega), if_neg (by omega), if_neg (by omega)] at hv
      have : ks.all voidT = true := List.all_eq_true.2 fun t ht => by
        cases hx : voidT t with
        | true => rfl
        | false =>
          have : t ∈ alives ks := by unfold alives; rw [List.mem_filter]; exact ⟨ht, by simp [hx]⟩
          rw [e] at this
          cases this
      rw [this] at hv
      cases hv
    | rep e t h2 h3 h4 =>
      subst e h2
      rw [if_neg (by omega), if_pos rfl]
      split
      · exact ⟨by omega, by omega⟩
      · rw [voidT_mk, if_neg (by omega), if_pos rfl] at hv
        have hv2 : voidT t = false := by
          have : decide (0 < mn) = true := by rw [decide_eq_true_eq]; omega
          rw [this] at hv
          simpa using hv
        have := ih t (by simp) hv2
        exact within_cut (Int.mul_nonneg h3.1 this.1)
    | name e => subst e; rw [voidT_mk] at hv; simp at hv
theorem most_within {t : T} (h : T.All (fun t => T.ok t = true) t) : Within (mostT t) := by
  induction h with
  | @mk k u0 u1 u2 u3 p cap mn mx tx ks ho _ ih =>
    rw [mostT_mk]
    have hk := okn_of ho
    have hl : ∀ x ∈ (alives ks).map mostT, Within x := fun x hx => by
      obtain ⟨t, ht, rfl⟩ := List.mem_map.1 hx
      exact ih t (alives_sub ht).1
    split
    · exact ⟨by omega, by omega⟩
    · split
      · cases hk with
        | rep e t h2 h3 h4 =>
          subst h2
          unfold mostRep
          have := ih t (by simp)
          split
          · exact ⟨by omega, by omega⟩
          · split
            · exact ⟨by omega, by omega⟩
            · split
              · exact ⟨by omega, by omega⟩
              · exact within_cut (Int.mul_nonneg (by omega) this.1)
        | _ => omega
      · split
        · exact sumT_within fun x hx => (hl x hx).1
        · exact mostOf_within hl
end Go.Proofs.YtaebhbcamhmhoaaDoor
namespace Go.Proofs.YtaebhbcamhmhoaaDoor
open Go.Tree7
open S7
/-- A node of two kids, of a kind. -/
theorem void_two (k u0 u1 u2 u3 : Int) (p : Option Addr) (cap : Nat) (mn mx : Int) (tx : ByteArray) (a b : T) :
    (k = 2 → voidT (.mk k u0 u1 u2 u3 p cap mn mx tx [a, b]) = (voidT a || voidT b)) ∧ (k = 3 → voidT (.mk k u0 u1 u2 u3 p cap mn mx tx [a, b]) = (voidT a && voidT b)) := by
  constructor
  · rintro rfl
    rw [voidT_mk]
    simp
  · rintro rfl
    rw [voidT_mk]
    simp
theorem null_two (k u0 u1 u2 u3 : Int) (p : Option Addr) (cap : Nat) (mn mx : Int) (tx : ByteArray) (a b : T) :
    (k = 2 → nullT (.mk k u0 u1 u2 u3 p cap mn mx tx [a, b]) = (nullT a && nullT b)) ∧ (k = 3 → nullT (.mk k u0 u1 u2 u3 p cap mn mx tx [a, b]) = (nullT a || nullT b)) := by
  constructor
  · rintro rfl
    rw [nullT_mk]
    simp
  · rintro rfl
    rw [nullT_mk]
    simp
theorem alives_two {a b : T} (ha : voidT a = false) (hb : voidT b = false) : alives [a, b] = [a, b] := by unfold alives; simp [ha, hb]
theorem weight_cat (u0 u1 u2 u3 : Int) (p : Option Addr) (cap : Nat) (mn mx : Int) (tx : ByteArray) {a b : T} (hb : 0 ≤ weightT b) : weightT (.mk 2 u0 u1 u2 u3 p cap mn mx tx [a, b]) = min (1 + weightT a + weightT b) 1048576 := by
  rw [weightT_mk, List.foldl_cons, List.foldl_cons, List.foldl_nil]
  unfold kidW
  rw [if_neg (by omega), if_neg (by omega), if_neg (by omega), if_neg (by omega), cut20_cut _ _ hb, cut20_min]
theorem least_cat (u0 u1 u2 u3 : Int) (p : Option Addr) (cap : Nat) (mn mx : Int) (tx : ByteArray) {a b : T} (ha : voidT a = false) (hb : voidT b = false) (h : 0 ≤ leastT b) :
    leastT (.mk 2 u0 u1 u2 u3 p cap mn mx tx [a, b]) = min (leastT a + leastT b) 1048576 := by
  rw [leastT_mk, if_neg (by omega), if_neg (by omega), if_pos rfl, alives_two ha hb]
  unfold sumT
  rw [List.map_cons, List.map_cons, List.map_nil, List.foldl_cons, List.foldl_cons, List.foldl_nil, cut20_cut _ _ h, cut20_min, Int.zero_add]
theorem least_alt (u0 u1 u2 u3 : Int) (p : Option Addr) (cap : Nat) (mn mx : Int) (tx : ByteArray) {a b : T} (ha : voidT a = false) (hb : voidT b = false) (h : 0 ≤ leastT a) :
    leastT (.mk 3 u0 u1 u2 u3 p cap mn mx tx [a, b]) = min (leastT a) (leastT b) := by
  rw [leastT_mk, if_neg (by omega), if_neg (by omega), if_neg (by omega), alives_two ha hb]
  unfold leastOf
  rw [List.map_cons, List.map_cons, List.map_nil, List.foldl_cons, List.foldl_cons, List.foldl_nil]
  have e : (if (-1 : Int) < 0 ∨ leastT a < -1 then leastT a else -1) = leastT a := if_pos (Or.inl (by omega))
  rw [e]
  by_cases hx : leastT b < leastT a
  · rw [if_pos (Or.inr hx)]; omega
  · rw [if_neg (by omega)]; omega
theorem most_alt (u0 u1 u2 u3 : Int) (p : Option Addr) (cap : Nat) (mn mx : Int) (tx : ByteArray) {a b : T} (ha : voidT a = false) (hb : voidT b = false) (h : 0 ≤ mostT a) :
    mostT (.mk 3 u0 u1 u2 u3 p cap mn mx tx [a, b]) = max (mostT a) (mostT b) := by
  rw [mostT_mk, if_neg (by omega), if_neg (by omega), if_neg (by omega), alives_two ha hb]
  unfold mostOf
  rw [List.map_cons, List.map_cons, List.map_nil, List.foldl_cons, List.foldl_cons, List.foldl_nil]
  have e : (if mostT a > 0 then mostT a else 0) = mostT a := by split <;> omega
  rw [e]
  split <;> omega
/-- The set of a tree's first (last, own) bytes: empty where there is no text. -/
def firstS (back : Bool) (t : T) : Nat → Bool := if voidT t = true then S1.noS else endsT back t
theorem first_alt (back : Bool) (u0 u1 u2 u3 : Int) (p : Option Addr) (cap : Nat) (mn mx : Int) (tx : ByteArray) (a b : T) (c : Nat) :
    firstS back (.mk 3 u0 u1 u2 u3 p cap mn mx tx [a, b]) c = (firstS back a c || firstS back b c) := by
  unfold firstS
  rw [(void_two 3 u0 u1 u2 u3 p cap mn mx tx a b).2 rfl, endsT_mk, if_neg (show ¬ (3 : Int) = 1 by omega), if_neg (show ¬ (3 : Int) = 2 by omega)]
  unfold alives turned unionS S1.noS
  cases ha : voidT a <;> cases hb : voidT b <;> cases back <;> simp [ha, hb, Bool.or_comm]
/-- A repetition: so often. -/
theorem void_rep (u0 u1 u2 u3 : Int) (p : Option Addr) (cap : Nat) (mn mx : Int) (tx : ByteArray) (a : T) : voidT (.mk 4 u0 u1 u2 u3 p cap mn mx tx [a]) = (decide (0 < mn) && voidT a) := by
  rw [voidT_mk]; simp
theorem null_rep (u0 u1 u2 u3 : Int) (p : Option Addr) (cap : Nat) (mn mx : Int) (tx : ByteArray) (a : T) : nullT (.mk 4 u0 u1 u2 u3 p cap mn mx tx [a]) = (decide (mn = 0) || nullT a) := by
  rw [nullT_mk]; simp
theorem weight_rep (u0 u1 u2 u3 : Int) (p : Option Addr) (cap : Nat) (mn mx : Int) (tx : ByteArray) (a : T) :
    weightT (.mk 4 u0 u1 u2 u3 p cap mn mx tx [a]) = min (1 + min (weightT a * (if mx = -1 then mn + 1 else mx)) 1048576) 1048576 := by
  rw [weightT_mk, List.foldl_cons, List.foldl_nil]
  unfold kidW
  rw [cut20_min]
  by_cases h : mx = -1
  · rw [if_pos ⟨rfl, h⟩, if_pos h, cut20_min]
  · rw [if_neg (by omega), if_pos rfl, if_neg h, cut20_min]
theorem least_rep (u0 u1 u2 u3 : Int) (p : Option Addr) (cap : Nat) (mn mx : Int) (tx : ByteArray) (a : T) :
    leastT (.mk 4 u0 u1 u2 u3 p cap mn mx tx [a]) = min (leastT a * mn) 1048576 := by
  rw [leastT_mk, if_neg (by omega), if_pos rfl]
  by_cases h : mn = 0
  · rw [if_pos h, h, Int.mul_zero]; rfl
  · rw [if_neg h, cut20_min, List.map_cons, List.headD_cons, Int.mul_comm]
theorem most_rep (u0 u1 u2 u3 : Int) (p : Option Addr) (cap : Nat) (mn mx : Int) (tx : ByteArray) {a : T} (hv : voidT a = false) (h : 0 ≤ mostT a) :
    mostT (.mk 4 u0 u1 u2 u3 p cap mn mx tx [a]) = if mx = -1 then min (mostT a * 1048576) 1048576 else min (mostT a * mx) 1048576 := by
  rw [mostT_mk, if_neg (by omega), if_pos rfl, List.map_cons, List.headD_cons, List.map_cons, List.headD_cons, hv]
  unfold mostRep
  rw [if_neg (by simp)]
  by_cases h0 : mostT a = 0
  · rw [if_pos h0, h0, Int.zero_mul, Int.zero_mul]; split <;> rfl
  · rw [if_neg h0, cut20_min, Int.mul_comm]
    split <;> omega
theorem most_rep_void (u0 u1 u2 u3 : Int) (p : Option Addr) (cap : Nat) (mn mx : Int) (tx : ByteArray) {a : T} (hv : voidT a = true) : mostT (.mk 4 u0 u1 u2 u3 p cap mn mx tx [a]) = 0 := by
  rw [mostT_mk, if_neg (by omega), if_pos rfl, List.map_cons, List.headD_cons, List.map_cons, List.headD_cons, hv]
  unfold mostRep
  rw [if_pos rfl]
theorem ends_rep (back : Bool) (u0 u1 u2 u3 : Int) (p : Option Addr) (cap : Nat) (mn mx : Int) (tx : ByteArray) {a : T} (hv : voidT a = false) : endsT back (.mk 4 u0 u1 u2 u3 p cap mn mx tx [a]) = endsT back a := by
  rw [endsT_mk, if_neg (show ¬ (4 : Int) = 1 by omega), if_neg (show ¬ (4 : Int) = 2 by omega)]
  funext c
  unfold alives turned unionS
  cases back <;> simp [hv]
theorem alpha_rep (u0 u1 u2 u3 : Int) (p : Option Addr) (cap : Nat) (mn mx : Int) (tx : ByteArray) {a : T} (hv : voidT a = false) : alphaT (.mk 4 u0 u1 u2 u3 p cap mn mx tx [a]) = alphaT a := by
  rw [alphaT_mk, if_neg (show ¬ (4 : Int) = 1 by omega)]
  funext c
  unfold alives unionS
  simp [hv]
/-- What does not turn on places. -/
theorem void_strip (t : T) : voidT t.strip = voidT t := by
  refine T.ind (P := fun t => voidT t.strip = voidT t) (fun k u0 u1 u2 u3 p cap mn mx tx ks ih => ?_) t
  have e : (ks.map T.strip).map voidT = ks.map voidT := by rw [List.map_map]; exact List.map_congr_left ih
  have h1 : (ks.map T.strip).any voidT = ks.any voidT := by
    have := congrArg (fun l => l.any id) e
    simpa [List.any_map] using this
  have h2 : (ks.map T.strip).all voidT = ks.all voidT := by
    have := congrArg (fun l => l.all id) e
    simpa [List.all_map] using this
  rw [T.strip_mk, voidT_mk, voidT_mk, e, h1, h2]
theorem null_strip (t : T) : nullT t.strip = nullT t := by
  refine T.ind (P := fun t => nullT t.strip = nullT t) (fun k u0 u1 u2 u3 p cap mn mx tx ks ih => ?_) t
  have e : (ks.map T.strip).map nullT = ks.map nullT := by rw [List.map_map]; exact List.map_congr_left ih
  have h1 : (ks.map T.strip).any nullT = ks.any nullT := by
    have := congrArg (fun l => l.any id) e
    simpa [List.any_map] using this
  have h2 : (ks.map T.strip).all nullT = ks.all nullT := by
    have := congrArg (fun l => l.all id) e
    simpa [List.all_map] using this
  rw [T.strip_mk, nullT_mk, nullT_mk, e, h1, h2]
theorem alives_strip (ks : List T) : alives (ks.map T.strip) = (alives ks).map T.strip := by
  unfold alives
  rw [List.filter_map]
  congr 1
  exact List.filter_congr fun t _ => by simp [void_strip]
theorem map_alives {α : Type} {g : T → α} {ks : List T} (ih : ∀ t ∈ ks, g t.strip = g t) : (alives (ks.map T.strip)).map g = (alives ks).map g := by
  rw [alives_strip, List.map_map]
  exact List.map_congr_left fun t ht => ih t (alives_sub ht).1
theorem least_strip (t : T) : leastT t.strip = leastT t := by
  refine T.ind (P := fun t => leastT t.strip = leastT t) (fun k u0 u1 u2 u3 p cap mn mx tx ks ih => ?_) t
  have e : (ks.map T.strip).map leastT = ks.map leastT := by rw [List.map_map]; exact List.map_congr_left ih
  rw [T.strip_mk, leastT_mk, leastT_mk, e, map_alives ih]
theorem most_strip (t : T) : mostT t.strip = mostT t := by
  refine T.ind (P := fun t => mostT t.strip = mostT t) (fun k u0 u1 u2 u3 p cap mn mx tx ks ih => ?_) t
  have e : (ks.map T.strip).map mostT = ks.map mostT := by rw [List.map_map]; exact List.map_congr_left ih
  have e2 : (ks.map T.strip).map voidT = ks.map voidT := by rw [List.map_map]; exact List.map_congr_left fun t _ => void_strip t
  rw [T.strip_mk, mostT_mk, mostT_mk, e, e2, map_alives ih]
theorem ends_strip (back : Bool) (t : T) : endsT back t.strip = endsT back t := by
  refine T.ind (P := fun t => endsT back t.strip = endsT back t) (fun k u0 u1 u2 u3 p cap mn mx tx ks ih => ?_) t
  have a : (ahead voidT nullT (turned back (ks.map T.strip))).map (endsT back) = (ahead voidT nullT (turned back ks)).map (endsT back) := by
    rw [turned_map, ahead_map, List.map_map]
    have h : ∀ l : List T, (∀ t ∈ l, endsT back t.strip = endsT back t) → (ahead (fun x => voidT x.strip) (fun x => nullT x.strip) l).map (endsT back ∘ T.strip) = (ahead voidT nullT l).map (endsT back) := by
      intro l
      induction l with
      | nil => exact fun _ => rfl
      | cons t l ihl =>
        intro hl
        have h1 := ihl fun t ht => hl t (List.mem_cons_of_mem _ ht)
        have h2 : (endsT back ∘ T.strip) t = endsT back t := hl t (by simp)
        rw [ahead, ahead, void_strip, null_strip]
        split
        · exact h1
        · split
          · rw [List.map_cons, List.map_cons, h1, h2]
          · rw [List.map_cons, List.map_cons, h2]; rfl
    refine h _ fun t ht => ih t ?_
    unfold turned at ht
    split at ht
    · exact List.mem_reverse.1 ht
    · exact ht
  have b : (alives (turned back (ks.map T.strip))).map (endsT back) = (alives (turned back ks)).map (endsT back) := by
    rw [turned_map]
    refine map_alives fun t ht => ih t ?_
    unfold turned at ht
    split at ht
    · exact List.mem_reverse.1 ht
    · exact ht
  rw [T.strip_mk, endsT_mk, endsT_mk, a, b]
end Go.Proofs.YtaebhbcamhmhoaaDoor
namespace Go.Proofs.YtaebhbcamhmhoaaDoor
open Go.Tree7
open S7
def zeroB (u0 u1 u2 u3 : Int) : Bool := u0 == 0 && u1 == 0 && u2 == 0 && u3 == 0
theorem eqB_zero {u0 u1 u2 u3 : Int} (h : (Lit.int .u64 u0).wf = true ∧ (Lit.int .u64 u1).wf = true ∧ (Lit.int .u64 u2).wf = true ∧ (Lit.int .u64 u3).wf = true) :
    S1.eqB (S1.mem4 u0.toNat u1.toNat u2.toNat u3.toNat) S1.noS = zeroB u0 u1 u2 u3 := by
  obtain ⟨h0, h1, h2, h3⟩ := wd_f h
  unfold S1.eqB zeroB
  rw [h0, h1, h2, h3, S1.no_wd, S1.no_wd, S1.no_wd, S1.no_wd]
  rfl
theorem void_bytes {u0 u1 u2 u3 : Int} (p : Option Addr) (cap : Nat) (mn mx : Int) (tx : ByteArray) (ks : List T) : voidT (.mk 1 u0 u1 u2 u3 p cap mn mx tx ks) = zeroB u0 u1 u2 u3 := by
  rw [voidT_mk, if_pos rfl]; rfl
end Go.Proofs.YtaebhbcamhmhoaaDoor
namespace Go.Proofs.YtaebhbcamhmhoaaDoor
open Go.RowKit
open Go.Tree7
open S7
open S5 (nl nl_length nl_small at_nl nl_at Gives idx idx_at ix ix_no ix_yes)
theorem kept_alloc9 {W : World} {b : Nat} {o : Obj} (h : W.heap[b]? = some o) (p : Obj) : (W.alloc p).heap[b]? = some o := (Below.heap_alloc _ _ _ (Array.getElem?_eq_some_iff.1 h).1).trans h
theorem lt_box {W : World} {b : Nat} {o : Obj} (h : W.heap[b]? = some o) : b < W.heap.size := (Array.getElem?_eq_some_iff.1 h).1
end Go.Proofs.YtaebhbcamhmhoaaDoor
namespace Go.Proofs.YtaebhbcamhmhoaaDoor
open Go.RowKit
open Go.Tree7
open S7
open S5 (nl nl_length nl_small at_nl nl_at Gives idx idx_at ix ix_no ix_yes)
theorem arr4 {a b c d x y z u : Value} : (((#[a, b, c, d].setIfInBounds 0 x).setIfInBounds 1 y).setIfInBounds 2 z).setIfInBounds 3 u = #[x, y, z, u] := rfl
/-- Four cells set. -/
theorem set4 {w : World} {b : Nat} {c0 c1 c2 c3 d0 d1 d2 d3 : Value} {t : TypeId} (h : w.heap[b]? = some (.cells #[c0, c1, c2, c3] t (0, 0))) (W : World) (hW : W = (((w.setCell ⟨b, 0, none⟩ d0).setCell ⟨b, 1, none⟩ d1).setCell ⟨b, 2, none⟩ d2).setCell ⟨b, 3, none⟩ d3) :
    W.heap[b]? = some (.cells #[d0, d1, d2, d3] t (0, 0)) ∧ W.heap.size = w.heap.size ∧ (∀ k, k ≠ b → W.heap[k]? = w.heap[k]?) ∧ ∀ n, n ≤ b → Below n w W := by
  have a0 := box_set h 0 d0
  have a1 := box_set a0 1 d1
  have a2 := box_set a1 2 d2
  have a3 := box_set a2 3 d3
  rw [arr4, ← hW] at a3
  refine ⟨a3, by rw [hW]; simp only [size_set], fun k hk => ?_, fun n hn => ?_⟩
  · rw [hW]
    iterate 4 rw [Below.heap_setCell _ _ _ _ hk]
  · rw [hW]
    have s0 := (Below.refl n w).setCell (p := ⟨b, 0, none⟩) hn d0
    have s1 := s0.setCell (p := ⟨b, 1, none⟩) hn d1
    have s2 := s1.setCell (p := ⟨b, 2, none⟩) hn d2
    exact s2.setCell (p := ⟨b, 3, none⟩) hn d3
end Go.Proofs.YtaebhbcamhmhoaaDoor
namespace Go.Proofs.YtaebhbcamhmhoaaDoor
open Go.RowKit
open Go.Tree7
open S7
open S5 (nl nl_length nl_small at_nl nl_at Gives idx idx_at ix ix_no ix_yes)
theorem c4 {w : World} {b : Nat} {c0 c1 c2 c3 : Value} {t : TypeId} (h : w.heap[b]? = some (.cells #[c0, c1, c2, c3] t (0, 0))) : w.cell? ⟨b, 0, none⟩ = some c0 ∧ w.cell? ⟨b, 1, none⟩ = some c1 ∧ w.cell? ⟨b, 2, none⟩ = some c2 ∧ w.cell? ⟨b, 3, none⟩ = some c3 :=
  ⟨(cells_of h 0 _ rfl).1, (cells_of h 1 _ rfl).1, (cells_of h 2 _ rfl).1, (cells_of h 3 _ rfl).1⟩
theorem d4 {w : World} {b : Nat} {c0 c1 c2 c3 : Value} {t : TypeId} (h : w.heap[b]? = some (.cells #[c0, c1, c2, c3] t (0, 0))) : w.cell? ⟨b, 0, none⟩ = some c0 ∧ w.frozen? ⟨b, 0, none⟩ = false ∧ w.cell? ⟨b, 1, none⟩ = some c1 ∧ w.frozen? ⟨b, 1, none⟩ = false ∧ w.cell? ⟨b, 2, none⟩ = some c2 ∧ w.frozen? ⟨b, 2, none⟩ = false ∧ w.cell? ⟨b, 3, none⟩ = some c3 ∧ w.frozen? ⟨b, 3, none⟩ = false :=
  ⟨(cells_of h 0 _ rfl).1, (cells_of h 0 _ rfl).2, (cells_of h 1 _ rfl).1, (cells_of h 1 _ rfl).2, (cells_of h 2 _ rfl).1, (cells_of h 2 _ rfl).2, (cells_of h 3 _ rfl).1, (cells_of h 3 _ rfl).2⟩
theorem c9 {w : World} {b : Nat} {c0 c1 c2 c3 c4 c5 c6 c7 c8 : Value} {t : TypeId} (h : w.heap[b]? = some (.cells #[c0, c1, c2, c3, c4, c5, c6, c7, c8] t (0, 0))) : w.cell? ⟨b, 0, none⟩ = some c0 ∧ w.cell? ⟨b, 1, none⟩ = some c1 ∧ w.cell? ⟨b, 2, none⟩ = some c2 ∧ w.cell? ⟨b, 3, none⟩ = some c3 ∧ w.cell? ⟨b, 4, none⟩ = some c4 ∧ w.cell? ⟨b, 5, none⟩ = some c5 ∧ w.cell? ⟨b, 6, none⟩ = some c6 ∧ w.cell? ⟨b, 7, none⟩ = some c7 ∧ w.cell? ⟨b, 8, none⟩ = some c8 :=
  ⟨(cells_of h 0 _ rfl).1, (cells_of h 1 _ rfl).1, (cells_of h 2 _ rfl).1, (cells_of h 3 _ rfl).1, (cells_of h 4 _ rfl).1, (cells_of h 5 _ rfl).1, (cells_of h 6 _ rfl).1, (cells_of h 7 _ rfl).1, (cells_of h 8 _ rfl).1⟩
theorem d9 {w : World} {b : Nat} {c0 c1 c2 c3 c4 c5 c6 c7 c8 : Value} {t : TypeId} (h : w.heap[b]? = some (.cells #[c0, c1, c2, c3, c4, c5, c6, c7, c8] t (0, 0))) : w.cell? ⟨b, 0, none⟩ = some c0 ∧ w.frozen? ⟨b, 0, none⟩ = false ∧ w.cell? ⟨b, 1, none⟩ = some c1 ∧ w.frozen? ⟨b, 1, none⟩ = false ∧ w.cell? ⟨b, 2, none⟩ = some c2 ∧ w.frozen? ⟨b, 2, none⟩ = false ∧ w.cell? ⟨b, 3, none⟩ = some c3 ∧ w.frozen? ⟨b, 3, none⟩ = false ∧ w.cell? ⟨b, 4, none⟩ = some c4 ∧ w.frozen? ⟨b, 4, none⟩ = false ∧ w.cell? ⟨b, 5, none⟩ = some c5 ∧ w.frozen? ⟨b, 5, none⟩ = false ∧ w.cell? ⟨b, 6, none⟩ = some c6 ∧ w.frozen? ⟨b, 6, none⟩ = false ∧ w.cell? ⟨b, 7, none⟩ = some c7 ∧ w.frozen? ⟨b, 7, none⟩ = false ∧ w.cell? ⟨b, 8, none⟩ = some c8 ∧ w.frozen? ⟨b, 8, none⟩ = false :=
  ⟨(cells_of h 0 _ rfl).1, (cells_of h 0 _ rfl).2, (cells_of h 1 _ rfl).1, (cells_of h 1 _ rfl).2, (cells_of h 2 _ rfl).1, (cells_of h 2 _ rfl).2, (cells_of h 3 _ rfl).1, (cells_of h 3 _ rfl).2, (cells_of h 4 _ rfl).1, (cells_of h 4 _ rfl).2, (cells_of h 5 _ rfl).1, (cells_of h 5 _ rfl).2, (cells_of h 6 _ rfl).1, (cells_of h 6 _ rfl).2, (cells_of h 7 _ rfl).1, (cells_of h 7 _ rfl).2, (cells_of h 8 _ rfl).1, (cells_of h 8 _ rfl).2⟩
theorem c14 {w : World} {b : Nat} {c0 c1 c2 c3 c4 c5 c6 c7 c8 c9 c10 c11 c12 c13 : Value} {t : TypeId} (h : w.heap[b]? = some (.cells #[c0, c1, c2, c3, c4, c5, c6, c7, c8, c9, c10, c11, c12, c13] t (0, 0))) : w.cell? ⟨b, 0, none⟩ = some c0 ∧ w.cell? ⟨b, 1, none⟩ = some c1 ∧ w.cell? ⟨b, 2, none⟩ = some c2 ∧ w.cell? ⟨b, 3, none⟩ = some c3 ∧ w.cell? ⟨b, 4, none⟩ = some c4 ∧ w.cell? ⟨b, 5, none⟩ = some c5 ∧ w.cell? ⟨b, 6, none⟩ = some c6 ∧ w.cell? ⟨b, 7, none⟩ = some c7 ∧ w.cell? ⟨b, 8, none⟩ = some c8 ∧ w.cell? ⟨b, 9, none⟩ = some c9 ∧ w.cell? ⟨b, 10, none⟩ = some c10 ∧ w.cell? ⟨b, 11, none⟩ = some c11 ∧ w.cell? ⟨b, 12, none⟩ = some c12 ∧ w.cell? ⟨b, 13, none⟩ = some c13 :=
  ⟨(cells_of h 0 _ rfl).1, (cells_of h 1 _ rfl).1, (cells_of h 2 _ rfl).1, (cells_of h 3 _ rfl).1, (cells_of h 4 _ rfl).1, (cells_of h 5 _ rfl).1, (cells_of h 6 _ rfl).1, (cells_of h 7 _ rfl).1, (cells_of h 8 _ rfl).1, (cells_of h 9 _ rfl).1, (cells_of h 10 _ rfl).1, (cells_of h 11 _ rfl).1, (cells_of h 12 _ rfl).1, (cells_of h 13 _ rfl).1⟩
theorem d14 {w : World} {b : Nat} {c0 c1 c2 c3 c4 c5 c6 c7 c8 c9 c10 c11 c12 c13 : Value} {t : TypeId} (h : w.heap[b]? = some (.cells #[c0, c1, c2, c3, c4, c5, c6, c7, c8, c9, c10, c11, c12, c13] t (0, 0))) : w.cell? ⟨b, 0, none⟩ = some c0 ∧ w.frozen? ⟨b, 0, none⟩ = false ∧ w.cell? ⟨b, 1, none⟩ = some c1 ∧ w.frozen? ⟨b, 1, none⟩ = false ∧ w.cell? ⟨b, 2, none⟩ = some c2 ∧ w.frozen? ⟨b, 2, none⟩ = false ∧ w.cell? ⟨b, 3, none⟩ = some c3 ∧ w.frozen? ⟨b, 3, none⟩ = false ∧ w.cell? ⟨b, 4, none⟩ = some c4 ∧ w.frozen? ⟨b, 4, none⟩ = false ∧ w.cell? ⟨b, 5, none⟩ = some c5 ∧ w.frozen? ⟨b, 5, none⟩ = false ∧ w.cell? ⟨b, 6, none⟩ = some c6 ∧ w.frozen? ⟨b, 6, none⟩ = false ∧ w.cell? ⟨b, 7, none⟩ = some c7 ∧ w.frozen? ⟨b, 7, none⟩ = false ∧ w.cell? ⟨b, 8, none⟩ = some c8 ∧ w.frozen? ⟨b, 8, none⟩ = false ∧ w.cell? ⟨b, 9, none⟩ = some c9 ∧ w.frozen? ⟨b, 9, none⟩ = false ∧ w.cell? ⟨b, 10, none⟩ = some c10 ∧ w.frozen? ⟨b, 10, none⟩ = false ∧ w.cell? ⟨b, 11, none⟩ = some c11 ∧ w.frozen? ⟨b, 11, none⟩ = false ∧ w.cell? ⟨b, 12, none⟩ = some c12 ∧ w.frozen? ⟨b, 12, none⟩ = false ∧ w.cell? ⟨b, 13, none⟩ = some c13 ∧ w.frozen? ⟨b, 13, none⟩ = false :=
  ⟨(cells_of h 0 _ rfl).1, (cells_of h 0 _ rfl).2, (cells_of h 1 _ rfl).1, (cells_of h 1 _ rfl).2, (cells_of h 2 _ rfl).1, (cells_of h 2 _ rfl).2, (cells_of h 3 _ rfl).1, (cells_of h 3 _ rfl).2, (cells_of h 4 _ rfl).1, (cells_of h 4 _ rfl).2, (cells_of h 5 _ rfl).1, (cells_of h 5 _ rfl).2, (cells_of h 6 _ rfl).1, (cells_of h 6 _ rfl).2, (cells_of h 7 _ rfl).1, (cells_of h 7 _ rfl).2, (cells_of h 8 _ rfl).1, (cells_of h 8 _ rfl).2, (cells_of h 9 _ rfl).1, (cells_of h 9 _ rfl).2, (cells_of h 10 _ rfl).1, (cells_of h 10 _ rfl).2, (cells_of h 11 _ rfl).1, (cells_of h 11 _ rfl).2, (cells_of h 12 _ rfl).1, (cells_of h 12 _ rfl).2, (cells_of h 13 _ rfl).1, (cells_of h 13 _ rfl).2⟩
end Go.Proofs.YtaebhbcamhmhoaaDoor
namespace Go.Proofs.YtaebhbcamhmhoaaDoor
open Go.RowKit
open Go.Tree7
open S7
open S5 (nl nl_length nl_small at_nl nl_at Gives idx idx_at ix ix_no ix_yes)
/-- What the code tells of a language: two lengths, three sets. -/
structure Lg where
  lo : Int
  hi : Int
  fs : Nat → Bool
  ls : Nat → Bool
  al : Nat → Bool
def voidL : Lg := ⟨-1, -1, S1.noS, S1.noS, S1.noS⟩
def zeroL : Lg := ⟨0, 0, S1.noS, S1.noS, S1.noS⟩
def thnL (L M : Lg) : Lg := if L.lo = -1 ∨ M.lo = -1 then voidL else ⟨cut20 (L.lo + M.lo), cut20 (L.hi + M.hi), if L.lo = 0 then S1.orS L.fs M.fs else L.fs, if M.lo = 0 then S1.orS M.ls L.ls else M.ls, S1.orS L.al M.al⟩
def eorL (L M : Lg) : Lg := if L.lo = -1 then M else if M.lo = -1 then L else ⟨min L.lo M.lo, max L.hi M.hi, S1.orS L.fs M.fs, S1.orS L.ls M.ls, S1.orS L.al M.al⟩
def oftL (L : Lg) (mn mx : Int) : Lg := if L.lo = -1 then (if mn = 0 then zeroL else L) else ⟨cut20 (L.lo * mn), if mx = -1 then (if 0 < L.hi then 1048576 else L.hi) else cut20 (L.hi * mx), L.fs, L.ls, L.al⟩
/-- What is told of a right tree's language. -/
noncomputable def lgT (t : T) : Lg := if voidT t = true then voidL else ⟨leastT t, mostT t, endsT false t, endsT true t, alphaT t⟩
/-- A language without strings, or one whose lengths are within bounds. -/
def OkL (L : Lg) : Prop := L = voidL ∨ (Within L.lo ∧ Within L.hi)
theorem voidL_lo : voidL.lo = -1 := rfl
theorem OkL.void : OkL voidL := Or.inl rfl
theorem OkL.zero : OkL zeroL := Or.inr ⟨⟨by decide, by decide⟩, ⟨by decide, by decide⟩⟩
theorem OkL.lo {L : Lg} (h : OkL L) : (L.lo = -1 ∧ L = voidL) ∨ (0 ≤ L.lo ∧ L.lo ≤ 1048576) := by
  rcases h with h | ⟨h, -⟩
  · exact Or.inl ⟨by rw [h]; rfl, h⟩
  · exact Or.inr h
theorem null_void {t : T} (h : T.All (fun t => T.ok t = true) t) : voidT t = true → nullT t = false := by
  induction h with
  | @mk k u0 u1 u2 u3 p cap mn mx tx ks ho _ ih =>
    rw [voidT_mk, nullT_mk]
    have hk := okn_of ho
    cases hk with
    | bytes e => intro _; rw [if_pos (Or.inl e)]
    | name e => intro _; rw [if_pos (Or.inr e)]
    | cat e =>
      subst e
      rw [if_neg (by omega), if_neg (by omega), if_neg (by omega), if_pos rfl, if_neg (by omega), if_neg (by omega), if_pos rfl]
      intro hv
      obtain ⟨t, ht, hv⟩ := List.any_eq_true.1 hv
      exact Bool.eq_false_iff.2 fun hx => by
        have := List.all_eq_true.1 hx t ht
        rw [ih t ht hv] at this
        cases this
    | alt e =>
      subst e
      rw [if_neg (by omega), if_neg (by omega), if_neg (by omega), if_neg (by omega), if_neg (by omega), if_neg (by omega), if_neg (by omega)]
      intro hv
      exact Bool.eq_false_iff.2 fun hx => by
        obtain ⟨t, ht, hx⟩ := List.any_eq_true.1 hx
        rw [ih t ht (List.all_eq_true.1 hv t ht)] at hx
        cases hx
    | rep e t h2 h3 h4 =>
      subst e h2
      rw [if_neg (by omega), if_pos rfl, if_neg (by omega), if_pos rfl, List.map_cons, List.headD_cons, List.map_cons, List.headD_cons]
      intro hv
      rw [Bool.and_eq_true, decide_eq_true_eq] at hv
      rw [ih t (by simp) hv.2, Bool.or_false, decide_eq_false_iff_not]
      omega
theorem sum_zero : ∀ (xs : List Int) (s : Int), 0 ≤ s → (∀ x ∈ xs, 0 ≤ x) → (xs.foldl (fun s x => cut20 (s + x)) s = 0 ↔ s = 0 ∧ ∀ x ∈ xs, x = 0)
  | [], s, _, _ => by simp
  | x :: xs, s, hs, hx => by
    have h0 := hx x (by simp)
    rw [List.foldl_cons, sum_zero xs _ (by rw [cut20_min]; omega) fun y hy => hx y (List.mem_cons_of_mem _ hy), cut20_min]
    constructor
    · rintro ⟨a, b⟩
      refine ⟨by omega, fun y hy => ?_⟩
      rcases List.mem_cons.1 hy with rfl | hy
      · omega
      · exact b y hy
    · rintro ⟨a, b⟩
      have := b x (by simp)
      exact ⟨by omega, fun y hy => b y (List.mem_cons_of_mem _ hy)⟩
theorem leastOf_zero : ∀ (xs : List Int) (o : Int), 0 ≤ o → (∀ x ∈ xs, 0 ≤ x) → (xs.foldl (fun o x => if o < 0 ∨ x < o then x else o) o = 0 ↔ o = 0 ∨ ∃ x ∈ xs, x = 0)
  | [], o, _, _ => by simp
  | x :: xs, o, ho, hx => by
    have h0 := hx x (by simp)
    rw [List.foldl_cons, leastOf_zero xs _ (by split <;> omega) fun y hy => hx y (List.mem_cons_of_mem _ hy)]
    constructor
    · rintro (a | ⟨y, hy, rfl⟩)
      · split at a
        · exact Or.inr ⟨x, by simp, a⟩
        · exact Or.inl a
      · exact Or.inr ⟨_, List.mem_cons_of_mem _ hy, rfl⟩
    · rintro (a | ⟨y, hy, rfl⟩)
      · left; split <;> omega
      · rcases List.mem_cons.1 hy with rfl | hy
        · left; split <;> omega
        · exact Or.inr ⟨_, hy, rfl⟩
theorem alives_all {ks : List T} (h : ∀ t ∈ ks, voidT t = false) : alives ks = ks := by
  unfold alives
  rw [List.filter_eq_self]
  intro t ht
  simp [h t ht]
theorem null_least {t : T} (h : T.All (fun t => T.ok t = true) t) : voidT t = false → (nullT t = true ↔ leastT t = 0) := by
  induction h with
  | @mk k u0 u1 u2 u3 p cap mn mx tx ks ho hks ih =>
    rw [voidT_mk, nullT_mk, leastT_mk]
    have hk := okn_of ho
    cases hk with
    | bytes e => intro _; rw [if_pos (Or.inl e), if_pos e]; simp
    | name e => intro hv; rw [if_neg (by omega), if_neg (by omega), if_pos e] at hv; cases hv
    | cat e =>
      subst e
      rw [if_neg (by omega), if_neg (by omega), if_neg (by omega), if_pos rfl, if_neg (by omega), if_neg (by omega), if_pos rfl, if_neg (by omega), if_neg (by omega), if_pos rfl]
      intro hv
      have hv' : ∀ t ∈ ks, voidT t = false := fun t ht => by
        cases hx : voidT t with
        | false => rfl
        | true => rw [List.any_eq_true.2 ⟨t, ht, hx⟩] at hv; cases hv
      rw [alives_all hv']
      unfold sumT
      rw [sum_zero _ 0 (Int.le_refl _) fun x hx => by obtain ⟨t, ht, rfl⟩ := List.mem_map.1 hx; exact (least_within (hks t ht) (hv' t ht)).1]
      rw [List.all_eq_true]
      constructor
      · exact fun a => ⟨rfl, fun x hx => by obtain ⟨t, ht, rfl⟩ := List.mem_map.1 hx; exact (ih t ht (hv' t ht)).1 (a t ht)⟩
      · exact fun a t ht => (ih t ht (hv' t ht)).2 (a.2 _ (List.mem_map.2 ⟨t, ht, rfl⟩))
    | alt e =>
      subst e
      rw [if_neg (by omega), if_neg (by omega), if_neg (by omega), if_neg (by omega), if_neg (by omega), if_neg (by omega), if_neg (by omega), if_neg (by omega), if_neg (by omega), if_neg (by omega)]
      intro hv
      have hw : ∀ x ∈ (alives ks).map leastT, 0 ≤ x := fun x hx => by
        obtain ⟨t, ht, rfl⟩ := List.mem_map.1 hx
        exact (least_within (hks t (alives_sub ht).1) (alives_sub ht).2).1
      have hz : leastOf ((alives ks).map leastT) = 0 ↔ ∃ x ∈ (alives ks).map leastT, x = 0 := by
        cases hl : (alives ks).map leastT with
        | nil => simp [leastOf]
        | cons x xs =>
          rw [hl] at hw
          unfold leastOf
          rw [List.foldl_cons, if_pos (Or.inl (by omega)), leastOf_zero xs x (hw x (by simp)) fun y hy => hw y (List.mem_cons_of_mem _ hy)]
          simp only [List.mem_cons, exists_eq_or_imp]
      rw [hz, List.any_eq_true]
      constructor
      · rintro ⟨t, ht, hn⟩
        have hvt : voidT t = false := Bool.eq_false_iff.2 fun hx => by rw [null_void (hks t ht) hx] at hn; cases hn
        exact ⟨_, List.mem_map.2 ⟨t, by unfold alives; rw [List.mem_filter]; exact ⟨ht, by simp [hvt]⟩, rfl⟩, (ih t ht hvt).1 hn⟩
      · rintro ⟨x, hx, h0⟩
        obtain ⟨t, ht, rfl⟩ := List.mem_map.1 hx
        exact ⟨t, (alives_sub ht).1, (ih t (alives_sub ht).1 (alives_sub ht).2).2 h0⟩
    | rep e t h2 h3 h4 =>
      subst e h2
      rw [if_neg (by omega), if_pos rfl, if_neg (by omega), if_pos rfl, if_neg (by omega), if_pos rfl, List.map_cons, List.headD_cons, List.map_cons, List.headD_cons, List.map_cons, List.headD_cons]
      intro hv
      rw [Bool.or_eq_true, decide_eq_true_eq]
      by_cases hm : mn = 0
      · rw [if_pos hm]; exact ⟨fun _ => rfl, fun _ => Or.inl hm⟩
      · rw [if_neg hm, cut20_min]
        have hvt : voidT t = false := by
          rw [show decide (0 < mn) = true by rw [decide_eq_true_eq]; omega] at hv
          simpa using hv
        have hl := (least_within (hks t (by simp)) hvt).1
        have h5 := ih t (by simp) hvt
        have hp := Int.mul_nonneg (a := mn) (b := leastT t) (by omega) hl
        constructor
        · rintro (a | a)
          · exact absurd a hm
          · rw [h5.1 a]; omega
        · intro a
          right
          refine h5.2 ?_
          have : mn * leastT t = 0 := by omega
          rcases Int.mul_eq_zero.1 this with b | b
          · exact absurd b hm
          · exact b
theorem lg_ok {t : T} (h : T.All (fun t => T.ok t = true) t) : OkL (lgT t) := by
  unfold lgT
  cases hv : voidT t with
  | true => rw [if_pos rfl]; exact .void
  | false => rw [if_neg (by simp)]; exact Or.inr ⟨least_within h hv, most_within h⟩
theorem lg_void {t : T} (h : T.All (fun t => T.ok t = true) t) : (lgT t).lo = -1 ↔ voidT t = true := by
  unfold lgT
  cases hv : voidT t with
  | true => rw [if_pos rfl]; exact ⟨fun _ => rfl, fun _ => rfl⟩
  | false =>
    rw [if_neg (by simp)]
    have := (least_within h hv).1
    simp only
    exact ⟨fun _ => by omega, fun e => by cases e⟩
theorem no_or (f : Nat → Bool) : S1.orS f S1.noS = f := by funext c; simp [S1.orS, S1.noS]
theorem union_nil : unionS [] = S1.noS := rfl
theorem union_snoc (xs : List (Nat → Bool)) (f : Nat → Bool) : unionS (xs ++ [f]) = S1.orS (unionS xs) f := by
  funext c
  simp [unionS, S1.orS]
theorem union_cons (f : Nat → Bool) (xs : List (Nat → Bool)) : unionS (f :: xs) = S1.orS f (unionS xs) := by
  funext c
  simp [unionS, S1.orS]
theorem union_back (xs : List (Nat → Bool)) : unionS xs.reverse = unionS xs := by
  funext c
  simp [unionS]
theorem ahead_snoc {α : Type} (v n : α → Bool) : ∀ (xs : List α) (x : α), (∀ y ∈ xs, v y = false) → v x = false → ahead v n (xs ++ [x]) = if xs.all n = true then xs ++ [x] else ahead v n xs
  | [], x, _, hx => by
    rw [List.nil_append, if_pos (by rfl), ahead, if_neg (by simp [hx])]
    split <;> rfl
  | y :: xs, x, hy, hx => by
    have h0 := hy y (by simp)
    have ih := ahead_snoc v n xs x (fun z hz => hy z (List.mem_cons_of_mem _ hz)) hx
    rw [List.cons_append]
    simp only [ahead, h0, ih, List.all_cons]
    cases n y with
    | false => simp
    | true => cases xs.all n <;> simp
theorem ahead_full {α : Type} (v n : α → Bool) : ∀ (xs : List α), (∀ y ∈ xs, v y = false) → xs.all n = true → ahead v n xs = xs
  | [], _, _ => rfl
  | y :: xs, hy, hn => by
    rw [List.all_cons, Bool.and_eq_true] at hn
    rw [ahead, if_neg (by rw [hy y (by simp)]; simp), if_pos hn.1, ahead_full v n xs (fun z hz => hy z (List.mem_cons_of_mem _ hz)) hn.2]
end Go.Proofs.YtaebhbcamhmhoaaDoor
namespace Go.Proofs.YtaebhbcamhmhoaaDoor
open Go.RowKit
open Go.Tree7
open S7
open S5 (nl nl_length nl_small at_nl nl_at Gives idx idx_at ix ix_no ix_yes)
noncomputable def combC (xs : List T) : Lg := if xs.any voidT = true then voidL else ⟨sumT (xs.map leastT), sumT (xs.map mostT), unionS ((ahead voidT nullT xs).map (endsT false)), unionS ((ahead voidT nullT xs.reverse).map (endsT true)), unionS (xs.map alphaT)⟩
noncomputable def combA (xs : List T) : Lg := if xs.all voidT = true then voidL else ⟨leastOf ((alives xs).map leastT), mostOf ((alives xs).map mostT), unionS ((alives xs).map (endsT false)), unionS ((alives xs).map (endsT true)), unionS ((alives xs).map alphaT)⟩
abbrev Oks (xs : List T) : Prop := ∀ t ∈ xs, T.All (fun t => T.ok t = true) t
theorem any_not {xs : List T} (h : xs.any voidT = false) : ∀ t ∈ xs, voidT t = false := fun t ht => by
  cases hx : voidT t with
  | false => rfl
  | true => rw [List.any_eq_true.2 ⟨t, ht, hx⟩] at h; cases h
theorem combC_ok {xs : List T} (h : Oks xs) : OkL (combC xs) := by
  unfold combC
  cases hv : xs.any voidT with
  | true => rw [if_pos rfl]; exact .void
  | false =>
    rw [if_neg (by simp)]
    have hv := any_not hv
    exact Or.inr ⟨sumT_within fun x hx => by obtain ⟨t, ht, rfl⟩ := List.mem_map.1 hx; exact (least_within (h t ht) (hv t ht)).1, sumT_within fun x hx => by obtain ⟨t, ht, rfl⟩ := List.mem_map.1 hx; exact (most_within (h t ht)).1⟩
theorem combC_nil : combC [] = zeroL := rfl
theorem sum_all_null {xs : List T} (h : Oks xs) (hv : ∀ t ∈ xs, voidT t = false) : sumT (xs.map leastT) = 0 ↔ xs.all nullT = true := by
  unfold sumT
  rw [sum_zero _ 0 (Int.le_refl _) fun x hx => by obtain ⟨t, ht, rfl⟩ := List.mem_map.1 hx; exact (least_within (h t ht) (hv t ht)).1]
  rw [List.all_eq_true]
  constructor
  · exact fun a t ht => (null_least (h t ht) (hv t ht)).2 (a.2 _ (List.mem_map.2 ⟨t, ht, rfl⟩))
  · exact fun a => ⟨rfl, fun x hx => by obtain ⟨t, ht, rfl⟩ := List.mem_map.1 hx; exact (null_least (h t ht) (hv t ht)).1 (a t ht)⟩
theorem combC_snoc {xs : List T} {x : T} (h : Oks xs) (hx : T.All (fun t => T.ok t = true) x) : combC (xs ++ [x]) = thnL (combC xs) (lgT x) := by
  cases hv : xs.any voidT with
  | true =>
    unfold combC thnL
    rw [if_pos (by rw [List.any_append, hv]; rfl), if_pos hv, if_pos (Or.inl voidL_lo)]
  | false =>
    have hvs := any_not hv
    cases hy : voidT x with
    | true =>
      unfold combC thnL
      rw [if_pos (by rw [List.any_append]; simp [hy]), if_pos (Or.inr ((lg_void hx).2 hy))]
    | false =>
      have hok := combC_ok h
      have e1 : (combC xs).lo = sumT (xs.map leastT) := by unfold combC; rw [if_neg (by rw [hv]; simp)]
      have e2 : lgT x = ⟨leastT x, mostT x, endsT false x, endsT true x, alphaT x⟩ := by unfold lgT; rw [if_neg (by rw [hy]; simp)]
      have hw := sumT_within (xs := xs.map leastT) fun y hy => by obtain ⟨t, ht, rfl⟩ := List.mem_map.1 hy; exact (least_within (h t ht) (hvs t ht)).1
      have hlx := (least_within hx hy).1
      have hnl := sum_all_null h hvs
      have hnx := null_least hx hy
      unfold thnL
      rw [if_neg (by rw [e1, e2]; have := hw.1; simp only; omega), e1, e2]
      unfold combC
      rw [if_neg (by rw [List.any_append, hv]; simp [hy]), if_neg (by rw [hv]; simp)]
      simp only
      congr 1
      · unfold sumT; rw [List.map_append, List.foldl_append]; rfl
      · unfold sumT; rw [List.map_append, List.foldl_append]; rfl
      · rw [ahead_snoc voidT nullT xs x hvs hy]
        by_cases hn : xs.all nullT = true
        · rw [if_pos hn, if_pos (hnl.2 hn), ahead_full voidT nullT xs hvs hn, List.map_append, List.map_cons, List.map_nil, union_snoc]
        · rw [if_neg hn, if_neg fun e => hn (hnl.1 e)]
      · rw [List.reverse_append, List.reverse_cons, List.reverse_nil, List.nil_append, List.singleton_append, ahead, if_neg (by rw [hy]; simp)]
        by_cases hn : nullT x = true
        · rw [if_pos hn, if_pos (hnx.1 hn), List.map_cons, union_cons]
        · rw [if_neg hn, if_neg fun e => hn (hnx.2 e), List.map_cons, List.map_nil, union_cons, union_nil, no_or]
      · rw [List.map_append, List.map_cons, List.map_nil, union_snoc]
theorem all_not {xs : List T} (h : xs.all voidT = false) : alives xs ≠ [] := by
  intro e
  have : xs.all voidT = true := List.all_eq_true.2 fun t ht => by
    cases hx : voidT t with
    | true => rfl
    | false =>
      have : t ∈ alives xs := by unfold alives; rw [List.mem_filter]; exact ⟨ht, by simp [hx]⟩
      rw [e] at this
      cases this
  rw [h] at this
  cases this
theorem alives_none {xs : List T} (h : xs.all voidT = true) : alives xs = [] := by
  unfold alives
  rw [List.filter_eq_nil_iff]
  intro t ht
  rw [List.all_eq_true.1 h t ht]
  simp
theorem combA_lo {xs : List T} (h : Oks xs) (hv : xs.all voidT = false) : Within (leastOf ((alives xs).map leastT)) :=
  leastOf_within (fun e => all_not hv (List.map_eq_nil_iff.1 e)) fun x hx => by obtain ⟨t, ht, rfl⟩ := List.mem_map.1 hx; exact least_within (h t (alives_sub ht).1) (alives_sub ht).2
theorem combA_hi {xs : List T} (h : Oks xs) : Within (mostOf ((alives xs).map mostT)) :=
  mostOf_within fun x hx => by obtain ⟨t, ht, rfl⟩ := List.mem_map.1 hx; exact most_within (h t (alives_sub ht).1)
theorem combA_ok {xs : List T} (h : Oks xs) : OkL (combA xs) := by
  unfold combA
  cases hv : xs.all voidT with
  | true => rw [if_pos rfl]; exact .void
  | false => rw [if_neg (by simp)]; exact Or.inr ⟨combA_lo h hv, combA_hi h⟩
theorem combA_nil : combA [] = voidL := rfl
theorem combA_snoc {xs : List T} {x : T} (h : Oks xs) (hx : T.All (fun t => T.ok t = true) x) : combA (xs ++ [x]) = eorL (combA xs) (lgT x) := by
  have e0 : alives (xs ++ [x]) = alives xs ++ alives [x] := by unfold alives; rw [List.filter_append]
  cases hy : voidT x with
  | true =>
    have e1 : alives [x] = [] := by unfold alives; simp [hy]
    have e2 : combA (xs ++ [x]) = combA xs := by
      unfold combA
      rw [e0, e1, List.append_nil, show (xs ++ [x]).all voidT = xs.all voidT by rw [List.all_append]; simp [hy]]
    have e3 : lgT x = voidL := by unfold lgT; rw [if_pos hy]
    rw [e2, e3]
    unfold eorL
    rcases combA_ok h with e | ⟨a, -⟩
    · rw [e, if_pos voidL_lo]
    · rw [if_neg (by have := a.1; omega), if_pos voidL_lo]
  | false =>
    have e1 : alives [x] = [x] := by unfold alives; simp [hy]
    have e2 : lgT x = ⟨leastT x, mostT x, endsT false x, endsT true x, alphaT x⟩ := by unfold lgT; rw [if_neg (by rw [hy]; simp)]
    have hl := (least_within hx hy).1
    have hm := (most_within hx).1
    have e3 : combA (xs ++ [x]) = ⟨leastOf ((alives xs ++ [x]).map leastT), mostOf ((alives xs ++ [x]).map mostT), unionS ((alives xs ++ [x]).map (endsT false)), unionS ((alives xs ++ [x]).map (endsT true)), unionS ((alives xs ++ [x]).map alphaT)⟩ := by
      unfold combA
      rw [e0, e1, if_neg (by rw [List.all_append]; simp [hy])]
    rw [e3, e2]
    unfold eorL
    cases hv : xs.all voidT with
    | true =>
      have e4 : combA xs = voidL := by unfold combA; rw [if_pos hv]
      rw [e4, if_pos voidL_lo, alives_none hv]
      simp only [List.nil_append, List.map_cons, List.map_nil, union_cons, union_nil, no_or]
      congr 1
      show (if mostT x > 0 then mostT x else 0) = mostT x
      split <;> omega
    | false =>
      have hlo := (combA_lo h hv).1
      have hhi := (combA_hi h).1
      have e4 : combA xs = ⟨leastOf ((alives xs).map leastT), mostOf ((alives xs).map mostT), unionS ((alives xs).map (endsT false)), unionS ((alives xs).map (endsT true)), unionS ((alives xs).map alphaT)⟩ := by unfold combA; rw [if_neg (by rw [hv]; simp)]
      rw [e4, if_neg (by simp only; omega), if_neg (by simp only; omega)]
      simp only [List.map_append, List.map_cons, List.map_nil, union_snoc]
      congr 1
      · unfold leastOf at hlo ⊢
        rw [List.foldl_append, List.foldl_cons, List.foldl_nil]
        split <;> omega
      · unfold mostOf at hhi ⊢
        rw [List.foldl_append, List.foldl_cons, List.foldl_nil]
        split <;> omega
theorem lg_cat {u0 u1 u2 u3 : Int} {p : Option Addr} {cap : Nat} {mn mx : Int} {tx : ByteArray} {ks : List T} : lgT (.mk 2 u0 u1 u2 u3 p cap mn mx tx ks) = combC ks := by
  have n1 := eq_false (show ¬ ((2 : Int) = 1) by decide)
  have n4 := eq_false (show ¬ ((2 : Int) = 4) by decide)
  have n5 := eq_false (show ¬ ((2 : Int) = 5) by decide)
  unfold lgT combC
  rw [voidT_mk, leastT_mk, mostT_mk, endsT_mk, endsT_mk, alphaT_mk]
  simp only [n1, n4, n5, if_false, if_true]
  cases hv : ks.any voidT with
  | true => rfl
  | false =>
    rw [alives_all (any_not hv)]
    rfl
theorem lg_alt {u0 u1 u2 u3 : Int} {p : Option Addr} {cap : Nat} {mn mx : Int} {tx : ByteArray} {ks : List T} : lgT (.mk 3 u0 u1 u2 u3 p cap mn mx tx ks) = combA ks := by
  have n1 := eq_false (show ¬ ((3 : Int) = 1) by decide)
  have n2 := eq_false (show ¬ ((3 : Int) = 2) by decide)
  have n4 := eq_false (show ¬ ((3 : Int) = 4) by decide)
  have n5 := eq_false (show ¬ ((3 : Int) = 5) by decide)
  unfold lgT combA
  rw [voidT_mk, leastT_mk, mostT_mk, endsT_mk, endsT_mk, alphaT_mk]
  simp only [n1, n2, n4, n5, if_false]
  have e : unionS ((alives (turned true ks)).map (endsT true)) = unionS ((alives ks).map (endsT true)) := by
    unfold turned alives
    rw [if_pos rfl, List.filter_reverse, List.map_reverse, union_back]
  rw [e]
  rfl
theorem lg_rep {u0 u1 u2 u3 : Int} {p : Option Addr} {cap : Nat} {mn mx : Int} {tx : ByteArray} {t : T} (h : T.All (fun t => T.ok t = true) t) (h1 : 0 ≤ mn) : lgT (.mk 4 u0 u1 u2 u3 p cap mn mx tx [t]) = oftL (lgT t) mn mx := by
  cases hv : voidT t with
  | true =>
    have e : lgT t = voidL := by unfold lgT; rw [if_pos hv]
    rw [e]
    unfold oftL
    rw [if_pos voidL_lo]
    unfold lgT
    rw [void_rep, hv, Bool.and_true]
    by_cases hm : mn = 0
    · rw [if_neg (by rw [decide_eq_true_eq]; omega), if_pos hm, most_rep_void _ _ _ _ _ _ _ _ _ hv, endsT_mk, endsT_mk, alphaT_mk, leastT_mk, if_neg (by omega), if_pos rfl, if_pos hm]
      have ea : alives [t] = [] := by unfold alives; simp [hv]
      have eb : alives (turned true [t]) = [] := ea
      have ec : alives (turned false [t]) = [] := ea
      simp only [ea, eb, ec, List.map_nil, union_nil]
      rw [if_neg (by omega), if_neg (by omega), if_neg (by omega), if_neg (by omega), if_neg (by omega)]
      rfl
    · rw [if_pos (by rw [decide_eq_true_eq]; omega), if_neg hm]
  | false =>
    have e : lgT t = ⟨leastT t, mostT t, endsT false t, endsT true t, alphaT t⟩ := by unfold lgT; rw [if_neg (by rw [hv]; simp)]
    have hl := (least_within h hv).1
    have hh := most_within h
    rw [e]
    unfold oftL
    rw [if_neg (by simp only; omega)]
    unfold lgT
    have n1 := eq_false (show ¬ ((4 : Int) = 1) by decide)
    have n2 := eq_false (show ¬ ((4 : Int) = 2) by decide)
    rw [void_rep, hv, Bool.and_false, if_neg (by simp), ends_rep _ _ _ _ _ _ _ _ _ _ hv, ends_rep _ _ _ _ _ _ _ _ _ _ hv, alpha_rep _ _ _ _ _ _ _ _ _ hv, leastT_mk, mostT_mk]
    simp only [n1, n2, if_false, if_true, List.map_cons, List.headD_cons, hv, mostRep]
    congr 1
    · by_cases hm : mn = 0
      · rw [if_pos hm, hm, Int.mul_zero]; rfl
      · rw [if_neg hm, Int.mul_comm]
    · rw [if_neg (by simp)]
      by_cases h0 : mostT t = 0
      · rw [if_pos h0, h0]
        split
        · rw [if_neg (by omega)]
        · rw [Int.zero_mul]; rfl
      · rw [if_neg h0]
        split
        · rw [if_pos (by have := hh.1; omega)]
        · rw [Int.mul_comm]
theorem lg_bytes {u0 u1 u2 u3 : Int} {p : Option Addr} {cap : Nat} {mn mx : Int} {tx : ByteArray} {ks : List T} : lgT (.mk 1 u0 u1 u2 u3 p cap mn mx tx ks) =
    if (u0 == 0 && u1 == 0 && u2 == 0 && u3 == 0) = true then voidL else ⟨1, 1, S1.mem4 u0.toNat u1.toNat u2.toNat u3.toNat, S1.mem4 u0.toNat u1.toNat u2.toNat u3.toNat, S1.mem4 u0.toNat u1.toNat u2.toNat u3.toNat⟩ := by
  unfold lgT
  rw [voidT_mk, leastT_mk, mostT_mk, endsT_mk, endsT_mk, alphaT_mk, if_pos rfl, if_pos rfl, if_pos rfl, if_pos rfl, if_pos rfl, if_pos rfl]
theorem lg_name {u0 u1 u2 u3 : Int} {p : Option Addr} {cap : Nat} {mn mx : Int} {tx : ByteArray} {ks : List T} : lgT (.mk 5 u0 u1 u2 u3 p cap mn mx tx ks) = voidL := by
  have n1 := eq_false (show ¬ ((5 : Int) = 1) by decide)
  have n4 := eq_false (show ¬ ((5 : Int) = 4) by decide)
  unfold lgT
  rw [voidT_mk]
  simp only [n1, n4, if_false, if_true]
/-- The values of the first j kids, joined. -/
theorem runs_of (comb : List T → Lg) (op : Lg → Lg → Lg) (snoc : ∀ (xs : List T) (x : T), Oks xs → T.All (fun t => T.ok t = true) x → comb (xs ++ [x]) = op (comb xs) (lgT x)) (okc : ∀ xs, Oks xs → OkL (comb xs)) {ks : List T} (h : Oks ks) :
    ∃ A : Nat → Lg, A 0 = comb [] ∧ (∀ j (hj : j < ks.length), A (j + 1) = op (A j) (lgT ks[j])) ∧ (∀ j, OkL (A j)) ∧ A ks.length = comb ks := by
  refine ⟨fun j => comb (ks.take j), rfl, fun j hj => ?_, fun j => okc _ fun t ht => h t (List.mem_of_mem_take ht), ?_⟩
  · simp only
    rw [List.take_succ_eq_append_getElem hj]
    exact snoc _ _ (fun t ht => h t (List.mem_of_mem_take ht)) (h _ (List.getElem_mem hj))
  · simp only [List.take_length]
/-- The weights of the first j kids. -/
theorem weights_of {k mn mx : Int} {ks : List T} (h : Oks ks) (hn : Okn k mn mx ks) : ∃ W : Nat → Int, W 0 = 1 ∧ (∀ j (hj : j < ks.length), W (j + 1) = cut20 (W j + (if k = 4 then (if mx = -1 then mn + 1 else mx) else 1) * weightT ks[j])) ∧ (∀ j, 1 ≤ W j ∧ W j ≤ 1048576) ∧ W ks.length = ks.foldl (fun w t => cut20 (w + kidW k mn mx (weightT t))) 1 := by
  have hb : ∀ t ∈ ks, 0 ≤ kidW k mn mx (weightT t) := fun t ht => by
    have h1 := (weight_within (h t ht)).1
    unfold kidW
    cases hn with
    | rep e _ _ h3 h4 =>
      by_cases hm : mx = -1
      · rw [if_pos ⟨e, hm⟩, cut20_min]
        have := Int.mul_nonneg (a := weightT t) (b := mn + 1) (by omega) (by omega)
        omega
      · rw [if_neg (by omega), if_pos e, cut20_min]
        have := Int.mul_nonneg (a := weightT t) (b := mx) (by omega) (by omega)
        omega
    | _ =>
      rw [if_neg (by omega), if_neg (by omega)]
      omega
  have go : ∀ (l : List T), (∀ t ∈ l, t ∈ ks) → ∀ w : Int, 1 ≤ w ∧ w ≤ 1048576 → 1 ≤ l.foldl (fun w t => cut20 (w + kidW k mn mx (weightT t))) w ∧ l.foldl (fun w t => cut20 (w + kidW k mn mx (weightT t))) w ≤ 1048576 := by
    intro l
    induction l with
    | nil => exact fun _ w h => h
    | cons t l ih =>
      intro hl w hw
      rw [List.foldl_cons]
      have := hb t (hl t (by simp))
      exact ih (fun t ht => hl t (List.mem_cons_of_mem _ ht)) _ (by rw [cut20_min]; omega)
  refine ⟨fun j => (ks.take j).foldl (fun w t => cut20 (w + kidW k mn mx (weightT t))) 1, rfl, fun j hj => ?_, fun j => go _ (fun t ht => List.mem_of_mem_take ht) 1 ⟨by omega, by omega⟩, ?_⟩
  · simp only
    rw [List.take_succ_eq_append_getElem hj, List.foldl_append, List.foldl_cons, List.foldl_nil]
    have hw := go (ks.take j) (fun t ht => List.mem_of_mem_take ht) 1 ⟨by omega, by omega⟩
    generalize (ks.take j).foldl (fun w t => cut20 (w + kidW k mn mx (weightT t))) 1 = s at hw ⊢
    have h1 := (weight_within (h _ (List.getElem_mem hj))).1
    generalize weightT ks[j] = x at h1 ⊢
    unfold kidW
    cases hn with
    | rep e _ _ h3 h4 =>
      simp only [if_pos e]
      by_cases hm : mx = -1
      · rw [if_pos ⟨e, hm⟩, if_pos hm, Int.mul_comm x]
        have := Int.mul_nonneg (a := mn + 1) (b := x) (by omega) (by omega)
        simp only [cut20_min]
        omega
      · rw [if_neg (by omega), if_neg hm, Int.mul_comm x]
        have := Int.mul_nonneg (a := mx) (b := x) (by omega) (by omega)
        simp only [cut20_min]
        omega
    | _ =>
      rw [if_neg (by omega), if_neg (by omega), if_neg (by omega), Int.one_mul]
  · simp only [List.take_length]
end Go.Proofs.YtaebhbcamhmhoaaDoor
