/- Texts merged: M9a, M9b, M9c, S9W0, S9V1, S9V2, S9W1. -/

import Derived.Test.YtobbifhflnlplaaDoorS7W9
import Derived.Test.YtobbifhflnlplaaDoorS7C
import Derived.Test.YtobbifhflnlplaaDoorS1C
import Derived.Test.YtobbifhflnlplaaDoorS7K
namespace Go.Proofs.YtobbifhflnlplaaDoor
open Go.Tree7
open S7
def T.para {α : Type} (f : T → List (T × α) → α) : T → α
 | .mk k u0 u1 u2 u3 p cap mn mx tx ks => f (.mk k u0 u1 u2 u3 p cap mn mx tx ks) (ks.attach.map fun ⟨t, _⟩ => (t, T.para f t))
theorem T.para_mk {α : Type} (f : T → List (T × α) → α) (k u0 u1 u2 u3 : Int) (p : Option Addr) (cap : Nat) (mn mx : Int) (tx : ByteArray) (ks : List T) :
  T.para f (.mk k u0 u1 u2 u3 p cap mn mx tx ks) = f (.mk k u0 u1 u2 u3 p cap mn mx tx ks) (ks.map fun t => (t, T.para f t)) := by
 rw [T.para]
 congr 1
 simp
def cut20 (n : Int) : Int := if n > 1048576 then 1048576 else n
theorem cut20_min (n : Int) : cut20 n = min n 1048576 := by unfold cut20; split <;> omega
def voidF (t : T) (xs : List (T × Bool)) : Bool := match t with
 | .mk k u0 u1 u2 u3 _ _ mn _ _ _ => if k = 1 then (u0 == 0 && u1 == 0 && u2 == 0 && u3 == 0) else if k = 4 then decide (0 < mn) && (xs.map Prod.snd).headD true else if k = 5 then true else if k = 2 then xs.any Prod.snd else xs.all Prod.snd
def voidT : T → Bool := T.para voidF
def nullF (t : T) (xs : List (T × Bool)) : Bool := match t with
 | .mk k _ _ _ _ _ _ mn _ _ _ => if k = 1 ∨ k = 5 then false else if k = 4 then decide (mn = 0) || (xs.map Prod.snd).headD false else if k = 2 then xs.all Prod.snd else xs.any Prod.snd
def nullT : T → Bool := T.para nullF
theorem nullT_mk (k u0 u1 u2 u3 : Int) (p : Option Addr) (cap : Nat) (mn mx : Int) (tx : ByteArray) (ks : List T) : nullT (.mk k u0 u1 u2 u3 p cap mn mx tx ks) =
  if k = 1 ∨ k = 5 then false else if k = 4 then decide (mn = 0) || (ks.map nullT).headD false else if k = 2 then ks.all nullT else ks.any nullT := by
 show T.para nullF _ = _
 rw [T.para_mk]
 simp only [nullF, List.map_map, List.any_map, List.all_map]
 rfl
def live {α : Type} (xs : List (T × α)) : List α := (xs.filter fun x => !voidT x.1).map Prod.snd
def sumT (xs : List Int) : Int := xs.foldl (fun s x => cut20 (s + x)) 0
def leastOf (xs : List Int) : Int := xs.foldl (fun o x => if o < 0 ∨ x < o then x else o) (-1)
def mostOf (xs : List Int) : Int := xs.foldl (fun o x => if x > o then x else o) 0
def leastF (t : T) (xs : List (T × Int)) : Int := match t with
 | .mk k _ _ _ _ _ _ mn _ _ _ => if k = 1 then 1 else if k = 4 then if mn = 0 then 0 else cut20 (mn * (xs.map Prod.snd).headD 0) else if k = 2 then sumT (live xs) else leastOf (live xs)
def leastT : T → Int := T.para leastF
def mostRep (mx : Int) (v : Bool) (x : Int) : Int := if v = true then 0 else if x = 0 then 0 else if mx = -1 then 1048576 else cut20 (mx * x)
def mostF (t : T) (xs : List (T × Int)) : Int := match t with
 | .mk k _ _ _ _ _ _ _ mx _ _ => if k = 1 then 1 else if k = 4 then mostRep mx ((xs.map fun x => voidT x.1).headD true) ((xs.map Prod.snd).headD 0) else if k = 2 then sumT (live xs) else mostOf (live xs)
def mostT : T → Int := T.para mostF
def kidW (k mn mx x : Int) : Int := if k = 4 ∧ mx = -1 then cut20 (x * (mn + 1)) else if k = 4 then cut20 (x * mx) else x
def weightF (t : T) (xs : List (T × Int)) : Int := match t with
 | .mk k _ _ _ _ _ _ mn mx _ _ => xs.foldl (fun w x => cut20 (w + kidW k mn mx x.2)) 1
def weightT : T → Int := T.para weightF
theorem weightT_mk (k u0 u1 u2 u3 : Int) (p : Option Addr) (cap : Nat) (mn mx : Int) (tx : ByteArray) (ks : List T) : weightT (.mk k u0 u1 u2 u3 p cap mn mx tx ks) = ks.foldl (fun w t => cut20 (w + kidW k mn mx (weightT t))) 1 := by
 show T.para weightF _ = _
 rw [T.para_mk]
 simp only [weightF, List.foldl_map]
 rfl
def ahead {α : Type} (v n : α → Bool) : List α → List α
 | [] => []
 | x :: xs => if v x = true then ahead v n xs else if n x = true then x :: ahead v n xs else [x]
def turned {α : Type} (back : Bool) (xs : List α) : List α := if back = true then xs.reverse else xs
def unionS (xs : List (Nat → Bool)) : Nat → Bool := fun c => xs.any fun f => f c
def endsF (back : Bool) (t : T) (xs : List (T × (Nat → Bool))) : Nat → Bool := match t with
 | .mk k u0 u1 u2 u3 _ _ _ _ _ _ => if k = 1 then S1.mem4 u0.toNat u1.toNat u2.toNat u3.toNat else
   if k = 2 then unionS ((ahead (fun x => voidT x.1) (fun x => nullT x.1) (turned back xs)).map Prod.snd) else unionS (live (turned back xs))
def endsT (back : Bool) : T → Nat → Bool := T.para (endsF back)
def alphaF (t : T) (xs : List (T × (Nat → Bool))) : Nat → Bool := match t with
 | .mk k u0 u1 u2 u3 _ _ _ _ _ _ => if k = 1 then S1.mem4 u0.toNat u1.toNat u2.toNat u3.toNat else unionS (live xs)
def alphaT : T → Nat → Bool := T.para alphaF
def Within (n : Int) : Prop := 0 ≤ n ∧ n ≤ 1048576
end Go.Proofs.YtobbifhflnlplaaDoor
namespace Go.Proofs.YtobbifhflnlplaaDoor
open Go.Tree7
open S7
inductive Okn (k mn mx : Int) (ks : List T) : Prop
 | bytes (h : k = 1) (h2 : ks = [])
 | cat (h : k = 2)
 | alt (h : k = 3) (h2 : 2 ≤ ks.length)
 | rep (h : k = 4) (t : T) (h2 : ks = [t]) (h3 : 0 ≤ mn ∧ mn ≤ 40) (h4 : mx = -1 ∨ (mn ≤ mx ∧ 1 ≤ mx ∧ mx ≤ 40))
 | name (h : k = 5) (h2 : ks = [])
theorem okn_of {k u0 u1 u2 u3 : Int} {p : Option Addr} {cap : Nat} {mn mx : Int} {tx : ByteArray} {ks : List T} (h : T.ok (.mk k u0 u1 u2 u3 p cap mn mx tx ks) = true) : Okn k mn mx ks := by
 replace h : okB _ k ks.length mn mx tx = true := h
 unfold okB at h
 split at h
 ·simp only [Bool.and_eq_true, decide_eq_true_eq] at h
  exact .bytes ‹_› (List.length_eq_zero_iff.1 h.1)
 ·split at h
  ·exact .cat ‹_›
  ·split at h
   ·simp only [Bool.and_eq_true, decide_eq_true_eq] at h
    exact .alt ‹_› h.1
   ·split at h
    ·unfold boundsB at h
     simp only [Bool.and_eq_true, Bool.or_eq_true, decide_eq_true_eq] at h
     obtain ⟨t, e⟩ := List.length_eq_one_iff.1 h.1.1
     exact .rep ‹_› t e ⟨by omega, by omega⟩ (by omega)
    ·split at h
     ·simp only [Bool.and_eq_true, decide_eq_true_eq] at h
      exact .name ‹_› (List.length_eq_zero_iff.1 h.1.1)
     ·cases h
theorem weight_within {t : T} (h : T.All (fun t => T.ok t = true) t) : 1 ≤ weightT t ∧ weightT t ≤ 1048576 := by
 induction h with
 | @mk k u0 u1 u2 u3 p cap mn mx tx ks ho _ ih =>
  rw [weightT_mk]
  have hk := okn_of ho
  have hw : ∀ t ∈ ks, 0 ≤ kidW k mn mx (weightT t) := fun t ht => by
   have h1 := (ih t ht).1
   unfold kidW
   cases hk with
   | rep e _ _ h3 h4 =>
    by_cases hm : mx = -1
    ·rw [if_pos ⟨e, hm⟩, cut20_min]
     have := Int.mul_nonneg (a := weightT t) (b := mn + 1) (by omega) (by omega)
     omega
    ·rw [if_neg (by omega), if_pos e, cut20_min]
     have := Int.mul_nonneg (a := weightT t) (b := mx) (by omega) (by omega)
     omega
   | _ =>
    rw [if_neg (by omega), if_neg (by omega)]
    omega
  clear ih hk ho
  have go : ∀ (l : List T) (w : Int), (∀ t ∈ l, 0 ≤ kidW k mn mx (weightT t)) → 1 ≤ w ∧ w ≤ 1048576 → 1 ≤ l.foldl (fun w t => cut20 (w + kidW k mn mx (weightT t))) w ∧ l.foldl (fun w t => cut20 (w + kidW k mn mx (weightT t))) w ≤ 1048576 := by
   intro l
   induction l with
   | nil => exact fun w _ h => h
   | cons t l ih =>
    intro w hl h
    rw [List.foldl_cons]
    have := hl t (by simp)
    exact ih _ (fun t ht => hl t (List.mem_cons_of_mem _ ht)) (by rw [cut20_min]; omega)
  exact go ks 1 hw ⟨by omega, by omega⟩
end Go.Proofs.YtobbifhflnlplaaDoor
namespace Go.Proofs.YtobbifhflnlplaaDoor
open Go.Tree7
open S7
theorem null_strip (t : T) : nullT t.strip = nullT t := by
 refine T.ind (P := fun t => nullT t.strip = nullT t) (fun k u0 u1 u2 u3 p cap mn mx tx ks ih => ?_) t
 have e : (ks.map T.strip).map nullT = ks.map nullT := by rw [List.map_map]; exact List.map_congr_left ih
 have h1 : (ks.map T.strip).any nullT = ks.any nullT := by
  have := congrArg (fun l => l.any id) e
  simpa [List.any_map] using this
 have h2 : (ks.map T.strip).all nullT = ks.all nullT := by
  have := congrArg (fun l => l.all id) e
  simpa [List.all_map] using this
 rw [T.strip_mk, nullT_mk, nullT_mk, e, h1, h2]
theorem weight_strip (t : T) : weightT t.strip = weightT t := by
 refine T.ind (P := fun t => weightT t.strip = weightT t) (fun k u0 u1 u2 u3 p cap mn mx tx ks ih => ?_) t
 have e : (ks.map T.strip).map weightT = ks.map weightT := by rw [List.map_map]; exact List.map_congr_left ih
 have h : ∀ l : List T, l.foldl (fun w t => cut20 (w + kidW k mn mx (weightT t))) 1 = (l.map weightT).foldl (fun w x => cut20 (w + kidW k mn mx x)) 1 := fun l => by rw [List.foldl_map]
 rw [T.strip_mk, weightT_mk, weightT_mk, h, h, e]
end Go.Proofs.YtobbifhflnlplaaDoor
namespace Go.Proofs.YtobbifhflnlplaaDoor
open Go.RowKit
open Go.Tree7
open S7
open S5 (nl nl_length nl_small at_nl nl_at Gives idx idx_at ix ix_no ix_yes)
theorem c4 {w : World} {b : Nat} {c0 c1 c2 c3 : Value} {t : TypeId} (h : w.heap[b]? = some (.cells #[c0, c1, c2, c3] t (0, 0))) : w.cell? ⟨b, 0, none⟩ = some c0 ∧ w.cell? ⟨b, 1, none⟩ = some c1 ∧ w.cell? ⟨b, 2, none⟩ = some c2 ∧ w.cell? ⟨b, 3, none⟩ = some c3 :=
 ⟨(cells_of h 0 _ rfl).1, (cells_of h 1 _ rfl).1, (cells_of h 2 _ rfl).1, (cells_of h 3 _ rfl).1⟩
theorem d4 {w : World} {b : Nat} {c0 c1 c2 c3 : Value} {t : TypeId} (h : w.heap[b]? = some (.cells #[c0, c1, c2, c3] t (0, 0))) : w.cell? ⟨b, 0, none⟩ = some c0 ∧ w.frozen? ⟨b, 0, none⟩ = false ∧ w.cell? ⟨b, 1, none⟩ = some c1 ∧ w.frozen? ⟨b, 1, none⟩ = false ∧ w.cell? ⟨b, 2, none⟩ = some c2 ∧ w.frozen? ⟨b, 2, none⟩ = false ∧ w.cell? ⟨b, 3, none⟩ = some c3 ∧ w.frozen? ⟨b, 3, none⟩ = false :=
 ⟨(cells_of h 0 _ rfl).1, (cells_of h 0 _ rfl).2, (cells_of h 1 _ rfl).1, (cells_of h 1 _ rfl).2, (cells_of h 2 _ rfl).1, (cells_of h 2 _ rfl).2, (cells_of h 3 _ rfl).1, (cells_of h 3 _ rfl).2⟩
theorem c9 {w : World} {b : Nat} {c0 c1 c2 c3 c4 c5 c6 c7 c8 : Value} {t : TypeId} (h : w.heap[b]? = some (.cells #[c0, c1, c2, c3, c4, c5, c6, c7, c8] t (0, 0))) : w.cell? ⟨b, 0, none⟩ = some c0 ∧ w.cell? ⟨b, 1, none⟩ = some c1 ∧ w.cell? ⟨b, 2, none⟩ = some c2 ∧ w.cell? ⟨b, 3, none⟩ = some c3 ∧ w.cell? ⟨b, 4, none⟩ = some c4 ∧ w.cell? ⟨b, 5, none⟩ = some c5 ∧ w.cell? ⟨b, 6, none⟩ = some c6 ∧ w.cell? ⟨b, 7, none⟩ = some c7 ∧ w.cell? ⟨b, 8, none⟩ = some c8 :=
 ⟨(cells_of h 0 _ rfl).1, (cells_of h 1 _ rfl).1, (cells_of h 2 _ rfl).1, (cells_of h 3 _ rfl).1, (cells_of h 4 _ rfl).1, (cells_of h 5 _ rfl).1, (cells_of h 6 _ rfl).1, (cells_of h 7 _ rfl).1, (cells_of h 8 _ rfl).1⟩
theorem d9 {w : World} {b : Nat} {c0 c1 c2 c3 c4 c5 c6 c7 c8 : Value} {t : TypeId} (h : w.heap[b]? = some (.cells #[c0, c1, c2, c3, c4, c5, c6, c7, c8] t (0, 0))) : w.cell? ⟨b, 0, none⟩ = some c0 ∧ w.frozen? ⟨b, 0, none⟩ = false ∧ w.cell? ⟨b, 1, none⟩ = some c1 ∧ w.frozen? ⟨b, 1, none⟩ = false ∧ w.cell? ⟨b, 2, none⟩ = some c2 ∧ w.frozen? ⟨b, 2, none⟩ = false ∧ w.cell? ⟨b, 3, none⟩ = some c3 ∧ w.frozen? ⟨b, 3, none⟩ = false ∧ w.cell? ⟨b, 4, none⟩ = some c4 ∧ w.frozen? ⟨b, 4, none⟩ = false ∧ w.cell? ⟨b, 5, none⟩ = some c5 ∧ w.frozen? ⟨b, 5, none⟩ = false ∧ w.cell? ⟨b, 6, none⟩ = some c6 ∧ w.frozen? ⟨b, 6, none⟩ = false ∧ w.cell? ⟨b, 7, none⟩ = some c7 ∧ w.frozen? ⟨b, 7, none⟩ = false ∧ w.cell? ⟨b, 8, none⟩ = some c8 ∧ w.frozen? ⟨b, 8, none⟩ = false :=
 ⟨(cells_of h 0 _ rfl).1, (cells_of h 0 _ rfl).2, (cells_of h 1 _ rfl).1, (cells_of h 1 _ rfl).2, (cells_of h 2 _ rfl).1, (cells_of h 2 _ rfl).2, (cells_of h 3 _ rfl).1, (cells_of h 3 _ rfl).2, (cells_of h 4 _ rfl).1, (cells_of h 4 _ rfl).2, (cells_of h 5 _ rfl).1, (cells_of h 5 _ rfl).2, (cells_of h 6 _ rfl).1, (cells_of h 6 _ rfl).2, (cells_of h 7 _ rfl).1, (cells_of h 7 _ rfl).2, (cells_of h 8 _ rfl).1, (cells_of h 8 _ rfl).2⟩
end Go.Proofs.YtobbifhflnlplaaDoor
namespace Go.Proofs.YtobbifhflnlplaaDoor
open Go.RowKit
open Go.Tree7
open S7
open S5 (nl nl_length nl_small at_nl nl_at Gives idx idx_at ix ix_no ix_yes)
structure Lg where
 lo : Int
 hi : Int
 fs : Nat → Bool
 ls : Nat → Bool
 al : Nat → Bool
def voidL : Lg := ⟨-1, -1, S1.noS, S1.noS, S1.noS⟩
def zeroL : Lg := ⟨0, 0, S1.noS, S1.noS, S1.noS⟩
def OkL (L : Lg) : Prop := L = voidL ∨ (Within L.lo ∧ Within L.hi)
theorem OkL.void : OkL voidL := Or.inl rfl
theorem OkL.zero : OkL zeroL := Or.inr ⟨⟨by decide, by decide⟩, ⟨by decide, by decide⟩⟩
theorem OkL.lo {L : Lg} (h : OkL L) : (L.lo = -1 ∧ L = voidL) ∨ (0 ≤ L.lo ∧ L.lo ≤ 1048576) := by
 rcases h with h | ⟨h, -⟩
 ·exact Or.inl ⟨by rw [h]; rfl, h⟩
 ·exact Or.inr h
end Go.Proofs.YtobbifhflnlplaaDoor
namespace Go.Proofs.YtobbifhflnlplaaDoor
open Go.RowKit
open Go.Tree7
open S7
open S5 (nl nl_length nl_small at_nl nl_at Gives idx idx_at ix ix_no ix_yes)
abbrev Oks (xs : List T) : Prop := ∀ t ∈ xs, T.All (fun t => T.ok t = true) t
theorem weights_of {k mn mx : Int} {ks : List T} (h : Oks ks) (hn : Okn k mn mx ks) : ∃ W : Nat → Int, W 0 = 1 ∧ (∀ j (hj : j < ks.length), W (j + 1) = cut20 (W j + (if k = 4 then (if mx = -1 then mn + 1 else mx) else 1) * weightT ks[j])) ∧ (∀ j, 1 ≤ W j ∧ W j ≤ 1048576) ∧ W ks.length = ks.foldl (fun w t => cut20 (w + kidW k mn mx (weightT t))) 1 := by
 have hb : ∀ t ∈ ks, 0 ≤ kidW k mn mx (weightT t) := fun t ht => by
  have h1 := (weight_within (h t ht)).1
  unfold kidW
  cases hn with
  | rep e _ _ h3 h4 =>
   by_cases hm : mx = -1
   ·rw [if_pos ⟨e, hm⟩, cut20_min]
    have := Int.mul_nonneg (a := weightT t) (b := mn + 1) (by omega) (by omega)
    omega
   ·rw [if_neg (by omega), if_pos e, cut20_min]
    have := Int.mul_nonneg (a := weightT t) (b := mx) (by omega) (by omega)
    omega
  | _ =>
   rw [if_neg (by omega), if_neg (by omega)]
   omega
 have go : ∀ (l : List T), (∀ t ∈ l, t ∈ ks) → ∀ w : Int, 1 ≤ w ∧ w ≤ 1048576 → 1 ≤ l.foldl (fun w t => cut20 (w + kidW k mn mx (weightT t))) w ∧ l.foldl (fun w t => cut20 (w + kidW k mn mx (weightT t))) w ≤ 1048576 := by
  intro l
  induction l with
  | nil => exact fun _ w h => h
  | cons t l ih =>
   intro hl w hw
   rw [List.foldl_cons]
   have := hb t (hl t (by simp))
   exact ih (fun t ht => hl t (List.mem_cons_of_mem _ ht)) _ (by rw [cut20_min]; omega)
 refine ⟨fun j => (ks.take j).foldl (fun w t => cut20 (w + kidW k mn mx (weightT t))) 1, rfl, fun j hj => ?_, fun j => go _ (fun t ht => List.mem_of_mem_take ht) 1 ⟨by omega, by omega⟩, ?_⟩
 ·simp only
  rw [List.take_succ_eq_append_getElem hj, List.foldl_append, List.foldl_cons, List.foldl_nil]
  have hw := go (ks.take j) (fun t ht => List.mem_of_mem_take ht) 1 ⟨by omega, by omega⟩
  generalize (ks.take j).foldl (fun w t => cut20 (w + kidW k mn mx (weightT t))) 1 = s at hw ⊢
  have h1 := (weight_within (h _ (List.getElem_mem hj))).1
  generalize weightT ks[j] = x at h1 ⊢
  unfold kidW
  cases hn with
  | rep e _ _ h3 h4 =>
   simp only [if_pos e]
   by_cases hm : mx = -1
   ·rw [if_pos ⟨e, hm⟩, if_pos hm, Int.mul_comm x]
    have := Int.mul_nonneg (a := mn + 1) (b := x) (by omega) (by omega)
    simp only [cut20_min]
    omega
   ·rw [if_neg (by omega), if_neg hm, Int.mul_comm x]
    have := Int.mul_nonneg (a := mx) (b := x) (by omega) (by omega)
    simp only [cut20_min]
    omega
  | _ =>
   rw [if_neg (by omega), if_neg (by omega), if_neg (by omega), Int.one_mul]
 ·simp only [List.take_length]
end Go.Proofs.YtobbifhflnlplaaDoor
namespace Go.Proofs.YtobbifhflnlplaaDoor
open Go.RowKit
open Go.Tree7
open S7
open S5 (nl nl_length nl_small at_nl nl_at Gives idx idx_at ix ix_no ix_yes)
theorem kept_alloc9 {W : World} {b : Nat} {o : Obj} (h : W.heap[b]? = some o) (p : Obj) : (W.alloc p).heap[b]? = some o := (Below.heap_alloc _ _ _ (Array.getElem?_eq_some_iff.1 h).1).trans h
theorem lt_box {W : World} {b : Nat} {o : Obj} (h : W.heap[b]? = some o) : b < W.heap.size := (Array.getElem?_eq_some_iff.1 h).1
theorem ret_bool9 {a b : Bool} (h : a = b) : Ending.returned (.bool a) = .returned (.bool b) := by rw [h]
theorem count_of (g : T → Bool) (ks : List T) : ∃ c : Nat → Nat, c 0 = 0 ∧ (∀ j (hj : j < ks.length), c (j + 1) = c j + if g ks[j] = true then 1 else 0) ∧ (∀ j, j ≤ ks.length → c j ≤ j) ∧ c ks.length = ks.countP g := by
 refine ⟨fun j => (ks.take j).countP g, rfl, fun j hj => ?_, fun j hj => ?_, ?_⟩
 ·simp only
  rw [List.take_succ_eq_append_getElem hj, List.countP_append, List.countP_cons, List.countP_nil, Nat.zero_add]
 ·have := List.countP_le_length (p := g) (l := ks.take j)
  rw [List.length_take] at this
  simp only
  omega
 ·simp only [List.take_length]
theorem any_count {g : T → Bool} {ks : List T} {n : Nat} (h : n = ks.countP g) : ks.any g = decide (0 < n) := by
 rw [h, Bool.eq_iff_iff, List.any_eq_true, decide_eq_true_eq, List.countP_pos_iff]
theorem all_count {g : T → Bool} {ks : List T} {n : Nat} (h : n = ks.countP g) : ks.all g = decide (n = ks.length) := by
 rw [h, Bool.eq_iff_iff, List.all_eq_true, decide_eq_true_eq, List.countP_eq_length]
end Go.Proofs.YtobbifhflnlplaaDoor
