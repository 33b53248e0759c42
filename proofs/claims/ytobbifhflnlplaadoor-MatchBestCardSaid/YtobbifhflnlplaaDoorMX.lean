/- Texts merged: S10M1, S10M2, S10M3, S10M4, S10M5, S10M6, S10M7, S10M8, S10M9, S10M10, S10M11, S10M12, S10M13, S10M14, S10M15, S10M16. -/

import Derived.Test.YtobbifhflnlplaaDoorS7W9
import Derived.Test.YtobbifhflnlplaaDoorMB
import Derived.Test.YtobbifhflnlplaaDoorS1C
import Derived.Test.YtobbifhflnlplaaDoorMA
namespace Go.Proofs.YtobbifhflnlplaaDoor
open Go.Tree7
open S7
def catW : List (List Nat → Prop) → List Nat → Prop
 | [], w => w = []
 | L :: Ls, w => ∃ u v, w = u ++ v ∧ L u ∧ catW Ls v
def powW (L : List Nat → Prop) : Nat → List Nat → Prop
 | 0, w => w = []
 | n + 1, w => ∃ u v, w = u ++ v ∧ L u ∧ powW L n v
def langF (t : T) (xs : List (T × (List Nat → Prop))) : List Nat → Prop := fun w => match t with
 | .mk k u0 u1 u2 u3 _ _ mn mx _ _ => if k = 1 then ∃ c, w = [c] ∧ S1.mem4 u0.toNat u1.toNat u2.toNat u3.toNat c = true
  else if k = 2 then catW (xs.map Prod.snd) w
  else if k = 3 then ∃ L ∈ xs.map Prod.snd, L w
  else if k = 4 then ∃ n : Nat, mn ≤ n ∧ (mx = -1 ∨ (n : Int) ≤ mx) ∧ powW ((xs.map Prod.snd).headD fun _ => False) n w
  else False
def lang : T → List Nat → Prop := T.para langF
theorem lang_mk (k u0 u1 u2 u3 : Int) (p : Option Addr) (cap : Nat) (mn mx : Int) (tx : ByteArray) (ks : List T) (w : List Nat) : lang (.mk k u0 u1 u2 u3 p cap mn mx tx ks) w =
  if k = 1 then ∃ c, w = [c] ∧ S1.mem4 u0.toNat u1.toNat u2.toNat u3.toNat c = true
  else if k = 2 then catW (ks.map lang) w
  else if k = 3 then ∃ L ∈ ks.map lang, L w
  else if k = 4 then ∃ n : Nat, mn ≤ n ∧ (mx = -1 ∨ (n : Int) ≤ mx) ∧ powW ((ks.map lang).headD fun _ => False) n w
  else False := by
 show T.para langF _ w = _
 rw [T.para_mk]
 simp only [langF, List.map_map]
 rfl
def kindT : T → Int | .mk k _ _ _ _ _ _ _ _ _ _ => k
def kidsT : T → List T | .mk _ _ _ _ _ _ _ _ _ _ ks => ks
abbrev nodeT (k : Int) (ks : List T) : T := .mk k 0 0 0 0 none 0 0 0 ⟨#[]⟩ ks
abbrev noneT : T := nodeT 0 []
theorem lang_none (w : List Nat) : lang noneT w = False := by
 rw [lang_mk, if_neg (by decide), if_neg (by decide), if_neg (by decide), if_neg (by decide)]
theorem lang_cat (l : List T) (w : List Nat) : lang (nodeT 2 l) w = catW (l.map lang) w := by
 rw [lang_mk, if_neg (by decide), if_pos rfl]
theorem lang_alt (l : List T) (w : List Nat) : lang (nodeT 3 l) w = ∃ L ∈ l.map lang, L w := by
 rw [lang_mk, if_neg (by decide), if_neg (by decide), if_pos rfl]
theorem catW_append : ∀ (a b : List (List Nat → Prop)) (w : List Nat), catW (a ++ b) w ↔ ∃ u v, w = u ++ v ∧ catW a u ∧ catW b v
 | [], b, w => by
  simp only [List.nil_append, catW]
  constructor
  ·exact fun h => ⟨[], w, rfl, rfl, h⟩
  ·rintro ⟨u, v, rfl, rfl, h⟩; exact h
 | L :: a, b, w => by
  simp only [List.cons_append, catW]
  constructor
  ·rintro ⟨u, v, rfl, h1, h2⟩
   obtain ⟨x, y, rfl, h3, h4⟩ := (catW_append a b v).1 h2
   exact ⟨u ++ x, y, by rw [List.append_assoc], ⟨u, x, rfl, h1, h3⟩, h4⟩
  ·rintro ⟨u, v, rfl, ⟨x, y, rfl, h1, h2⟩, h3⟩
   exact ⟨x, y ++ v, by rw [List.append_assoc], h1, (catW_append a b _).2 ⟨y, v, rfl, h2, h3⟩⟩
theorem catW_one (L : List Nat → Prop) (w : List Nat) : catW [L] w ↔ L w := by
 simp only [catW]
 constructor
 ·rintro ⟨u, v, rfl, h, rfl⟩; rwa [List.append_nil]
 ·exact fun h => ⟨w, [], by rw [List.append_nil], h, rfl⟩
def partsT (t : T) : List T := if kindT t = 2 then kidsT t else [t]
theorem lang_parts (t : T) (w : List Nat) : catW ((partsT t).map lang) w ↔ lang t w := by
 unfold partsT
 split
 ·next h =>
  cases t with
  | mk k u0 u1 u2 u3 p cap mn mx tx ks =>
   replace h : k = 2 := h
   subst h
   rw [lang_mk, if_neg (by decide), if_pos rfl]
   rfl
 ·rw [List.map_cons, List.map_nil, catW_one]
def sameF (t : T) (xs : List (T × (T → Bool))) : T → Bool := fun b => match t, b with
 | .mk k u0 u1 u2 u3 _ _ mn mx _ ks, .mk k' u0' u1' u2' u3' _ _ mn' mx' _ ks' =>
  k == k' && u0 == u0' && u1 == u1' && u2 == u2' && u3 == u3' && mn == mn' && mx == mx' && ks.length == ks'.length && (xs.zip ks').all fun x => x.1.2 x.2
def sameD : T → T → Bool := T.para sameF
theorem sameD_mk (k u0 u1 u2 u3 : Int) (p : Option Addr) (cap : Nat) (mn mx : Int) (tx : ByteArray) (ks : List T) (k' u0' u1' u2' u3' : Int) (p' : Option Addr) (cap' : Nat) (mn' mx' : Int) (tx' : ByteArray) (ks' : List T) :
  sameD (.mk k u0 u1 u2 u3 p cap mn mx tx ks) (.mk k' u0' u1' u2' u3' p' cap' mn' mx' tx' ks') =
  (k == k' && u0 == u0' && u1 == u1' && u2 == u2' && u3 == u3' && mn == mn' && mx == mx' && ks.length == ks'.length && (ks.zip ks').all fun x => sameD x.1 x.2) := by
 show T.para sameF _ _ = _
 rw [T.para_mk]
 simp only [sameF]
 congr 1
 rw [List.zip_map_left, List.all_map]
 rfl
theorem same_lang : ∀ (a b : T), sameD a b = true → ∀ w, lang a w ↔ lang b w := by
 refine T.ind fun k u0 u1 u2 u3 p cap mn mx tx ks ih => ?_
 intro b h w
 cases b with
 | mk k' u0' u1' u2' u3' p' cap' mn' mx' tx' ks' =>
  rw [sameD_mk] at h
  simp only [Bool.and_eq_true, beq_iff_eq] at h
  obtain ⟨⟨⟨⟨⟨⟨⟨⟨rfl, rfl⟩, rfl⟩, rfl⟩, rfl⟩, rfl⟩, rfl⟩, hl⟩, ha⟩ := h
  have hm : ks.map lang = ks'.map lang := by
   refine List.ext_getElem (by simpa using hl) fun i h1 h2 => ?_
   rw [List.getElem_map, List.getElem_map]
   rw [List.length_map] at h1 h2
   have hz : (ks[i], ks'[i]) ∈ ks.zip ks' := by
    have hi : i < (ks.zip ks').length := by rw [List.length_zip]; omega
    have := List.getElem_mem hi
    rwa [List.getElem_zip] at this
   have := List.all_eq_true.1 ha _ hz
   funext v
   exact propext (ih ks[i] (List.getElem_mem h1) ks'[i] this v)
  rw [lang_mk, lang_mk, hm]
def brF (t : T) (xs : List (T × (List T → List T))) : List T → List T := fun l =>
 if kindT t = 0 then l else if kindT t = 3 then xs.foldl (fun l x => x.2 l) l else if l.any (fun x => sameD x t) then l else l ++ [t]
def brD : T → List T → List T := T.para brF
theorem brD_mk (k u0 u1 u2 u3 : Int) (p : Option Addr) (cap : Nat) (mn mx : Int) (tx : ByteArray) (ks : List T) (l : List T) : brD (.mk k u0 u1 u2 u3 p cap mn mx tx ks) l =
  if k = 0 then l else if k = 3 then ks.foldl (fun l x => brD x l) l else if l.any (fun x => sameD x (.mk k u0 u1 u2 u3 p cap mn mx tx ks)) then l else l ++ [.mk k u0 u1 u2 u3 p cap mn mx tx ks] := by
 show T.para brF _ l = _
 rw [T.para_mk]
 simp only [brF, kindT, List.foldl_map]
 rfl
def someL (l : List T) (w : List Nat) : Prop := ∃ x ∈ l, lang x w
theorem some_alt (l : List T) (w : List Nat) : (∃ L ∈ l.map lang, L w) ↔ someL l w := by
 unfold someL
 constructor
 ·rintro ⟨L, hL, h⟩
  obtain ⟨x, hx, rfl⟩ := List.mem_map.1 hL
  exact ⟨x, hx, h⟩
 ·rintro ⟨x, hx, h⟩
  exact ⟨_, List.mem_map.2 ⟨x, hx, rfl⟩, h⟩
theorem zero_lang {t : T} (h : kindT t = 0) (w : List Nat) : ¬ lang t w := by
 cases t with
 | mk k u0 u1 u2 u3 p cap mn mx tx ks =>
  replace h : k = 0 := h
  subst h
  rw [lang_mk, if_neg (by decide), if_neg (by decide), if_neg (by decide), if_neg (by decide)]
  exact fun h => h
theorem br_lang (w : List Nat) : ∀ (t : T) (l : List T), someL (brD t l) w ↔ someL l w ∨ lang t w := by
 refine T.ind fun k u0 u1 u2 u3 p cap mn mx tx ks ih => ?_
 intro l
 rw [brD_mk]
 by_cases h0 : k = 0
 ·rw [if_pos h0]
  constructor
  ·exact Or.inl
  ·rintro (h | h)
   ·exact h
   ·exact absurd h (zero_lang (by exact h0) w)
 ·rw [if_neg h0]
  by_cases h3 : k = 3
  ·rw [if_pos h3]
   subst h3
   rw [lang_mk, if_neg (by decide), if_neg (by decide), if_pos rfl, some_alt]
   clear h0
   induction ks generalizing l with
   | nil => simp [someL]
   | cons x xs ih2 =>
    rw [List.foldl_cons, ih2 (fun t ht => ih t (List.mem_cons_of_mem _ ht)), ih x (by simp)]
    unfold someL
    simp only [List.mem_cons, exists_eq_or_imp]
    exact or_assoc
  ·rw [if_neg h3]
   split
   ·next h =>
    obtain ⟨x, hx, hs⟩ := List.any_eq_true.1 h
    constructor
    ·exact Or.inl
    ·rintro (h | h)
     ·exact h
     ·exact ⟨x, hx, (same_lang _ _ hs w).2 h⟩
   ·unfold someL
    simp only [List.mem_append, List.mem_singleton]
    constructor
    ·rintro ⟨x, hx | rfl, h⟩
     ·exact Or.inl ⟨x, hx, h⟩
     ·exact Or.inr h
    ·rintro (⟨x, hx, h⟩ | h)
     ·exact ⟨x, Or.inl hx, h⟩
     ·exact ⟨_, Or.inr rfl, h⟩
def altOf : List T → T
 | [] => noneT
 | [x] => x
 | l => nodeT 3 l
def altD (a b : T) : T := altOf (brD b (brD a []))
theorem altOf_lang (l : List T) (w : List Nat) : lang (altOf l) w ↔ someL l w := by
 match l with
 | [] => simp [altOf, lang_none, someL]
 | [x] => simp [altOf, someL]
 | x :: y :: l =>
  show lang (nodeT 3 (x :: y :: l)) w ↔ _
  rw [lang_alt, some_alt]
theorem alt_lang (a b : T) (w : List Nat) : lang (altD a b) w ↔ lang a w ∨ lang b w := by
 unfold altD
 rw [altOf_lang, br_lang, br_lang]
 simp [someL]
def catOf : List T → T
 | [x] => x
 | l => nodeT 2 l
def catF (b : T) (t : T) (xs : List (T × T)) : T :=
 if kindT t = 0 ∨ kindT b = 0 then noneT else if kindT t = 3 then xs.foldl (fun o x => altD o x.2) noneT else catOf (partsT t ++ partsT b)
def catD (b : T) : T → T := T.para (catF b)
theorem catD_mk (b : T) (k u0 u1 u2 u3 : Int) (p : Option Addr) (cap : Nat) (mn mx : Int) (tx : ByteArray) (ks : List T) : catD b (.mk k u0 u1 u2 u3 p cap mn mx tx ks) =
  if k = 0 ∨ kindT b = 0 then noneT else if k = 3 then ks.foldl (fun o x => altD o (catD b x)) noneT else catOf (partsT (.mk k u0 u1 u2 u3 p cap mn mx tx ks) ++ partsT b) := by
 show T.para (catF b) _ = _
 rw [T.para_mk]
 simp only [catF, kindT, List.foldl_map]
 rfl
theorem catOf_lang (l : List T) (w : List Nat) : lang (catOf l) w ↔ catW (l.map lang) w := by
 match l with
 | [] => show lang (nodeT 2 []) w ↔ _; rw [lang_cat]
 | [x] => rw [List.map_cons, List.map_nil, catW_one]; rfl
 | x :: y :: l => show lang (nodeT 2 (x :: y :: l)) w ↔ _; rw [lang_cat]
theorem fold_alt (f : T → T) (w : List Nat) : ∀ (xs : List T) (o : T), lang (xs.foldl (fun o x => altD o (f x)) o) w ↔ lang o w ∨ ∃ x ∈ xs, lang (f x) w
 | [], o => by simp
 | x :: xs, o => by
  rw [List.foldl_cons, fold_alt f w xs, alt_lang]
  simp only [List.mem_cons, exists_eq_or_imp]
  exact or_assoc
theorem cat_lang (b : T) : ∀ (a : T) (w : List Nat), lang (catD b a) w ↔ ∃ u v, w = u ++ v ∧ lang a u ∧ lang b v := by
 refine T.ind fun k u0 u1 u2 u3 p cap mn mx tx ks ih => ?_
 intro w
 rw [catD_mk]
 by_cases h0 : k = 0 ∨ kindT b = 0
 ·rw [if_pos h0, lang_none]
  constructor
  ·exact False.elim
  ·rintro ⟨u, v, -, h1, h2⟩
   rcases h0 with h0 | h0
   ·exact zero_lang (by exact h0) u h1
   ·exact zero_lang h0 v h2
 ·rw [if_neg h0]
  by_cases h3 : k = 3
  ·rw [if_pos h3, fold_alt, lang_none]
   subst h3
   have e : ∀ u, lang (.mk 3 u0 u1 u2 u3 p cap mn mx tx ks) u ↔ someL ks u := fun u => by rw [lang_mk, if_neg (by decide), if_neg (by decide), if_pos rfl, some_alt]
   constructor
   ·rintro (h | ⟨x, hx, h⟩)
    ·exact h.elim
    ·obtain ⟨u, v, rfl, h1, h2⟩ := (ih x hx w).1 h
     exact ⟨u, v, rfl, (e u).2 ⟨x, hx, h1⟩, h2⟩
   ·rintro ⟨u, v, rfl, h1, h2⟩
    obtain ⟨x, hx, h1⟩ := (e u).1 h1
    exact Or.inr ⟨x, hx, (ih x hx _).2 ⟨u, v, rfl, h1, h2⟩⟩
  ·rw [if_neg h3, catOf_lang, List.map_append, catW_append]
   simp only [lang_parts]
end Go.Proofs.YtobbifhflnlplaaDoor
namespace Go.Proofs.YtobbifhflnlplaaDoor
open Go.Tree7
open S7
def okd : T → Prop
 | .mk k _ _ _ _ _ _ mn mx _ ks => (k = 0 ∧ ks = []) ∨ k = 1 ∨ k = 2 ∨ k = 3 ∨ (k = 4 ∧ ks.length = 1 ∧ 0 ≤ mn ∧ (mx = -1 ∨ (1 ≤ mx ∧ mn ≤ mx))) ∨ k = 5
theorem pow_pad {L : List Nat → Prop} (h : L []) : ∀ (n : Nat) (w : List Nat), powW L n w → powW L (n + 1) w
 | _, w, hp => ⟨[], w, rfl, h, hp⟩
theorem pow_nil {L : List Nat → Prop} (h : L []) : ∀ n : Nat, powW L n []
 | 0 => rfl
 | n + 1 => ⟨[], [], rfl, h, pow_nil h n⟩
theorem pow_first {L : List Nat → Prop} (c : Nat) (w : List Nat) : ∀ n : Nat, powW L (n + 1) (c :: w) ↔ ∃ u v, w = u ++ v ∧ L (c :: u) ∧ powW L n v
 | 0 => by
  constructor
  ·rintro ⟨u, v, e, h1, h2⟩
   replace h2 : v = [] := h2
   subst h2
   rw [List.append_nil] at e
   subst e
   exact ⟨w, [], by rw [List.append_nil], h1, rfl⟩
  ·rintro ⟨u, v, rfl, h1, h2⟩
   exact ⟨c :: u, v, rfl, h1, h2⟩
 | n + 1 => by
  constructor
  ·rintro ⟨u, v, e, h1, h2⟩
   cases u with
   | nil =>
    rw [List.nil_append] at e
    subst e
    obtain ⟨x, y, rfl, h3, h4⟩ := (pow_first c w n).1 h2
    exact ⟨x, y, rfl, h3, pow_pad h1 n y h4⟩
   | cons d u =>
    rw [List.cons_append] at e
    injection e with e1 e2
    subst e1 e2
    exact ⟨u, v, rfl, h1, h2⟩
  ·rintro ⟨u, v, rfl, h1, h2⟩
   exact ⟨c :: u, v, rfl, h1, h2⟩
theorem cat_nil : ∀ Ls : List (List Nat → Prop), catW Ls [] ↔ ∀ L ∈ Ls, L []
 | [] => by simp [catW]
 | L :: Ls => by
  simp only [catW, List.mem_cons, forall_eq_or_imp]
  rw [← cat_nil Ls]
  constructor
  ·rintro ⟨u, v, e, h1, h2⟩
   obtain ⟨rfl, rfl⟩ := List.append_eq_nil_iff.1 e.symm
   exact ⟨h1, h2⟩
  ·exact fun h => ⟨[], [], rfl, h.1, h.2⟩
theorem null_lang {t : T} (h : T.All okd t) : nullT t = true ↔ lang t [] := by
 induction h with
 | @mk k u0 u1 u2 u3 p cap mn mx tx ks ho _ ih =>
  rw [nullT_mk, lang_mk]
  rcases ho with ⟨rfl, rfl⟩ | rfl | rfl | rfl | ⟨rfl, h1, h2, h3⟩ | rfl
  ·simp
  ·simp
  ·rw [if_neg (by decide), if_neg (by decide), if_pos rfl, if_neg (by decide), if_pos rfl, cat_nil, List.all_eq_true]
   constructor
   ·rintro h L hL
    obtain ⟨t, ht, rfl⟩ := List.mem_map.1 hL
    exact (ih t ht).1 (h t ht)
   ·exact fun h t ht => (ih t ht).2 (h _ (List.mem_map.2 ⟨t, ht, rfl⟩))
  ·rw [if_neg (by decide), if_neg (by decide), if_neg (by decide), if_neg (by decide), if_neg (by decide), if_pos rfl, some_alt, List.any_eq_true]
   constructor
   ·rintro ⟨t, ht, h⟩; exact ⟨t, ht, (ih t ht).1 h⟩
   ·rintro ⟨t, ht, h⟩; exact ⟨t, ht, (ih t ht).2 h⟩
  ·obtain ⟨t, rfl⟩ := List.length_eq_one_iff.1 h1
   rw [if_neg (by decide), if_pos rfl, if_neg (by decide), if_neg (by decide), if_neg (by decide), if_pos rfl, List.map_cons, List.headD_cons, List.map_cons, List.headD_cons, Bool.or_eq_true, decide_eq_true_eq, ih t (by simp)]
   constructor
   ·rintro (rfl | h)
    ·exact ⟨0, by omega, by omega, rfl⟩
    ·exact ⟨mn.toNat, by omega, by omega, pow_nil h _⟩
   ·rintro ⟨n, h4, -, h5⟩
    cases n with
    | zero => exact Or.inl (by omega)
    | succ n =>
     obtain ⟨u, v, e, h6, -⟩ := h5
     obtain ⟨rfl, rfl⟩ := List.append_eq_nil_iff.1 e.symm
     exact Or.inr h6
  ·simp
def leftT (mn mx : Int) (ks : List T) : T := if (if mx > 0 then mx - 1 else mx) = 0 then nodeT 2 [] else .mk 4 0 0 0 0 none 0 (if mn > 0 then mn - 1 else mn) (if mx > 0 then mx - 1 else mx) ⟨#[]⟩ ks
def seqD : List (T × T) → T → T
 | [], o => o
 | (x, d) :: xs, o => if nullT x = true then seqD xs (altD o (catD (catOf (xs.map Prod.fst)) d)) else altD o (catD (catOf (xs.map Prod.fst)) d)
def offF (c : Nat) (t : T) (xs : List (T × T)) : T := match t with
 | .mk k u0 u1 u2 u3 _ _ mn mx _ ks => if k = 1 then (if S1.mem4 u0.toNat u1.toNat u2.toNat u3.toNat c = true then nodeT 2 [] else noneT)
  else if k = 2 then seqD xs noneT else if k = 3 then xs.foldl (fun o x => altD o x.2) noneT else if k = 4 then catD (leftT mn mx ks) ((xs.map Prod.snd).headD noneT) else noneT
def offD (c : Nat) : T → T := T.para (offF c)
theorem offD_mk (c : Nat) (k u0 u1 u2 u3 : Int) (p : Option Addr) (cap : Nat) (mn mx : Int) (tx : ByteArray) (ks : List T) : offD c (.mk k u0 u1 u2 u3 p cap mn mx tx ks) =
  if k = 1 then (if S1.mem4 u0.toNat u1.toNat u2.toNat u3.toNat c = true then nodeT 2 [] else noneT)
  else if k = 2 then seqD (ks.map fun x => (x, offD c x)) noneT else if k = 3 then ks.foldl (fun o x => altD o (offD c x)) noneT else if k = 4 then catD (leftT mn mx ks) ((ks.map (offD c)).headD noneT) else noneT := by
 show T.para (offF c) _ = _
 rw [T.para_mk]
 simp only [offF, List.foldl_map, List.map_map]
 rfl
theorem seq_lang (c : Nat) (w : List Nat) : ∀ (ks : List T) (o : T), (∀ x ∈ ks, T.All okd x) → (∀ x ∈ ks, ∀ v, lang (offD c x) v ↔ lang x (c :: v)) →
  (lang (seqD (ks.map fun x => (x, offD c x)) o) w ↔ lang o w ∨ catW (ks.map lang) (c :: w))
 | [], o, _, _ => by simp [seqD, catW]
 | x :: ks, o, ha, hd => by
  have h1 := seq_lang c w ks (altD o (catD (catOf ks) (offD c x))) (fun y hy => ha y (List.mem_cons_of_mem _ hy)) fun y hy => hd y (List.mem_cons_of_mem _ hy)
  have hn := null_lang (ha x (by simp))
  have hx := hd x (by simp)
  have e : (ks.map fun x => (x, offD c x)).map Prod.fst = ks := by rw [List.map_map]; exact List.map_id _
  have hc : lang (altD o (catD (catOf ks) (offD c x))) w ↔ lang o w ∨ ∃ u v, w = u ++ v ∧ lang x (c :: u) ∧ catW (ks.map lang) v := by
   rw [alt_lang, cat_lang]
   simp only [catOf_lang, hx]
  have hs : catW ((x :: ks).map lang) (c :: w) ↔ (lang x [] ∧ catW (ks.map lang) (c :: w)) ∨ ∃ u v, w = u ++ v ∧ lang x (c :: u) ∧ catW (ks.map lang) v := by
   rw [List.map_cons]
   simp only [catW]
   constructor
   ·rintro ⟨u, v, e, h2, h3⟩
    cases u with
    | nil => rw [List.nil_append] at e; subst e; exact Or.inl ⟨h2, h3⟩
    | cons d u =>
     rw [List.cons_append] at e
     injection e with e1 e2
     subst e1 e2
     exact Or.inr ⟨u, v, rfl, h2, h3⟩
   ·rintro (⟨h2, h3⟩ | ⟨u, v, rfl, h2, h3⟩)
    ·exact ⟨[], _, rfl, h2, h3⟩
    ·exact ⟨c :: u, v, rfl, h2, h3⟩
  rw [List.map_cons, seqD, e, hs]
  by_cases hz : nullT x = true
  ·rw [if_pos hz, h1, hc]
   have := hn.1 hz
   constructor
   ·rintro ((h | h) | h)
    ·exact Or.inl h
    ·exact Or.inr (Or.inr h)
    ·exact Or.inr (Or.inl ⟨this, h⟩)
   ·rintro (h | ⟨-, h⟩ | h)
    ·exact Or.inl (Or.inl h)
    ·exact Or.inr h
    ·exact Or.inl (Or.inr h)
  ·rw [if_neg hz, hc]
   have : ¬ lang x [] := fun h => hz (hn.2 h)
   constructor
   ·rintro (h | h)
    ·exact Or.inl h
    ·exact Or.inr (Or.inr h)
   ·rintro (h | ⟨h, -⟩ | h)
    ·exact Or.inl h
    ·exact absurd h this
    ·exact Or.inr h
theorem off_lang (c : Nat) {t : T} (h : T.All okd t) : ∀ w, lang (offD c t) w ↔ lang t (c :: w) := by
 induction h with
 | @mk k u0 u1 u2 u3 p cap mn mx tx ks ho hks ih =>
  intro w
  rw [offD_mk, lang_mk]
  rcases ho with ⟨rfl, rfl⟩ | rfl | rfl | rfl | ⟨rfl, h1, h2, h3⟩ | rfl
  ·simp [lang_none]
  ·rw [if_pos rfl, if_pos rfl]
   constructor
   ·intro h
    split at h
    ·next hc =>
     rw [lang_cat] at h
     replace h : w = [] := h
     subst h
     exact ⟨c, rfl, hc⟩
    ·rw [lang_none] at h; exact h.elim
   ·rintro ⟨d, e, hd⟩
    injection e with e1 e2
    subst e1 e2
    rw [if_pos hd, lang_cat]
    rfl
  ·rw [if_neg (by decide), if_pos rfl, if_neg (by decide), if_pos rfl, seq_lang c w ks noneT hks ih, lang_none, false_or]
  ·rw [if_neg (by decide), if_neg (by decide), if_pos rfl, if_neg (by decide), if_neg (by decide), if_pos rfl, fold_alt, lang_none, false_or, some_alt]
   unfold someL
   constructor
   ·rintro ⟨x, hx, h⟩; exact ⟨x, hx, (ih x hx w).1 h⟩
   ·rintro ⟨x, hx, h⟩; exact ⟨x, hx, (ih x hx w).2 h⟩
  ·obtain ⟨t, rfl⟩ := List.length_eq_one_iff.1 h1
   have ht := ih t (by simp)
   have hl : ∀ v, lang (leftT mn mx [t]) v ↔ ∃ n : Nat, mn ≤ n + 1 ∧ (mx = -1 ∨ (n : Int) + 1 ≤ mx) ∧ powW (lang t) n v := by
    intro v
    unfold leftT
    by_cases hm : (if mx > 0 then mx - 1 else mx) = 0
    ·rw [if_pos hm, lang_cat]
     have hm1 : mx = 1 := by split at hm <;> omega
     constructor
     ·intro h
      exact ⟨0, by omega, by omega, h⟩
     ·rintro ⟨n, -, h5, h6⟩
      cases n with
      | zero => exact h6
      | succ n => omega
    ·rw [if_neg hm, lang_mk, if_neg (by decide), if_neg (by decide), if_neg (by decide), if_pos rfl, List.map_cons, List.headD_cons]
     constructor
     ·rintro ⟨n, h4, h5, h6⟩
      exact ⟨n, by split at h4 <;> omega, by split at h5 <;> omega, h6⟩
     ·rintro ⟨n, h4, h5, h6⟩
      exact ⟨n, by split <;> omega, by split <;> omega, h6⟩
   rw [if_neg (by decide), if_neg (by decide), if_neg (by decide), if_pos rfl, if_neg (by decide), if_neg (by decide), if_neg (by decide), if_pos rfl, List.map_cons, List.headD_cons, List.map_cons, List.headD_cons, cat_lang]
   constructor
   ·rintro ⟨u, v, rfl, h4, h5⟩
    obtain ⟨n, h6, h7, h8⟩ := (hl v).1 h5
    exact ⟨n + 1, by omega, by omega, (pow_first c _ n).2 ⟨u, v, rfl, (ht u).1 h4, h8⟩⟩
   ·rintro ⟨n, h4, h5, h6⟩
    cases n with
    | zero => cases h6
    | succ n =>
     obtain ⟨u, v, rfl, h7, h8⟩ := (pow_first c w n).1 h6
     exact ⟨u, v, rfl, (ht u).2 h7, (hl v).2 ⟨n, by omega, by omega, h8⟩⟩
  ·simp [lang_none]
end Go.Proofs.YtobbifhflnlplaaDoor
namespace Go.Proofs.YtobbifhflnlplaaDoor
open Go.Tree7
open S7
theorem okd_node {k : Int} (hk : k = 2 ∨ k = 3) {l : List T} (h : ∀ x ∈ l, T.All okd x) : T.All okd (nodeT k l) := .mk (by rcases hk with rfl | rfl <;> simp [okd]) h
theorem okd_none : T.All okd noneT := .mk (Or.inl ⟨rfl, rfl⟩) (by simp)
theorem okd_kids {t : T} (h : T.All okd t) : ∀ x ∈ kidsT t, T.All okd x := by cases h with | mk _ h => exact h
theorem okd_parts {t : T} (h : T.All okd t) : ∀ x ∈ partsT t, T.All okd x := by
 unfold partsT
 split
 ·exact okd_kids h
 ·intro x hx
  rw [List.mem_singleton] at hx
  exact hx ▸ h
def Basic (t : T) : Prop := kindT t ≠ 0 ∧ kindT t ≠ 3
def spF (t : T) (xs : List (T × List T)) : List T := if kindT t = 0 then [] else if kindT t = 3 then xs.flatMap Prod.snd else [t]
def spT : T → List T := T.para spF
theorem spT_mk (k u0 u1 u2 u3 : Int) (p : Option Addr) (cap : Nat) (mn mx : Int) (tx : ByteArray) (ks : List T) : spT (.mk k u0 u1 u2 u3 p cap mn mx tx ks) = if k = 0 then [] else if k = 3 then ks.flatMap spT else [.mk k u0 u1 u2 u3 p cap mn mx tx ks] := by
 show T.para spF _ = _
 rw [T.para_mk]
 simp only [spF, kindT, List.flatMap_map]
 rfl
theorem spT_basic {t : T} (h : Basic t) : spT t = [t] := by
 cases t with
 | mk k u0 u1 u2 u3 p cap mn mx tx ks => rw [spT_mk, if_neg (show ¬ k = 0 from h.1), if_neg (show ¬ k = 3 from h.2)]
theorem basic_spT : ∀ t : T, ∀ x ∈ spT t, Basic x := by
 refine T.ind fun k u0 u1 u2 u3 p cap mn mx tx ks ih => ?_
 intro x hx
 rw [spT_mk] at hx
 split at hx
 ·cases hx
 ·next h0 =>
  split at hx
  ·obtain ⟨y, hy, hx⟩ := List.mem_flatMap.1 hx
   exact ih y hy x hx
  ·next h3 =>
   rw [List.mem_singleton] at hx
   exact hx ▸ ⟨h0, h3⟩
theorem same_refl : ∀ t : T, sameD t t = true := by
 refine T.ind fun k u0 u1 u2 u3 p cap mn mx tx ks ih => ?_
 rw [sameD_mk]
 simp only [beq_self_eq_true, Bool.true_and, List.all_eq_true]
 intro x hx
 obtain ⟨i, hi, e⟩ := List.getElem_of_mem hx
 rw [List.getElem_zip] at e
 have hi' : i < ks.length := by rw [List.length_zip] at hi; omega
 rw [← e]
 exact ih ks[i] (List.getElem_mem hi')
theorem br_sub : ∀ (t : T) (l : List T), ∀ x ∈ brD t l, x ∈ l ∨ x ∈ spT t := by
 refine T.ind fun k u0 u1 u2 u3 p cap mn mx tx ks ih => ?_
 intro l x hx
 rw [brD_mk] at hx
 rw [spT_mk]
 by_cases h0 : k = 0
 ·rw [if_pos h0] at hx; exact Or.inl hx
 ·rw [if_neg h0] at hx ⊢
  by_cases h3 : k = 3
  ·rw [if_pos h3] at hx ⊢
   clear h0 h3
   induction ks generalizing l with
   | nil => exact Or.inl hx
   | cons y ys ih2 =>
    rw [List.foldl_cons] at hx
    rcases ih2 (fun t ht => ih t (List.mem_cons_of_mem _ ht)) _ hx with h | h
    ·rcases ih y (by simp) l x h with h | h
     ·exact Or.inl h
     ·exact Or.inr (List.mem_flatMap.2 ⟨y, by simp, h⟩)
    ·obtain ⟨z, hz, h⟩ := List.mem_flatMap.1 h
     exact Or.inr (List.mem_flatMap.2 ⟨z, List.mem_cons_of_mem _ hz, h⟩)
  ·rw [if_neg h3] at hx ⊢
   split at hx
   ·exact Or.inl hx
   ·rcases List.mem_append.1 hx with h | h
    ·exact Or.inl h
    ·exact Or.inr h
theorem br_nodup : ∀ (t : T) (l : List T), l.Nodup → (brD t l).Nodup := by
 refine T.ind fun k u0 u1 u2 u3 p cap mn mx tx ks ih => ?_
 intro l hl
 rw [brD_mk]
 split
 ·exact hl
 ·split
  ·next h0 h3 =>
   clear h0 h3
   induction ks generalizing l with
   | nil => exact hl
   | cons y ys ih2 =>
    rw [List.foldl_cons]
    exact ih2 (fun t ht => ih t (List.mem_cons_of_mem _ ht)) _ (ih y (by simp) l hl)
  ·split
   ·exact hl
   ·next h =>
    rw [List.nodup_append]
    refine ⟨hl, by simp, ?_⟩
    intro a ha b hb e
    rw [List.mem_singleton] at hb
    subst hb e
    exact h (List.any_eq_true.2 ⟨_, ha, same_refl _⟩)
theorem br_basic (t : T) (l : List T) (hl : ∀ x ∈ l, Basic x) : ∀ x ∈ brD t l, Basic x := fun x hx => by
 rcases br_sub t l x hx with h | h
 ·exact hl x h
 ·exact basic_spT t x h
theorem flat_one {l : List T} (h : ∀ x ∈ l, Basic x) : l.flatMap spT = l := by
 induction l with
 | nil => rfl
 | cons x xs ih => rw [List.flatMap_cons, spT_basic (h x (by simp)), ih fun y hy => h y (List.mem_cons_of_mem _ hy)]; rfl
theorem alt_branches (a b : T) : spT (altD a b) = brD b (brD a []) := by
 have hb := br_basic b (brD a []) (br_basic a [] (by simp))
 unfold altD
 generalize brD b (brD a []) = l at hb ⊢
 match l, hb with
 | [], _ => show spT noneT = []; rw [spT_mk, if_pos rfl]
 | [x], hb => exact spT_basic (hb x (by simp))
 | x :: y :: l, hb =>
  show spT (nodeT 3 (x :: y :: l)) = _
  rw [spT_mk, if_neg (by decide), if_pos rfl, flat_one hb]
theorem alt_nodup (a b : T) : (spT (altD a b)).Nodup := by
 rw [alt_branches]
 exact br_nodup b _ (br_nodup a _ (by simp))
theorem alt_sub {a b : T} {x : T} (h : x ∈ spT (altD a b)) : x ∈ spT a ∨ x ∈ spT b := by
 rw [alt_branches] at h
 rcases br_sub b _ x h with h | h
 ·rcases br_sub a _ x h with h | h
  ·cases h
  ·exact Or.inl h
 ·exact Or.inr h
theorem fold_sub (f : T → T) {x : T} : ∀ (xs : List T) (o : T), x ∈ spT (xs.foldl (fun o y => altD o (f y)) o) → x ∈ spT o ∨ ∃ y ∈ xs, x ∈ spT (f y)
 | [], o, h => Or.inl h
 | y :: xs, o, h => by
  rcases fold_sub f xs _ h with h | ⟨z, hz, h⟩
  ·rcases alt_sub h with h | h
   ·exact Or.inl h
   ·exact Or.inr ⟨y, by simp, h⟩
  ·exact Or.inr ⟨z, List.mem_cons_of_mem _ hz, h⟩
theorem sp_none : spT noneT = [] := by rw [spT_mk, if_pos rfl]
theorem cat_sub (r : T) {x : T} : ∀ a : T, x ∈ spT (catD r a) → kindT r ≠ 0 ∧ ∃ y ∈ spT a, x ∈ spT (catOf (partsT y ++ partsT r)) := by
 refine T.ind fun k u0 u1 u2 u3 p cap mn mx tx ks ih => ?_
 intro h
 rw [catD_mk] at h
 rw [spT_mk]
 by_cases h0 : k = 0 ∨ kindT r = 0
 ·rw [if_pos h0, sp_none] at h; cases h
 ·rw [if_neg h0] at h
  have hr : kindT r ≠ 0 := fun e => h0 (Or.inr e)
  have hk : k ≠ 0 := fun e => h0 (Or.inl e)
  rw [if_neg hk]
  refine ⟨hr, ?_⟩
  by_cases h3 : k = 3
  ·rw [if_pos h3] at h ⊢
   rcases fold_sub _ ks noneT h with h | ⟨y, hy, h⟩
   ·rw [sp_none] at h; cases h
   ·obtain ⟨-, z, hz, h⟩ := ih y hy h
    exact ⟨z, List.mem_flatMap.2 ⟨y, hy, hz⟩, h⟩
  ·rw [if_neg h3] at h ⊢
   exact ⟨_, List.mem_singleton.2 rfl, h⟩
theorem br_okd : ∀ (t : T), T.All okd t → ∀ (l : List T), (∀ x ∈ l, T.All okd x) → ∀ x ∈ brD t l, T.All okd x := by
 refine T.ind fun k u0 u1 u2 u3 p cap mn mx tx ks ih => ?_
 intro ht l hl
 have hks := okd_kids ht
 replace hks : ∀ x ∈ ks, T.All okd x := hks
 rw [brD_mk]
 split
 ·exact hl
 ·split
  ·next h0 h3 =>
   clear h0 h3 ht
   induction ks generalizing l with
   | nil => exact hl
   | cons y ys ih2 =>
    rw [List.foldl_cons]
    exact ih2 (fun t ht => ih t (List.mem_cons_of_mem _ ht)) _ (ih y (by simp) (hks y (by simp)) l hl) fun x hx => hks x (List.mem_cons_of_mem _ hx)
  ·split
   ·exact hl
   ·intro x hx
    rcases List.mem_append.1 hx with h | h
    ·exact hl x h
    ·rw [List.mem_singleton] at h; exact h ▸ ht
theorem alt_okd {a b : T} (ha : T.All okd a) (hb : T.All okd b) : T.All okd (altD a b) := by
 have h := br_okd b hb _ (br_okd a ha [] (by simp))
 unfold altD
 generalize brD b (brD a []) = l at h ⊢
 match l, h with
 | [], _ => exact okd_none
 | [x], h => exact h x (by simp)
 | x :: y :: l, h => exact okd_node (Or.inr rfl) h
theorem catOf_okd {l : List T} (h : ∀ x ∈ l, T.All okd x) : T.All okd (catOf l) := by
 match l, h with
 | [], _ => exact okd_node (Or.inl rfl) (by simp)
 | [x], h => exact h x (by simp)
 | x :: y :: l, h => exact okd_node (Or.inl rfl) h
theorem fold_okd (f : T → T) : ∀ (xs : List T) (o : T), T.All okd o → (∀ x ∈ xs, T.All okd (f x)) → T.All okd (xs.foldl (fun o x => altD o (f x)) o)
 | [], _, h, _ => h
 | x :: xs, _, h, hx => fold_okd f xs _ (alt_okd h (hx x (by simp))) fun y hy => hx y (List.mem_cons_of_mem _ hy)
theorem cat_okd {r : T} (hr : T.All okd r) : ∀ a : T, T.All okd a → T.All okd (catD r a) := by
 refine T.ind fun k u0 u1 u2 u3 p cap mn mx tx ks ih => ?_
 intro ht
 have hks : ∀ x ∈ ks, T.All okd x := okd_kids ht
 rw [catD_mk]
 split
 ·exact okd_none
 ·split
  ·exact fold_okd _ ks noneT okd_none fun x hx => ih x hx (hks x hx)
  ·refine catOf_okd fun x hx => ?_
   rcases List.mem_append.1 hx with h | h
   ·exact okd_parts ht x h
   ·exact okd_parts hr x h
theorem left_okd {mn mx : Int} {t : T} (ht : T.All okd t) (h1 : 0 ≤ mn) (h2 : mx = -1 ∨ (1 ≤ mx ∧ mn ≤ mx)) : T.All okd (leftT mn mx [t]) := by
 unfold leftT
 by_cases h : (if mx > 0 then mx - 1 else mx) = 0
 ·rw [if_pos h]
  exact okd_node (Or.inl rfl) (by simp)
 ·rw [if_neg h]
  refine .mk (Or.inr (Or.inr (Or.inr (Or.inr (Or.inl ⟨rfl, rfl, ?_, ?_⟩))))) (fun x hx => by rw [List.mem_singleton] at hx; exact hx ▸ ht)
  ·split <;> omega
  ·by_cases h5 : mx > 0
   ·rw [if_pos h5] at h ⊢
    split <;> omega
   ·rw [if_neg h5] at h ⊢
    omega
theorem seq_okd (c : Nat) : ∀ (ks : List T) (o : T), T.All okd o → (∀ x ∈ ks, T.All okd x) → (∀ x ∈ ks, T.All okd (offD c x)) → T.All okd (seqD (ks.map fun x => (x, offD c x)) o)
 | [], _, h, _, _ => h
 | x :: ks, o, h, hk, hd => by
  have e : (ks.map fun x => (x, offD c x)).map Prod.fst = ks := by rw [List.map_map]; exact List.map_id _
  have h1 := alt_okd h (cat_okd (catOf_okd fun y hy => hk y (List.mem_cons_of_mem _ hy)) (offD c x) (hd x (by simp)))
  rw [List.map_cons, seqD, e]
  split
  ·exact seq_okd c ks _ h1 (fun y hy => hk y (List.mem_cons_of_mem _ hy)) fun y hy => hd y (List.mem_cons_of_mem _ hy)
  ·exact h1
theorem off_okd (c : Nat) {t : T} (h : T.All okd t) : T.All okd (offD c t) := by
 induction h with
 | @mk k u0 u1 u2 u3 p cap mn mx tx ks ho hks ih =>
  rw [offD_mk]
  rcases ho with ⟨rfl, rfl⟩ | rfl | rfl | rfl | ⟨rfl, h1, h2, h3⟩ | rfl
  ·rw [if_neg (by decide), if_neg (by decide), if_neg (by decide), if_neg (by decide)]; exact okd_none
  ·rw [if_pos rfl]
   split
   ·exact okd_node (l := []) (Or.inl rfl) (by simp)
   ·exact okd_none
  ·rw [if_neg (by decide), if_pos rfl]; exact seq_okd c ks noneT okd_none hks ih
  ·rw [if_neg (by decide), if_neg (by decide), if_pos rfl]; exact fold_okd _ ks noneT okd_none ih
  ·obtain ⟨t, rfl⟩ := List.length_eq_one_iff.1 h1
   rw [if_neg (by decide), if_neg (by decide), if_neg (by decide), if_pos rfl, List.map_cons, List.headD_cons]
   exact cat_okd (left_okd (hks t (by simp)) h2 h3) _ (ih t (by simp))
  ·rw [if_neg (by decide), if_neg (by decide), if_neg (by decide), if_neg (by decide)]; exact okd_none
end Go.Proofs.YtobbifhflnlplaaDoor
namespace Go.Proofs.YtobbifhflnlplaaDoor
open Go.Tree7
open S7
def decT (n : Int) : Int := if n > 0 then n - 1 else n
inductive Lf (ks : List T) : Int → Int → T → Prop
 | here (mn mx : Int) : Lf ks mn mx (leftT mn mx ks)
 | next (mn mx : Int) (r : T) (h : Lf ks (decT mn) (decT mx) r) : Lf ks mn mx r
def v1 (l r : List T) : Prop := r = l ∨ r = partsT (catOf l)
def startsF (t : T) (xs : List (T × List (List T))) : List (List T) := if kindT t = 0 then [] else if kindT t = 3 then xs.flatMap Prod.snd else if kindT t = 2 then kidsT t :: (match xs with | [x] => x.2 | _ => []) else [[t]]
def startsT : T → List (List T) := T.para startsF
theorem startsT_mk (k u0 u1 u2 u3 : Int) (p : Option Addr) (cap : Nat) (mn mx : Int) (tx : ByteArray) (ks : List T) : startsT (.mk k u0 u1 u2 u3 p cap mn mx tx ks) =
  if k = 0 then [] else if k = 3 then ks.flatMap startsT else if k = 2 then ks :: (match ks with | [x] => startsT x | _ => []) else [[.mk k u0 u1 u2 u3 p cap mn mx tx ks]] := by
 show T.para startsF _ = _
 rw [T.para_mk]
 simp only [startsF, kindT, kidsT, List.flatMap_map]
 match ks with
 | [] => rfl
 | [x] => rfl
 | x :: y :: l => rfl
def catQ : List (T × (List T → Prop)) → List T → Prop
 | [], _ => False
 | (_, Q) :: xs, q => (∃ p r, Q p ∧ v1 (xs.map Prod.fst) r ∧ q = p ++ r) ∨ (∃ y, xs.map Prod.fst = [y] ∧ q ∈ startsT y) ∨ catQ xs q
def qiF (t : T) (xs : List (T × (List T → Prop))) : List T → Prop := fun q => match t with
 | .mk k _ _ _ _ _ _ mn mx _ ks => if k = 1 then q = [] else if k = 2 then catQ xs q else if k = 3 then ∃ x ∈ xs, x.2 q
  else if k = 4 then ∃ x ∈ xs, ∃ p r, x.2 p ∧ Lf ks mn mx r ∧ q = p ++ partsT r else False
def Qi : T → List T → Prop := T.para qiF
abbrev qs (ks : List T) : List (T × (List T → Prop)) := ks.map fun x => (x, Qi x)
theorem Qi_mk (k u0 u1 u2 u3 : Int) (p : Option Addr) (cap : Nat) (mn mx : Int) (tx : ByteArray) (ks : List T) (q : List T) : Qi (.mk k u0 u1 u2 u3 p cap mn mx tx ks) q =
  if k = 1 then q = [] else if k = 2 then catQ (qs ks) q else if k = 3 then ∃ x ∈ ks, Qi x q else if k = 4 then ∃ x ∈ ks, ∃ p r, Qi x p ∧ Lf ks mn mx r ∧ q = p ++ partsT r else False := by
 show T.para qiF _ q = _
 rw [T.para_mk]
 have e : ∀ P : T × (List T → Prop) → Prop, (∃ x, x ∈ (ks.map fun t => (t, T.para qiF t)) ∧ P x) = ∃ x, x ∈ ks ∧ P (x, Qi x) := fun P => propext ⟨fun ⟨x, h1, h2⟩ => by
  obtain ⟨a, ha, rfl⟩ := List.mem_map.1 h1
  exact ⟨a, ha, h2⟩, fun ⟨x, h1, h2⟩ => ⟨_, List.mem_map.2 ⟨x, h1, rfl⟩, h2⟩⟩
 simp only [qiF, e]
 rfl
theorem parts_two {k u0 u1 u2 u3 : Int} {p : Option Addr} {cap : Nat} {mn mx : Int} {tx : ByteArray} {ks : List T} (h : k = 2) : partsT (.mk k u0 u1 u2 u3 p cap mn mx tx ks) = ks := by
 subst h
 rfl
theorem parts_not {t : T} (h : ¬ kindT t = 2) : partsT t = [t] := by unfold partsT; rw [if_neg h]
theorem qs_fst (ks : List T) : (qs ks).map Prod.fst = ks := by rw [List.map_map]; exact List.map_id _
theorem parts_cat (l : List T) (h : l.length ≠ 1) : partsT (catOf l) = l := by
 match l, h with
 | [], _ => rfl
 | x :: y :: l, _ => rfl
theorem parts_one (y : T) : partsT (catOf [y]) = partsT y := rfl
theorem catQ_at {ks u d : List T} {z : T} {p r : List T} (e : ks = u ++ z :: d) (hp : Qi z p) (hr : v1 d r) : catQ (qs ks) (p ++ r) := by
 induction u generalizing ks with
 | nil =>
  subst e
  exact Or.inl ⟨p, r, hp, by rw [qs_fst]; exact hr, rfl⟩
 | cons x u ih =>
  subst e
  exact Or.inr (Or.inr (ih rfl))
theorem catQ_starts {ks u : List T} {z y : T} {q : List T} (e : ks = u ++ [z, y]) (hq : q ∈ startsT y) : catQ (qs ks) q := by
 induction u generalizing ks with
 | nil =>
  subst e
  exact Or.inr (Or.inl ⟨y, rfl, hq⟩)
 | cons x u ih =>
  subst e
  exact Or.inr (Or.inr (ih rfl))
theorem catQ_of {q : List T} : ∀ {ks : List T}, catQ (qs ks) q → (∃ u z d p r, ks = u ++ z :: d ∧ Qi z p ∧ v1 d r ∧ q = p ++ r) ∨ (∃ u z y, ks = u ++ [z, y] ∧ q ∈ startsT y)
 | [], h => h.elim
 | x :: ks, h => by
  rcases h with ⟨p, r, hp, hr, e⟩ | ⟨y, e, hq⟩ | h
  ·rw [qs_fst] at hr
   exact Or.inl ⟨[], x, ks, p, r, rfl, hp, hr, e⟩
  ·rw [qs_fst] at e
   subst e
   exact Or.inr ⟨[], x, y, rfl, hq⟩
  ·rcases catQ_of h with ⟨u, z, d, p, r, e, h1, h2, h3⟩ | ⟨u, z, y, e, h1⟩
   ·exact Or.inl ⟨x :: u, z, d, p, r, by rw [e]; rfl, h1, h2, h3⟩
   ·exact Or.inr ⟨x :: u, z, y, by rw [e]; rfl, h1⟩
theorem starts_sp : ∀ (z : T), ∀ x ∈ spT z, partsT x ∈ startsT z := by
 refine T.ind fun k u0 u1 u2 u3 p cap mn mx tx ks ih => ?_
 intro x hx
 rw [spT_mk] at hx
 rw [startsT_mk]
 by_cases h0 : k = 0
 ·rw [if_pos h0] at hx; cases hx
 ·rw [if_neg h0] at hx ⊢
  by_cases h3 : k = 3
  ·rw [if_pos h3] at hx ⊢
   obtain ⟨y, hy, hx⟩ := List.mem_flatMap.1 hx
   exact List.mem_flatMap.2 ⟨y, hy, ih y hy x hx⟩
  ·rw [if_neg h3] at hx ⊢
   rw [List.mem_singleton] at hx
   subst hx
   by_cases h2 : k = 2
   ·rw [if_pos h2]
    rw [parts_two h2]
    exact List.mem_cons_self
   ·rw [if_neg h2]
    rw [parts_not (show ¬ kindT (.mk k u0 u1 u2 u3 p cap mn mx tx ks) = 2 from h2)]
    exact List.mem_singleton.2 rfl
theorem starts_closed : ∀ (y : T) (z : T), [z] ∈ startsT y → ∀ x ∈ spT z, partsT x ∈ startsT y := by
 refine T.ind fun k u0 u1 u2 u3 p cap mn mx tx ks ih => ?_
 intro z hz x hx
 rw [startsT_mk] at hz ⊢
 by_cases h0 : k = 0
 ·rw [if_pos h0] at hz; cases hz
 ·rw [if_neg h0] at hz ⊢
  by_cases h3 : k = 3
  ·rw [if_pos h3] at hz ⊢
   obtain ⟨y, hy, hz⟩ := List.mem_flatMap.1 hz
   exact List.mem_flatMap.2 ⟨y, hy, ih y hy z hz x hx⟩
  ·rw [if_neg h3] at hz ⊢
   by_cases h2 : k = 2
   ·rw [if_pos h2] at hz ⊢
    rcases List.mem_cons.1 hz with e | hz
    ·subst e
     exact List.mem_cons_of_mem _ (starts_sp z x hx)
    ·match ks, ih, hz with
     | [w], ih, hz => exact List.mem_cons_of_mem _ (ih w (by simp) z hz x hx)
   ·rw [if_neg h2] at hz ⊢
    rw [List.mem_singleton] at hz
    injection hz with hz
    subst hz
    have hb : Basic (.mk k u0 u1 u2 u3 p cap mn mx tx ks) := ⟨h0, h3⟩
    rw [spT_basic hb, List.mem_singleton] at hx
    subst hx
    rw [parts_not (show ¬ kindT (.mk k u0 u1 u2 u3 p cap mn mx tx ks) = 2 from h2)]
    exact List.mem_singleton.2 rfl
theorem seq_sub (c : Nat) {a : T} : ∀ (ks : List T) (o : T), a ∈ spT (seqD (ks.map fun x => (x, offD c x)) o) → a ∈ spT o ∨ ∃ u z d, ks = u ++ z :: d ∧ ∃ a' ∈ spT (offD c z), a ∈ spT (catOf (partsT a' ++ partsT (catOf d)))
 | [], o, h => Or.inl h
 | x :: ks, o, h => by
  have e : (ks.map fun x => (x, offD c x)).map Prod.fst = ks := by rw [List.map_map]; exact List.map_id _
  rw [List.map_cons, seqD, e] at h
  have hh : a ∈ spT (altD o (catD (catOf ks) (offD c x))) → a ∈ spT o ∨ ∃ u z d, x :: ks = u ++ z :: d ∧ ∃ a' ∈ spT (offD c z), a ∈ spT (catOf (partsT a' ++ partsT (catOf d))) := fun h => by
   rcases alt_sub h with h | h
   ·exact Or.inl h
   ·obtain ⟨-, a', h1, h2⟩ := cat_sub _ _ h
    exact Or.inr ⟨[], x, ks, rfl, a', h1, h2⟩
  split at h
  ·rcases seq_sub c ks _ h with h | ⟨u, z, d, e2, h⟩
   ·exact hh h
   ·exact Or.inr ⟨x :: u, z, d, by rw [e2]; rfl, h⟩
  ·exact hh h
structure Closed (t : T) : Prop where
 first : ∀ c, ∀ a ∈ spT (offD c t), Qi t (partsT a)
 more : ∀ q, Qi t q → ∀ u z d, q = u ++ z :: d → ∀ c, ∀ a ∈ spT (offD c z), Qi t (partsT a ++ d)
 lone : ∀ z, Qi t [z] → ∀ x ∈ spT z, Qi t (partsT x)
theorem join_at {ks u d : List T} {z : T} {p r : List T} (hz : Closed z) (e : ks = u ++ z :: d) (hp : Qi z p) (hr : v1 d r) {x : T} (hx : x ∈ spT (catOf (p ++ r))) : catQ (qs ks) (partsT x) := by
 have whole : (p ++ r).length ≠ 1 → catQ (qs ks) (partsT x) := fun hl => by
  have hb : Basic (catOf (p ++ r)) := by
   generalize p ++ r = L at hl
   match L, hl with
   | [], _ => exact ⟨by decide, by decide⟩
   | x :: y :: l, _ => exact ⟨by show (2 : Int) ≠ 0; decide, by show (2 : Int) ≠ 3; decide⟩
  rw [spT_basic hb, List.mem_singleton] at hx
  rw [hx, parts_cat _ hl]
  exact catQ_at e hp hr
 by_cases hl : (p ++ r).length = 1
 ·match p, r, hl with
  | [w], [], _ =>
   have := catQ_at e (hz.lone w hp x hx) hr
   rwa [List.append_nil] at this
  | [], [w], _ =>
   replace hx : x ∈ spT w := hx
   rcases hr with hr | hr
   ·subst hr
    exact catQ_starts (u := u) (z := z) e (starts_sp w x hx)
   ·by_cases h1 : d.length = 1
    ·obtain ⟨y, rfl⟩ := List.length_eq_one_iff.1 h1
     rw [parts_one] at hr
     refine catQ_starts (u := u) (z := z) e ?_
     unfold partsT at hr
     by_cases h2 : kindT y = 2
     ·rw [if_pos h2] at hr
      cases y with
      | mk k u0 u1 u2 u3 p' cap mn mx tx ks' =>
       replace hr : [w] = ks' := hr
       replace h2 : k = 2 := h2
       subst hr h2
       rw [startsT_mk, if_neg (by decide), if_neg (by decide), if_pos rfl]
       exact List.mem_cons_of_mem _ (starts_sp w x hx)
     ·rw [if_neg h2] at hr
      injection hr with hr
      subst hr
      exact starts_sp w x hx
    ·rw [parts_cat d h1] at hr
     rw [← hr] at h1
     exact absurd rfl h1
  | [], [], hl => cases hl
  | a :: b :: p, r, hl => simp at hl
  | [a], b :: r, hl => simp at hl
  | [], a :: b :: r, hl => simp at hl
 ·exact whole hl
end Go.Proofs.YtobbifhflnlplaaDoor
namespace Go.Proofs.YtobbifhflnlplaaDoor
open Go.Tree7
open S7
theorem lf_shape {ks : List T} {mn mx : Int} {r : T} (h : Lf ks mn mx r) : r = nodeT 2 [] ∨ ∃ mn' mx', r = .mk 4 0 0 0 0 none 0 mn' mx' ⟨#[]⟩ ks ∧ ∀ r', Lf ks mn' mx' r' → Lf ks mn mx r' := by
 induction h with
 | here mn mx =>
  unfold leftT
  by_cases h0 : (if mx > 0 then mx - 1 else mx) = 0
  ·rw [if_pos h0]; exact Or.inl rfl
  ·rw [if_neg h0]; exact Or.inr ⟨_, _, rfl, fun r' h => Lf.next mn mx r' h⟩
 | next mn mx r h ih =>
  rcases ih with e | ⟨a, b, e, h2⟩
  ·exact Or.inl e
  ·exact Or.inr ⟨a, b, e, fun r' h3 => Lf.next mn mx r' (h2 r' h3)⟩
structure Closed2 (t : T) : Prop where
 all : Closed t
 begins : ∀ q ∈ startsT t, ∀ u z d, q = u ++ z :: d → ∀ c, ∀ a ∈ spT (offD c z), Qi t (partsT a ++ d)
theorem single_split {α : Type} {t z : α} {u d : List α} (e : [t] = u ++ z :: d) : u = [] ∧ z = t ∧ d = [] := by
 cases u with
 | nil => injection e with e1 e2; exact ⟨rfl, e1.symm, e2.symm⟩
 | cons x u => injection e with e1 e2; cases u <;> cases e2
theorem begins_basic {t : T} (h : startsT t = [[t]]) (hf : ∀ c, ∀ a ∈ spT (offD c t), Qi t (partsT a)) : ∀ q ∈ startsT t, ∀ u z d, q = u ++ z :: d → ∀ c, ∀ a ∈ spT (offD c z), Qi t (partsT a ++ d) := by
 intro q hq u z d e c a ha
 rw [h, List.mem_singleton] at hq
 subst hq
 obtain ⟨-, rfl, rfl⟩ := single_split e
 rw [List.append_nil]
 exact hf c a ha
theorem v1_refl (l : List T) : v1 l l := Or.inl rfl
theorem cat_more {ks : List T} (hc : ∀ x ∈ ks, Closed2 x) {q u d : List T} {z : T} (hq : catQ (qs ks) q) (e : q = u ++ z :: d) (c : Nat) {a : T} (ha : a ∈ spT (offD c z)) : catQ (qs ks) (partsT a ++ d) := by
 rcases catQ_of hq with ⟨u0, z0, d0, p, r, e0, hp, hr, e1⟩ | ⟨u0, z0, y, e0, hs⟩
 ·have hz0 := hc z0 (by rw [e0]; simp)
  have inR : ∀ s, r = s ++ z :: d → catQ (qs ks) (partsT a ++ d) := fun s er => by
   have plain : r = d0 → catQ (qs ks) (partsT a ++ d) := fun h => by
    have e2 : ks = (u0 ++ z0 :: s) ++ z :: d := by rw [e0, ← h, er]; simp
    exact catQ_at e2 ((hc z (by rw [e2]; simp)).all.first c a ha) (v1_refl d)
   rcases hr with hr | hr
   ·exact plain hr
   ·by_cases hl : d0.length = 1
    ·obtain ⟨y, rfl⟩ := List.length_eq_one_iff.1 hl
     rw [parts_one] at hr
     have hy := hc y (by rw [e0]; simp)
     by_cases h2 : kindT y = 2
     ·have e2 : ks = (u0 ++ [z0]) ++ y :: [] := by rw [e0]; simp
      have hk : r ∈ startsT y := by
       cases y with
       | mk k u0 u1 u2 u3 p' cap mn mx tx ks' =>
        replace h2 : k = 2 := h2
        subst h2
        rw [hr, startsT_mk, if_neg (by decide), if_neg (by decide), if_pos rfl, parts_two rfl]
        exact List.mem_cons_self
      have := catQ_at e2 (hy.begins r hk s z d er c a ha) (v1_refl [])
      rwa [List.append_nil] at this
     ·rw [parts_not h2] at hr
      exact plain hr
    ·rw [parts_cat d0 hl] at hr
     exact plain hr
  rw [e1] at e
  rcases List.append_eq_append_iff.1 e with ⟨s, -, h2⟩ | ⟨s, h1, h2⟩
  ·exact inR s h2
  ·cases s with
   | nil => exact inR [] h2.symm
   | cons w s =>
    injection h2 with h3 h4
    subst h3 h4
    have := catQ_at e0 (hz0.all.more p hp u z s h1 c a ha) hr
    rwa [List.append_assoc] at this
 ·have hy := hc y (by rw [e0]; simp)
  have e2 : ks = (u0 ++ [z0]) ++ y :: [] := by rw [e0]; simp
  have := catQ_at e2 (hy.begins q hs u z d e c a ha) (v1_refl [])
  rwa [List.append_nil] at this
theorem rep_join {ks : List T} {y : T} {mn mx : Int} (hy : Closed y) {p : List T} {r : T} (hp : Qi y p) (hr : Lf ks mn mx r) {x : T} (hx : x ∈ spT (catOf (p ++ partsT r))) : ∃ p' r', Qi y p' ∧ Lf ks mn mx r' ∧ partsT x = p' ++ partsT r' := by
 by_cases hl : (p ++ partsT r).length = 1
 ·rcases lf_shape hr with rfl | ⟨mn', mx', e, -⟩
  ·have e1 : partsT (nodeT 2 []) = [] := rfl
   rw [e1, List.append_nil] at hl hx
   obtain ⟨w, rfl⟩ := List.length_eq_one_iff.1 hl
   exact ⟨_, _, hy.lone w hp x hx, hr, by rw [e1, List.append_nil]⟩
  ·have e1 : partsT r = [r] := by subst e; rfl
   rw [e1] at hl hx
   have e2 : p = [] := by
    cases p with
    | nil => rfl
    | cons a p => simp at hl
   subst e2
   have hb : Basic r := by subst e; exact ⟨by show (4 : Int) ≠ 0; decide, by show (4 : Int) ≠ 3; decide⟩
   replace hx : x ∈ spT r := hx
   rw [spT_basic hb, List.mem_singleton] at hx
   subst hx
   exact ⟨[], x, hp, hr, rfl⟩
 ·have hb : Basic (catOf (p ++ partsT r)) := by
   generalize p ++ partsT r = L at hl
   match L, hl with
   | [], _ => exact ⟨by decide, by decide⟩
   | x :: y :: l, _ => exact ⟨by show (2 : Int) ≠ 0; decide, by show (2 : Int) ≠ 3; decide⟩
  rw [spT_basic hb, List.mem_singleton] at hx
  exact ⟨p, r, hp, hr, by rw [hx, parts_cat _ hl]⟩
theorem closed_all {t : T} (h : T.All okd t) : Closed2 t := by
 induction h with
 | @mk k u0 u1 u2 u3 p cap mn mx tx ks ho hks ih =>
  rcases ho with ⟨rfl, rfl⟩ | rfl | rfl | rfl | ⟨rfl, h1, h2, h3⟩ | rfl
  ·have hq : ∀ q, ¬ Qi (.mk 0 u0 u1 u2 u3 p cap mn mx tx []) q := fun q h => by rw [Qi_mk, if_neg (by decide), if_neg (by decide), if_neg (by decide), if_neg (by decide)] at h; exact h
   have hf : ∀ c, ∀ a ∈ spT (offD c (.mk 0 u0 u1 u2 u3 p cap mn mx tx [])), Qi (.mk 0 u0 u1 u2 u3 p cap mn mx tx []) (partsT a) := fun c a ha => by
    rw [offD_mk, if_neg (by decide), if_neg (by decide), if_neg (by decide), if_neg (by decide), sp_none] at ha; cases ha
   refine ⟨⟨hf, fun q h => absurd h (hq q), fun z h => absurd h (hq _)⟩, fun q h => ?_⟩
   rw [startsT_mk, if_pos rfl] at h; cases h
  ·have hq : ∀ q, Qi (.mk 1 u0 u1 u2 u3 p cap mn mx tx ks) q = (q = []) := fun q => by rw [Qi_mk, if_pos rfl]
   have hf : ∀ c, ∀ a ∈ spT (offD c (.mk 1 u0 u1 u2 u3 p cap mn mx tx ks)), Qi (.mk 1 u0 u1 u2 u3 p cap mn mx tx ks) (partsT a) := fun c a ha => by
    rw [hq]
    rw [offD_mk, if_pos rfl] at ha
    split at ha
    ·rw [spT_basic ⟨by decide, by decide⟩, List.mem_singleton] at ha
     subst ha
     rfl
    ·rw [sp_none] at ha; cases ha
   refine ⟨⟨hf, fun q h u z d e => ?_, fun z h => ?_⟩, begins_basic (by rw [startsT_mk, if_neg (by decide), if_neg (by decide), if_neg (by decide)]) hf⟩
   ·rw [hq] at h
    rw [h] at e
    cases u <;> cases e
   ·rw [hq] at h; cases h
  ·have hq : ∀ q, Qi (.mk 2 u0 u1 u2 u3 p cap mn mx tx ks) q = catQ (qs ks) q := fun q => by rw [Qi_mk, if_neg (by decide), if_pos rfl]
   have hf : ∀ c, ∀ a ∈ spT (offD c (.mk 2 u0 u1 u2 u3 p cap mn mx tx ks)), Qi (.mk 2 u0 u1 u2 u3 p cap mn mx tx ks) (partsT a) := fun c a ha => by
    rw [hq]
    rw [offD_mk, if_neg (by decide), if_pos rfl] at ha
    rcases seq_sub c ks noneT ha with ha | ⟨u, z, d, e, a', h4, h5⟩
    ·rw [sp_none] at ha; cases ha
    ·have hz := (ih z (by rw [e]; simp)).all
     exact join_at hz e (hz.first c a' h4) (Or.inr rfl) h5
   refine ⟨⟨hf, fun q h u z d e c a ha => ?_, fun z h x hx => ?_⟩, fun q h u z d e c a ha => ?_⟩
   ·rw [hq] at h ⊢
    exact cat_more ih h e c ha
   ·rw [hq] at h ⊢
    rcases catQ_of h with ⟨u0, z0, d0, p', r, e0, hp, hr, e1⟩ | ⟨u0, z0, y, e0, hs⟩
    ·have hz0 := (ih z0 (by rw [e0]; simp)).all
     refine join_at hz0 e0 hp hr ?_
     rw [← e1]
     exact hx
    ·exact catQ_starts e0 (starts_closed y z hs x hx)
   ·rw [hq]
    rw [startsT_mk, if_neg (by decide), if_neg (by decide), if_pos rfl] at h
    rcases List.mem_cons.1 h with rfl | h
    ·exact catQ_at e ((ih z (by rw [e]; simp)).all.first c a ha) (v1_refl d)
    ·match ks, ih, h with
     | [w], ih, h =>
      have := catQ_at (ks := [w]) (u := []) (d := []) rfl ((ih w (by simp)).begins q h u z d e c a ha) (v1_refl [])
      rwa [List.append_nil] at this
  ·have hq : ∀ q, Qi (.mk 3 u0 u1 u2 u3 p cap mn mx tx ks) q = ∃ x ∈ ks, Qi x q := fun q => by rw [Qi_mk, if_neg (by decide), if_neg (by decide), if_pos rfl]
   refine ⟨⟨fun c a ha => ?_, fun q h u z d e c a ha => ?_, fun z h x hx => ?_⟩, fun q h u z d e c a ha => ?_⟩
   ·rw [hq]
    rw [offD_mk, if_neg (by decide), if_neg (by decide), if_pos rfl] at ha
    rcases fold_sub _ ks noneT ha with ha | ⟨x, hx, ha⟩
    ·rw [sp_none] at ha; cases ha
    ·exact ⟨x, hx, (ih x hx).all.first c a ha⟩
   ·rw [hq] at h ⊢
    obtain ⟨x, hx, h⟩ := h
    exact ⟨x, hx, (ih x hx).all.more q h u z d e c a ha⟩
   ·rw [hq] at h ⊢
    obtain ⟨y, hy, h⟩ := h
    exact ⟨y, hy, (ih y hy).all.lone z h x hx⟩
   ·rw [hq]
    rw [startsT_mk, if_neg (by decide), if_pos rfl] at h
    obtain ⟨x, hx, h⟩ := List.mem_flatMap.1 h
    exact ⟨x, hx, (ih x hx).begins q h u z d e c a ha⟩
  ·obtain ⟨y, rfl⟩ := List.length_eq_one_iff.1 h1
   have hy := (ih y (by simp)).all
   have hq : ∀ q, Qi (.mk 4 u0 u1 u2 u3 p cap mn mx tx [y]) q = ∃ p' r, Qi y p' ∧ Lf [y] mn mx r ∧ q = p' ++ partsT r := fun q => by
    rw [Qi_mk, if_neg (by decide), if_neg (by decide), if_neg (by decide), if_pos rfl]
    refine propext ⟨fun ⟨x, hx, h⟩ => ?_, fun h => ⟨y, by simp, h⟩⟩
    rw [List.mem_singleton] at hx
    exact hx ▸ h
   have hf : ∀ c, ∀ a ∈ spT (offD c (.mk 4 u0 u1 u2 u3 p cap mn mx tx [y])), Qi (.mk 4 u0 u1 u2 u3 p cap mn mx tx [y]) (partsT a) := fun c a ha => by
    rw [hq]
    rw [offD_mk, if_neg (by decide), if_neg (by decide), if_neg (by decide), if_pos rfl, List.map_cons, List.headD_cons] at ha
    obtain ⟨-, a', h4, h5⟩ := cat_sub _ _ ha
    exact rep_join hy (hy.first c a' h4) (Lf.here mn mx) h5
   refine ⟨⟨hf, fun q h u z d e c a ha => ?_, fun z h x hx => ?_⟩, begins_basic (by rw [startsT_mk, if_neg (by decide), if_neg (by decide), if_neg (by decide)]) hf⟩
   ·rw [hq] at h ⊢
    obtain ⟨p', r, hp, hr, e1⟩ := h
    have inR : ∀ s, partsT r = s ++ z :: d → ∃ p' r, Qi y p' ∧ Lf [y] mn mx r ∧ partsT a ++ d = p' ++ partsT r := fun s er => by
     rcases lf_shape hr with rfl | ⟨mn', mx', e2, hn⟩
     ·replace er : [] = s ++ z :: d := er
      cases s <;> cases er
     ·have e3 : partsT r = [r] := by subst e2; rfl
      rw [e3] at er
      obtain ⟨-, rfl, rfl⟩ := single_split er
      rw [List.append_nil]
      rw [e2, offD_mk, if_neg (by decide), if_neg (by decide), if_neg (by decide), if_pos rfl, List.map_cons, List.headD_cons] at ha
      obtain ⟨-, a', h4, h5⟩ := cat_sub _ _ ha
      exact rep_join hy (hy.first c a' h4) (hn _ (Lf.here mn' mx')) h5
    rw [e1] at e
    rcases List.append_eq_append_iff.1 e with ⟨s, -, h2⟩ | ⟨s, h1, h2⟩
    ·exact inR s h2
    ·cases s with
     | nil => exact inR [] h2.symm
     | cons w s =>
      injection h2 with h3 h4
      subst h3 h4
      exact ⟨_, r, hy.more p' hp u z s h1 c a ha, hr, by rw [List.append_assoc]; rfl⟩
   ·rw [hq] at h ⊢
    obtain ⟨p', r, hp, hr, e1⟩ := h
    refine rep_join hy hp hr ?_
    rw [← e1]
    exact hx
  ·have hq : ∀ q, ¬ Qi (.mk 5 u0 u1 u2 u3 p cap mn mx tx ks) q := fun q h => by rw [Qi_mk, if_neg (by decide), if_neg (by decide), if_neg (by decide), if_neg (by decide)] at h; exact h
   have hf : ∀ c, ∀ a ∈ spT (offD c (.mk 5 u0 u1 u2 u3 p cap mn mx tx ks)), Qi (.mk 5 u0 u1 u2 u3 p cap mn mx tx ks) (partsT a) := fun c a ha => by
    rw [offD_mk, if_neg (by decide), if_neg (by decide), if_neg (by decide), if_neg (by decide), sp_none] at ha; cases ha
   exact ⟨⟨hf, fun q h => absurd h (hq q), fun z h => absurd h (hq _)⟩, begins_basic (by rw [startsT_mk, if_neg (by decide), if_neg (by decide), if_neg (by decide)]) hf⟩
end Go.Proofs.YtobbifhflnlplaaDoor
namespace Go.Proofs.YtobbifhflnlplaaDoor
open Go.Tree7
open S7
inductive Vo : List T → List T → Prop
 | here (l : List T) : Vo l l
 | more (y : T) (r : List T) (h : kindT y = 2) (hr : Vo (kidsT y) r) : Vo [y] r
theorem vo_open {l r : List T} (h : Vo l r) : Vo l (partsT (catOf r)) := by
 induction h with
 | here l =>
  by_cases hl : l.length = 1
  ·obtain ⟨z, rfl⟩ := List.length_eq_one_iff.1 hl
   rw [parts_one]
   by_cases h2 : kindT z = 2
   ·have e : partsT z = kidsT z := by unfold partsT; rw [if_pos h2]
    rw [e]
    exact .more z _ h2 (.here _)
   ·rw [parts_not h2]; exact .here _
  ·rw [parts_cat l hl]; exact .here _
 | more y r h2 _ ih => exact .more y _ h2 ih
theorem vo_v1 {l r : List T} (h : v1 l r) : Vo l r := by
 rcases h with rfl | rfl
 ·exact .here _
 ·exact vo_open (.here _)
theorem starts_kids {y : T} (h : kindT y = 2) : kidsT y ∈ startsT y := by
 cases y with
 | mk k u0 u1 u2 u3 p cap mn mx tx ks =>
  replace h : k = 2 := h
  subst h
  rw [startsT_mk, if_neg (by decide), if_neg (by decide), if_pos rfl]
  exact List.mem_cons_self
theorem starts_in {y w : T} (h : kindT y = 2) (hk : kidsT y = [w]) {q : List T} (hq : q ∈ startsT w) : q ∈ startsT y := by
 cases y with
 | mk k u0 u1 u2 u3 p cap mn mx tx ks =>
  replace h : k = 2 := h
  replace hk : ks = [w] := hk
  subst h hk
  rw [startsT_mk, if_neg (by decide), if_neg (by decide), if_pos rfl]
  exact List.mem_cons_of_mem _ hq
theorem vo_starts {l r : List T} (h : Vo l r) : r = l ∨ ∃ y, l = [y] ∧ r ∈ startsT y := by
 induction h with
 | here l => exact Or.inl rfl
 | more y r h2 _ ih =>
  right
  refine ⟨y, rfl, ?_⟩
  rcases ih with e | ⟨w, e, hr⟩
  ·rw [e]; exact starts_kids h2
  ·exact starts_in h2 e hr
theorem vo_lone {l : List T} {w : T} (h : Vo l [w]) {x : T} (hx : x ∈ spT w) : ∃ y, l = [y] ∧ partsT x ∈ startsT y := by
 rcases vo_starts h with e | ⟨y, e, hr⟩
 ·exact ⟨w, e.symm, starts_sp w x hx⟩
 ·exact ⟨y, e, starts_closed y w hr x hx⟩
def catO : List (T × (List T → Prop)) → List T → Prop
 | [], _ => False
 | (x, Q) :: xs, q => (∃ p r, r ≠ [] ∧ Qi x p ∧ Vo (xs.map Prod.fst) r ∧ q = p ++ r) ∨ (Vo (xs.map Prod.fst) [] ∧ Q q) ∨ (∃ y, xs.map Prod.fst = [y] ∧ q ∈ startsT y) ∨ catO xs q
def qoF (t : T) (xs : List (T × (List T → Prop))) : List T → Prop := fun q => match t with
 | .mk k _ _ _ _ _ _ mn mx _ ks => if k = 1 then q = [] else if k = 2 then catO xs q else if k = 3 then ∃ x ∈ xs, x.2 q
  else if k = 4 then ∃ x ∈ xs, ∃ r, Lf ks mn mx r ∧ ((partsT r ≠ [] ∧ ∃ p, Qi x.1 p ∧ q = p ++ partsT r) ∨ (partsT r = [] ∧ x.2 q)) else False
def Qo : T → List T → Prop := T.para qoF
abbrev qos (ks : List T) : List (T × (List T → Prop)) := ks.map fun x => (x, Qo x)
theorem Qo_mk (k u0 u1 u2 u3 : Int) (p : Option Addr) (cap : Nat) (mn mx : Int) (tx : ByteArray) (ks : List T) (q : List T) : Qo (.mk k u0 u1 u2 u3 p cap mn mx tx ks) q =
  if k = 1 then q = [] else if k = 2 then catO (qos ks) q else if k = 3 then ∃ x ∈ ks, Qo x q
  else if k = 4 then ∃ x ∈ ks, ∃ r, Lf ks mn mx r ∧ ((partsT r ≠ [] ∧ ∃ p, Qi x p ∧ q = p ++ partsT r) ∨ (partsT r = [] ∧ Qo x q)) else False := by
 show T.para qoF _ q = _
 rw [T.para_mk]
 have e : ∀ P : T × (List T → Prop) → Prop, (∃ x, x ∈ (ks.map fun t => (t, T.para qoF t)) ∧ P x) = ∃ x, x ∈ ks ∧ P (x, Qo x) := fun P => propext ⟨fun ⟨x, h1, h2⟩ => by
  obtain ⟨a, ha, rfl⟩ := List.mem_map.1 h1
  exact ⟨a, ha, h2⟩, fun ⟨x, h1, h2⟩ => ⟨_, List.mem_map.2 ⟨x, h1, rfl⟩, h2⟩⟩
 simp only [qoF, e]
 rfl
theorem qos_fst (ks : List T) : (qos ks).map Prod.fst = ks := by rw [List.map_map]; exact List.map_id _
theorem catO_some {ks u d : List T} {z : T} {p r : List T} (e : ks = u ++ z :: d) (hn : r ≠ []) (hp : Qi z p) (hr : Vo d r) : catO (qos ks) (p ++ r) := by
 induction u generalizing ks with
 | nil => subst e; exact Or.inl ⟨p, r, hn, hp, by rw [qos_fst]; exact hr, rfl⟩
 | cons x u ih => subst e; exact Or.inr (Or.inr (Or.inr (ih rfl)))
theorem catO_none {ks u d : List T} {z : T} {q : List T} (e : ks = u ++ z :: d) (hr : Vo d []) (hq : Qo z q) : catO (qos ks) q := by
 induction u generalizing ks with
 | nil => subst e; exact Or.inr (Or.inl ⟨by rw [qos_fst]; exact hr, hq⟩)
 | cons x u ih => subst e; exact Or.inr (Or.inr (Or.inr (ih rfl)))
theorem catO_starts {ks u : List T} {z y : T} {q : List T} (e : ks = u ++ [z, y]) (hq : q ∈ startsT y) : catO (qos ks) q := by
 induction u generalizing ks with
 | nil => subst e; exact Or.inr (Or.inr (Or.inl ⟨y, rfl, hq⟩))
 | cons x u ih => subst e; exact Or.inr (Or.inr (Or.inr (ih rfl)))
theorem catO_of {q : List T} : ∀ {ks : List T}, catO (qos ks) q → (∃ u z d p r, ks = u ++ z :: d ∧ r ≠ [] ∧ Qi z p ∧ Vo d r ∧ q = p ++ r) ∨ (∃ u z d, ks = u ++ z :: d ∧ Vo d [] ∧ Qo z q) ∨ (∃ u z y, ks = u ++ [z, y] ∧ q ∈ startsT y)
 | [], h => h.elim
 | x :: ks, h => by
  rcases h with ⟨p, r, hn, hp, hr, e⟩ | ⟨hr, hq⟩ | ⟨y, e, hq⟩ | h
  ·rw [qos_fst] at hr; exact Or.inl ⟨[], x, ks, p, r, rfl, hn, hp, hr, e⟩
  ·rw [qos_fst] at hr; exact Or.inr (Or.inl ⟨[], x, ks, rfl, hr, hq⟩)
  ·rw [qos_fst] at e; subst e; exact Or.inr (Or.inr ⟨[], x, y, rfl, hq⟩)
  ·rcases catO_of h with ⟨u, z, d, p, r, e, h1⟩ | ⟨u, z, d, e, h1⟩ | ⟨u, z, y, e, h1⟩
   ·exact Or.inl ⟨x :: u, z, d, p, r, by rw [e]; rfl, h1⟩
   ·exact Or.inr (Or.inl ⟨x :: u, z, d, by rw [e]; rfl, h1⟩)
   ·exact Or.inr (Or.inr ⟨x :: u, z, y, by rw [e]; rfl, h1⟩)
theorem qi_qo : ∀ (t : T) (q : List T), Qi t q → Qo t q := by
 refine T.ind fun k u0 u1 u2 u3 p cap mn mx tx ks ih => ?_
 intro q h
 rw [Qi_mk] at h
 rw [Qo_mk]
 by_cases h1 : k = 1
 ·rw [if_pos h1] at h ⊢; exact h
 ·rw [if_neg h1] at h ⊢
  by_cases h2 : k = 2
  ·rw [if_pos h2] at h ⊢
   rcases catQ_of h with ⟨u, z, d, p', r, e, hp, hr, e1⟩ | ⟨u, z, y, e, hs⟩
   ·cases r with
    | nil =>
     rw [List.append_nil] at e1
     rw [e1]
     exact catO_none e (vo_v1 hr) (ih z (by rw [e]; simp) _ hp)
    | cons a r => rw [e1]; exact catO_some e (by simp) hp (vo_v1 hr)
   ·exact catO_starts e hs
  ·rw [if_neg h2] at h ⊢
   by_cases h3 : k = 3
   ·rw [if_pos h3] at h ⊢
    obtain ⟨x, hx, h⟩ := h
    exact ⟨x, hx, ih x hx q h⟩
   ·rw [if_neg h3] at h ⊢
    by_cases h4 : k = 4
    ·rw [if_pos h4] at h ⊢
     obtain ⟨x, hx, p', r, hp, hr, e⟩ := h
     refine ⟨x, hx, r, hr, ?_⟩
     by_cases hn : partsT r = []
     ·rw [hn, List.append_nil] at e
      rw [e]
      exact Or.inr ⟨hn, ih x hx _ hp⟩
     ·exact Or.inl ⟨hn, p', hp, e⟩
    ·rw [if_neg h4] at h; exact h.elim
theorem own_o {z : T} (hz : Closed z) {p : List T} (hp : Qi z p) {x : T} (hx : x ∈ spT (catOf p)) : Qo z (partsT x) := by
 by_cases hl : p.length = 1
 ·obtain ⟨w, rfl⟩ := List.length_eq_one_iff.1 hl
  exact qi_qo z _ (hz.lone w hp x hx)
 ·have hb : Basic (catOf p) := by
   match p, hl with
   | [], _ => exact ⟨by decide, by decide⟩
   | x :: y :: l, _ => exact ⟨by show (2 : Int) ≠ 0; decide, by show (2 : Int) ≠ 3; decide⟩
  rw [spT_basic hb, List.mem_singleton] at hx
  rw [hx, parts_cat _ hl]
  exact qi_qo z _ hp
theorem join_o {ks u d : List T} {z : T} {p r : List T} (hz : Closed z) (e : ks = u ++ z :: d) (hp : Qi z p) (hr : Vo d r) {x : T} (hx : x ∈ spT (catOf (p ++ r))) : catO (qos ks) (partsT x) := by
 by_cases hn : r = []
 ·subst hn
  rw [List.append_nil] at hx
  exact catO_none e hr (own_o hz hp hx)
 ·by_cases hl : (p ++ r).length = 1
  ·match p, r, hl, hn with
   | [], [w], _, _ =>
    obtain ⟨y, e1, hs⟩ := vo_lone hr (show x ∈ spT w from hx)
    subst e1
    exact catO_starts e hs
   | [a], b :: r, hl, _ => simp at hl
   | [], a :: b :: r, hl, _ => simp at hl
   | a :: b :: p, r, hl, _ => simp at hl
   | p, [], _, hn => exact absurd rfl hn
  ·have hb : Basic (catOf (p ++ r)) := by
    generalize p ++ r = L at hl
    match L, hl with
    | [], _ => exact ⟨by decide, by decide⟩
    | x :: y :: l, _ => exact ⟨by show (2 : Int) ≠ 0; decide, by show (2 : Int) ≠ 3; decide⟩
   rw [spT_basic hb, List.mem_singleton] at hx
   rw [hx, parts_cat _ hl]
   exact catO_some e hn hp hr
def Left9 (Q : List T → Prop) (a : T) (d : List T) : Prop := (d = [] → Q (partsT a)) ∧ ∀ x ∈ spT (catOf (partsT a ++ partsT (catOf d))), Q (partsT x)
structure Outer (t : T) : Prop where
 more : ∀ q, Qo t q → ∀ u z d, q = u ++ z :: d → ∀ c, ∀ a ∈ spT (offD c z), Left9 (Qo t) a d
 lone : ∀ z, Qo t [z] → ∀ x ∈ spT z, Qo t (partsT x)
 begins : ∀ q ∈ startsT t, ∀ u z d, q = u ++ z :: d → ∀ c, ∀ a ∈ spT (offD c z), Left9 (Qo t) a d
theorem Left9.up {Q Q' : List T → Prop} {a : T} {d : List T} (h : Left9 Q a d) (hq : ∀ q, Q q → Q' q) : Left9 Q' a d := ⟨fun e => hq _ (h.1 e), fun x hx => hq _ (h.2 x hx)⟩
theorem kid_o {ks u d : List T} {z : T} (hz : Closed z) (e : ks = u ++ z :: d) (c : Nat) {a : T} (ha : a ∈ spT (offD c z)) : Left9 (catO (qos ks)) a d := by
 have hp := hz.first c a ha
 refine ⟨fun hd => ?_, fun x hx => ?_⟩
 ·subst hd
  exact catO_none e (.here _) (qi_qo z _ hp)
 ·exact join_o hz e hp (vo_open (.here _)) hx
theorem cat_outer {ks : List T} (hc : ∀ x ∈ ks, Closed x) (ho : ∀ x ∈ ks, Outer x) {q u d : List T} {z : T} (hq : catO (qos ks) q) (e : q = u ++ z :: d) (c : Nat) {a : T} (ha : a ∈ spT (offD c z)) : Left9 (catO (qos ks)) a d := by
 rcases catO_of hq with ⟨u0, z0, d0, p, r, e0, hn, hp, hr, e1⟩ | ⟨u0, z0, d0, e0, hr, hq0⟩ | ⟨u0, z0, y, e0, hs⟩
 ·have hz0 := hc z0 (by rw [e0]; simp)
  have inR : ∀ s, r = s ++ z :: d → Left9 (catO (qos ks)) a d := fun s er => by
   rcases vo_starts hr with h | ⟨y, h, hs⟩
   ·have e2 : ks = (u0 ++ z0 :: s) ++ z :: d := by rw [e0, ← h, er]; simp
    exact kid_o (hc z (by rw [e2]; simp)) e2 c ha
   ·have e2 : ks = (u0 ++ [z0]) ++ y :: [] := by rw [e0, h]; simp
    exact ((ho y (by rw [e2]; simp)).begins r hs s z d er c a ha).up fun q h => catO_none e2 (.here _) h
  rw [e1] at e
  rcases List.append_eq_append_iff.1 e with ⟨s, -, h2⟩ | ⟨s, h1, h2⟩
  ·exact inR s h2
  ·cases s with
   | nil => exact inR [] h2.symm
   | cons w s =>
    injection h2 with h3 h4
    subst h3 h4
    have hm := hz0.more p hp u z s h1 c a ha
    refine ⟨fun hd => ?_, fun x hx => ?_⟩
    ·have : s ++ r = [] := hd
     exact absurd (List.append_eq_nil_iff.1 this).2 hn
    ·cases s with
     | nil =>
      rw [List.append_nil] at hm
      exact join_o hz0 e0 hm (vo_open hr) hx
     | cons b s =>
      have hl : (b :: s ++ r).length ≠ 1 := by
       cases r with
       | nil => exact absurd rfl hn
       | cons b2 r => simp
      have e3 : partsT (catOf (b :: s ++ r)) = b :: s ++ r := parts_cat _ hl
      replace hx : x ∈ spT (catOf (partsT a ++ partsT (catOf (b :: s ++ r)))) := hx
      rw [e3, ← List.append_assoc] at hx
      exact join_o hz0 e0 hm hr hx
 ·have := (ho z0 (by rw [e0]; simp)).more q hq0 u z d e c a ha
  exact this.up fun q h => catO_none e0 hr h
 ·have e2 : ks = (u0 ++ [z0]) ++ y :: [] := by rw [e0]; simp
  exact ((ho y (by rw [e2]; simp)).begins q hs u z d e c a ha).up fun q h => catO_none e2 (.here _) h
end Go.Proofs.YtobbifhflnlplaaDoor
namespace Go.Proofs.YtobbifhflnlplaaDoor
open Go.Tree7
open S7
theorem begins_o {t : T} (h : startsT t = [[t]]) (hc : Closed t) : ∀ q ∈ startsT t, ∀ u z d, q = u ++ z :: d → ∀ c, ∀ a ∈ spT (offD c z), Left9 (Qo t) a d := by
 intro q hq u z d e c a ha
 rw [h, List.mem_singleton] at hq
 subst hq
 obtain ⟨-, rfl, rfl⟩ := single_split e
 have hp := hc.first c a ha
 refine ⟨fun _ => qi_qo _ _ hp, fun x hx => ?_⟩
 have e1 : partsT (catOf ([] : List T)) = [] := rfl
 rw [e1, List.append_nil] at hx
 exact own_o hc hp hx
theorem rep_qo {u0 u1 u2 u3 : Int} {p : Option Addr} {cap : Nat} {mn mx : Int} {tx : ByteArray} {y : T} (q : List T) : Qo (.mk 4 u0 u1 u2 u3 p cap mn mx tx [y]) q =
  ∃ r, Lf [y] mn mx r ∧ ((partsT r ≠ [] ∧ ∃ p, Qi y p ∧ q = p ++ partsT r) ∨ (partsT r = [] ∧ Qo y q)) := by
 rw [Qo_mk, if_neg (by decide), if_neg (by decide), if_neg (by decide), if_pos rfl]
 refine propext ⟨fun ⟨x, hx, h⟩ => ?_, fun h => ⟨y, by simp, h⟩⟩
 rw [List.mem_singleton] at hx
 exact hx ▸ h
theorem rep_made {u0 u1 u2 u3 : Int} {p : Option Addr} {cap : Nat} {mn mx : Int} {tx : ByteArray} {y : T} {q p' : List T} {r : T} (hp : Qi y p') (hr : Lf [y] mn mx r) (e : q = p' ++ partsT r) : Qo (.mk 4 u0 u1 u2 u3 p cap mn mx tx [y]) q := by
 rw [rep_qo]
 refine ⟨r, hr, ?_⟩
 by_cases hn : partsT r = []
 ·rw [hn, List.append_nil] at e
  rw [e]
  exact Or.inr ⟨hn, qi_qo y _ hp⟩
 ·exact Or.inl ⟨hn, p', hp, e⟩
theorem outer_all {t : T} (h : T.All okd t) : Outer t := by
 induction h with
 | @mk k u0 u1 u2 u3 p cap mn mx tx ks ho hks ih =>
  have hT : T.All okd (.mk k u0 u1 u2 u3 p cap mn mx tx ks) := .mk ho hks
  have hC := (closed_all hT).all
  have hc : ∀ x ∈ ks, Closed x := fun x hx => (closed_all (hks x hx)).all
  rcases ho with ⟨rfl, rfl⟩ | rfl | rfl | rfl | ⟨rfl, h1, h2, h3⟩ | rfl
  ·have hq : ∀ q, ¬ Qo (.mk 0 u0 u1 u2 u3 p cap mn mx tx []) q := fun q h => by rw [Qo_mk, if_neg (by decide), if_neg (by decide), if_neg (by decide), if_neg (by decide)] at h; exact h
   refine ⟨fun q h => absurd h (hq q), fun z h => absurd h (hq _), fun q h => ?_⟩
   rw [startsT_mk, if_pos rfl] at h; cases h
  ·have hq : ∀ q, Qo (.mk 1 u0 u1 u2 u3 p cap mn mx tx ks) q = (q = []) := fun q => by rw [Qo_mk, if_pos rfl]
   refine ⟨fun q h u z d e => ?_, fun z h => ?_, begins_o (by rw [startsT_mk, if_neg (by decide), if_neg (by decide), if_neg (by decide)]) hC⟩
   ·rw [hq] at h
    rw [h] at e
    cases u <;> cases e
   ·rw [hq] at h; cases h
  ·have hq : ∀ q, Qo (.mk 2 u0 u1 u2 u3 p cap mn mx tx ks) q = catO (qos ks) q := fun q => by rw [Qo_mk, if_neg (by decide), if_pos rfl]
   have hq2 : Qo (.mk 2 u0 u1 u2 u3 p cap mn mx tx ks) = catO (qos ks) := funext hq
   refine ⟨fun q h u z d e c a ha => ?_, fun z h x hx => ?_, fun q h u z d e c a ha => ?_⟩
   ·rw [hq2] at h ⊢
    exact cat_outer hc ih h e c ha
   ·rw [hq] at h ⊢
    rcases catO_of h with ⟨u0, z0, d0, p', r, e0, hn, hp, hr, e1⟩ | ⟨u0, z0, d0, e0, hr, hq0⟩ | ⟨u0, z0, y, e0, hs⟩
    ·have e2 : p' = [] ∧ r = [z] := by
      cases p' with
      | nil => exact ⟨rfl, e1.symm⟩
      | cons b p' =>
       injection e1 with e3 e4
       exact absurd (List.append_eq_nil_iff.1 e4.symm).2 hn
     obtain ⟨y, e3, hs⟩ := vo_lone (e2.2 ▸ hr) hx
     subst e3
     exact catO_starts e0 hs
    ·exact catO_none e0 hr ((ih z0 (by rw [e0]; simp)).lone z hq0 x hx)
    ·exact catO_starts e0 (starts_closed y z hs x hx)
   ·rw [hq2]
    rw [startsT_mk, if_neg (by decide), if_neg (by decide), if_pos rfl] at h
    rcases List.mem_cons.1 h with rfl | h
    ·exact kid_o (hc z (by rw [e]; simp)) e c ha
    ·match ks, ih, h with
     | [w], ih, h => exact ((ih w (by simp)).begins q h u z d e c a ha).up fun q h => catO_none (ks := [w]) (u := []) (d := []) rfl (.here _) h
  ·have hq : ∀ q, Qo (.mk 3 u0 u1 u2 u3 p cap mn mx tx ks) q = ∃ x ∈ ks, Qo x q := fun q => by rw [Qo_mk, if_neg (by decide), if_neg (by decide), if_pos rfl]
   refine ⟨fun q h u z d e c a ha => ?_, fun z h x hx => ?_, fun q h u z d e c a ha => ?_⟩
   ·rw [hq] at h
    obtain ⟨x, hx, h⟩ := h
    exact ((ih x hx).more q h u z d e c a ha).up fun q h => by rw [hq]; exact ⟨x, hx, h⟩
   ·rw [hq] at h ⊢
    obtain ⟨y, hy, h⟩ := h
    exact ⟨y, hy, (ih y hy).lone z h x hx⟩
   ·rw [startsT_mk, if_neg (by decide), if_pos rfl] at h
    obtain ⟨x, hx, h⟩ := List.mem_flatMap.1 h
    exact ((ih x hx).begins q h u z d e c a ha).up fun q h => by rw [hq]; exact ⟨x, hx, h⟩
  ·obtain ⟨y, rfl⟩ := List.length_eq_one_iff.1 h1
   have hy := hc y (by simp)
   refine ⟨fun q h u z d e c a ha => ?_, fun z h x hx => ?_, begins_o (by rw [startsT_mk, if_neg (by decide), if_neg (by decide), if_neg (by decide)]) hC⟩
   ·rw [rep_qo] at h
    obtain ⟨r, hr, ⟨hn, p', hp, e1⟩ | ⟨hn, hq0⟩⟩ := h
    ·rcases lf_shape hr with rfl | ⟨mn', mx', e2, hnx⟩
     ·exact absurd rfl hn
     ·have e3 : partsT r = [r] := by subst e2; rfl
      have inR : ∀ s, partsT r = s ++ z :: d → Left9 (Qo (.mk 4 u0 u1 u2 u3 p cap mn mx tx [y])) a d := fun s er => by
       rw [e3] at er
       obtain ⟨-, rfl, rfl⟩ := single_split er
       rw [e2, offD_mk, if_neg (by decide), if_neg (by decide), if_neg (by decide), if_pos rfl, List.map_cons, List.headD_cons] at ha
       obtain ⟨-, a', h4, h5⟩ := cat_sub _ _ ha
       obtain ⟨p2, r2, h6, h7, h8⟩ := rep_join hy (hy.first c a' h4) (hnx _ (Lf.here mn' mx')) h5
       have hqi : Qi (.mk 4 u0 u1 u2 u3 p cap mn mx tx [y]) (partsT a) := by
        rw [Qi_mk, if_neg (by decide), if_neg (by decide), if_neg (by decide), if_pos rfl]
        exact ⟨y, by simp, p2, r2, h6, h7, h8⟩
       refine ⟨fun _ => qi_qo _ _ hqi, fun x hx => ?_⟩
       have e4 : partsT (catOf ([] : List T)) = [] := rfl
       rw [e4, List.append_nil] at hx
       exact own_o hC hqi hx
      rw [e1] at e
      rcases List.append_eq_append_iff.1 e with ⟨s, -, h2⟩ | ⟨s, h1, h2⟩
      ·exact inR s h2
      ·cases s with
       | nil => exact inR [] h2.symm
       | cons w s =>
        injection h2 with h3 h4
        subst h3 h4
        have hm := hy.more p' hp u z s h1 c a ha
        refine ⟨fun hd => ?_, fun x hx => ?_⟩
        ·have : s ++ partsT r = [] := hd
         exact absurd (List.append_eq_nil_iff.1 this).2 hn
        ·have e5 : partsT a ++ partsT (catOf (s ++ partsT r)) = (partsT a ++ s) ++ partsT r := by
          rw [List.append_assoc]
          congr 1
          cases s with
          | nil => rw [List.nil_append, e3, parts_one, e3]
          | cons b s => exact parts_cat _ (by rw [e3]; simp)
         replace hx : x ∈ spT (catOf (partsT a ++ partsT (catOf (s ++ partsT r)))) := hx
         rw [e5] at hx
         obtain ⟨p2, r2, h6, h7, h8⟩ := rep_join hy hm hr hx
         exact rep_made h6 h7 h8
    ·exact ((ih y (by simp)).more q hq0 u z d e c a ha).up fun q h => by rw [rep_qo]; exact ⟨r, hr, Or.inr ⟨hn, h⟩⟩
   ·rw [rep_qo] at h ⊢
    obtain ⟨r, hr, ⟨hn, p', hp, e1⟩ | ⟨hn, hq0⟩⟩ := h
    ·rcases lf_shape hr with rfl | ⟨mn', mx', e2, -⟩
     ·exact absurd rfl hn
     ·have e3 : partsT r = [r] := by subst e2; rfl
      rw [e3] at e1
      have e4 : p' = [] ∧ z = r := by
       cases p' with
       | nil => injection e1 with e5; exact ⟨rfl, e5⟩
       | cons b p' => injection e1 with e5 e6; exact absurd (List.append_eq_nil_iff.1 e6.symm).2 (by simp)
      have hb : Basic r := by subst e2; exact ⟨by show (4 : Int) ≠ 0; decide, by show (4 : Int) ≠ 3; decide⟩
      rw [e4.2, spT_basic hb, List.mem_singleton] at hx
      rw [hx]
      exact ⟨r, hr, Or.inl ⟨hn, [], e4.1 ▸ hp, rfl⟩⟩
    ·exact ⟨r, hr, Or.inr ⟨hn, (ih y (by simp)).lone z hq0 x hx⟩⟩
  ·have hq : ∀ q, ¬ Qo (.mk 5 u0 u1 u2 u3 p cap mn mx tx ks) q := fun q h => by rw [Qo_mk, if_neg (by decide), if_neg (by decide), if_neg (by decide), if_neg (by decide)] at h; exact h
   exact ⟨fun q h => absurd h (hq q), fun z h => absurd h (hq _), begins_o (by rw [startsT_mk, if_neg (by decide), if_neg (by decide), if_neg (by decide)]) hC⟩
theorem step_among {n : T} (hn : T.All okd n) (c : Nat) : ∀ (D : T), (∀ b ∈ spT D, Qo n (partsT b)) → ∀ x ∈ spT (offD c D), Qo n (partsT x) := by
 refine T.ind fun k u0 u1 u2 u3 p cap mn mx tx ks ih => ?_
 intro hb x hx
 have hO := outer_all hn
 by_cases h0 : k = 0
 ·subst h0
  rw [offD_mk, if_neg (by decide), if_neg (by decide), if_neg (by decide), if_neg (by decide), sp_none] at hx
  cases hx
 ·by_cases h3 : k = 3
  ·subst h3
   rw [offD_mk, if_neg (by decide), if_neg (by decide), if_pos rfl] at hx
   rcases fold_sub _ ks noneT hx with hx | ⟨y, hy, hx⟩
   ·rw [sp_none] at hx; cases hx
   ·refine ih y hy (fun b hbb => hb b ?_) x hx
    rw [spT_mk, if_neg (by decide), if_pos rfl]
    exact List.mem_flatMap.2 ⟨y, hy, hbb⟩
  ·have hB : Basic (.mk k u0 u1 u2 u3 p cap mn mx tx ks) := ⟨h0, h3⟩
   have hq := hb _ (by rw [spT_basic hB]; exact List.mem_singleton.2 rfl)
   by_cases h2 : k = 2
   ·subst h2
    rw [parts_two rfl] at hq
    rw [offD_mk, if_neg (by decide), if_pos rfl] at hx
    rcases seq_sub c ks noneT hx with hx | ⟨u, z, d, e, a', h4, h5⟩
    ·rw [sp_none] at hx; cases hx
    ·exact (hO.more ks hq u z d e c a' h4).2 x h5
   ·rw [parts_not (show ¬ kindT (.mk k u0 u1 u2 u3 p cap mn mx tx ks) = 2 from h2)] at hq
    exact (hO.more _ hq [] _ [] rfl c x hx).1 rfl
theorem among {n : T} (hn : T.All okd n) : ∀ (w : List Nat) (c : Nat), ∀ x ∈ spT (w.foldl (fun t c => offD c t) (offD c n)), Qo n (partsT x) := by
 have go : ∀ (w : List Nat) (D : T), (∀ b ∈ spT D, Qo n (partsT b)) → ∀ x ∈ spT (w.foldl (fun t c => offD c t) D), Qo n (partsT x) := by
  intro w
  induction w with
  | nil => exact fun D h => h
  | cons c w ih => exact fun D h => ih (offD c D) (step_among hn c D h)
 exact fun w c => go w _ fun b hb => qi_qo n _ ((closed_all hn).all.first c b hb)
end Go.Proofs.YtobbifhflnlplaaDoor
namespace Go.Proofs.YtobbifhflnlplaaDoor
open Go.Tree7
open S7
def Cov {α : Type} (P : α → Prop) (n : Nat) : Prop := ∃ L : List α, L.length ≤ n ∧ ∀ q, P q → q ∈ L
theorem Cov.mono {α : Type} {P P' : α → Prop} {n m : Nat} (h : Cov P n) (hp : ∀ q, P' q → P q) (hn : n ≤ m) : Cov P' m := by
 obtain ⟨L, h1, h2⟩ := h
 exact ⟨L, Nat.le_trans h1 hn, fun q hq => h2 q (hp q hq)⟩
theorem Cov.or {α : Type} {P P' : α → Prop} {n m : Nat} (h : Cov P n) (h' : Cov P' m) : Cov (fun q => P q ∨ P' q) (n + m) := by
 obtain ⟨L, h1, h2⟩ := h
 obtain ⟨L', h3, h4⟩ := h'
 refine ⟨L ++ L', by rw [List.length_append]; omega, fun q hq => ?_⟩
 rcases hq with hq | hq
 ·exact List.mem_append_left _ (h2 q hq)
 ·exact List.mem_append_right _ (h4 q hq)
theorem Cov.no {α : Type} {P : α → Prop} (h : ∀ q, ¬ P q) : Cov P 0 := ⟨[], Nat.le_refl _, fun q hq => absurd hq (h q)⟩
theorem Cov.one {α : Type} (a : α) : Cov (fun q => q = a) 1 := ⟨[a], Nat.le_refl _, fun q hq => by rw [hq]; exact List.mem_singleton.2 rfl⟩
theorem Cov.list {α : Type} (L : List α) : Cov (fun q => q ∈ L) L.length := ⟨L, Nat.le_refl _, fun _ h => h⟩
theorem Cov.both {α β γ : Type} {P : α → Prop} {R : β → Prop} (f : α → β → γ) {n m : Nat} (h : Cov P n) (h' : Cov R m) : Cov (fun q => ∃ p r, P p ∧ R r ∧ q = f p r) (n * m) := by
 obtain ⟨L, h1, h2⟩ := h
 obtain ⟨L', h3, h4⟩ := h'
 refine ⟨L.flatMap fun p => L'.map (f p), ?_, ?_⟩
 ·have : ∀ l : List α, (l.flatMap fun p => L'.map (f p)).length = l.length * L'.length := by
   intro l
   induction l with
   | nil => simp
   | cons a l ih => rw [List.flatMap_cons, List.length_append, ih, List.length_map, List.length_cons, Nat.succ_mul, Nat.add_comm]
  rw [this]
  exact Nat.mul_le_mul h1 h3
 ·rintro q ⟨p, r, hp, hr, rfl⟩
  exact List.mem_flatMap.2 ⟨p, h2 p hp, List.mem_map.2 ⟨r, h4 r hr, rfl⟩⟩
theorem Cov.some {α : Type} {P : T → α → Prop} {n : T → Nat} : ∀ ks : List T, (∀ x ∈ ks, Cov (P x) (n x)) → Cov (fun q => ∃ x ∈ ks, P x q) (ks.map n).sum
 | [], _ => Cov.no fun q ⟨x, hx, _⟩ => by cases hx
 | x :: ks, h => by
  refine ((h x (by simp)).or (Cov.some ks fun y hy => h y (List.mem_cons_of_mem _ hy))).mono (fun q hq => ?_) (by simp)
  obtain ⟨y, hy, hq⟩ := hq
  rcases List.mem_cons.1 hy with rfl | hy
  ·exact Or.inl hq
  ·exact Or.inr ⟨y, hy, hq⟩
def timesN (mn mx : Int) : Nat := if mx = -1 then (mn + 1).toNat else mx.toNat
def wgF (t : T) (xs : List (T × Nat)) : Nat := match t with
 | .mk k _ _ _ _ _ _ mn mx _ _ => if k = 4 then 1 + timesN mn mx * (xs.map Prod.snd).sum else 1 + (xs.map Prod.snd).sum
def wgT : T → Nat := T.para wgF
theorem wgT_mk (k u0 u1 u2 u3 : Int) (p : Option Addr) (cap : Nat) (mn mx : Int) (tx : ByteArray) (ks : List T) : wgT (.mk k u0 u1 u2 u3 p cap mn mx tx ks) = if k = 4 then 1 + timesN mn mx * (ks.map wgT).sum else 1 + (ks.map wgT).sum := by
 show T.para wgF _ = _
 rw [T.para_mk]
 simp only [wgF, List.map_map]
 rfl
def dpF (_ : T) (xs : List (T × Nat)) : Nat := 1 + (xs.map Prod.snd).foldr max 0
def dpT : T → Nat := T.para dpF
theorem dpT_mk (k u0 u1 u2 u3 : Int) (p : Option Addr) (cap : Nat) (mn mx : Int) (tx : ByteArray) (ks : List T) : dpT (.mk k u0 u1 u2 u3 p cap mn mx tx ks) = 1 + (ks.map dpT).foldr max 0 := by
 show T.para dpF _ = _
 rw [T.para_mk]
 simp only [dpF, List.map_map]
 rfl
theorem le_foldr {l : List Nat} {x : Nat} (h : x ∈ l) : x ≤ l.foldr max 0 := by
 induction l with
 | nil => cases h
 | cons y l ih =>
  rw [List.foldr_cons]
  rcases List.mem_cons.1 h with rfl | h
  ·omega
  ·have := ih h; omega
theorem dp_kid {k u0 u1 u2 u3 : Int} {p : Option Addr} {cap : Nat} {mn mx : Int} {tx : ByteArray} {ks : List T} {x : T} (hx : x ∈ ks) : dpT x + 1 ≤ dpT (.mk k u0 u1 u2 u3 p cap mn mx tx ks) := by
 rw [dpT_mk]
 have := le_foldr (List.mem_map.2 ⟨x, hx, rfl⟩ : dpT x ∈ ks.map dpT)
 omega
theorem dp_pos (t : T) : 1 ≤ dpT t := by
 cases t with
 | mk => rw [dpT_mk]; omega
theorem wg_pos (t : T) : 1 ≤ wgT t := by
 cases t with
 | mk => rw [wgT_mk]; split <;> omega
theorem sum_le {α : Type} (f g : α → Nat) : ∀ l : List α, (∀ x ∈ l, f x ≤ g x) → (l.map f).sum ≤ (l.map g).sum
 | [], _ => Nat.le_refl _
 | x :: l, h => by
  have := sum_le f g l fun y hy => h y (List.mem_cons_of_mem _ hy)
  have := h x (by simp)
  rw [List.map_cons, List.map_cons, List.sum_cons, List.sum_cons]
  omega
theorem starts_few : ∀ y : T, T.All okd y → (startsT y).length ≤ wgT y := by
 refine T.ind fun k u0 u1 u2 u3 p cap mn mx tx ks ih => ?_
 intro h
 have hk : ∀ x ∈ ks, T.All okd x := okd_kids h
 rw [startsT_mk, wgT_mk]
 by_cases h0 : k = 0
 ·rw [if_pos h0]; simp
 ·rw [if_neg h0]
  by_cases h3 : k = 3
  ·rw [if_pos h3, if_neg (by omega), List.length_flatMap]
   have := sum_le (fun x => (startsT x).length) wgT ks fun x hx => ih x hx (hk x hx)
   omega
  ·rw [if_neg h3]
   by_cases h2 : k = 2
   ·rw [if_pos h2, if_neg (by omega)]
    match ks, ih, hk with
    | [], _, _ => simp
    | [x], ih, hk => have := ih x (by simp) (hk x (by simp)); simp; omega
    | x :: y :: l, _, _ => simp
   ·rw [if_neg h2]
    split <;> simp
theorem v1_two (l : List T) : Cov (v1 l) 2 := ⟨[l, partsT (catOf l)], Nat.le_refl _, fun q hq => by rcases hq with rfl | rfl <;> simp⟩
theorem v1_nil : Cov (v1 []) 1 := ⟨[[]], Nat.le_refl _, fun q hq => by rcases hq with rfl | rfl <;> simp [catOf, partsT, kindT, kidsT]⟩
theorem lf_zero {ks : List T} {mn : Int} {mx : Int} (hm : mx = 0) {r : T} (h : Lf ks mn mx r) : r = nodeT 2 [] := by
 induction h with
 | here mn mx => subst hm; rfl
 | next mn mx r h ih => exact ih (by unfold decT; split <;> omega)
theorem lf_up {ks : List T} : ∀ (n : Nat) (mn mx : Int), mx = (n : Int) + 1 → Cov (Lf ks mn mx) (n + 1)
 | 0, mn, mx, e => by
  refine (Cov.one (nodeT 2 [])).mono (fun r h => ?_) (Nat.le_refl _)
  cases h with
  | here => subst e; rfl
  | next _ _ _ h => exact lf_zero (by unfold decT; split <;> omega) h
 | n + 1, mn, mx, e => by
  refine ((Cov.one (leftT mn mx ks)).or (lf_up (ks := ks) n (decT mn) (decT mx) (by unfold decT; split <;> omega))).mono (fun r h => ?_) (by omega)
  cases h with
  | here => exact Or.inl rfl
  | next _ _ _ h => exact Or.inr h
theorem lf_free {ks : List T} : ∀ (n : Nat) (mn : Int), mn = (n : Int) → Cov (Lf ks mn (-1)) (n + 1)
 | 0, mn, e => by
  have key : ∀ {a b : Int} {r : T}, Lf ks a b r → a = 0 → b = -1 → r = leftT 0 (-1) ks := by
   intro a b r h
   induction h with
   | here mn mx => rintro rfl rfl; rfl
   | next mn mx r h ih => exact fun e1 e2 => ih (by unfold decT; split <;> omega) (by unfold decT; split <;> omega)
  exact (Cov.one (leftT 0 (-1) ks)).mono (fun r h => key h e rfl) (Nat.le_refl _)
 | n + 1, mn, e => by
  refine ((Cov.one (leftT mn (-1) ks)).or (lf_free (ks := ks) n (decT mn) (by unfold decT; split <;> omega))).mono (fun r h => ?_) (by omega)
  cases h with
  | here => exact Or.inl rfl
  | next _ _ _ h => exact Or.inr h
theorem lf_few {ks : List T} {mn mx : Int} (h1 : 0 ≤ mn) (h2 : mx = -1 ∨ (1 ≤ mx ∧ mn ≤ mx)) : Cov (Lf ks mn mx) (timesN mn mx) := by
 unfold timesN
 rcases h2 with rfl | ⟨h2, -⟩
 ·rw [if_pos rfl]
  exact (lf_free mn.toNat mn (by omega)).mono (fun _ h => h) (by omega)
 ·rw [if_neg (by omega)]
  exact (lf_up (mx.toNat - 1) mn mx (by omega)).mono (fun _ h => h) (by omega)
theorem catQ_few {D : Nat} (hD : 1 ≤ D) : ∀ ks : List T, (∀ x ∈ ks, T.All okd x) → (∀ x ∈ ks, Cov (Qi x) (wgT x * 2 ^ (D - 1))) → Cov (catQ (qs ks)) ((ks.map wgT).sum * 2 ^ D)
 | [], _, _ => (Cov.no fun q h => h).mono (fun _ h => h) (by omega)
 | [x], _, h => by
  have e : 2 ^ D = 2 * 2 ^ (D - 1) := by rw [← Nat.pow_succ']; congr 1; omega
  refine ((h x (by simp)).both (fun p r : List T => p ++ r) v1_nil).mono (fun q hq => ?_) ?_
  ·rcases hq with ⟨p, r, hp, hr, e⟩ | ⟨y, e, -⟩ | hq
   ·exact ⟨p, r, hp, hr, e⟩
   ·cases e
   ·exact hq.elim
  ·rw [Nat.mul_one, List.map_cons, List.map_nil, List.sum_cons, List.sum_nil, Nat.add_zero]
   exact Nat.mul_le_mul_left _ (by omega)
 | [x, y], hk, h => by
  have e : 2 ^ D = 2 * 2 ^ (D - 1) := by rw [← Nat.pow_succ']; congr 1; omega
  have hp : 1 ≤ 2 ^ (D - 1) := Nat.one_le_two_pow
  have c1 := (h x (by simp)).both (fun p r : List T => p ++ r) (v1_two [y])
  have c2 := (Cov.list (startsT y)).mono (fun _ h => h) (starts_few y (hk y (by simp)))
  have c3 := (h y (by simp)).both (fun p r : List T => p ++ r) v1_nil
  refine (c1.or (c2.or c3)).mono (fun q hq => ?_) ?_
  ·rcases hq with ⟨p, r, hp, hr, e⟩ | ⟨z, e, hq⟩ | hq
   ·exact Or.inl ⟨p, r, hp, hr, e⟩
   ·injection e with e
    subst e
    exact Or.inr (Or.inl hq)
   ·rcases hq with ⟨p, r, hp, hr, e⟩ | ⟨z, e, -⟩ | hq
    ·exact Or.inr (Or.inr ⟨p, r, hp, hr, e⟩)
    ·cases e
    ·exact hq.elim
  ·rw [List.map_cons, List.map_cons, List.map_nil, List.sum_cons, List.sum_cons, List.sum_nil, Nat.add_zero, Nat.add_mul, e, Nat.mul_one]
   have h1 : wgT x * 2 ^ (D - 1) * 2 = wgT x * (2 * 2 ^ (D - 1)) := by rw [Nat.mul_assoc, Nat.mul_comm (2 ^ (D - 1))]
   have h2 : wgT y + wgT y * 2 ^ (D - 1) ≤ wgT y * (2 * 2 ^ (D - 1)) := by
    have : wgT y * 1 ≤ wgT y * 2 ^ (D - 1) := Nat.mul_le_mul_left _ hp
    rw [Nat.two_mul, Nat.mul_add]
    omega
   omega
 | x :: y :: z :: l, hk, h => by
  have e : 2 ^ D = 2 * 2 ^ (D - 1) := by rw [← Nat.pow_succ']; congr 1; omega
  have c1 := (h x (by simp)).both (fun p r : List T => p ++ r) (v1_two (y :: z :: l))
  have c2 := catQ_few hD (y :: z :: l) (fun w hw => hk w (List.mem_cons_of_mem _ hw)) fun w hw => h w (List.mem_cons_of_mem _ hw)
  refine (c1.or c2).mono (fun q hq => ?_) ?_
  ·rcases hq with ⟨p, r, hp, hr, e⟩ | ⟨w, e, -⟩ | hq
   ·rw [qs_fst] at hr
    exact Or.inl ⟨p, r, hp, hr, e⟩
   ·cases e
   ·exact Or.inr hq
  ·have e3 : ((x :: y :: z :: l).map wgT).sum = wgT x + ((y :: z :: l).map wgT).sum := by rw [List.map_cons, List.sum_cons]
   rw [e3, Nat.add_mul]
   have h1 : wgT x * 2 ^ (D - 1) * 2 = wgT x * 2 ^ D := by rw [e, Nat.mul_assoc, Nat.mul_comm (2 ^ (D - 1))]
   omega
theorem inner_few {t : T} (h : T.All okd t) : Cov (Qi t) (wgT t * 2 ^ (dpT t - 1)) := by
 induction h with
 | @mk k u0 u1 u2 u3 p cap mn mx tx ks ho hks ih =>
  have hD : ∀ x ∈ ks, dpT x - 1 ≤ dpT (.mk k u0 u1 u2 u3 p cap mn mx tx ks) - 1 - 1 := fun x hx => by have := dp_kid (k := k) (u0 := u0) (u1 := u1) (u2 := u2) (u3 := u3) (p := p) (cap := cap) (mn := mn) (mx := mx) (tx := tx) hx; omega
  have hd1 : ∀ x ∈ ks, 1 ≤ dpT (.mk k u0 u1 u2 u3 p cap mn mx tx ks) - 1 := fun x hx => by
   have := dp_kid (k := k) (u0 := u0) (u1 := u1) (u2 := u2) (u3 := u3) (p := p) (cap := cap) (mn := mn) (mx := mx) (tx := tx) hx
   have := dp_pos x
   omega
  have hw := wgT_mk k u0 u1 u2 u3 p cap mn mx tx ks
  have hq := Qi_mk k u0 u1 u2 u3 p cap mn mx tx ks
  generalize dpT (.mk k u0 u1 u2 u3 p cap mn mx tx ks) - 1 = D at *
  generalize wgT (.mk k u0 u1 u2 u3 p cap mn mx tx ks) = W at *
  have hkid : ∀ x ∈ ks, Cov (Qi x) (wgT x * 2 ^ (D - 1)) := fun x hx => (ih x hx).mono (fun _ h => h) (Nat.mul_le_mul_left _ (Nat.pow_le_pow_right (by decide) (hD x hx)))
  have hup : 2 ^ (D - 1) ≤ 2 ^ D := Nat.pow_le_pow_right (by decide) (by omega)
  rcases ho with ⟨rfl, rfl⟩ | rfl | rfl | rfl | ⟨rfl, h1, h2, h3⟩ | rfl
  ·exact (Cov.no fun q h => by rw [hq, if_neg (by decide), if_neg (by decide), if_neg (by decide), if_neg (by decide)] at h; exact h).mono (fun _ h => h) (by omega)
  ·refine (Cov.one []).mono (fun q h => by rw [hq, if_pos rfl] at h; exact h) ?_
   rw [if_neg (by decide)] at hw
   have : 1 * 1 ≤ W * 2 ^ D := Nat.mul_le_mul (by omega) Nat.one_le_two_pow
   omega
  ·rw [if_neg (by decide)] at hw
   by_cases hn : ks = []
   ·subst hn
    exact (Cov.no fun q h => by rw [hq, if_neg (by decide), if_pos rfl] at h; exact h).mono (fun _ h => h) (by omega)
   ·obtain ⟨x, hx⟩ := List.exists_mem_of_ne_nil ks hn
    refine (catQ_few (hd1 x hx) ks hks hkid).mono (fun q h => by rw [hq, if_neg (by decide), if_pos rfl] at h; exact h) ?_
    exact Nat.mul_le_mul_right _ (by omega)
  ·rw [if_neg (by decide)] at hw
   refine (Cov.some ks hkid).mono (fun q h => by rw [hq, if_neg (by decide), if_neg (by decide), if_pos rfl] at h; exact h) ?_
   have e : (ks.map fun x => wgT x * 2 ^ (D - 1)).sum = (ks.map wgT).sum * 2 ^ (D - 1) := by
    clear hq hw hkid hD hd1 ih hks
    induction ks with
    | nil => simp
    | cons x ks ih => rw [List.map_cons, List.map_cons, List.sum_cons, List.sum_cons, ih, Nat.add_mul]
   rw [e]
   exact Nat.mul_le_mul (by omega) hup
  ·obtain ⟨y, rfl⟩ := List.length_eq_one_iff.1 h1
   rw [if_pos rfl, List.map_cons, List.map_nil, List.sum_cons, List.sum_nil, Nat.add_zero] at hw
   refine ((hkid y (by simp)).both (fun (p : List T) (r : T) => p ++ partsT r) (lf_few (ks := [y]) h2 h3)).mono (fun q h => ?_) ?_
   ·rw [hq, if_neg (by decide), if_neg (by decide), if_neg (by decide), if_pos rfl] at h
    obtain ⟨x, hx, p', r, h⟩ := h
    rw [List.mem_singleton] at hx
    exact ⟨p', r, hx ▸ h⟩
   ·have e : wgT y * 2 ^ (D - 1) * timesN mn mx = timesN mn mx * wgT y * 2 ^ (D - 1) := by rw [Nat.mul_comm, Nat.mul_assoc]
    rw [e]
    exact Nat.mul_le_mul (by omega) hup
  ·exact (Cov.no fun q h => by rw [hq, if_neg (by decide), if_neg (by decide), if_neg (by decide), if_neg (by decide)] at h; exact h).mono (fun _ h => h) (by omega)
end Go.Proofs.YtobbifhflnlplaaDoor
namespace Go.Proofs.YtobbifhflnlplaaDoor
open Go.Tree7
open S7
theorem vo_other {l r : List T} (h : Vo l r) (hl : l.length ≠ 1) : r = l := by
 cases h with
 | here => rfl
 | more y r h2 hr => exact absurd rfl hl
theorem vo_few : ∀ y : T, Cov (Vo [y]) (1 + dpT y) := by
 refine T.ind fun k u0 u1 u2 u3 p cap mn mx tx ks ih => ?_
 have hd := dpT_mk k u0 u1 u2 u3 p cap mn mx tx ks
 have c : ∃ n, n ≤ dpT (.mk k u0 u1 u2 u3 p cap mn mx tx ks) ∧ Cov (Vo ks) n := by
  match ks, ih, hd with
  | [], _, hd => exact ⟨1, by omega, (Cov.one []).mono (fun r h => vo_other h (by simp)) (Nat.le_refl _)⟩
  | [x], ih, hd =>
   rw [List.map_cons, List.map_nil, List.foldr_cons, List.foldr_nil] at hd
   exact ⟨1 + dpT x, by omega, ih x (by simp)⟩
  | x :: z :: l, _, hd => exact ⟨1, by omega, (Cov.one (x :: z :: l)).mono (fun r h => vo_other h (by simp)) (Nat.le_refl _)⟩
 obtain ⟨n, hn, c⟩ := c
 refine ((Cov.one [.mk k u0 u1 u2 u3 p cap mn mx tx ks]).or c).mono (fun r h => ?_) (by omega)
 cases h with
 | here => exact Or.inl rfl
 | more _ _ h2 hr => exact Or.inr hr
theorem catO_few {D K : Nat} (hD : 1 ≤ D) (hK : D + 1 ≤ K) : ∀ ks : List T, (∀ x ∈ ks, T.All okd x) → (∀ x ∈ ks, dpT x ≤ D) → (∀ x ∈ ks, Cov (Qi x) (wgT x * 2 ^ (D - 1))) → (∀ x ∈ ks, Cov (Qo x) (K * wgT x * 2 ^ (D - 1))) →
  Cov (catO (qos ks)) (K * (ks.map wgT).sum * 2 ^ D)
 | [], _, _, _, _ => (Cov.no fun q h => h).mono (fun _ h => h) (by omega)
 | [x], _, _, _, ho => by
  refine (ho x (by simp)).mono (fun q hq => ?_) ?_
  ·rcases hq with ⟨p, r, hn, -, hr, -⟩ | ⟨-, hq⟩ | ⟨y, e, -⟩ | hq
   ·exact absurd (vo_other hr (by simp)) hn
   ·exact hq
   ·cases e
   ·exact hq.elim
  ·rw [List.map_cons, List.map_nil, List.sum_cons, List.sum_nil, Nat.add_zero]
   exact Nat.mul_le_mul_left _ (Nat.pow_le_pow_right (by decide) (by omega))
 | [x, y], hk, hd, hi, ho => by
  have e : 2 ^ D = 2 * 2 ^ (D - 1) := by rw [← Nat.pow_succ']; congr 1; omega
  have hp : 1 ≤ 2 ^ (D - 1) := Nat.one_le_two_pow
  have c1 := (hi x (by simp)).both (fun p r : List T => p ++ r) (vo_few y)
  have c2 := ho x (by simp)
  have c3 := (Cov.list (startsT y)).mono (fun _ h => h) (starts_few y (hk y (by simp)))
  have c4 := ho y (by simp)
  refine (c1.or (c2.or (c3.or c4))).mono (fun q hq => ?_) ?_
  ·rcases hq with ⟨p, r, -, hp, hr, e⟩ | ⟨-, hq⟩ | ⟨z, e, hq⟩ | hq
   ·exact Or.inl ⟨p, r, hp, hr, e⟩
   ·exact Or.inr (Or.inl hq)
   ·injection e with e
    subst e
    exact Or.inr (Or.inr (Or.inl hq))
   ·rcases hq with ⟨p, r, hn, -, hr, -⟩ | ⟨-, hq⟩ | ⟨z, e, -⟩ | hq
    ·exact absurd (vo_other hr (by simp)) hn
    ·exact Or.inr (Or.inr (Or.inr hq))
    ·cases e
    ·exact hq.elim
  ·have e3 : ([x, y].map wgT).sum = wgT x + wgT y := by simp
   have hdy := hd y (by simp)
   rw [e3, e]
   generalize 2 ^ (D - 1) = B at hp ⊢
   have h1 : wgT x * B * (1 + dpT y) ≤ wgT x * B * K := Nat.mul_le_mul_left _ (by omega)
   have h2 : wgT x * B * K = K * wgT x * B := by rw [Nat.mul_comm (wgT x * B), Nat.mul_assoc]
   have h3 : wgT y ≤ K * wgT y * B := by
    have := Nat.mul_le_mul (Nat.mul_le_mul (show 1 ≤ K by omega) (Nat.le_refl (wgT y))) hp
    omega
   have h4 : K * (wgT x + wgT y) * (2 * B) = 2 * (K * wgT x * B) + 2 * (K * wgT y * B) := by
    rw [Nat.mul_add, Nat.add_mul, Nat.mul_left_comm _ 2 B, Nat.mul_left_comm _ 2 B]
   omega
 | x :: y :: z :: l, hk, hd, hi, ho => by
  have e : 2 ^ D = 2 * 2 ^ (D - 1) := by rw [← Nat.pow_succ']; congr 1; omega
  have c1 := (hi x (by simp)).both (fun p r : List T => p ++ r) (Cov.one (y :: z :: l))
  have c2 := ho x (by simp)
  have c3 := catO_few hD hK (y :: z :: l) (fun w hw => hk w (List.mem_cons_of_mem _ hw)) (fun w hw => hd w (List.mem_cons_of_mem _ hw)) (fun w hw => hi w (List.mem_cons_of_mem _ hw)) fun w hw => ho w (List.mem_cons_of_mem _ hw)
  refine (c1.or (c2.or c3)).mono (fun q hq => ?_) ?_
  ·rcases hq with ⟨p, r, -, hp, hr, e⟩ | ⟨-, hq⟩ | ⟨w, e, -⟩ | hq
   ·rw [qos_fst] at hr
    exact Or.inl ⟨p, r, hp, vo_other hr (by simp), e⟩
   ·exact Or.inr (Or.inl hq)
   ·cases e
   ·exact Or.inr (Or.inr hq)
  ·have e3 : ((x :: y :: z :: l).map wgT).sum = wgT x + ((y :: z :: l).map wgT).sum := by rw [List.map_cons, List.sum_cons]
   rw [e3, e]
   generalize 2 ^ (D - 1) = B
   generalize ((y :: z :: l).map wgT).sum = S
   have h1 : wgT x * B * 1 ≤ wgT x * B * K := Nat.mul_le_mul_left _ (by omega)
   have h2 : wgT x * B * K = K * wgT x * B := by rw [Nat.mul_comm (wgT x * B), Nat.mul_assoc]
   have h4 : K * (wgT x + S) * (2 * B) = 2 * (K * wgT x * B) + K * S * (2 * B) := by
    rw [Nat.mul_add, Nat.add_mul, Nat.mul_left_comm _ 2 B]
   omega
theorem outer_few {K : Nat} {t : T} (h : T.All okd t) : dpT t ≤ K → Cov (Qo t) (K * wgT t * 2 ^ (dpT t - 1)) := by
 induction h with
 | @mk k u0 u1 u2 u3 p cap mn mx tx ks ho hks ih =>
  intro hK
  have hkd : ∀ x ∈ ks, dpT x + 1 ≤ dpT (.mk k u0 u1 u2 u3 p cap mn mx tx ks) := fun x hx => dp_kid hx
  have hw := wgT_mk k u0 u1 u2 u3 p cap mn mx tx ks
  have hq := Qo_mk k u0 u1 u2 u3 p cap mn mx tx ks
  have hpos := dp_pos (.mk k u0 u1 u2 u3 p cap mn mx tx ks)
  obtain ⟨D, hD⟩ : ∃ D, dpT (.mk k u0 u1 u2 u3 p cap mn mx tx ks) = D + 1 := ⟨_, (Nat.succ_pred_eq_of_pos hpos).symm⟩
  rw [hD] at hkd hK ⊢
  rw [Nat.add_sub_cancel]
  generalize wgT (.mk k u0 u1 u2 u3 p cap mn mx tx ks) = W at *
  have hki : ∀ x ∈ ks, Cov (Qi x) (wgT x * 2 ^ (D - 1)) := fun x hx => (inner_few (hks x hx)).mono (fun _ h => h) (Nat.mul_le_mul_left _ (Nat.pow_le_pow_right (by decide) (by have := hkd x hx; omega)))
  have hko : ∀ x ∈ ks, Cov (Qo x) (K * wgT x * 2 ^ (D - 1)) := fun x hx => (ih x hx (by have := hkd x hx; omega)).mono (fun _ h => h) (Nat.mul_le_mul_left _ (Nat.pow_le_pow_right (by decide) (by have := hkd x hx; omega)))
  have hd1 : ∀ x ∈ ks, 1 ≤ D := fun x hx => by have := hkd x hx; have := dp_pos x; omega
  have hup : 2 ^ (D - 1) ≤ 2 ^ D := Nat.pow_le_pow_right (by decide) (by omega)
  rcases ho with ⟨rfl, rfl⟩ | rfl | rfl | rfl | ⟨rfl, h1, h2, h3⟩ | rfl
  ·exact (Cov.no fun q h => by rw [hq, if_neg (by decide), if_neg (by decide), if_neg (by decide), if_neg (by decide)] at h; exact h).mono (fun _ h => h) (by omega)
  ·refine (Cov.one []).mono (fun q h => by rw [hq, if_pos rfl] at h; exact h) ?_
   rw [if_neg (by decide)] at hw
   have := Nat.mul_le_mul (Nat.mul_le_mul (show 1 ≤ K by omega) (show 1 ≤ W by omega)) (show 1 ≤ 2 ^ D from Nat.one_le_two_pow)
   omega
  ·rw [if_neg (by decide)] at hw
   by_cases hn : ks = []
   ·subst hn
    exact (Cov.no fun q h => by rw [hq, if_neg (by decide), if_pos rfl] at h; exact h).mono (fun _ h => h) (by omega)
   ·obtain ⟨x, hx⟩ := List.exists_mem_of_ne_nil ks hn
    refine (catO_few (hd1 x hx) hK ks hks (fun x hx => by have := hkd x hx; omega) hki hko).mono (fun q h => by rw [hq, if_neg (by decide), if_pos rfl] at h; exact h) ?_
    exact Nat.mul_le_mul_right _ (Nat.mul_le_mul_left _ (by omega))
  ·rw [if_neg (by decide)] at hw
   refine (Cov.some ks hko).mono (fun q h => by rw [hq, if_neg (by decide), if_neg (by decide), if_pos rfl] at h; exact h) ?_
   have e : (ks.map fun x => K * wgT x * 2 ^ (D - 1)).sum = K * (ks.map wgT).sum * 2 ^ (D - 1) := by
    clear hq hw hki hko hkd hd1 ih hks hpos hD
    induction ks with
    | nil => simp
    | cons x ks ih => rw [List.map_cons, List.map_cons, List.sum_cons, List.sum_cons, ih, Nat.mul_add, Nat.add_mul]
   rw [e]
   exact Nat.mul_le_mul (Nat.mul_le_mul_left _ (by omega)) hup
  ·obtain ⟨y, rfl⟩ := List.length_eq_one_iff.1 h1
   rw [if_pos rfl, List.map_cons, List.map_nil, List.sum_cons, List.sum_nil, Nat.add_zero] at hw
   have hJ : 1 ≤ timesN mn mx := by unfold timesN; split <;> omega
   have e : 2 ^ D = 2 * 2 ^ (D - 1) := by rw [← Nat.pow_succ']; congr 1; have := hd1 y (by simp); omega
   refine (((hki y (by simp)).both (fun (p : List T) (r : T) => p ++ partsT r) (lf_few (ks := [y]) h2 h3)).or (hko y (by simp))).mono (fun q h => ?_) ?_
   ·rw [rep_qo] at h
    obtain ⟨r, hr, ⟨-, p', hp, e1⟩ | ⟨-, hq0⟩⟩ := h
    ·exact Or.inl ⟨p', r, hp, hr, e1⟩
    ·exact Or.inr hq0
   ·rw [e]
    generalize 2 ^ (D - 1) = B
    generalize timesN mn mx = J at *
    have h5 : wgT y * B * J ≤ K * (J * wgT y) * B := by
     have : wgT y * B * J = J * wgT y * B := by rw [Nat.mul_comm, Nat.mul_assoc]
     rw [this, Nat.mul_assoc K]
     exact Nat.le_mul_of_pos_left _ (by omega)
    have h6 : K * wgT y * B ≤ K * (J * wgT y) * B := Nat.mul_le_mul_right _ (Nat.mul_le_mul_left _ (Nat.le_mul_of_pos_left _ (by omega)))
    have h7 : K * (J * wgT y) * B ≤ K * W * B := Nat.mul_le_mul_right _ (Nat.mul_le_mul_left _ (by omega))
    have h8 : K * W * (2 * B) = 2 * (K * W * B) := Nat.mul_left_comm _ _ _
    omega
  ·exact (Cov.no fun q h => by rw [hq, if_neg (by decide), if_neg (by decide), if_neg (by decide), if_neg (by decide)] at h; exact h).mono (fun _ h => h) (by omega)
end Go.Proofs.YtobbifhflnlplaaDoor
namespace Go.Proofs.YtobbifhflnlplaaDoor
open Go.Tree7
open S7
def subF (t : T) (xs : List (T × (T → Prop))) : T → Prop := fun w => w = t ∨ (∃ x ∈ xs, x.2 w) ∨ match t with | .mk k _ _ _ _ _ _ mn mx _ ks => k = 4 ∧ Lf ks mn mx w
def SubP : T → T → Prop := T.para subF
theorem SubP_mk (k u0 u1 u2 u3 : Int) (p : Option Addr) (cap : Nat) (mn mx : Int) (tx : ByteArray) (ks : List T) (w : T) : SubP (.mk k u0 u1 u2 u3 p cap mn mx tx ks) w = (w = .mk k u0 u1 u2 u3 p cap mn mx tx ks ∨ (∃ x ∈ ks, SubP x w) ∨ (k = 4 ∧ Lf ks mn mx w)) := by
 show T.para subF _ w = _
 rw [T.para_mk]
 have e : (∃ x, x ∈ (ks.map fun t => (t, T.para subF t)) ∧ x.2 w) = ∃ x, x ∈ ks ∧ SubP x w := propext ⟨fun ⟨x, h1, h2⟩ => by
  obtain ⟨a, ha, rfl⟩ := List.mem_map.1 h1
  exact ⟨a, ha, h2⟩, fun ⟨x, h1, h2⟩ => ⟨_, List.mem_map.2 ⟨x, h1, rfl⟩, h2⟩⟩
 simp only [subF, e]
theorem sub_self (t : T) : SubP t t := by
 cases t with
 | mk => rw [SubP_mk]; exact Or.inl rfl
theorem sub_kid {k u0 u1 u2 u3 : Int} {p : Option Addr} {cap : Nat} {mn mx : Int} {tx : ByteArray} {ks : List T} {x w : T} (hx : x ∈ ks) (h : SubP x w) : SubP (.mk k u0 u1 u2 u3 p cap mn mx tx ks) w := by
 rw [SubP_mk]; exact Or.inr (Or.inl ⟨x, hx, h⟩)
theorem starts_within : ∀ (y : T), ∀ q ∈ startsT y, ∀ w ∈ q, SubP y w := by
 refine T.ind fun k u0 u1 u2 u3 p cap mn mx tx ks ih => ?_
 intro q hq w hw
 rw [startsT_mk] at hq
 by_cases h0 : k = 0
 ·rw [if_pos h0] at hq; cases hq
 ·rw [if_neg h0] at hq
  by_cases h3 : k = 3
  ·rw [if_pos h3] at hq
   obtain ⟨x, hx, hq⟩ := List.mem_flatMap.1 hq
   exact sub_kid hx (ih x hx q hq w hw)
  ·rw [if_neg h3] at hq
   by_cases h2 : k = 2
   ·rw [if_pos h2] at hq
    rcases List.mem_cons.1 hq with rfl | hq
    ·exact sub_kid hw (sub_self w)
    ·match ks, ih, hq with
     | [x], ih, hq => exact sub_kid (List.mem_singleton.2 rfl) (ih x (by simp) q hq w hw)
   ·rw [if_neg h2, List.mem_singleton] at hq
    subst hq
    rw [List.mem_singleton] at hw
    rw [hw]
    exact sub_self _
theorem vo_within {l r : List T} (h : Vo l r) : ∀ w ∈ r, ∃ y ∈ l, SubP y w := by
 intro w hw
 rcases vo_starts h with rfl | ⟨y, rfl, hr⟩
 ·exact ⟨w, hw, sub_self w⟩
 ·exact ⟨y, List.mem_singleton.2 rfl, starts_within y r hr w hw⟩
theorem lf_parts {ks : List T} {mn mx : Int} {r w : T} (h : Lf ks mn mx r) (hw : w ∈ partsT r) : w = r := by
 rcases lf_shape h with rfl | ⟨mn', mx', e, -⟩
 ·cases hw
 ·have e3 : partsT r = [r] := by subst e; rfl
  rw [e3] at hw
  exact List.mem_singleton.1 hw
theorem inner_within : ∀ (t : T) (q : List T), Qi t q → ∀ w ∈ q, SubP t w := by
 refine T.ind fun k u0 u1 u2 u3 p cap mn mx tx ks ih => ?_
 intro q hq w hw
 rw [Qi_mk] at hq
 by_cases h1 : k = 1
 ·rw [if_pos h1] at hq; rw [hq] at hw; cases hw
 ·rw [if_neg h1] at hq
  by_cases h2 : k = 2
  ·rw [if_pos h2] at hq
   rcases catQ_of hq with ⟨u, z, d, p', r, e, hp, hr, e1⟩ | ⟨u, z, y, e, hs⟩
   ·rw [e1] at hw
    rcases List.mem_append.1 hw with hw | hw
    ·exact sub_kid (by rw [e]; simp) (ih z (by rw [e]; simp) p' hp w hw)
    ·obtain ⟨y, hy, hw⟩ := vo_within (vo_v1 hr) w hw
     exact sub_kid (by rw [e]; simp [hy]) hw
   ·exact sub_kid (by rw [e]; simp) (starts_within y q hs w hw)
  ·rw [if_neg h2] at hq
   by_cases h3 : k = 3
   ·rw [if_pos h3] at hq
    obtain ⟨x, hx, hq⟩ := hq
    exact sub_kid hx (ih x hx q hq w hw)
   ·rw [if_neg h3] at hq
    by_cases h4 : k = 4
    ·rw [if_pos h4] at hq
     obtain ⟨x, hx, p', r, hp, hr, e⟩ := hq
     rw [e] at hw
     rcases List.mem_append.1 hw with hw | hw
     ·exact sub_kid hx (ih x hx p' hp w hw)
     ·rw [lf_parts hr hw, SubP_mk]
      exact Or.inr (Or.inr ⟨h4, hr⟩)
    ·rw [if_neg h4] at hq; exact hq.elim
theorem outer_within : ∀ (t : T) (q : List T), Qo t q → ∀ w ∈ q, SubP t w := by
 refine T.ind fun k u0 u1 u2 u3 p cap mn mx tx ks ih => ?_
 intro q hq w hw
 rw [Qo_mk] at hq
 by_cases h1 : k = 1
 ·rw [if_pos h1] at hq; rw [hq] at hw; cases hw
 ·rw [if_neg h1] at hq
  by_cases h2 : k = 2
  ·rw [if_pos h2] at hq
   rcases catO_of hq with ⟨u, z, d, p', r, e, -, hp, hr, e1⟩ | ⟨u, z, d, e, -, hq⟩ | ⟨u, z, y, e, hs⟩
   ·rw [e1] at hw
    rcases List.mem_append.1 hw with hw | hw
    ·exact sub_kid (by rw [e]; simp) (inner_within z p' hp w hw)
    ·obtain ⟨y, hy, hw⟩ := vo_within hr w hw
     exact sub_kid (by rw [e]; simp [hy]) hw
   ·exact sub_kid (by rw [e]; simp) (ih z (by rw [e]; simp) q hq w hw)
   ·exact sub_kid (by rw [e]; simp) (starts_within y q hs w hw)
  ·rw [if_neg h2] at hq
   by_cases h3 : k = 3
   ·rw [if_pos h3] at hq
    obtain ⟨x, hx, hq⟩ := hq
    exact sub_kid hx (ih x hx q hq w hw)
   ·rw [if_neg h3] at hq
    by_cases h4 : k = 4
    ·rw [if_pos h4] at hq
     obtain ⟨x, hx, r, hr, ⟨-, p', hp, e⟩ | ⟨-, hq⟩⟩ := hq
     ·rw [e] at hw
      rcases List.mem_append.1 hw with hw | hw
      ·exact sub_kid hx (inner_within x p' hp w hw)
      ·rw [lf_parts hr hw, SubP_mk]
       exact Or.inr (Or.inr ⟨h4, hr⟩)
     ·exact sub_kid hx (ih x hx q hq w hw)
    ·rw [if_neg h4] at hq; exact hq.elim
theorem sub_few {t : T} (h : T.All okd t) : Cov (SubP t) (2 * wgT t) := by
 induction h with
 | @mk k u0 u1 u2 u3 p cap mn mx tx ks ho hks ih =>
  have hw := wgT_mk k u0 u1 u2 u3 p cap mn mx tx ks
  have c1 := Cov.one (T.mk k u0 u1 u2 u3 p cap mn mx tx ks)
  have c2 := Cov.some ks ih
  have e : (ks.map fun x => 2 * wgT x).sum = 2 * (ks.map wgT).sum := by
   clear hw c1 c2 ih ho hks
   induction ks with
   | nil => rfl
   | cons x ks ih => rw [List.map_cons, List.map_cons, List.sum_cons, List.sum_cons, ih, Nat.mul_add]
  rw [e] at c2
  by_cases h4 : k = 4
  ·rcases ho with ⟨rfl, -⟩ | rfl | rfl | rfl | ⟨rfl, h1, h2, h3⟩ | rfl
   ·cases h4
   ·cases h4
   ·cases h4
   ·cases h4
   ·rw [if_pos rfl] at hw
    obtain ⟨y, rfl⟩ := List.length_eq_one_iff.1 h1
    refine (c1.or (c2.or (lf_few (ks := [y]) h2 h3))).mono (fun w h => by rw [SubP_mk] at h; exact h.imp_right fun h => h.imp_right fun h => h.2) ?_
    rw [hw]
    simp only [List.map_cons, List.map_nil, List.sum_cons, List.sum_nil, Nat.add_zero]
    have hJ : 1 ≤ timesN mn mx := by unfold timesN; split <;> omega
    have hy := wg_pos y
    generalize timesN mn mx = J at *
    generalize wgT y = Y at *
    obtain ⟨j, rfl⟩ : ∃ j, J = j + 1 := ⟨J - 1, by omega⟩
    obtain ⟨v, rfl⟩ : ∃ v, Y = v + 1 := ⟨Y - 1, by omega⟩
    have : (j + 1) * (v + 1) = j * v + j + v + 1 := by rw [Nat.succ_mul, Nat.mul_succ]; omega
    omega
   ·cases h4
  ·rw [if_neg h4] at hw
   refine (c1.or c2).mono (fun w h => by rw [SubP_mk] at h; exact h.imp_right fun h => h.resolve_right fun h => h4 h.1) ?_
   omega
theorem nodup_le {α : Type} : ∀ (l L : List α), l.Nodup → (∀ x ∈ l, x ∈ L) → l.length ≤ L.length
 | [], _, _, _ => Nat.zero_le _
 | x :: l, L, hn, hs => by
  obtain ⟨a, b, rfl⟩ := List.append_of_mem (hs x (by simp))
  rw [List.nodup_cons] at hn
  have := nodup_le l (a ++ b) hn.2 fun y hy => by
   have h := hs y (List.mem_cons_of_mem _ hy)
   rw [List.mem_append, List.mem_cons] at h
   rcases h with h | rfl | h
   ·exact List.mem_append_left _ h
   ·exact absurd hy hn.1
   ·exact List.mem_append_right _ h
  rw [List.length_append] at this
  rw [List.length_append, List.length_cons, List.length_cons]
  omega
def nrm (t : T) : Prop := kindT t = 2 → t = nodeT 2 (kidsT t)
theorem few_branches {K : Nat} {n : T} (hn : T.All okd n) (hd : dpT n ≤ K) (l : List T) (hl : l.Nodup) (hb : ∀ b ∈ l, nrm b ∧ Qo n (partsT b)) : l.length ≤ K * wgT n * 2 ^ (K - 1) + 2 * wgT n := by
 obtain ⟨L, h1, h2⟩ := outer_few hn hd
 obtain ⟨S, h3, h4⟩ := sub_few hn
 have h5 : K * wgT n * 2 ^ (dpT n - 1) ≤ K * wgT n * 2 ^ (K - 1) := Nat.mul_le_mul_left _ (Nat.pow_le_pow_right (by decide) (by omega))
 have h6 := nodup_le l (L.map (nodeT 2) ++ S) hl fun b hbl => by
  obtain ⟨hnr, hq⟩ := hb b hbl
  by_cases h : kindT b = 2
  ·have e : partsT b = kidsT b := by unfold partsT; rw [if_pos h]
   rw [hnr h]
   exact List.mem_append_left _ (List.mem_map.2 ⟨kidsT b, h2 _ (e ▸ hq), rfl⟩)
  ·rw [parts_not h] at hq
   exact List.mem_append_right _ (h4 b (outer_within n [b] hq b (List.mem_singleton.2 rfl)))
 rw [List.length_append, List.length_map] at h6
 omega
theorem few_enough {n : T} (hn : T.All okd n) (hd : dpT n ≤ 24) (hw : wgT n ≤ 4000) (l : List T) (hl : l.Nodup) (hb : ∀ b ∈ l, nrm b ∧ Qo n (partsT b)) : l.length ≤ 805306376000 := by
 have h := few_branches hn hd l hl hb
 have h1 : 24 * wgT n * 2 ^ (24 - 1) ≤ 24 * 4000 * 2 ^ (24 - 1) := Nat.mul_le_mul_right _ (Nat.mul_le_mul_left _ hw)
 have h2 : 24 * 4000 * 2 ^ (24 - 1) = 805306368000 := by decide
 omega
end Go.Proofs.YtobbifhflnlplaaDoor
namespace Go.Proofs.YtobbifhflnlplaaDoor
open Go.Tree7
open S7
theorem nrm_two (l : List T) : nrm (nodeT 2 l) := fun _ => rfl
theorem nrm_other {t : T} (h : kindT t ≠ 2) : nrm t := fun e => absurd e h
abbrev Nrm (t : T) : Prop := T.All nrm t
theorem nrm_none : Nrm noneT := .mk (nrm_other (by decide)) (by simp)
theorem nrm_kids {t : T} (h : Nrm t) : ∀ x ∈ kidsT t, Nrm x := by cases h with | mk _ h => exact h
theorem nrm_parts {t : T} (h : Nrm t) : ∀ x ∈ partsT t, Nrm x := by
 unfold partsT
 split
 ·exact nrm_kids h
 ·intro x hx
  rw [List.mem_singleton] at hx
  exact hx ▸ h
theorem br_nrm : ∀ (t : T), Nrm t → ∀ (l : List T), (∀ x ∈ l, Nrm x) → ∀ x ∈ brD t l, Nrm x := by
 refine T.ind fun k u0 u1 u2 u3 p cap mn mx tx ks ih => ?_
 intro ht l hl
 have hks : ∀ x ∈ ks, Nrm x := nrm_kids ht
 rw [brD_mk]
 split
 ·exact hl
 ·split
  ·next h0 h3 =>
   clear h0 h3 ht
   induction ks generalizing l with
   | nil => exact hl
   | cons y ys ih2 =>
    rw [List.foldl_cons]
    exact ih2 (fun t ht => ih t (List.mem_cons_of_mem _ ht)) _ (ih y (by simp) (hks y (by simp)) l hl) fun x hx => hks x (List.mem_cons_of_mem _ hx)
  ·split
   ·exact hl
   ·intro x hx
    rcases List.mem_append.1 hx with h | h
    ·exact hl x h
    ·rw [List.mem_singleton] at h; exact h ▸ ht
theorem alt_nrm {a b : T} (ha : Nrm a) (hb : Nrm b) : Nrm (altD a b) := by
 have h := br_nrm b hb _ (br_nrm a ha [] (by simp))
 unfold altD
 generalize brD b (brD a []) = l at h ⊢
 match l, h with
 | [], _ => exact nrm_none
 | [x], h => exact h x (by simp)
 | x :: y :: l, h => exact .mk (nrm_other (by show (3 : Int) ≠ 2; decide)) h
theorem catOf_nrm {l : List T} (h : ∀ x ∈ l, Nrm x) : Nrm (catOf l) := by
 match l, h with
 | [], _ => exact .mk (nrm_two []) (by simp)
 | [x], h => exact h x (by simp)
 | x :: y :: l, h => exact .mk (nrm_two _) h
theorem fold_nrm (f : T → T) : ∀ (xs : List T) (o : T), Nrm o → (∀ x ∈ xs, Nrm (f x)) → Nrm (xs.foldl (fun o x => altD o (f x)) o)
 | [], _, h, _ => h
 | x :: xs, _, h, hx => fold_nrm f xs _ (alt_nrm h (hx x (by simp))) fun y hy => hx y (List.mem_cons_of_mem _ hy)
theorem cat_nrm {r : T} (hr : Nrm r) : ∀ a : T, Nrm a → Nrm (catD r a) := by
 refine T.ind fun k u0 u1 u2 u3 p cap mn mx tx ks ih => ?_
 intro ht
 have hks : ∀ x ∈ ks, Nrm x := nrm_kids ht
 rw [catD_mk]
 split
 ·exact nrm_none
 ·split
  ·exact fold_nrm _ ks noneT nrm_none fun x hx => ih x hx (hks x hx)
  ·refine catOf_nrm fun x hx => ?_
   rcases List.mem_append.1 hx with h | h
   ·exact nrm_parts ht x h
   ·exact nrm_parts hr x h
theorem left_nrm {mn mx : Int} {ks : List T} (h : ∀ x ∈ ks, Nrm x) : Nrm (leftT mn mx ks) := by
 unfold leftT
 by_cases h0 : (if mx > 0 then mx - 1 else mx) = 0
 ·rw [if_pos h0]; exact .mk (nrm_two []) (by simp)
 ·rw [if_neg h0]; exact .mk (nrm_other (by show (4 : Int) ≠ 2; decide)) h
theorem seq_nrm (c : Nat) : ∀ (ks : List T) (o : T), Nrm o → (∀ x ∈ ks, Nrm x) → (∀ x ∈ ks, Nrm (offD c x)) → Nrm (seqD (ks.map fun x => (x, offD c x)) o)
 | [], _, h, _, _ => h
 | x :: ks, o, h, hk, hd => by
  have e : (ks.map fun x => (x, offD c x)).map Prod.fst = ks := by rw [List.map_map]; exact List.map_id _
  have h1 := alt_nrm h (cat_nrm (catOf_nrm fun y hy => hk y (List.mem_cons_of_mem _ hy)) (offD c x) (hd x (by simp)))
  rw [List.map_cons, seqD, e]
  split
  ·exact seq_nrm c ks _ h1 (fun y hy => hk y (List.mem_cons_of_mem _ hy)) fun y hy => hd y (List.mem_cons_of_mem _ hy)
  ·exact h1
theorem off_nrm (c : Nat) {t : T} (h : Nrm t) : Nrm (offD c t) := by
 induction h with
 | @mk k u0 u1 u2 u3 p cap mn mx tx ks ho hks ih =>
  rw [offD_mk]
  split
  ·split
   ·exact .mk (nrm_two []) (by simp)
   ·exact nrm_none
  ·split
   ·exact seq_nrm c ks noneT nrm_none hks ih
   ·split
    ·exact fold_nrm _ ks noneT nrm_none ih
    ·split
     ·refine cat_nrm (left_nrm hks) _ ?_
      cases ks with
      | nil => exact nrm_none
      | cons y ks => exact ih y (by simp)
     ·exact nrm_none
theorem sp_nrm : ∀ (t : T), Nrm t → ∀ x ∈ spT t, Nrm x := by
 refine T.ind fun k u0 u1 u2 u3 p cap mn mx tx ks ih => ?_
 intro ht x hx
 have hks : ∀ x ∈ ks, Nrm x := nrm_kids ht
 rw [spT_mk] at hx
 split at hx
 ·cases hx
 ·split at hx
  ·obtain ⟨y, hy, hx⟩ := List.mem_flatMap.1 hx
   exact ih y hy (hks y hy) x hx
  ·rw [List.mem_singleton] at hx
   exact hx ▸ ht
theorem nrm_self {t : T} (h : Nrm t) : nrm t := by cases h with | mk h _ => exact h
theorem mem_sum {l : List Nat} {x : Nat} (h : x ∈ l) : x ≤ l.sum := by
 induction l with
 | nil => cases h
 | cons y l ih =>
  rw [List.sum_cons]
  rcases List.mem_cons.1 h with rfl | h
  ·omega
  ·have := ih h; omega
theorem size_pos (t : T) : 1 ≤ t.size := by
 cases t with
 | mk => rw [T.size_mk]; omega
theorem len_sum : ∀ l : List T, l.length ≤ (l.map T.size).sum
 | [] => Nat.le_refl _
 | x :: l => by have := len_sum l; have := size_pos x; rw [List.map_cons, List.sum_cons, List.length_cons]; omega
theorem starts_short : ∀ (y : T), ∀ q ∈ startsT y, q.length ≤ y.size := by
 refine T.ind fun k u0 u1 u2 u3 p cap mn mx tx ks ih => ?_
 intro q hq
 rw [startsT_mk] at hq
 rw [T.size_mk]
 by_cases h0 : k = 0
 ·rw [if_pos h0] at hq; cases hq
 ·rw [if_neg h0] at hq
  by_cases h3 : k = 3
  ·rw [if_pos h3] at hq
   obtain ⟨x, hx, hq⟩ := List.mem_flatMap.1 hq
   have h1 := ih x hx q hq
   have h2 := mem_sum (List.mem_map.2 ⟨x, hx, rfl⟩ : x.size ∈ ks.map T.size)
   omega
  ·rw [if_neg h3] at hq
   by_cases h2 : k = 2
   ·rw [if_pos h2] at hq
    rcases List.mem_cons.1 hq with rfl | hq
    ·have := len_sum q; omega
    ·match ks, ih, hq with
     | [x], ih, hq => have := ih x (by simp) q hq; simp; omega
   ·rw [if_neg h2, List.mem_singleton] at hq
    rw [hq]; simp
end Go.Proofs.YtobbifhflnlplaaDoor
namespace Go.Proofs.YtobbifhflnlplaaDoor
open Go.Tree7
open S7
theorem vo_short {l r : List T} (h : Vo l r) : r.length ≤ (l.map T.size).sum := by
 rcases vo_starts h with rfl | ⟨y, rfl, hr⟩
 ·exact len_sum r
 ·have := starts_short y r hr
  simpa using this
theorem sum_at (u d : List T) (z : T) : ((u ++ z :: d).map T.size).sum = (u.map T.size).sum + z.size + (d.map T.size).sum := by
 rw [List.map_append, List.sum_append, List.map_cons, List.sum_cons]; omega
theorem lf_one {ks : List T} {mn mx : Int} {r : T} (h : Lf ks mn mx r) : (partsT r).length ≤ 1 := by
 rcases lf_shape h with rfl | ⟨mn', mx', e, -⟩
 ·exact Nat.zero_le _
 ·have e3 : partsT r = [r] := by subst e; rfl
  rw [e3]; simp
theorem inner_short : ∀ (t : T) (q : List T), Qi t q → q.length ≤ t.size := by
 refine T.ind fun k u0 u1 u2 u3 p cap mn mx tx ks ih => ?_
 intro q hq
 rw [Qi_mk] at hq
 rw [T.size_mk]
 by_cases h1 : k = 1
 ·rw [if_pos h1] at hq; rw [hq]; simp
 ·rw [if_neg h1] at hq
  by_cases h2 : k = 2
  ·rw [if_pos h2] at hq
   rcases catQ_of hq with ⟨u, z, d, p', r, e, hp, hr, e1⟩ | ⟨u, z, y, e, hs⟩
   ·have h3 := ih z (by rw [e]; simp) p' hp
    have h4 := vo_short (vo_v1 hr)
    have h5 := sum_at u d z
    rw [e1, List.length_append, e]
    omega
   ·have h3 := starts_short y q hs
    have h5 := sum_at u [y] z
    rw [e]
    simp only [List.map_cons, List.map_nil, List.sum_cons, List.sum_nil] at h5
    omega
  ·rw [if_neg h2] at hq
   by_cases h3 : k = 3
   ·rw [if_pos h3] at hq
    obtain ⟨x, hx, hq⟩ := hq
    have h4 := ih x hx q hq
    have h5 := mem_sum (List.mem_map.2 ⟨x, hx, rfl⟩ : x.size ∈ ks.map T.size)
    omega
   ·rw [if_neg h3] at hq
    by_cases h4 : k = 4
    ·rw [if_pos h4] at hq
     obtain ⟨x, hx, p', r, hp, hr, e⟩ := hq
     have h4 := ih x hx p' hp
     have h5 := mem_sum (List.mem_map.2 ⟨x, hx, rfl⟩ : x.size ∈ ks.map T.size)
     have h6 := lf_one hr
     rw [e, List.length_append]
     omega
    ·rw [if_neg h4] at hq; exact hq.elim
theorem outer_short : ∀ (t : T) (q : List T), Qo t q → q.length ≤ t.size := by
 refine T.ind fun k u0 u1 u2 u3 p cap mn mx tx ks ih => ?_
 intro q hq
 rw [Qo_mk] at hq
 rw [T.size_mk]
 by_cases h1 : k = 1
 ·rw [if_pos h1] at hq; rw [hq]; simp
 ·rw [if_neg h1] at hq
  by_cases h2 : k = 2
  ·rw [if_pos h2] at hq
   rcases catO_of hq with ⟨u, z, d, p', r, e, -, hp, hr, e1⟩ | ⟨u, z, d, e, -, hq⟩ | ⟨u, z, y, e, hs⟩
   ·have h3 := inner_short z p' hp
    have h4 := vo_short hr
    have h5 := sum_at u d z
    rw [e1, List.length_append, e]
    omega
   ·have h3 := ih z (by rw [e]; simp) q hq
    have h5 := sum_at u d z
    rw [e]
    omega
   ·have h3 := starts_short y q hs
    have h5 := sum_at u [y] z
    rw [e]
    simp only [List.map_cons, List.map_nil, List.sum_cons, List.sum_nil] at h5
    omega
  ·rw [if_neg h2] at hq
   by_cases h3 : k = 3
   ·rw [if_pos h3] at hq
    obtain ⟨x, hx, hq⟩ := hq
    have h4 := ih x hx q hq
    have h5 := mem_sum (List.mem_map.2 ⟨x, hx, rfl⟩ : x.size ∈ ks.map T.size)
    omega
   ·rw [if_neg h3] at hq
    by_cases h4 : k = 4
    ·rw [if_pos h4] at hq
     obtain ⟨x, hx, r, hr, ⟨-, p', hp, e⟩ | ⟨-, hq⟩⟩ := hq
     ·have h4 := inner_short x p' hp
      have h5 := mem_sum (List.mem_map.2 ⟨x, hx, rfl⟩ : x.size ∈ ks.map T.size)
      have h6 := lf_one hr
      rw [e, List.length_append]
      omega
     ·have h4 := ih x hx q hq
      have h5 := mem_sum (List.mem_map.2 ⟨x, hx, rfl⟩ : x.size ∈ ks.map T.size)
      omega
    ·rw [if_neg h4] at hq; exact hq.elim
theorem cut_mul {w c : Int} (h0 : 0 ≤ w) (h1 : 1 ≤ c) : cut20 (min w 1048576 * c) = min (w * c) 1048576 := by
 rw [cut20_min]
 by_cases h : w ≤ 1048576
 ·rw [show min w 1048576 = w by omega]
 ·rw [show min w 1048576 = 1048576 by omega]
  have h2 := Int.mul_le_mul_of_nonneg_left h1 (show (0 : Int) ≤ 1048576 by decide)
  have h3 := Int.mul_le_mul_of_nonneg_left h1 h0
  rw [Int.mul_one] at h2 h3
  omega
theorem weight_cut {t : T} (h : T.All (fun t => T.ok t = true) t) : weightT t = min (wgT t : Int) 1048576 := by
 induction h with
 | @mk k u0 u1 u2 u3 p cap mn mx tx ks ho _ ih =>
  have hk := okn_of ho
  rw [weightT_mk, wgT_mk]
  cases hk with
  | rep e t h2 h3 h4 =>
   subst e h2
   rw [if_pos rfl, List.foldl_cons, List.foldl_nil, ih t (by simp)]
   simp only [List.map_cons, List.map_nil, List.sum_cons, List.sum_nil, Nat.add_zero]
   have hc : kidW 4 mn mx (min (wgT t : Int) 1048576) = min ((wgT t : Int) * (timesN mn mx : Nat)) 1048576 := by
    unfold kidW timesN
    by_cases hm : mx = -1
    ·rw [if_pos ⟨rfl, hm⟩, if_pos hm, cut_mul (by omega) (by omega)]
     congr 1
     rw [show ((mn + 1).toNat : Int) = mn + 1 by omega]
    ·rw [if_neg (by omega), if_pos rfl, if_neg hm, cut_mul (by omega) (by omega)]
     congr 1
     rw [show (mx.toNat : Int) = mx by omega]
   rw [hc, cut20_min]
   have : ((1 + timesN mn mx * wgT t : Nat) : Int) = 1 + (wgT t : Int) * (timesN mn mx : Nat) := by rw [Int.natCast_add, Int.natCast_mul, Int.mul_comm]; rfl
   rw [this]
   have : 0 ≤ (wgT t : Int) * (timesN mn mx : Nat) := Int.mul_nonneg (by omega) (by omega)
   omega
  | bytes e h2 => subst e h2; rfl
  | name e h2 => subst e h2; rfl
  | _ e =>
   rw [if_neg (by omega)]
   have go : ∀ (l : List T) (a : Int), (∀ t ∈ l, weightT t = min (wgT t : Int) 1048576) → 0 ≤ a → l.foldl (fun w t => cut20 (w + kidW k mn mx (weightT t))) (min a 1048576) = min (a + ((l.map wgT).sum : Nat)) 1048576 := by
    intro l
    induction l with
    | nil => intro a _ _; simp
    | cons x l ihl =>
     intro a hl ha
     rw [List.foldl_cons, hl x (by simp), List.map_cons, List.sum_cons]
     have hk2 : ∀ v, kidW k mn mx v = v := fun v => by unfold kidW; rw [if_neg (by omega), if_neg (by omega)]
     rw [hk2, cut20_min]
     have e2 : min (min a 1048576 + min (wgT x : Int) 1048576) 1048576 = min (a + (wgT x : Int)) 1048576 := by omega
     rw [e2, ihl (a + (wgT x : Int)) (fun t ht => hl t (List.mem_cons_of_mem _ ht)) (by omega)]
     congr 1
     omega
   have := go ks 1 ih (by decide)
   rw [show min (1 : Int) 1048576 = 1 by decide] at this
   rw [this]
   congr 1
end Go.Proofs.YtobbifhflnlplaaDoor
namespace Go.Proofs.YtobbifhflnlplaaDoor
open Go.Tree7
open S7
def readD (t : T) (w : List Nat) : T := w.foldl (fun t c => offD c t) t
theorem readD_cons (t : T) (c : Nat) (w : List Nat) : readD t (c :: w) = readD (offD c t) w := rfl
theorem readD_snoc (t : T) (w : List Nat) (c : Nat) : readD t (w ++ [c]) = offD c (readD t w) := by unfold readD; rw [List.foldl_append]; rfl
theorem read_okd {t : T} (h : T.All okd t) : ∀ w, T.All okd (readD t w) := by
 intro w
 induction w generalizing t with
 | nil => exact h
 | cons c w ih => exact ih (off_okd c h)
theorem read_nrm {t : T} (h : Nrm t) : ∀ w, Nrm (readD t w) := by
 intro w
 induction w generalizing t with
 | nil => exact h
 | cons c w ih => exact ih (off_nrm c h)
theorem read_lang {t : T} (h : T.All okd t) : ∀ w v, lang (readD t w) v ↔ lang t (w ++ v) := by
 intro w
 induction w generalizing t with
 | nil => exact fun v => Iff.rfl
 | cons c w ih =>
  intro v
  rw [readD_cons, ih (off_okd c h), off_lang c h]
  rfl
theorem reads {t : T} (h : T.All okd t) (w : List Nat) : nullT (readD t w) = true ↔ lang t w := by
 rw [null_lang (read_okd h w), read_lang h, List.append_nil]
theorem zero_null {t : T} (h : T.All okd t) (h0 : kindT t = 0) : nullT t = false := by
 have := null_lang h
 cases hn : nullT t with
 | false => rfl
 | true => exact absurd (this.1 hn) (zero_lang h0 [])
theorem zero_read {t : T} (h0 : kindT t = 0) (w : List Nat) : kindT (readD t w) = 0 := by
 induction w generalizing t with
 | nil => exact h0
 | cons c w ih =>
  refine ih ?_
  cases t with
  | mk k u0 u1 u2 u3 p cap mn mx tx ks =>
   replace h0 : k = 0 := h0
   subst h0
   show kindT (offD c _) = 0
   rw [offD_mk, if_neg (by decide), if_neg (by decide), if_neg (by decide), if_neg (by decide)]
   rfl
theorem okd_ok {t : T} (h : T.All (fun t => T.ok t = true) t) : T.All okd t := by
 induction h with
 | @mk k u0 u1 u2 u3 p cap mn mx tx ks ho _ ih =>
  refine .mk ?_ ih
  have hk := okn_of ho
  cases hk with
  | bytes e => exact Or.inr (Or.inl e)
  | cat e => exact Or.inr (Or.inr (Or.inl e))
  | alt e => exact Or.inr (Or.inr (Or.inr (Or.inl e)))
  | rep e t h2 h3 h4 => exact Or.inr (Or.inr (Or.inr (Or.inr (Or.inl ⟨e, by rw [h2]; rfl, h3.1, by omega⟩))))
  | name e => exact Or.inr (Or.inr (Or.inr (Or.inr (Or.inr e))))
theorem dp_deep : ∀ t : T, dpT t = deep t := by
 refine T.ind fun k u0 u1 u2 u3 p cap mn mx tx ks ih => ?_
 rw [dpT_mk, deep_mk]
 congr 1
 have : ks.map dpT = ks.map deep := List.map_congr_left ih
 rw [this]
 generalize ks.map deep = l
 induction l with
 | nil => rfl
 | cons x l ih2 =>
  show max x (l.foldr max 0) = max x (most l)
  rw [ih2]
end Go.Proofs.YtobbifhflnlplaaDoor
namespace Go.Proofs.YtobbifhflnlplaaDoor
open Go.Tree7
open S7
structure Fine (t : T) : Prop where
 okd : T.All okd t
 nrm : Nrm t
 wg : wgT t ≤ 4000
 dp : dpT t ≤ 24
theorem lf_more {ks : List T} {mn mx : Int} {r : T} (h : Lf ks mn mx r) : 0 ≤ mn → (mx = -1 ∨ (1 ≤ mx ∧ mn ≤ mx)) →
  r = nodeT 2 [] ∨ ∃ mn' mx', r = .mk 4 0 0 0 0 none 0 mn' mx' ⟨#[]⟩ ks ∧ 0 ≤ mn' ∧ (mx' = -1 ∨ (1 ≤ mx' ∧ mn' ≤ mx')) ∧ timesN mn' mx' ≤ timesN mn mx := by
 have step : ∀ {a b : Int}, 0 ≤ a → (b = -1 ∨ (1 ≤ b ∧ a ≤ b)) → 0 ≤ decT a ∧ (decT b = 0 ∨ ((decT b = -1 ∨ (1 ≤ decT b ∧ decT a ≤ decT b)) ∧ timesN (decT a) (decT b) ≤ timesN a b)) := by
  intro a b ha hb
  refine ⟨by unfold decT; split <;> omega, ?_⟩
  rcases hb with rfl | ⟨h1, h2⟩
  ·right
   have e : decT (-1) = -1 := by decide
   rw [e]
   refine ⟨Or.inl rfl, ?_⟩
   unfold timesN decT
   rw [if_pos rfl, if_pos rfl]
   split <;> omega
  ·have e : decT b = b - 1 := by unfold decT; rw [if_pos (by omega)]
   by_cases h3 : b = 1
   ·left; omega
   ·right
    rw [e]
    refine ⟨Or.inr ⟨by omega, by unfold decT; split <;> omega⟩, ?_⟩
    unfold timesN
    rw [if_neg (by omega), if_neg (by omega)]
    omega
 induction h with
 | here mn mx =>
  intro h1 h2
  obtain ⟨h3, h4⟩ := step h1 h2
  unfold leftT
  by_cases h0 : (if mx > 0 then mx - 1 else mx) = 0
  ·rw [if_pos h0]; exact Or.inl rfl
  ·rw [if_neg h0]
   rcases h4 with h4 | ⟨h4, h5⟩
   ·exact absurd h4 h0
   ·exact Or.inr ⟨_, _, rfl, h3, h4, h5⟩
 | next mn mx r h ih =>
  intro h1 h2
  obtain ⟨h3, h4⟩ := step h1 h2
  rcases h4 with h4 | ⟨h4, h5⟩
  ·exact Or.inl (lf_zero h4 h)
  ·rcases ih h3 h4 with e | ⟨a, b, e, h6, h7, h8⟩
   ·exact Or.inl e
   ·exact Or.inr ⟨a, b, e, h6, h7, Nat.le_trans h8 h5⟩
theorem fine_kid {k u0 u1 u2 u3 : Int} {p : Option Addr} {cap : Nat} {mn mx : Int} {tx : ByteArray} {ks : List T} (h : Fine (.mk k u0 u1 u2 u3 p cap mn mx tx ks)) : ∀ x ∈ ks, Fine x := by
 intro x hx
 have h1 : ∀ x ∈ ks, T.All okd x := okd_kids h.okd
 have h2 : ∀ x ∈ ks, Nrm x := nrm_kids h.nrm
 refine ⟨h1 x hx, h2 x hx, ?_, ?_⟩
 ·have h3 := h.wg
  have h4 := mem_sum (List.mem_map.2 ⟨x, hx, rfl⟩ : wgT x ∈ ks.map wgT)
  rw [wgT_mk] at h3
  by_cases h5 : k = 4
  ·rw [if_pos h5] at h3
   have ho : okd (.mk k u0 u1 u2 u3 p cap mn mx tx ks) := by cases h.okd with | mk h _ => exact h
   have hJ : 1 ≤ timesN mn mx := by
    subst h5
    rcases ho with ⟨h, -⟩ | h | h | h | ⟨-, -, h6, h7⟩ | h
    ·cases h
    ·cases h
    ·cases h
    ·cases h
    ·unfold timesN; split <;> omega
    ·cases h
   have := Nat.le_mul_of_pos_left (ks.map wgT).sum hJ
   omega
  ·rw [if_neg h5] at h3
   omega
 ·have := dp_kid (k := k) (u0 := u0) (u1 := u1) (u2 := u2) (u3 := u3) (p := p) (cap := cap) (mn := mn) (mx := mx) (tx := tx) hx
  have := h.dp
  omega
theorem fine_left {u0 u1 u2 u3 : Int} {p : Option Addr} {cap : Nat} {mn mx : Int} {tx : ByteArray} {ks : List T} (h : Fine (.mk 4 u0 u1 u2 u3 p cap mn mx tx ks)) {r : T} (hr : Lf ks mn mx r) : Fine r := by
 have ho : okd (.mk 4 u0 u1 u2 u3 p cap mn mx tx ks) := by cases h.okd with | mk h _ => exact h
 have hk : ∀ x ∈ ks, T.All okd x := okd_kids h.okd
 have hn : ∀ x ∈ ks, Nrm x := nrm_kids h.nrm
 rcases ho with ⟨e, -⟩ | e | e | e | ⟨-, h1, h2, h3⟩ | e
 ·cases e
 ·cases e
 ·cases e
 ·cases e
 ·rcases lf_more hr h2 h3 with rfl | ⟨a, b, rfl, h4, h5, h6⟩
  ·refine ⟨okd_node (Or.inl rfl) (by simp), .mk (nrm_two []) (by simp), ?_, ?_⟩
   ·rw [wgT_mk, if_neg (by decide)]; simp
   ·rw [dpT_mk]; simp
  ·refine ⟨.mk (Or.inr (Or.inr (Or.inr (Or.inr (Or.inl ⟨rfl, h1, h4, h5⟩))))) hk, .mk (nrm_other (by show (4 : Int) ≠ 2; decide)) hn, ?_, ?_⟩
   ·have := h.wg
    rw [wgT_mk, if_pos rfl] at this ⊢
    have := Nat.mul_le_mul_right (ks.map wgT).sum h6
    omega
   ·have := h.dp
    rw [dpT_mk] at this ⊢
    exact this
 ·cases e
theorem fine_sub : ∀ (t : T), Fine t → ∀ w, SubP t w → Fine w := by
 refine T.ind fun k u0 u1 u2 u3 p cap mn mx tx ks ih => ?_
 intro h w hw
 rw [SubP_mk] at hw
 rcases hw with rfl | ⟨x, hx, hw⟩ | ⟨rfl, hr⟩
 ·exact h
 ·exact ih x hx (fine_kid h x hx) w hw
 ·exact fine_left h hr
theorem fine_parts {n : T} (h : Fine n) {q : List T} (hq : Qo n q) : ∀ w ∈ q, Fine w := fun w hw => fine_sub n h w (outer_within n q hq w hw)
theorem fine_few {n : T} (h : Fine n) {l : List T} (hl : l.Nodup) (hb : ∀ b ∈ l, nrm b ∧ Qo n (partsT b)) : l.length ≤ 805306376000 := few_enough h.okd h.dp h.wg l hl hb
end Go.Proofs.YtobbifhflnlplaaDoor
namespace Go.Proofs.YtobbifhflnlplaaDoor
open Go.Tree7
open S7
theorem lang_star (u0 u1 u2 u3 : Int) (p : Option Addr) (cap : Nat) (tx : ByteArray) (a : T) (w : List Nat) :
  lang (.mk 4 u0 u1 u2 u3 p cap 0 (-1) tx [a]) w ↔ w = [] ∨ ∃ u v, u ≠ [] ∧ w = u ++ v ∧ lang a u ∧ lang (.mk 4 u0 u1 u2 u3 p cap 0 (-1) tx [a]) v := by
 have e : ∀ v, lang (.mk 4 u0 u1 u2 u3 p cap 0 (-1) tx [a]) v ↔ ∃ n : Nat, powW (lang a) n v := fun v => by
  rw [lang_mk, if_neg (by decide), if_neg (by decide), if_neg (by decide), if_pos rfl, List.map_cons, List.headD_cons]
  exact ⟨fun ⟨n, _, _, h⟩ => ⟨n, h⟩, fun ⟨n, h⟩ => ⟨n, by omega, Or.inl rfl, h⟩⟩
 rw [e]
 simp only [e]
 constructor
 ·rintro ⟨n, h⟩
  induction n generalizing w with
  | zero => exact Or.inl h
  | succ n ih =>
   obtain ⟨u, v, rfl, h1, h2⟩ := h
   by_cases hu : u = []
   ·subst hu
    exact ih v h2
   ·exact Or.inr ⟨u, v, hu, rfl, h1, n, h2⟩
 ·rintro (rfl | ⟨u, v, -, rfl, h1, n, h2⟩)
  ·exact ⟨0, rfl⟩
  ·exact ⟨n + 1, u, v, rfl, h1, h2⟩
theorem lang_strip (t : T) : ∀ w, lang t.strip w ↔ lang t w := by
 have key : ∀ t : T, lang t.strip = lang t := by
  refine T.ind fun k u0 u1 u2 u3 p cap mn mx tx ks ih => ?_
  have e : (ks.map T.strip).map lang = ks.map lang := by
   rw [List.map_map]
   exact List.map_congr_left ih
  funext w
  rw [T.strip_mk, lang_mk, lang_mk, e]
 exact fun w => by rw [key]
end Go.Proofs.YtobbifhflnlplaaDoor
namespace Go.Proofs.YtobbifhflnlplaaDoor
open Go.Tree7
open S7
theorem eqB_noS {f : Nat → Bool} (h : S1.eqB f S1.noS = true) : S1.wd f 0 = 0 ∧ S1.wd f 1 = 0 ∧ S1.wd f 2 = 0 ∧ S1.wd f 3 = 0 := by
 unfold S1.eqB at h
 simp only [S1.no_wd, Bool.and_eq_true, beq_iff_eq] at h
 omega
theorem text_nil {tx : ByteArray} (h : tx.toList.isEmpty = true) : tx = ⟨#[]⟩ := by
 have h1 : tx.toList = [] := List.isEmpty_iff.1 h
 rw [ByteArray.toList_eq] at h1
 cases tx with
 | mk d =>
  replace h1 : d.toList = [] := h1
  congr 1
  exact Array.toList_eq_nil_iff.1 h1
theorem nrm_in {w : World} {B : Nat} : ∀ t : T, T.All (fun t => T.ok t = true) t → T.In w B t → Nrm t.strip := by
 refine T.ind fun k u0 u1 u2 u3 p cap mn mx tx ks ih => ?_
 intro hA hT
 have hfit : fits k u0 u1 u2 u3 mn mx tx := by cases hT with | mk h1 h2 h3 => exact h3
 obtain ⟨ho, hAk⟩ : T.ok (.mk k u0 u1 u2 u3 p cap mn mx tx ks) = true ∧ ∀ t ∈ ks, T.All (fun t => T.ok t = true) t := by cases hA with | mk h1 h2 => exact ⟨h1, h2⟩
 rw [T.strip_mk]
 refine .mk (fun hk => ?_) fun x hx => ?_
 ·replace hk : k = 2 := hk
  subst hk
  replace ho : okB _ 2 ks.length mn mx tx = true := ho
  unfold okB plainB at ho
  rw [if_neg (by decide), if_pos rfl] at ho
  simp only [Bool.and_eq_true, decide_eq_true_eq] at ho
  obtain ⟨⟨⟨h1, h2⟩, h3⟩, h4⟩ := ho
  obtain ⟨e0, e1, e2, e3⟩ := wd_f hfit.2.1
  obtain ⟨z0, z1, z2, z3⟩ := eqB_noS h1
  have h5 := text_nil h4
  replace z0 : S1.wd (S1.mem4 u0.toNat u1.toNat u2.toNat u3.toNat) 0 = 0 := z0
  replace z1 : S1.wd (S1.mem4 u0.toNat u1.toNat u2.toNat u3.toNat) 1 = 0 := z1
  replace z2 : S1.wd (S1.mem4 u0.toNat u1.toNat u2.toNat u3.toNat) 2 = 0 := z2
  replace z3 : S1.wd (S1.mem4 u0.toNat u1.toNat u2.toNat u3.toNat) 3 = 0 := z3
  have y0 : u0 = 0 := by rw [← e0, z0]; rfl
  have y1 : u1 = 0 := by rw [← e1, z1]; rfl
  have y2 : u2 = 0 := by rw [← e2, z2]; rfl
  have y3 : u3 = 0 := by rw [← e3, z3]; rfl
  rw [y0, y1, y2, y3, h2, h3, h5]
  rfl
 ·obtain ⟨y, hy, rfl⟩ := List.mem_map.1 hx
  obtain ⟨i, hi, e⟩ := List.getElem_of_mem hy
  obtain ⟨b, o, hkid, -, -, -⟩ := T.kid hT hi
  rw [e] at hkid
  exact ih y hy (hAk y hy) hkid
theorem okd_strip : ∀ t : T, T.All okd t → T.All okd t.strip := by
 refine T.ind fun k u0 u1 u2 u3 p cap mn mx tx ks ih => ?_
 intro h
 obtain ⟨ho, hk⟩ : okd (.mk k u0 u1 u2 u3 p cap mn mx tx ks) ∧ ∀ t ∈ ks, T.All okd t := by cases h with | mk h1 h2 => exact ⟨h1, h2⟩
 rw [T.strip_mk]
 refine .mk ?_ fun x hx => ?_
 ·rcases ho with ⟨h1, h2⟩ | h1 | h1 | h1 | ⟨h1, h2, h3⟩ | h1
  ·exact Or.inl ⟨h1, by rw [h2]; rfl⟩
  ·exact Or.inr (Or.inl h1)
  ·exact Or.inr (Or.inr (Or.inl h1))
  ·exact Or.inr (Or.inr (Or.inr (Or.inl h1)))
  ·exact Or.inr (Or.inr (Or.inr (Or.inr (Or.inl ⟨h1, by rw [List.length_map]; exact h2, h3⟩))))
  ·exact Or.inr (Or.inr (Or.inr (Or.inr (Or.inr h1))))
 ·obtain ⟨y, hy, rfl⟩ := List.mem_map.1 hx
  exact ih y hy (hk y hy)
theorem wg_strip (t : T) : wgT t.strip = wgT t := by
 have key : ∀ t : T, wgT t.strip = wgT t := by
  refine T.ind fun k u0 u1 u2 u3 p cap mn mx tx ks ih => ?_
  have e : (ks.map T.strip).map wgT = ks.map wgT := by
   rw [List.map_map]
   exact List.map_congr_left ih
  rw [T.strip_mk, wgT_mk, wgT_mk, e]
 exact key t
theorem dp_strip (t : T) : dpT t.strip = dpT t := by
 have key : ∀ t : T, dpT t.strip = dpT t := by
  refine T.ind fun k u0 u1 u2 u3 p cap mn mx tx ks ih => ?_
  have e : (ks.map T.strip).map dpT = ks.map dpT := by
   rw [List.map_map]
   exact List.map_congr_left ih
  rw [T.strip_mk, dpT_mk, dpT_mk, e]
 exact key t
theorem fine_in {w : World} {B : Nat} {t : T} (hT : T.In w B t) (hr : rightB t = true) (hw : weightT t ≤ 4000) : Fine t.strip := by
 obtain ⟨hA, hd, -⟩ := (right_iff t).1 ((rightB_iff t).1 hr)
 refine ⟨okd_strip t (okd_ok hA), nrm_in t hA hT, ?_, ?_⟩
 ·rw [wg_strip]
  rw [weight_cut hA] at hw
  omega
 ·rw [dp_strip, dp_deep]
  exact hd
end Go.Proofs.YtobbifhflnlplaaDoor
