/- Texts merged: S10C1, S10C2. -/

import Derived.Test.YtobbifhflnlplaaDoorMX
namespace Go.Proofs.YtobbifhflnlplaaDoor
open Go.Tree7
open S7
inductive Pt where
 | mk (k u0 u1 u2 u3 : Int) (p : Option Addr) (cap : Nat) (sk ag lv en : Bool) (kids : List Pt)
def Pt.k : Pt → Int | .mk k _ _ _ _ _ _ _ _ _ _ _ => k
def Pt.kids : Pt → List Pt | .mk _ _ _ _ _ _ _ _ _ _ _ ks => ks
def Pt.sk : Pt → Bool | .mk _ _ _ _ _ _ _ sk _ _ _ _ => sk
def Pt.ag : Pt → Bool | .mk _ _ _ _ _ _ _ _ ag _ _ _ => ag
def Pt.lv : Pt → Bool | .mk _ _ _ _ _ _ _ _ _ lv _ _ => lv
def Pt.en : Pt → Bool | .mk _ _ _ _ _ _ _ _ _ _ en _ => en
def Pt.cells : Pt → List Value
 | .mk k u0 u1 u2 u3 p cap sk ag lv en ks => [.int .i64 k, .int .u64 u0, .int .u64 u1, .int .u64 u2, .int .u64 u3, .slice p ks.length cap, .bool sk, .bool ag, .bool lv, .bool en]
theorem Pt.cells_length (t : Pt) : t.cells.length = 10 := by cases t; rfl
theorem Pt.ind {P : Pt → Prop} (h : ∀ (k u0 u1 u2 u3 : Int) (p : Option Addr) (cap : Nat) (sk ag lv en : Bool) (ks : List Pt), (∀ x ∈ ks, P x) → P (.mk k u0 u1 u2 u3 p cap sk ag lv en ks)) : ∀ t, P t := by
 intro t
 refine Pt.rec (motive_1 := P) (motive_2 := fun l => ∀ x ∈ l, P x) ?_ ?_ ?_ t
 ·exact fun k u0 u1 u2 u3 p cap sk ag lv en ks ih => h k u0 u1 u2 u3 p cap sk ag lv en ks ih
 ·exact fun x hx => absurd hx (List.not_mem_nil)
 ·intro y l h1 h2 x hx
  rcases List.mem_cons.1 hx with rfl | hx
  ·exact h1
  ·exact h2 x hx
mutual
def stepP (c : Nat) : Pt → Bool → Pt
 | .mk k u0 u1 u2 u3 p cap sk ag lv en ks, b0 =>
  if (!(b0 || (ag && en)) && !lv) = true then .mk k u0 u1 u2 u3 p cap sk ag lv en ks
  else if k = 2 ∨ k = 4 then .mk k u0 u1 u2 u3 p cap sk ag (rowF c ks (b0 || (ag && en)) false false).2.2 (rowF c ks (b0 || (ag && en)) false false).2.1 (rowF c ks (b0 || (ag && en)) false false).1
  else if k = 3 then .mk k u0 u1 u2 u3 p cap sk ag (altF c ks (b0 || (ag && en)) false false).2.2 (altF c ks (b0 || (ag && en)) false false).2.1 (altF c ks (b0 || (ag && en)) false false).1
  else .mk k u0 u1 u2 u3 p cap sk ag ((b0 || (ag && en)) && S1.mem4 u0.toNat u1.toNat u2.toNat u3.toNat c) ((b0 || (ag && en)) && S1.mem4 u0.toNat u1.toNat u2.toNat u3.toNat c) ks
def rowF (c : Nat) : List Pt → Bool → Bool → Bool → List Pt × Bool × Bool
 | [], _, en, lv => ([], en, lv)
 | x :: xs, b, en, lv => (stepP c x b :: (rowF c xs (x.en || (b && x.sk)) ((stepP c x b).en || (en && x.sk)) (lv || (stepP c x b).lv)).1,
   (rowF c xs (x.en || (b && x.sk)) ((stepP c x b).en || (en && x.sk)) (lv || (stepP c x b).lv)).2)
def altF (c : Nat) : List Pt → Bool → Bool → Bool → List Pt × Bool × Bool
 | [], _, en, lv => ([], en, lv)
 | x :: xs, b, en, lv => (stepP c x b :: (altF c xs b (en || (stepP c x b).en) (lv || (stepP c x b).lv)).1, (altF c xs b (en || (stepP c x b).en) (lv || (stepP c x b).lv)).2)
end
def starW (L : List Nat → Prop) (w : List Nat) : Prop := ∃ n, powW L n w
def wrapL (sk ag : Bool) (L : List Nat → Prop) (w : List Nat) : Prop := if ag = true then starW L w else L w ∨ (sk = true ∧ w = [])
mutual
def baseP : Pt → List Nat → Prop
 | .mk k u0 u1 u2 u3 _ _ _ _ _ _ ks => fun w => if k = 2 ∨ k = 4 then catP ks w else if k = 3 then altP ks w else ∃ c, w = [c] ∧ S1.mem4 u0.toNat u1.toNat u2.toNat u3.toNat c = true
def catP : List Pt → List Nat → Prop
 | [] => fun w => w = []
 | x :: xs => fun w => ∃ u v, w = u ++ v ∧ wrapL x.sk x.ag (baseP x) u ∧ catP xs v
def altP : List Pt → List Nat → Prop
 | [] => fun _ => False
 | x :: xs => fun w => wrapL x.sk x.ag (baseP x) w ∨ altP xs w
end
def strP (x : Pt) : List Nat → Prop := wrapL x.sk x.ag (baseP x)
def wrapF (ag : Bool) (F L : List Nat → Prop) (v : List Nat) : Prop := if ag = true then ∃ a b, v = a ++ b ∧ F a ∧ starW L b else F v
mutual
def futB : Pt → List Nat → Prop
 | .mk k _ _ _ _ _ _ _ _ _ en ks => fun v => if k = 2 ∨ k = 4 then futR ks v else if k = 3 then futA ks v else en = true ∧ v = []
def futR : List Pt → List Nat → Prop
 | [] => fun _ => False
 | x :: xs => fun v => (∃ a b, v = a ++ b ∧ wrapF x.ag (futB x) (baseP x) a ∧ catP xs b) ∨ futR xs v
def futA : List Pt → List Nat → Prop
 | [] => fun _ => False
 | x :: xs => fun v => wrapF x.ag (futB x) (baseP x) v ∨ futA xs v
end
theorem base_mk (k u0 u1 u2 u3 : Int) (p : Option Addr) (cap : Nat) (sk ag lv en : Bool) (ks : List Pt) (w : List Nat) : baseP (.mk k u0 u1 u2 u3 p cap sk ag lv en ks) w =
  (if k = 2 ∨ k = 4 then catP ks w else if k = 3 then altP ks w else ∃ c, w = [c] ∧ S1.mem4 u0.toNat u1.toNat u2.toNat u3.toNat c = true) := by rw [baseP]
theorem fut_mk (k u0 u1 u2 u3 : Int) (p : Option Addr) (cap : Nat) (sk ag lv en : Bool) (ks : List Pt) (v : List Nat) : futB (.mk k u0 u1 u2 u3 p cap sk ag lv en ks) v =
  (if k = 2 ∨ k = 4 then futR ks v else if k = 3 then futA ks v else en = true ∧ v = []) := by rw [futB]
def futP (x : Pt) : List Nat → Prop := wrapF x.ag (futB x) (baseP x)
inductive Pt.All (P : Pt → Prop) : Pt → Prop
 | mk {k u0 u1 u2 u3 : Int} {p : Option Addr} {cap : Nat} {sk ag lv en : Bool} {ks : List Pt} (h : P (.mk k u0 u1 u2 u3 p cap sk ag lv en ks)) (hk : ∀ x ∈ ks, Pt.All P x) : Pt.All P (.mk k u0 u1 u2 u3 p cap sk ag lv en ks)
def okI (x : Pt) : Prop := (x.ag = true → x.sk = true) ∧ (baseP x [] → x.sk = true) ∧ (x.en = true ↔ futB x []) ∧ (x.lv = false → x.en = false ∧ ∀ y ∈ x.kids, y.lv = false) ∧ ((x.k = 2 ∨ x.k = 4) ∨ x.k = 3 ∨ x.kids = [])
theorem star_nil (L : List Nat → Prop) : starW L [] := ⟨0, rfl⟩
theorem star_cons (L : List Nat → Prop) (c : Nat) (v : List Nat) : starW L (c :: v) ↔ ∃ a b, v = a ++ b ∧ L (c :: a) ∧ starW L b := by
 constructor
 ·rintro ⟨n, h⟩
  induction n with
  | zero => cases h
  | succ n ih =>
   obtain ⟨x, y, e, h1, h2⟩ := h
   cases x with
   | nil => rw [List.nil_append] at e; subst e; exact ih h2
   | cons d x =>
    rw [List.cons_append, List.cons.injEq] at e
    obtain ⟨rfl, rfl⟩ := e
    exact ⟨x, y, rfl, h1, n, h2⟩
 ·rintro ⟨a, b, rfl, h1, n, h2⟩
  exact ⟨n + 1, c :: a, b, rfl, h1, h2⟩
theorem cut_cons (c : Nat) (v : List Nat) (A B : List Nat → Prop) : (∃ a b, c :: v = a ++ b ∧ A a ∧ B b) ↔ (A [] ∧ B (c :: v)) ∨ ∃ a b, v = a ++ b ∧ A (c :: a) ∧ B b := by
 constructor
 ·rintro ⟨a, b, e, h1, h2⟩
  cases a with
  | nil => rw [List.nil_append] at e; subst e; exact Or.inl ⟨h1, h2⟩
  | cons d a =>
   rw [List.cons_append, List.cons.injEq] at e
   obtain ⟨rfl, rfl⟩ := e
   exact Or.inr ⟨a, b, rfl, h1, h2⟩
 ·rintro (⟨h1, h2⟩ | ⟨a, b, rfl, h1, h2⟩)
  ·exact ⟨[], c :: v, rfl, h1, h2⟩
  ·exact ⟨c :: a, b, rfl, h1, h2⟩
theorem cut_nil (A B : List Nat → Prop) : (∃ a b, [] = a ++ b ∧ A a ∧ B b) ↔ A [] ∧ B [] := by
 constructor
 ·rintro ⟨a, b, e, h1, h2⟩
  obtain ⟨rfl, rfl⟩ := List.append_eq_nil_iff.1 e.symm
  exact ⟨h1, h2⟩
 ·exact fun h => ⟨[], [], rfl, h.1, h.2⟩
theorem wrapF_nil (ag : Bool) (F L : List Nat → Prop) : wrapF ag F L [] ↔ F [] := by
 unfold wrapF
 split
 ·rw [cut_nil]; exact ⟨fun h => h.1, fun h => ⟨h, star_nil L⟩⟩
 ·exact Iff.rfl
theorem okI_nil {x : Pt} (h : okI x) : strP x [] ↔ x.sk = true := by
 unfold strP wrapL
 split
 ·next g => exact ⟨fun _ => h.1 g, fun _ => star_nil _⟩
 ·exact ⟨fun h1 => h1.elim h.2.1 fun h2 => h2.1, fun h1 => Or.inr ⟨h1, rfl⟩⟩
theorem catP_nil {l : List Pt} (h : ∀ x ∈ l, okI x) : catP l [] ↔ l.all Pt.sk = true := by
 induction l with
 | nil => simp [catP]
 | cons x l ih =>
  show (∃ u v, [] = u ++ v ∧ strP x u ∧ catP l v) ↔ _
  rw [cut_nil, okI_nil (h x (by simp)), ih fun y hy => h y (by simp [hy]), List.all_cons, Bool.and_eq_true]
theorem dead : ∀ x : Pt, Pt.All okI x → x.lv = false → ∀ v, ¬ futP x v := by
 refine Pt.ind fun k u0 u1 u2 u3 p cap sk ag lv en ks ih => ?_
 intro hA hl
 obtain ⟨ho, hk⟩ : okI (.mk k u0 u1 u2 u3 p cap sk ag lv en ks) ∧ ∀ x ∈ ks, Pt.All okI x := by cases hA with | mk h1 h2 => exact ⟨h1, h2⟩
 obtain ⟨he, hd⟩ := ho.2.2.2.1 hl
 have hB : ∀ v, ¬ futB (.mk k u0 u1 u2 u3 p cap sk ag lv en ks) v := by
  intro v
  rw [fut_mk]
  have hks : ∀ x ∈ ks, ∀ v, ¬ futP x v := fun x hx => ih x hx (hk x hx) (hd x hx)
  replace he : en = false := he
  subst he
  clear ih hk hd ho hA hl
  split
  ·induction ks with
   | nil => exact id
   | cons x l ihl =>
    rintro (⟨a, b, rfl, h1, h2⟩ | h)
    ·exact hks x (by simp) a h1
    ·exact ihl (fun y hy => hks y (by simp [hy])) h
  ·split
   ·induction ks with
    | nil => exact id
    | cons x l ihl =>
     rintro (h1 | h)
     ·exact hks x (by simp) v h1
     ·exact ihl (fun y hy => hks y (by simp [hy])) h
   ·intro h
    exact absurd h.1 Bool.false_ne_true
 intro v
 unfold futP wrapF
 split
 ·rintro ⟨a, b, rfl, h, -⟩; exact hB a h
 ·exact hB v
structure Stepped (c : Nat) (b : Bool) (x y : Pt) : Prop where
 ok : Pt.All okI y
 fut : ∀ v, futP y v ↔ futP x (c :: v) ∨ (b = true ∧ strP x (c :: v))
 base : baseP y = baseP x
 sk : y.sk = x.sk
 ag : y.ag = x.ag
theorem Stepped.str {c : Nat} {b : Bool} {x y : Pt} (h : Stepped c b x y) : strP y = strP x := by unfold strP; rw [h.base, h.sk, h.ag]
theorem wrap_step {ag sk : Bool} {F F' L : List Nat → Prop} {c : Nat} {b0 en : Bool} (he : en = true ↔ F []) (h : ∀ v, F' v ↔ F (c :: v) ∨ ((b0 || (ag && en)) = true ∧ L (c :: v))) (v : List Nat) :
  wrapF ag F' L v ↔ wrapF ag F L (c :: v) ∨ (b0 = true ∧ wrapL sk ag L (c :: v)) := by
 unfold wrapF wrapL
 cases ag with
 | false =>
  rw [if_neg Bool.false_ne_true, if_neg Bool.false_ne_true, if_neg Bool.false_ne_true, h, Bool.false_and, Bool.or_false]
  simp
 | true =>
  rw [if_pos rfl, if_pos rfl, if_pos rfl, cut_cons, star_cons, ← he]
  simp only [h, Bool.true_and, Bool.or_eq_true]
  constructor
  ·rintro ⟨a, b, rfl, h1 | ⟨h1 | h1, h2⟩, h3⟩
   ·exact Or.inl (Or.inr ⟨a, b, rfl, h1, h3⟩)
   ·exact Or.inr ⟨h1, a, b, rfl, h2, h3⟩
   ·exact Or.inl (Or.inl ⟨h1, a, b, rfl, h2, h3⟩)
  ·rintro ((⟨h1, a, b, rfl, h2, h3⟩ | ⟨a, b, rfl, h1, h3⟩) | ⟨h1, a, b, rfl, h2, h3⟩)
   ·exact ⟨a, b, rfl, Or.inr ⟨Or.inr h1, h2⟩, h3⟩
   ·exact ⟨a, b, rfl, Or.inl h1, h3⟩
   ·exact ⟨a, b, rfl, Or.inr ⟨Or.inl h1, h2⟩, h3⟩
theorem all_okI {x : Pt} (h : Pt.All okI x) : okI x := by cases h with | mk h _ => exact h
theorem en_fut {x : Pt} (h : Pt.All okI x) : x.en = true ↔ futP x [] := by
 rw [(all_okI h).2.2.1]
 exact (wrapF_nil _ _ _).symm
theorem row_step (c : Nat) : ∀ (ks : List Pt), (∀ x ∈ ks, Pt.All okI x) → (∀ x ∈ ks, ∀ b, Stepped c b x (stepP c x b)) → ∀ (b en lv : Bool),
  (∀ y ∈ (rowF c ks b en lv).1, Pt.All okI y) ∧ (∀ v, futR (rowF c ks b en lv).1 v ↔ futR ks (c :: v) ∨ (b = true ∧ catP ks (c :: v))) ∧
  catP (rowF c ks b en lv).1 = catP ks ∧
  ((rowF c ks b en lv).2.1 = true ↔ futR (rowF c ks b en lv).1 [] ∨ (en = true ∧ catP ks [])) ∧
  ((rowF c ks b en lv).2.2 = false → lv = false ∧ ∀ y ∈ (rowF c ks b en lv).1, y.lv = false) ∧ ((rowF c ks b en lv).1.length = ks.length)
 | [], _, _, b, en, lv => by simp [rowF, futR, catP]
 | x :: xs, hA, hS, b, en, lv => by
  have h1 := hS x (by simp) b
  have hx := hA x (by simp)
  obtain ⟨i1, i2, i3, i4, i5, i6⟩ := row_step c xs (fun y hy => hA y (by simp [hy])) (fun y hy => hS y (by simp [hy])) (x.en || (b && x.sk)) ((stepP c x b).en || (en && x.sk)) (lv || (stepP c x b).lv)
  rw [rowF]
  have hok : ∀ y ∈ xs, okI y := fun y hy => all_okI (hA y (by simp [hy]))
  refine ⟨fun y hy => ?_, fun v => ?_, ?_, ?_, fun hl => ?_, by simp [i6]⟩
  ·rcases List.mem_cons.1 hy with rfl | hy
   ·exact h1.ok
   ·exact i1 y hy
  ·show (∃ p q, v = p ++ q ∧ futP (stepP c x b) p ∧ catP _ q) ∨ futR _ v ↔ ((∃ p q, c :: v = p ++ q ∧ futP x p ∧ catP xs q) ∨ futR xs (c :: v)) ∨ (b = true ∧ ∃ p q, c :: v = p ++ q ∧ strP x p ∧ catP xs q)
   rw [i2, i3, cut_cons, cut_cons, okI_nil (all_okI hx), ← en_fut hx]
   simp only [h1.fut, Bool.or_eq_true, Bool.and_eq_true]
   constructor
   ·rintro (⟨p, q, rfl, h2 | ⟨h2, h3⟩, h4⟩ | h2 | ⟨h2 | ⟨h2, h3⟩, h4⟩)
    ·exact Or.inl (Or.inl (Or.inr ⟨p, q, rfl, h2, h4⟩))
    ·exact Or.inr ⟨h2, Or.inr ⟨p, q, rfl, h3, h4⟩⟩
    ·exact Or.inl (Or.inr h2)
    ·exact Or.inl (Or.inl (Or.inl ⟨h2, h4⟩))
    ·exact Or.inr ⟨h2, Or.inl ⟨h3, h4⟩⟩
   ·rintro (((⟨h2, h4⟩ | ⟨p, q, rfl, h2, h4⟩) | h2) | ⟨h2, ⟨h3, h4⟩ | ⟨p, q, rfl, h3, h4⟩⟩)
    ·exact Or.inr (Or.inr ⟨Or.inl h2, h4⟩)
    ·exact Or.inl ⟨p, q, rfl, Or.inl h2, h4⟩
    ·exact Or.inr (Or.inl h2)
    ·exact Or.inr (Or.inr ⟨Or.inr ⟨h2, h3⟩, h4⟩)
    ·exact Or.inl ⟨p, q, rfl, Or.inr ⟨h2, h3⟩, h4⟩
  ·funext w
   show (∃ p q, w = p ++ q ∧ strP (stepP c x b) p ∧ catP _ q) = (∃ p q, w = p ++ q ∧ strP x p ∧ catP xs q)
   rw [i3, h1.str]
  ·show _ ↔ ((∃ p q, [] = p ++ q ∧ futP (stepP c x b) p ∧ catP _ q) ∨ futR _ []) ∨ (en = true ∧ ∃ p q, [] = p ++ q ∧ strP x p ∧ catP xs q)
   rw [i4, i3, cut_nil, cut_nil, okI_nil (all_okI hx), ← en_fut h1.ok]
   simp only [Bool.or_eq_true, Bool.and_eq_true]
   constructor
   ·rintro (h | ⟨h | ⟨h, h2⟩, h3⟩)
    ·exact Or.inl (Or.inr h)
    ·exact Or.inl (Or.inl ⟨h, h3⟩)
    ·exact Or.inr ⟨h, h2, h3⟩
   ·rintro ((⟨h, h3⟩ | h) | ⟨h, h2, h3⟩)
    ·exact Or.inr ⟨Or.inl h, h3⟩
    ·exact Or.inl h
    ·exact Or.inr ⟨Or.inr ⟨h, h2⟩, h3⟩
  ·obtain ⟨g1, g2⟩ := i5 hl
   rw [Bool.or_eq_false_iff] at g1
   refine ⟨g1.1, fun y hy => ?_⟩
   rcases List.mem_cons.1 hy with rfl | hy
   ·exact g1.2
   ·exact g2 y hy
theorem alt_step (c : Nat) : ∀ (ks : List Pt), (∀ x ∈ ks, ∀ b, Stepped c b x (stepP c x b)) → ∀ (b en lv : Bool),
  (∀ y ∈ (altF c ks b en lv).1, Pt.All okI y) ∧ (∀ v, futA (altF c ks b en lv).1 v ↔ futA ks (c :: v) ∨ (b = true ∧ altP ks (c :: v))) ∧
  altP (altF c ks b en lv).1 = altP ks ∧
  ((altF c ks b en lv).2.1 = true ↔ futA (altF c ks b en lv).1 [] ∨ en = true) ∧
  ((altF c ks b en lv).2.2 = false → lv = false ∧ ∀ y ∈ (altF c ks b en lv).1, y.lv = false) ∧ ((altF c ks b en lv).1.length = ks.length)
 | [], _, b, en, lv => by simp [altF, futA, altP]
 | x :: xs, hS, b, en, lv => by
  have h1 := hS x (by simp) b
  obtain ⟨i1, i2, i3, i4, i5, i6⟩ := alt_step c xs (fun y hy => hS y (by simp [hy])) b (en || (stepP c x b).en) (lv || (stepP c x b).lv)
  rw [altF]
  refine ⟨fun y hy => ?_, fun v => ?_, ?_, ?_, fun hl => ?_, by simp [i6]⟩
  ·rcases List.mem_cons.1 hy with rfl | hy
   ·exact h1.ok
   ·exact i1 y hy
  ·show futP (stepP c x b) v ∨ futA _ v ↔ (futP x (c :: v) ∨ futA xs (c :: v)) ∨ (b = true ∧ (strP x (c :: v) ∨ altP xs (c :: v)))
   rw [i2, h1.fut]
   constructor
   ·rintro ((h | ⟨h, h2⟩) | h | ⟨h, h2⟩)
    ·exact Or.inl (Or.inl h)
    ·exact Or.inr ⟨h, Or.inl h2⟩
    ·exact Or.inl (Or.inr h)
    ·exact Or.inr ⟨h, Or.inr h2⟩
   ·rintro ((h | h) | ⟨h, h2 | h2⟩)
    ·exact Or.inl (Or.inl h)
    ·exact Or.inr (Or.inl h)
    ·exact Or.inl (Or.inr ⟨h, h2⟩)
    ·exact Or.inr (Or.inr ⟨h, h2⟩)
  ·funext w
   show (strP (stepP c x b) w ∨ altP _ w) = (strP x w ∨ altP xs w)
   rw [i3, h1.str]
  ·show _ ↔ (futP (stepP c x b) [] ∨ futA _ []) ∨ en = true
   rw [i4, ← en_fut h1.ok, Bool.or_eq_true]
   constructor
   ·rintro (h | h | h)
    ·exact Or.inl (Or.inr h)
    ·exact Or.inr h
    ·exact Or.inl (Or.inl h)
   ·rintro ((h | h) | h)
    ·exact Or.inr (Or.inr h)
    ·exact Or.inl h
    ·exact Or.inr (Or.inl h)
  ·obtain ⟨g1, g2⟩ := i5 hl
   rw [Bool.or_eq_false_iff] at g1
   refine ⟨g1.1, fun y hy => ?_⟩
   rcases List.mem_cons.1 hy with rfl | hy
   ·exact g1.2
   ·exact g2 y hy
theorem stepped (c : Nat) : ∀ x : Pt, Pt.All okI x → ∀ b, Stepped c b x (stepP c x b) := by
 refine Pt.ind fun k u0 u1 u2 u3 p cap sk ag lv en ks ih => ?_
 intro hA b
 obtain ⟨ho, hk⟩ : okI (.mk k u0 u1 u2 u3 p cap sk ag lv en ks) ∧ ∀ x ∈ ks, Pt.All okI x := by cases hA with | mk h1 h2 => exact ⟨h1, h2⟩
 have hS : ∀ x ∈ ks, ∀ b, Stepped c b x (stepP c x b) := fun x hx => ih x hx (hk x hx)
 rw [stepP]
 by_cases h0 : (!(b || (ag && en)) && !lv) = true
 ·rw [if_pos h0]
  rw [Bool.and_eq_true, Bool.not_eq_true', Bool.not_eq_true', Bool.or_eq_false_iff] at h0
  obtain ⟨⟨hb, -⟩, hl⟩ := h0
  subst hb
  refine ⟨hA, fun v => ?_, rfl, rfl, rfl⟩
  have h1 := dead _ hA hl
  exact ⟨fun h => absurd h (h1 v), fun h => h.elim (fun h => absurd h (h1 _)) fun h => absurd h.1 Bool.false_ne_true⟩
 ·rw [if_neg h0]
  clear h0
  have ho3 := ho.2.2.1
  have ho2 := ho.2.1
  by_cases h1 : k = 2 ∨ k = 4
  ·rw [if_pos h1]
   obtain ⟨i1, i2, i3, i4, i5, i6⟩ := row_step c ks hk hS (b || (ag && en)) false false
   have hb : baseP (.mk k u0 u1 u2 u3 p cap sk ag (rowF c ks (b || (ag && en)) false false).2.2 (rowF c ks (b || (ag && en)) false false).2.1 (rowF c ks (b || (ag && en)) false false).1) = baseP (.mk k u0 u1 u2 u3 p cap sk ag lv en ks) := by
    funext w
    rw [base_mk, base_mk, if_pos h1, if_pos h1, i3]
   refine ⟨.mk ⟨ho.1, fun h => ho.2.1 (by rw [← hb]; exact h), ?_, fun h => ⟨?_, (i5 h).2⟩, Or.inl h1⟩ i1, fun v => ?_, hb, rfl, rfl⟩
   ·show (rowF c ks (b || (ag && en)) false false).2.1 = true ↔ _
    rw [i4, fut_mk, if_pos h1]
    simp
   ·show (rowF c ks (b || (ag && en)) false false).2.1 = false
    cases he : (rowF c ks (b || (ag && en)) false false).2.1 with
    | false => rfl
    | true =>
     exfalso
     rw [i4] at he
     rcases he with he | he
     ·have hd := (i5 h).2
      generalize (rowF c ks (b || (ag && en)) false false).1 = l at *
      clear i2 i3 i4 i5 i6 hb h
      induction l with
      | nil => exact he
      | cons x l ihl =>
       rcases he with ⟨p, q, -, h2, -⟩ | he
       ·exact dead x (i1 x (by simp)) (hd x (by simp)) _ h2
       ·exact ihl (fun y hy => i1 y (by simp [hy])) he (fun y hy => hd y (by simp [hy]))
     ·exact Bool.false_ne_true he.1
   ·unfold futP strP
    rw [hb]
    refine wrap_step (en := en) ho3 (fun v => ?_) v
    rw [fut_mk, fut_mk, base_mk, if_pos h1, if_pos h1, if_pos h1, i2]
    exact Iff.rfl
  ·rw [if_neg h1]
   by_cases h2 : k = 3
   ·rw [if_pos h2]
    obtain ⟨i1, i2, i3, i4, i5, i6⟩ := alt_step c ks hS (b || (ag && en)) false false
    have hb : baseP (.mk k u0 u1 u2 u3 p cap sk ag (altF c ks (b || (ag && en)) false false).2.2 (altF c ks (b || (ag && en)) false false).2.1 (altF c ks (b || (ag && en)) false false).1) = baseP (.mk k u0 u1 u2 u3 p cap sk ag lv en ks) := by
     funext w
     rw [base_mk, base_mk, if_neg h1, if_neg h1, if_pos h2, if_pos h2, i3]
    refine ⟨.mk ⟨ho.1, fun h => ho.2.1 (by rw [← hb]; exact h), ?_, fun h => ⟨?_, (i5 h).2⟩, Or.inr (Or.inl h2)⟩ i1, fun v => ?_, hb, rfl, rfl⟩
    ·show (altF c ks (b || (ag && en)) false false).2.1 = true ↔ _
     rw [i4, fut_mk, if_neg h1, if_pos h2]
     simp
    ·show (altF c ks (b || (ag && en)) false false).2.1 = false
     cases he : (altF c ks (b || (ag && en)) false false).2.1 with
     | false => rfl
     | true =>
      exfalso
      rw [i4] at he
      rcases he with he | he
      ·have hd := (i5 h).2
       generalize (altF c ks (b || (ag && en)) false false).1 = l at *
       clear i2 i3 i4 i5 i6 hb h
       induction l with
       | nil => exact he
       | cons x l ihl =>
        rcases he with h2 | he
        ·exact dead x (i1 x (by simp)) (hd x (by simp)) _ h2
        ·exact ihl (fun y hy => i1 y (by simp [hy])) he (fun y hy => hd y (by simp [hy]))
      ·exact Bool.false_ne_true he
    ·unfold futP strP
     rw [hb]
     refine wrap_step (en := en) ho3 (fun v => ?_) v
     rw [fut_mk, fut_mk, base_mk, if_neg h1, if_neg h1, if_neg h1, if_pos h2, if_pos h2, if_pos h2, i2]
     exact Iff.rfl
   ·rw [if_neg h2]
    have hb : ∀ (lv en : Bool), baseP (.mk k u0 u1 u2 u3 p cap sk ag lv en ks) = fun w => ∃ c, w = [c] ∧ S1.mem4 u0.toNat u1.toNat u2.toNat u3.toNat c = true := fun lv en => by
     funext w
     rw [base_mk, if_neg h1, if_neg h2]
    have hf : ∀ (lv en : Bool) (v : List Nat), futB (.mk k u0 u1 u2 u3 p cap sk ag lv en ks) v = (en = true ∧ v = []) := fun lv en v => by rw [fut_mk, if_neg h1, if_neg h2]
    have hks : ks = [] := by
     rcases ho.2.2.2.2 with h | h | h
     ·exact absurd h h1
     ·exact absurd h h2
     ·exact h
    subst hks
    refine ⟨.mk ⟨ho.1, fun h => ho.2.1 (by rw [hb]; rw [hb] at h; exact h), ?_, fun h => ⟨h, fun y hy => absurd hy List.not_mem_nil⟩, ho.2.2.2.2⟩ (fun x hx => absurd hx List.not_mem_nil), fun v => ?_, by rw [hb, hb], rfl, rfl⟩
    ·rw [hf]; simp [Pt.en]
    ·unfold futP strP
     rw [hb, hb]
     refine wrap_step (en := en) (by rw [hf]; simp) (fun v => ?_) v
     rw [hf, hf]
     constructor
     ·rintro ⟨h, rfl⟩
      rw [Bool.and_eq_true] at h
      exact Or.inr ⟨h.1, c, rfl, h.2⟩
     ·rintro (⟨-, h⟩ | ⟨h, d, e, h3⟩)
      ·cases h
      ·rw [List.cons.injEq] at e
       obtain ⟨rfl, rfl⟩ := e
       exact ⟨by rw [Bool.and_eq_true]; exact ⟨h, h3⟩, rfl⟩
end Go.Proofs.YtobbifhflnlplaaDoor
namespace Go.Proofs.YtobbifhflnlplaaDoor
open Go.Tree7
open S7
def Pt.flag (s a : Bool) : Pt → Pt | .mk k u0 u1 u2 u3 p cap _ _ lv en ks => .mk k u0 u1 u2 u3 p cap s a lv en ks
def cntN (mn mx : Int) : Int := if mx = -1 then mn + 1 else mx
inductive Spr : T → Pt → Prop
 | leaf {k u0 u1 u2 u3 : Int} {p : Option Addr} {cap : Nat} {mn mx : Int} {tx : ByteArray} {ks : List T} {p' : Option Addr} {cap' : Nat} (h : k ≠ 2 ∧ k ≠ 3 ∧ k ≠ 4) :
   Spr (.mk k u0 u1 u2 u3 p cap mn mx tx ks) (.mk k u0 u1 u2 u3 p' cap' false false false false [])
 | cat {u0 u1 u2 u3 : Int} {p : Option Addr} {cap : Nat} {mn mx : Int} {tx : ByteArray} {ks : List T} {p' : Option Addr} {cap' : Nat} {ps : List Pt} (hl : ps.length = ks.length) (h : ∀ i (h1 : i < ks.length) (h2 : i < ps.length), Spr ks[i] ps[i]) :
   Spr (.mk 2 u0 u1 u2 u3 p cap mn mx tx ks) (.mk 2 u0 u1 u2 u3 p' cap' (ps.all Pt.sk) false false false ps)
 | alt {u0 u1 u2 u3 : Int} {p : Option Addr} {cap : Nat} {mn mx : Int} {tx : ByteArray} {ks : List T} {p' : Option Addr} {cap' : Nat} {ps : List Pt} (hl : ps.length = ks.length) (h : ∀ i (h1 : i < ks.length) (h2 : i < ps.length), Spr ks[i] ps[i]) :
   Spr (.mk 3 u0 u1 u2 u3 p cap mn mx tx ks) (.mk 3 u0 u1 u2 u3 p' cap' (ps.any Pt.sk) false false false ps)
 | rep {u0 u1 u2 u3 : Int} {p : Option Addr} {cap : Nat} {mn mx : Int} {tx : ByteArray} {t : T} {p' : Option Addr} {cap' : Nat} {ps : List Pt} (hl : (ps.length : Int) = cntN mn mx) (qs : Nat → Pt)
   (h : ∀ i, i < ps.length → Spr t (qs i)) (h' : ∀ i (h2 : i < ps.length), ps[i] = if mn ≤ (i : Int) then (qs i).flag true (decide (mx = -1)) else qs i) :
   Spr (.mk 4 u0 u1 u2 u3 p cap mn mx tx [t]) (.mk 4 u0 u1 u2 u3 p' cap' (ps.all Pt.sk) false false false ps)
theorem str_plain {x : Pt} (h : x.ag = false) (w : List Nat) : strP x w ↔ baseP x w ∨ (x.sk = true ∧ w = []) := by
 unfold strP wrapL
 rw [if_neg (by rw [h]; exact Bool.false_ne_true)]
structure Fresh (t : T) (x : Pt) : Prop where
 ok : Pt.All okI x
 ag : x.ag = false
 lv : x.lv = false
 str : ∀ w, strP x w ↔ lang t w
theorem catP_lang : ∀ (ks : List T) (ps : List Pt), ps.length = ks.length → (∀ i (h1 : i < ks.length) (h2 : i < ps.length), ∀ w, strP ps[i] w ↔ lang ks[i] w) → ∀ w, catP ps w ↔ catW (ks.map lang) w
 | [], [], _, _, w => Iff.rfl
 | [], _ :: _, h, _, _ => by simp at h
 | _ :: _, [], h, _, _ => by simp at h
 | t :: ks, x :: ps, h, hk, w => by
  have ih := catP_lang ks ps (by simpa using h) fun i h1 h2 => hk (i + 1) (by simpa using h1) (by simpa using h2)
  have h0 := hk 0 (by simp) (by simp)
  simp only [List.getElem_cons_zero] at h0
  show (∃ u v, w = u ++ v ∧ strP x u ∧ catP ps v) ↔ ∃ u v, w = u ++ v ∧ lang t u ∧ catW (ks.map lang) v
  simp only [h0, ih]
theorem altP_lang : ∀ (ks : List T) (ps : List Pt), ps.length = ks.length → (∀ i (h1 : i < ks.length) (h2 : i < ps.length), ∀ w, strP ps[i] w ↔ lang ks[i] w) → ∀ w, altP ps w ↔ ∃ L ∈ ks.map lang, L w
 | [], [], _, _, w => by simp [altP]
 | [], _ :: _, h, _, _ => by simp at h
 | _ :: _, [], h, _, _ => by simp at h
 | t :: ks, x :: ps, h, hk, w => by
  have ih := altP_lang ks ps (by simpa using h) fun i h1 h2 => hk (i + 1) (by simpa using h1) (by simpa using h2)
  have h0 := hk 0 (by simp) (by simp)
  simp only [List.getElem_cons_zero] at h0
  show (strP x w ∨ altP ps w) ↔ _
  rw [h0, ih]
  simp
theorem futR_dead {ps : List Pt} (h : ∀ x ∈ ps, Pt.All okI x ∧ x.lv = false) (v : List Nat) : ¬ futR ps v := by
 induction ps with
 | nil => exact id
 | cons x l ih =>
  rintro (⟨a, b, -, h2, -⟩ | h2)
  ·exact dead x (h x (by simp)).1 (h x (by simp)).2 _ h2
  ·exact ih (fun y hy => h y (by simp [hy])) h2
theorem futA_dead {ps : List Pt} (h : ∀ x ∈ ps, Pt.All okI x ∧ x.lv = false) (v : List Nat) : ¬ futA ps v := by
 induction ps with
 | nil => exact id
 | cons x l ih =>
  rintro (h2 | h2)
  ·exact dead x (h x (by simp)).1 (h x (by simp)).2 _ h2
  ·exact ih (fun y hy => h y (by simp [hy])) h2
theorem altP_nil {l : List Pt} (h : ∀ x ∈ l, okI x) : altP l [] ↔ l.any Pt.sk = true := by
 induction l with
 | nil => simp [altP]
 | cons x l ih =>
  show (strP x [] ∨ altP l []) ↔ _
  rw [okI_nil (h x (by simp)), ih fun y hy => h y (by simp [hy]), List.any_cons, Bool.or_eq_true]
theorem catP_strs : ∀ (ps : List Pt), catP ps = catW (ps.map strP)
 | [] => rfl
 | x :: ps => by
  funext w
  show (∃ u v, w = u ++ v ∧ strP x u ∧ catP ps v) = _
  rw [catP_strs ps]
  rfl
theorem pow_add (L : List Nat → Prop) : ∀ (m n : Nat) (w : List Nat), powW L (m + n) w ↔ ∃ u v, w = u ++ v ∧ powW L m u ∧ powW L n v
 | 0, n, w => by
  rw [Nat.zero_add]
  constructor
  ·exact fun h => ⟨[], w, rfl, rfl, h⟩
  ·rintro ⟨u, v, rfl, rfl, h⟩; exact h
 | m + 1, n, w => by
  rw [show m + 1 + n = (m + n) + 1 by omega]
  show (∃ u v, w = u ++ v ∧ L u ∧ powW L (m + n) v) ↔ ∃ u v, w = u ++ v ∧ (∃ a b, u = a ++ b ∧ L a ∧ powW L m b) ∧ powW L n v
  constructor
  ·rintro ⟨u, v, rfl, h1, h2⟩
   obtain ⟨a, b, rfl, h3, h4⟩ := (pow_add L m n v).1 h2
   exact ⟨u ++ a, b, by rw [List.append_assoc], ⟨u, a, rfl, h1, h3⟩, h4⟩
  ·rintro ⟨u, v, rfl, ⟨a, b, rfl, h1, h2⟩, h3⟩
   exact ⟨a, b ++ v, by rw [List.append_assoc], h1, (pow_add L m n _).2 ⟨b, v, rfl, h2, h3⟩⟩
theorem catW_rep (L : List Nat → Prop) : ∀ (n : Nat) (w : List Nat), catW (List.replicate n L) w ↔ powW L n w
 | 0, w => Iff.rfl
 | n + 1, w => by
  rw [List.replicate_succ]
  show (∃ u v, w = u ++ v ∧ L u ∧ catW (List.replicate n L) v) ↔ ∃ u v, w = u ++ v ∧ L u ∧ powW L n v
  simp only [catW_rep L n]
theorem pow_upto (L : List Nat → Prop) : ∀ (n : Nat) (w : List Nat), powW (fun w => L w ∨ w = []) n w ↔ ∃ m, m ≤ n ∧ powW L m w
 | 0, w => by
  constructor
  ·exact fun h => ⟨0, Nat.le_refl _, h⟩
  ·rintro ⟨m, hm, h⟩; obtain rfl : m = 0 := by omega
   exact h
 | n + 1, w => by
  show (∃ u v, w = u ++ v ∧ (L u ∨ u = []) ∧ powW _ n v) ↔ _
  simp only [pow_upto L n]
  constructor
  ·rintro ⟨u, v, rfl, h | rfl, m, hm, h2⟩
   ·exact ⟨m + 1, by omega, u, v, rfl, h, h2⟩
   ·exact ⟨m, by omega, h2⟩
  ·rintro ⟨m, hm, h⟩
   cases m with
   | zero => exact ⟨[], w, rfl, Or.inr rfl, 0, Nat.zero_le _, h⟩
   | succ m =>
    obtain ⟨u, v, rfl, h1, h2⟩ := h
    exact ⟨u, v, rfl, Or.inl h1, m, by omega, h2⟩
theorem star_wrap (sk : Bool) (L : List Nat → Prop) (w : List Nat) : starW (fun w => L w ∨ (sk = true ∧ w = [])) w ↔ starW L w := by
 constructor
 ·rintro ⟨n, h⟩
  have : powW (fun w => L w ∨ w = []) n w := by
   induction n generalizing w with
   | zero => exact h
   | succ n ih =>
    obtain ⟨u, v, rfl, h1, h2⟩ := h
    exact ⟨u, v, rfl, h1.imp id fun h => h.2, ih v h2⟩
  obtain ⟨m, -, h⟩ := (pow_upto L n w).1 this
  exact ⟨m, h⟩
 ·rintro ⟨n, h⟩
  refine ⟨n, ?_⟩
  induction n generalizing w with
  | zero => exact h
  | succ n ih =>
   obtain ⟨u, v, rfl, h1, h2⟩ := h
   exact ⟨u, v, rfl, Or.inl h1, ih v h2⟩
theorem flag_base (s a : Bool) (x : Pt) : baseP (x.flag s a) = baseP x := by
 cases x with
 | mk k u0 u1 u2 u3 p cap sk ag lv en ks =>
  funext w
  show baseP (.mk k u0 u1 u2 u3 p cap s a lv en ks) w = _
  rw [base_mk, base_mk]
theorem flag_fut (s a : Bool) (x : Pt) (v : List Nat) : futB (x.flag s a) v = futB x v := by
 cases x with
 | mk k u0 u1 u2 u3 p cap sk ag lv en ks =>
  show futB (.mk k u0 u1 u2 u3 p cap s a lv en ks) v = _
  rw [fut_mk, fut_mk]
theorem flag_ok {x : Pt} (h : Pt.All okI x) (a : Bool) : Pt.All okI (x.flag true a) := by
 have hb := flag_base true a x
 have hf := flag_fut true a x []
 cases x with
 | mk k u0 u1 u2 u3 p cap sk ag lv en ks =>
  obtain ⟨ho, hk⟩ : okI (.mk k u0 u1 u2 u3 p cap sk ag lv en ks) ∧ ∀ x ∈ ks, Pt.All okI x := by cases h with | mk h1 h2 => exact ⟨h1, h2⟩
  refine .mk ⟨fun _ => rfl, fun _ => rfl, ?_, ho.2.2.2.1, ho.2.2.2.2⟩ hk
  have := ho.2.2.1
  show en = true ↔ futB (Pt.flag true a (.mk k u0 u1 u2 u3 p cap sk ag lv en ks)) []
  rw [hf]
  exact this
theorem rep_lang {t : T} {mn mx : Int} {ps : List Pt} (hmn : 0 ≤ mn) (hmx : mx = -1 ∨ mn ≤ mx) (hl : (ps.length : Int) = cntN mn mx)
  (h : ∀ i (h2 : i < ps.length), ∃ q : Pt, Fresh t q ∧ ps[i] = if mn ≤ (i : Int) then q.flag true (decide (mx = -1)) else q) (w : List Nat) :
  catP ps w ↔ ∃ n : Nat, mn ≤ n ∧ (mx = -1 ∨ (n : Int) ≤ mx) ∧ powW (lang t) n w := by
 obtain ⟨m, rfl⟩ : ∃ m : Nat, mn = m := ⟨mn.toNat, by omega⟩
 have hstr : ∀ q : Pt, Fresh t q → strP q = lang t := fun q hq => funext fun w => propext (hq.str w)
 have hbase : ∀ q : Pt, Fresh t q → ∀ w, baseP q w ∨ (q.sk = true ∧ w = []) ↔ lang t w := fun q hq w => by
  rw [← hq.str w]
  unfold strP wrapL
  rw [if_neg (by rw [hq.ag]; exact Bool.false_ne_true)]
 rcases hmx with rfl | hmx
 ·-- any number behind them
  rw [show cntN (m : Int) (-1) = (m : Int) + 1 from rfl] at hl
  have e : ps.map strP = List.replicate m (lang t) ++ [starW (lang t)] := by
   refine List.ext_getElem (by simp; omega) fun i h1 h2 => ?_
   rw [List.length_map] at h1
   obtain ⟨q, hq, e⟩ := h i h1
   replace e : ps[i] = if (m : Int) ≤ i then q.flag true true else q := e
   rw [List.getElem_map, e]
   by_cases hi : (m : Int) ≤ i
   ·obtain rfl : i = m := by omega
    rw [if_pos hi, List.getElem_append_right (by simp)]
    simp only [List.length_replicate, Nat.sub_self, List.getElem_cons_zero]
    funext w
    unfold strP
    rw [flag_base, show (q.flag true true).ag = true by cases q; rfl, wrapL, if_pos rfl, ← star_wrap q.sk]
    congr 1
    funext w
    exact propext (hbase q hq w)
   ·rw [if_neg hi, List.getElem_append_left (by rw [List.length_replicate]; omega), List.getElem_replicate, hstr q hq]
  rw [catP_strs, e, catW_append]
  simp only [catW_one, catW_rep]
  constructor
  ·rintro ⟨u, v, rfl, h1, n, h2⟩
   exact ⟨m + n, by omega, Or.inl trivial, (pow_add _ _ _ _).2 ⟨u, v, rfl, h1, h2⟩⟩
  ·rintro ⟨n, hn, -, h1⟩
   obtain ⟨d, rfl⟩ : ∃ d, n = m + d := ⟨n - m, by omega⟩
   obtain ⟨u, v, rfl, h2, h3⟩ := (pow_add _ _ _ _).1 h1
   exact ⟨u, v, rfl, h2, d, h3⟩
 ·obtain ⟨x, rfl⟩ : ∃ x : Nat, mx = x := ⟨mx.toNat, by omega⟩
  rw [show cntN (m : Int) x = (x : Int) by unfold cntN; rw [if_neg (by omega)]] at hl
  have e : ps.map strP = List.replicate m (lang t) ++ List.replicate (x - m) (fun w => lang t w ∨ w = []) := by
   refine List.ext_getElem (by simp; omega) fun i h1 h2 => ?_
   rw [List.length_map] at h1
   obtain ⟨q, hq, e⟩ := h i h1
   have hx : decide ((x : Int) = -1) = false := decide_eq_false (by omega)
   rw [hx] at e
   rw [List.getElem_map, e]
   by_cases hi : (m : Int) ≤ i
   ·rw [if_pos hi, List.getElem_append_right (by rw [List.length_replicate]; omega), List.getElem_replicate]
    funext w
    unfold strP
    rw [flag_base, show (q.flag true false).ag = false by cases q; rfl, show (q.flag true false).sk = true by cases q; rfl, wrapL, if_neg Bool.false_ne_true, ← hbase q hq w]
    apply propext
    constructor
    ·rintro (h | h)
     ·exact Or.inl (Or.inl h)
     ·exact Or.inr h.2
    ·rintro ((h | h) | h)
     ·exact Or.inl h
     ·exact Or.inr ⟨rfl, h.2⟩
     ·exact Or.inr ⟨rfl, h⟩
   ·rw [if_neg hi, List.getElem_append_left (by rw [List.length_replicate]; omega), List.getElem_replicate, hstr q hq]
  rw [catP_strs, e, catW_append]
  simp only [catW_rep, pow_upto]
  constructor
  ·rintro ⟨u, v, rfl, h1, n, hn, h2⟩
   exact ⟨m + n, by omega, Or.inr (by omega), (pow_add _ _ _ _).2 ⟨u, v, rfl, h1, h2⟩⟩
  ·rintro ⟨n, hn, hn2, h1⟩
   obtain ⟨d, rfl⟩ : ∃ d, n = m + d := ⟨n - m, by omega⟩
   obtain ⟨u, v, rfl, h2, h3⟩ := (pow_add _ _ _ _).1 h1
   refine ⟨u, v, rfl, h2, d, ?_, h3⟩
   rcases hn2 with h | h <;> omega
theorem mem_noS {u0 u1 u2 u3 : Nat} (h : S1.eqB (S1.mem4 u0 u1 u2 u3) S1.noS = true) (c : Nat) : S1.mem4 u0 u1 u2 u3 c = false := by
 have h1 := S1.eqB_spec h
 by_cases hc : c < 256
 ·exact h1 c hc
 ·have := h1 (192 + c % 64) (by omega)
  unfold S1.mem4 at this ⊢
  rw [if_neg (by omega), if_neg (by omega), if_neg (by omega)] at this ⊢
  rw [show (192 + c % 64) % 64 = c % 64 by omega] at this
  exact this
theorem spr_fresh : ∀ t : T, T.All (fun t => T.ok t = true) t → ∀ x, Spr t x → Fresh t x := by
 refine T.ind fun k u0 u1 u2 u3 p cap mn mx tx ks ih => ?_
 intro hA x hs
 obtain ⟨ho, hAk⟩ : T.ok (.mk k u0 u1 u2 u3 p cap mn mx tx ks) = true ∧ ∀ t ∈ ks, T.All (fun t => T.ok t = true) t := by cases hA with | mk h1 h2 => exact ⟨h1, h2⟩
 have hok := okn_of ho
 cases hs with
 | @leaf _ _ _ _ _ _ _ _ _ _ _ p' cap' h =>
  have hb : ∀ w, baseP (.mk k u0 u1 u2 u3 p' cap' false false false false []) w ↔ ∃ c, w = [c] ∧ S1.mem4 u0.toNat u1.toNat u2.toNat u3.toNat c = true := fun w => by
   rw [base_mk, if_neg (by omega), if_neg h.2.1]
  have hs : ∀ w, strP (.mk k u0 u1 u2 u3 p' cap' false false false false []) w ↔ ∃ c, w = [c] ∧ S1.mem4 u0.toNat u1.toNat u2.toNat u3.toNat c = true := fun w => by
   rw [str_plain rfl, hb]
   exact ⟨fun h => h.elim id fun h => absurd h.1 Bool.false_ne_true, Or.inl⟩
  refine ⟨.mk ⟨fun h => absurd h Bool.false_ne_true, fun h => ?_, ?_, fun _ => ⟨rfl, fun y hy => absurd hy List.not_mem_nil⟩, Or.inr (Or.inr rfl)⟩ (fun y hy => absurd hy List.not_mem_nil), rfl, rfl, fun w => ?_⟩
  ·obtain ⟨c, e, -⟩ := (hb []).1 h
   cases e
  ·rw [fut_mk, if_neg (by omega), if_neg h.2.1]
   exact ⟨fun h => absurd h Bool.false_ne_true, fun h => absurd h.1 Bool.false_ne_true⟩
  ·rw [hs]
   cases hok with
   | bytes e => subst e; rw [lang_mk, if_pos rfl]
   | cat e => exact absurd e h.1
   | alt e => exact absurd e h.2.1
   | rep e => exact absurd e h.2.2
   | name e =>
    subst e
    rw [lang_mk, if_neg (by decide), if_neg (by decide), if_neg (by decide), if_neg (by decide)]
    replace ho : okB _ 5 ks.length mn mx tx = true := ho
    unfold okB plainB at ho
    rw [if_neg (by decide), if_neg (by decide), if_neg (by decide), if_neg (by decide), if_pos rfl] at ho
    simp only [Bool.and_eq_true] at ho
    have hn : S1.eqB (S1.mem4 u0.toNat u1.toNat u2.toNat u3.toNat) S1.noS = true := ho.2.1.1.1
    constructor
    ·rintro ⟨c, -, hc⟩
     rw [mem_noS hn] at hc
     cases hc
    ·exact False.elim
 | @cat _ _ _ _ _ _ _ _ _ _ p' cap' ps hl h =>
  have hf : ∀ i (h1 : i < ks.length) (h2 : i < ps.length), Fresh ks[i] ps[i] := fun i h1 h2 => ih _ (List.getElem_mem h1) (hAk _ (List.getElem_mem h1)) _ (h i h1 h2)
  have hm : ∀ y ∈ ps, Pt.All okI y ∧ y.lv = false := fun y hy => by
   obtain ⟨i, hi, rfl⟩ := List.getElem_of_mem hy
   have := hf i (by omega) hi
   exact ⟨this.ok, this.lv⟩
  have hn := catP_nil (l := ps) fun y hy => all_okI (hm y hy).1
  have hb : ∀ w, baseP (.mk 2 u0 u1 u2 u3 p' cap' (ps.all Pt.sk) false false false ps) w ↔ catP ps w := fun w => by rw [base_mk, if_pos (by decide)]
  refine ⟨.mk ⟨fun h => absurd h Bool.false_ne_true, fun h => ?_, ?_, fun _ => ⟨rfl, fun y hy => (hm y hy).2⟩, Or.inl (Or.inl rfl)⟩ (fun y hy => (hm y hy).1), rfl, rfl, fun w => ?_⟩
  ·exact hn.1 ((hb []).1 h)
  ·rw [fut_mk, if_pos (by decide)]
   exact ⟨fun h => absurd h Bool.false_ne_true, fun h => absurd h (futR_dead hm _)⟩
  ·rw [str_plain rfl, hb, lang_mk, if_neg (by decide), if_pos rfl, ← catP_lang ks ps hl fun i h1 h2 => (hf i h1 h2).str]
   exact ⟨fun h => h.elim id fun h => by rw [h.2]; exact hn.2 h.1, Or.inl⟩
 | @alt _ _ _ _ _ _ _ _ _ _ p' cap' ps hl h =>
  have hf : ∀ i (h1 : i < ks.length) (h2 : i < ps.length), Fresh ks[i] ps[i] := fun i h1 h2 => ih _ (List.getElem_mem h1) (hAk _ (List.getElem_mem h1)) _ (h i h1 h2)
  have hm : ∀ y ∈ ps, Pt.All okI y ∧ y.lv = false := fun y hy => by
   obtain ⟨i, hi, rfl⟩ := List.getElem_of_mem hy
   have := hf i (by omega) hi
   exact ⟨this.ok, this.lv⟩
  have hn := altP_nil (l := ps) fun y hy => all_okI (hm y hy).1
  have hb : ∀ w, baseP (.mk 3 u0 u1 u2 u3 p' cap' (ps.any Pt.sk) false false false ps) w ↔ altP ps w := fun w => by rw [base_mk, if_neg (by decide), if_pos rfl]
  refine ⟨.mk ⟨fun h => absurd h Bool.false_ne_true, fun h => ?_, ?_, fun _ => ⟨rfl, fun y hy => (hm y hy).2⟩, Or.inr (Or.inl rfl)⟩ (fun y hy => (hm y hy).1), rfl, rfl, fun w => ?_⟩
  ·exact hn.1 ((hb []).1 h)
  ·rw [fut_mk, if_neg (by decide), if_pos rfl]
   exact ⟨fun h => absurd h Bool.false_ne_true, fun h => absurd h (futA_dead hm _)⟩
  ·rw [str_plain rfl, hb, lang_mk, if_neg (by decide), if_neg (by decide), if_pos rfl, ← altP_lang ks ps hl fun i h1 h2 => (hf i h1 h2).str]
   exact ⟨fun h => h.elim id fun h => by rw [h.2]; exact hn.2 h.1, Or.inl⟩
 | @rep _ _ _ _ _ _ _ _ _ t p' cap' ps hl qs h h' =>
  have hmm : 0 ≤ mn ∧ (mx = -1 ∨ mn ≤ mx) := by
   cases hok with
   | rep _ _ _ h3 h4 => exact ⟨h3.1, by omega⟩
   | bytes e => cases e
   | cat e => cases e
   | alt e => cases e
   | name e => cases e
  have hf : ∀ i (h2 : i < ps.length), ∃ q : Pt, Fresh t q ∧ ps[i] = if mn ≤ (i : Int) then q.flag true (decide (mx = -1)) else q := fun i h2 => by
   exact ⟨qs i, ih t (by simp) (hAk t (by simp)) _ (h i h2), h' i h2⟩
  have hm : ∀ y ∈ ps, Pt.All okI y ∧ y.lv = false := fun y hy => by
   obtain ⟨i, hi, rfl⟩ := List.getElem_of_mem hy
   obtain ⟨q, hq, e⟩ := hf i hi
   rw [e]
   split
   ·exact ⟨flag_ok hq.ok _, by have := hq.lv; cases q; exact this⟩
   ·exact ⟨hq.ok, hq.lv⟩
  have hn := catP_nil (l := ps) fun y hy => all_okI (hm y hy).1
  have hb : ∀ w, baseP (.mk 4 u0 u1 u2 u3 p' cap' (ps.all Pt.sk) false false false ps) w ↔ catP ps w := fun w => by rw [base_mk, if_pos (by decide)]
  refine ⟨.mk ⟨fun h => absurd h Bool.false_ne_true, fun h => ?_, ?_, fun _ => ⟨rfl, fun y hy => (hm y hy).2⟩, Or.inl (Or.inr rfl)⟩ (fun y hy => (hm y hy).1), rfl, rfl, fun w => ?_⟩
  ·exact hn.1 ((hb []).1 h)
  ·rw [fut_mk, if_pos (by decide)]
   exact ⟨fun h => absurd h Bool.false_ne_true, fun h => absurd h (futR_dead hm _)⟩
  ·rw [str_plain rfl, hb, lang_mk, if_neg (by decide), if_neg (by decide), if_neg (by decide), if_pos rfl, List.map_cons, List.headD_cons, ← rep_lang hmm.1 hmm.2 hl hf]
   exact ⟨fun h => h.elim id fun h => by rw [h.2]; exact hn.2 h.1, Or.inl⟩
structure Read (t : T) (w : List Nat) (x : Pt) : Prop where
 ok : Pt.All okI x
 ag : x.ag = false
 fut : ∀ v, futP x v ↔ w ≠ [] ∧ lang t (w ++ v)
 str : ∀ v, strP x v ↔ lang t v
theorem read_fresh {t : T} {x : Pt} (h : Fresh t x) : Read t [] x := ⟨h.ok, h.ag, fun v => ⟨fun h1 => absurd h1 (dead x h.ok h.lv v), fun h1 => absurd rfl h1.1⟩, h.str⟩
theorem read_step {t : T} {w : List Nat} {x : Pt} (h : Read t w x) (c : Nat) : Read t (w ++ [c]) (stepP c x (decide (w = []))) := by
 have hs := stepped c x h.ok (decide (w = []))
 refine ⟨hs.ok, hs.ag.trans h.ag, fun v => ?_, fun v => by rw [hs.str]; exact h.str v⟩
 rw [hs.fut, h.fut, h.str, decide_eq_true_eq, List.append_assoc]
 simp only [List.cons_append, List.nil_append]
 constructor
 ·rintro (⟨-, h1⟩ | ⟨rfl, h1⟩)
  ·exact ⟨by simp, h1⟩
  ·exact ⟨by simp, h1⟩
 ·rintro ⟨-, h1⟩
  by_cases hw : w = []
  ·exact Or.inr ⟨hw, by subst hw; exact h1⟩
  ·exact Or.inl ⟨hw, h1⟩
theorem read_ends {t : T} {w : List Nat} {x : Pt} (h : Read t w x) (hw : w ≠ []) : x.en = true ↔ lang t w := by
 rw [en_fut h.ok, h.fut, List.append_nil]
 exact ⟨fun h => h.2, fun h => ⟨hw, h⟩⟩
theorem read_dead {t : T} {w : List Nat} {x : Pt} (h : Read t w x) (hw : w ≠ []) (hl : x.lv = false) (v : List Nat) : ¬ lang t (w ++ v) := fun h1 => dead x h.ok hl v ((h.fut v).2 ⟨hw, h1⟩)
theorem read_skips {t : T} {x : Pt} (h : Read t [] x) : x.sk = true ↔ lang t [] := by rw [← okI_nil (all_okI h.ok)]; exact h.str []
end Go.Proofs.YtobbifhflnlplaaDoor
