/- Texts merged: M8, M9, M10, M12, M13, M14, M15, M16, M17. -/

import Derived.Test.YtobbifhflnlplaaDoorS7C
namespace Go.Proofs.YtobbifhflnlplaaDoor
open Go.RowKit
open Go.Tree7
open S7
open S5 (nl nl_length nl_small at_nl nl_at)
def tC (ks : List T) : T := .mk 2 0 0 0 0 none 0 0 0 ⟨#[]⟩ ks
def tA (ks : List T) : T := .mk 3 0 0 0 0 none 0 0 0 ⟨#[]⟩ ks
def tR (a b : Int) (t : T) : T := .mk 4 0 0 0 0 none 0 a b ⟨#[]⟩ [t]
def tN (tx : ByteArray) : T := .mk 5 0 0 0 0 none 0 0 0 tx []
def catT : List T → T
 | [x] => x
 | l => tC l
abbrev Op := List T × List T
def closedT (o : Op) : T := if o.1 = [] then catT o.2 else tA (o.1 ++ [catT o.2])
def Dg (l : List Nat) (k : Nat) : Prop := ∃ c, l[k]? = some c ∧ 48 ≤ c ∧ c ≤ 57
inductive Nm (l : List Nat) : Nat → Nat → Nat → Prop
 | one (k c : Nat) : l[k]? = some c → 48 ≤ c → c ≤ 57 → ¬ Dg l (k + 1) → Nm l k (c - 48) (k + 1)
 | two (k c d : Nat) : l[k]? = some c → 48 ≤ c → c ≤ 57 → l[k + 1]? = some d → 48 ≤ d → d ≤ 57 → ¬ Dg l (k + 2) → 10 * (c - 48) + (d - 48) ≤ 40 → Nm l k (10 * (c - 48) + (d - 48)) (k + 2)
inductive NmBad (l : List Nat) : Nat → Prop
 | long (k : Nat) : Dg l k → Dg l (k + 1) → Dg l (k + 2) → NmBad l k
 | big (k c d : Nat) : l[k]? = some c → 48 ≤ c → c ≤ 57 → l[k + 1]? = some d → 48 ≤ d → d ≤ 57 → ¬ Dg l (k + 2) → 40 < 10 * (c - 48) + (d - 48) → NmBad l k
inductive Bd (l : List Nat) : Nat → Int → Int → Nat → Nat → Prop
 | m (k a j : Nat) : Nm l (k + 1) a j → l[j]? = some 125 → 1 ≤ a → Bd l k a a (j + 1) 0
 | mopen (k a j : Nat) : Nm l (k + 1) a j → l[j]? = some 44 → l[j + 1]? = some 125 → Bd l k a (-1) (j + 2) 0
 | mn (k a j b i : Nat) : Nm l (k + 1) a j → l[j]? = some 44 → Nm l (j + 1) b i → l[i]? = some 125 → a ≤ b → 1 ≤ b → Bd l k a b (i + 1) 0
 | bad1 (k : Nat) : NmBad l (k + 1) → Bd l k 0 0 (k + 1) 1
 | short1 (k a j : Nat) : Nm l (k + 1) a j → j = l.length → Bd l k 0 0 l.length 2
 | form1 (k a j c : Nat) : Nm l (k + 1) a j → l[j]? = some c → c ≠ 44 → c ≠ 125 → Bd l k 0 0 j 4
 | low1 (k j : Nat) : Nm l (k + 1) 0 j → l[j]? = some 125 → Bd l k 0 0 (k + 1) 1
 | short2 (k a j : Nat) : Nm l (k + 1) a j → l[j]? = some 44 → j + 1 = l.length → Bd l k 0 0 l.length 2
 | form2 (k a j c : Nat) : Nm l (k + 1) a j → l[j]? = some 44 → l[j + 1]? = some c → ¬ Dg l (j + 1) → c ≠ 125 → Bd l k 0 0 (j + 1) 4
 | bad2 (k a j : Nat) : Nm l (k + 1) a j → l[j]? = some 44 → NmBad l (j + 1) → Bd l k 0 0 (j + 1) 1
 | short3 (k a j b i : Nat) : Nm l (k + 1) a j → l[j]? = some 44 → Nm l (j + 1) b i → i = l.length → Bd l k 0 0 l.length 2
 | form3 (k a j b i c : Nat) : Nm l (k + 1) a j → l[j]? = some 44 → Nm l (j + 1) b i → l[i]? = some c → c ≠ 125 → Bd l k 0 0 i 4
 | low2 (k a j b i : Nat) : Nm l (k + 1) a j → l[j]? = some 44 → Nm l (j + 1) b i → l[i]? = some 125 → (b < a ∨ b = 0) → Bd l k 0 0 (j + 1) 1
def IsMark (l : List Nat) (k : Nat) : Prop := l[k]? = some 42 ∨ l[k]? = some 43 ∨ l[k]? = some 63 ∨ (l[k]? = some 123 ∧ Dg l (k + 1))
inductive Mk (l : List Nat) : Nat → Int → Int → Nat → Nat → Prop
 | star (k : Nat) : l[k]? = some 42 → Mk l k 0 (-1) (k + 1) 0
 | plus (k : Nat) : l[k]? = some 43 → Mk l k 1 (-1) (k + 1) 0
 | opt (k : Nat) : l[k]? = some 63 → Mk l k 0 1 (k + 1) 0
 | bounds (k : Nat) (a b : Int) (n e : Nat) : l[k]? = some 123 → Dg l (k + 1) → Bd l k a b n e → Mk l k a b n e
inductive Atm (l : List Nat) : Nat → T → Nat → Prop
 | br (k : Nat) (f : Nat → Bool) (n : Nat) : l[k]? = some 91 → S6.Br l k f n 0 → Atm l k (leafT f) n
 | dot (k : Nat) : l[k]? = some 46 → Atm l k (leafT dotS) (k + 1)
 | name (k : Nat) (tx : ByteArray) : l[k]? = some 123 → (∀ j x, (nl tx)[j]? = some x → l[k + 1 + j]? = some x) → l[k + 1 + tx.size]? = some 125 → NameOk (nl tx) → Atm l k (tN tx) (k + tx.size + 2)
 | byte (k c d n : Nat) : l[k]? = some c → c ∉ [42, 43, 63, 93, 125, 47, 91, 46, 123, 40, 41, 124] → S5.Rd l k d n 0 → Atm l k (leafT (S1.oneS d)) n
inductive St (l : List Nat) : List Op → Bool → Nat → List Op → Bool → Nat → Prop
 | mark {bs ps : List T} {x : T} {rest : List Op} {k : Nat} {a b : Int} {n : Nat} : Mk l k a b n 0 → St l ((bs, ps ++ [x]) :: rest) true k ((bs, ps ++ [tR a b x]) :: rest) true n
 | opens {pile : List Op} {fr : Bool} {k : Nat} : l[k]? = some 40 → St l pile fr k (([], []) :: pile) false (k + 1)
 | bar {bs ps : List T} {rest : List Op} {fr : Bool} {k : Nat} : l[k]? = some 124 → St l ((bs, ps) :: rest) fr k ((bs ++ [catT ps], []) :: rest) false (k + 1)
 | close {o : Op} {bs ps : List T} {rest : List Op} {fr : Bool} {k : Nat} : l[k]? = some 41 → St l (o :: (bs, ps) :: rest) fr k ((bs, ps ++ [closedT o]) :: rest) true (k + 1)
 | atom {bs ps : List T} {rest : List Op} {fr : Bool} {k : Nat} {x : T} {n : Nat} : ¬ (fr = true ∧ IsMark l k) → Atm l k x n → St l ((bs, ps) :: rest) fr k ((bs, ps ++ [x]) :: rest) true n
inductive Sts (l : List Nat) : List Op → Bool → Nat → List Op → Bool → Nat → Prop
 | refl (s : List Op) (b : Bool) (k : Nat) : Sts l s b k s b k
 | head {s s' s'' : List Op} {b b' b'' : Bool} {k k' k'' : Nat} : St l s b k s' b' k' → Sts l s' b' k' s'' b'' k'' → Sts l s b k s'' b'' k''
theorem Sts.trans {l : List Nat} {s s' s'' : List Op} {b b' b'' : Bool} {k k' k'' : Nat} (h : Sts l s b k s' b' k') (h' : Sts l s' b' k' s'' b'' k'') : Sts l s b k s'' b'' k'' := by
 induction h with
 | refl => exact h'
 | head a _ ih => exact .head a (ih h')
theorem St.one {l : List Nat} {s s' : List Op} {b b' : Bool} {k k' : Nat} (h : St l s b k s' b' k') : Sts l s b k s' b' k' := .head h (.refl ..)
def Lies (l : List Nat) (k : Nat) (t : List Nat) : Prop := ∃ x y, l = x ++ t ++ y ∧ x.length = k
theorem Lies.left {l : List Nat} {k : Nat} {a b : List Nat} (h : Lies l k (a ++ b)) : Lies l k a := by
 obtain ⟨x, y, rfl, rfl⟩ := h
 exact ⟨x, b ++ y, by simp, rfl⟩
theorem Lies.right {l : List Nat} {k : Nat} {a b : List Nat} (h : Lies l k (a ++ b)) : Lies l (k + a.length) b := by
 obtain ⟨x, y, rfl, rfl⟩ := h
 exact ⟨x ++ a, y, by simp, by simp⟩
theorem Lies.at {l : List Nat} {k : Nat} {t : List Nat} (h : Lies l k t) : ∀ j c, t[j]? = some c → l[k + j]? = some c := by
 obtain ⟨x, y, rfl, rfl⟩ := h
 intro j c hj
 have hl := (List.getElem?_eq_some_iff.1 hj).1
 rw [List.append_assoc, List.getElem?_append_right (by omega), Nat.add_sub_cancel_left, List.getElem?_append_left hl]
 exact hj
inductive Pl : T → Prop
 | set (u0 u1 u2 u3 : Int) : ((Lit.int .u64 u0).wf = true ∧ (Lit.int .u64 u1).wf = true ∧ (Lit.int .u64 u2).wf = true ∧ (Lit.int .u64 u3).wf = true) → Pl (.mk 1 u0 u1 u2 u3 none 0 0 0 ⟨#[]⟩ [])
 | cat (ks : List T) : ks.length ≠ 1 → (∀ t ∈ ks, Pl t) → Pl (tC ks)
 | alt (ks : List T) : 2 ≤ ks.length → (∀ t ∈ ks, Pl t) → Pl (tA ks)
 | rep (a b : Int) (t : T) : 0 ≤ a → a ≤ 40 → (b = -1 ∨ (a ≤ b ∧ 1 ≤ b ∧ b ≤ 40)) → Pl t → Pl (tR a b t)
 | name (tx : ByteArray) : NameOk (nl tx) → Pl (tN tx)
def Piece (t : T) (s : List Nat) : Prop := ∀ (l : List Nat) (k : Nat), Lies l k s → ∀ bs ps rest fr, Sts l ((bs, ps) :: rest) fr k ((bs, ps ++ [t]) :: rest) true (k + s.length)
def Branch (t : T) (s : List Nat) : Prop := ∀ (l : List Nat) (k : Nat), Lies l k s → ∀ bs rest, ∃ ps fr, catT ps = t ∧ Sts l ((bs, []) :: rest) false k ((bs, ps) :: rest) fr (k + s.length)
def Expr (t : T) (s : List Nat) : Prop := ∀ (l : List Nat) (k : Nat), Lies l k s → ∀ rest, ∃ o fr, closedT o = t ∧ Sts l (([], []) :: rest) false k (o :: rest) fr (k + s.length)
theorem Piece.branch {t : T} {s : List Nat} (h : Piece t s) : Branch t s := fun l k hl bs rest => ⟨[t], true, rfl, by simpa using h l k hl bs [] rest false⟩
theorem Expr.piece {t : T} {s : List Nat} (h : Expr t s) : Piece t ([40] ++ s ++ [41]) := fun l k hl bs ps rest fr => by
 have hl1 := hl.left.right
 obtain ⟨o, fr', h1, h2⟩ := h l (k + [40].length) hl1 ((bs, ps) :: rest)
 have a0 : l[k]? = some 40 := by simpa using hl.at 0 40 (by simp)
 have a1 : l[k + 1 + s.length]? = some 41 := by
  have := hl.right.at 0 41 rfl
  simpa [Nat.add_assoc, Nat.add_comm, Nat.add_left_comm] using this
 have h3 : St l (o :: (bs, ps) :: rest) fr' (k + 1 + s.length) _ _ _ := .close a1
 rw [h1] at h3
 have := ((St.opens (fr := fr) (pile := (bs, ps) :: rest) a0).one.trans h2).trans h3.one
 have e : k + ([40] ++ s ++ [41]).length = k + 1 + s.length + 1 := by simp; omega
 rw [e]
 exact this
theorem pieces {F : T → List Nat} : ∀ (ks : List T), (∀ t ∈ ks, Piece t (F t)) → ∀ (l : List Nat) (k : Nat), Lies l k (ks.flatMap F) → ∀ bs ps rest fr, ∃ fr', Sts l ((bs, ps) :: rest) fr k ((bs, ps ++ ks) :: rest) fr' (k + (ks.flatMap F).length)
 | [], _, l, k, _, bs, ps, rest, fr => ⟨fr, by simpa using Sts.refl ((bs, ps) :: rest) fr k⟩
 | t :: ks, h, l, k, hl, bs, ps, rest, fr => by
  rw [List.flatMap_cons] at hl ⊢
  have h1 := h t (by simp) l k hl.left bs ps rest fr
  obtain ⟨fr', h2⟩ := pieces ks (fun t ht => h t (by simp [ht])) l _ hl.right bs (ps ++ [t]) rest true
  refine ⟨fr', ?_⟩
  have := h1.trans h2
  simpa [Nat.add_assoc] using this
theorem branches {F : T → List Nat} : ∀ (ks : List T) (t : T), (∀ x ∈ t :: ks, Branch x (F x)) → ∀ (l : List Nat) (k : Nat), Lies l k (F t ++ ks.flatMap fun y => [124] ++ F y) → ∀ bs rest, ∃ bs' ps fr, bs' ++ [catT ps] = bs ++ t :: ks ∧ Sts l ((bs, []) :: rest) false k ((bs', ps) :: rest) fr (k + (F t ++ ks.flatMap fun y => [124] ++ F y).length)
 | [], t, h, l, k, hl, bs, rest => by
  obtain ⟨ps, fr, h1, h2⟩ := h t (by simp) l k hl.left bs rest
  exact ⟨bs, ps, fr, by simp [h1], by simpa using h2⟩
 | y :: ks, t, h, l, k, hl, bs, rest => by
  obtain ⟨ps, fr, h1, h2⟩ := h t (by simp) l k hl.left bs rest
  have hl2 := hl.right
  rw [List.flatMap_cons, List.append_assoc] at hl2
  have a0 : l[k + (F t).length]? = some 124 := by simpa using hl2.at 0 124 (by simp)
  obtain ⟨bs', ps', fr', h3, h4⟩ := branches ks y (fun x hx => h x (by simp at hx ⊢; exact .inr hx)) l _ hl2.right (bs ++ [t]) rest
  refine ⟨bs', ps', fr', by rw [h3]; simp, ?_⟩
  have h5 := St.bar (bs := bs) (ps := ps) (rest := rest) (fr := fr) a0
  rw [h1] at h5
  have := h2.trans (h5.one.trans h4)
  simpa [Nat.add_assoc, Nat.add_comm, Nat.add_left_comm] using this
end Go.Proofs.YtobbifhflnlplaaDoor
namespace Go.Proofs.YtobbifhflnlplaaDoor
open Go.RowKit
open Go.Tree7
open S7
open S5 (nl nl_length nl_small at_nl nl_at)
theorem Atm.piece {t : T} {s : List Nat} (h : ∀ (l : List Nat) (k : Nat), Lies l k s → Atm l k t (k + s.length) ∧ ∀ fr : Bool, ¬ (fr = true ∧ IsMark l k)) : Piece t s := fun l k hl _ _ _ fr =>
 (St.atom ((h l k hl).2 fr) (h l k hl).1).one
end Go.Proofs.YtobbifhflnlplaaDoor
namespace Go.Proofs.YtobbifhflnlplaaDoor
open Go.RowKit
open Go.Tree7
open S7
open S5 (nl nl_length nl_small at_nl nl_at)
def Reads (t : T) : Prop := ((T.k t ≠ 2 ∧ T.k t ≠ 3) → Piece t (T.txt t)) ∧ (T.k t ≠ 3 → Branch t (T.txt t)) ∧ Expr t (T.txt t)
theorem Reads.item {t : T} (h : Reads t) {cl : List Int} (h2 : (2 : Int) ∈ cl) (h3 : (3 : Int) ∈ cl) : Piece t (itm cl (T.k t) (T.txt t)) := by
 unfold itm
 split
 ·exact h.2.2.piece
 ·rename_i hk
  exact h.1 ⟨fun e => hk (e ▸ h2), fun e => hk (e ▸ h3)⟩
end Go.Proofs.YtobbifhflnlplaaDoor
namespace Go.Proofs.YtobbifhflnlplaaDoor
open Go.RowKit
open Go.Tree7
open S7
open S5 (nl nl_length nl_small at_nl nl_at)
theorem lt_of_at {s : List Nat} {k c : Nat} (h : s[k]? = some c) : k < s.length := (List.getElem?_eq_some_iff.1 h).1
end Go.Proofs.YtobbifhflnlplaaDoor
namespace Go.Proofs.YtobbifhflnlplaaDoor
open Go.RowKit
open Go.Tree7
open S7
open S5 (nl nl_length nl_small at_nl nl_at)
theorem pl_leaf (f : Nat → Bool) : Pl (leafT f) := .set _ _ _ _ ⟨wf_nat (S1.wd_lt f 0), wf_nat (S1.wd_lt f 1), wf_nat (S1.wd_lt f 2), wf_nat (S1.wd_lt f 3)⟩
theorem nm_le {l : List Nat} {k a n : Nat} (h : Nm l k a n) : a ≤ 40 ∧ k < n ∧ n ≤ l.length := by
 cases h with
 | one c h1 h2 h3 h4 => have := lt_of_at h1; omega
 | two c d h1 h2 h3 h4 h5 h6 h7 h8 => have := lt_of_at h4; omega
theorem bd_ok {l : List Nat} {k n : Nat} {a b : Int} (h : Bd l k a b n 0) : 0 ≤ a ∧ a ≤ 40 ∧ (b = -1 ∨ (a ≤ b ∧ 1 ≤ b ∧ b ≤ 40)) ∧ k < n ∧ n ≤ l.length := by
 cases h with
 | m a j h1 h2 h3 => have := nm_le h1; have := lt_of_at h2; omega
 | mopen a j h1 h2 h3 => have := nm_le h1; have := lt_of_at h3; omega
 | mn a j b i h1 h2 h3 h4 h5 h6 => have := nm_le h1; have := nm_le h3; have := lt_of_at h4; omega
theorem mk_ok {l : List Nat} {k n : Nat} {a b : Int} (h : Mk l k a b n 0) : 0 ≤ a ∧ a ≤ 40 ∧ (b = -1 ∨ (a ≤ b ∧ 1 ≤ b ∧ b ≤ 40)) ∧ k < n ∧ n ≤ l.length := by
 cases h with
 | star h => have := lt_of_at h; omega
 | plus h => have := lt_of_at h; omega
 | opt h => have := lt_of_at h; omega
 | bounds => exact bd_ok (by assumption)
theorem atm_next {l : List Nat} {k n : Nat} {t : T} (h : Atm l k t n) : k < n ∧ n ≤ l.length ∧ Pl t := by
 cases h with
 | br f _ h1 h2 =>
  obtain ⟨m, hm, h3⟩ : ∃ m : Nat, (n : Int) = m ∧ k < m ∧ m ≤ l.length := by
   generalize hi : (k : Int) = i at h2
   generalize he : (0 : Nat) = e at h2
   have key : ∀ {b : Bool} {j : Nat} {ps : List (Nat × Nat)} {t : Int} {e : Nat}, S6.Its l b j ps t e → e = 0 → ∃ m : Nat, t = m ∧ j < m ∧ m ≤ l.length := by
    intro b j ps t e h
    induction h with
    | close k h => intro _; have := lt_of_at h; exact ⟨k + 1, by omega, by omega, by omega⟩
    | bad1 b k t e _ _ h => intro he; exact absurd he h
    | one b k c n ps t e h1 h2 h3 h4 ih =>
     intro he
     obtain ⟨m, hm, h5, h6⟩ := ih he
     obtain ⟨q, hq, h7, h8⟩ := S6.one_next h2
     exact ⟨m, hm, by omega, h6⟩
    | bad2 b k c n t e _ _ _ _ h => intro he; exact absurd he h
    | down => intro he; cases he
    | span b k c n d m ps t e h1 h2 h3 h4 h5 h6 ih =>
     intro he
     obtain ⟨m', hm, h9, h10⟩ := ih he
     obtain ⟨q, hq, h7, h8⟩ := S6.one_next h2
     obtain ⟨q', hq', h7', h8'⟩ := S6.one_next h4
     exact ⟨m', hm, by omega, h10⟩
   cases h2 with
   | outside => cases he
   | other => cases he
   | ok j ps t _ _ h3 => obtain ⟨m, hm, h5, h6⟩ := key h3 rfl; exact ⟨m, hm, by omega, h6⟩
   | okNot j ps t _ _ h3 => obtain ⟨m, hm, h5, h6⟩ := key h3 rfl; exact ⟨m, hm, by omega, h6⟩
   | bad _ _ _ _ _ _ _ h => exact absurd he.symm h
   | badNot _ _ _ _ _ _ _ h => exact absurd he.symm h
  have : n = m := by omega
  subst this
  exact ⟨h3.1, h3.2, pl_leaf _⟩
 | dot h => have := lt_of_at h; exact ⟨by omega, by omega, pl_leaf _⟩
 | name tx h1 h2 h3 h4 => have := lt_of_at h3; exact ⟨by omega, by omega, .name _ h4⟩
 | byte c d _ h1 h2 h3 =>
  obtain ⟨m, hm, h4, h5⟩ := S6.rd_next h3
  exact ⟨by omega, by omega, pl_leaf _⟩
theorem st_next {l : List Nat} {p p' : List Op} {b b' : Bool} {k k' : Nat} (h : St l p b k p' b' k') : k < k' ∧ k' ≤ l.length := by
 cases h with
 | mark h => have := mk_ok h; omega
 | opens h => have := lt_of_at h; omega
 | bar h => have := lt_of_at h; omega
 | close h => have := lt_of_at h; omega
 | atom h1 h2 => have := atm_next h2; omega
end Go.Proofs.YtobbifhflnlplaaDoor
namespace Go.Proofs.YtobbifhflnlplaaDoor
open Go.RowKit
open Go.Tree7
open S7
open S5 (nl nl_length nl_small at_nl nl_at)
inductive AtmBad (l : List Nat) : Nat → Int → Nat → Prop
 | form (k c : Nat) : l[k]? = some c → c ∈ [42, 43, 63, 93, 125, 47] → AtmBad l k k 4
 | br (k : Nat) (f : Nat → Bool) (n : Int) (e : Nat) : l[k]? = some 91 → S6.Br l k f n e → e ≠ 0 → AtmBad l k n e
 | short (k : Nat) : l[k]? = some 123 → (∀ j, k < j → l[j]? ≠ some 125) → AtmBad l k l.length 2
 | name (k m : Nat) : l[k]? = some 123 → (∀ j, k < j → j < k + 1 + m → l[j]? ≠ some 125) → l[k + 1 + m]? = some 125 → ¬ NameOk ((l.drop (k + 1)).take m) → AtmBad l k (k + 1 : Nat) 5
 | byte (k c d : Nat) (n : Int) (e : Nat) : l[k]? = some c → c ∉ [42, 43, 63, 93, 125, 47, 91, 46, 123, 40, 41, 124] → S5.Rd l k d n e → e ≠ 0 → AtmBad l k n e
inductive Out where
 | tree (t : T)
 | bad (at_ : Int) (e : Nat)
inductive Run (l : List Nat) : List Op → Bool → Nat → Out → Prop
 | step {p p' : List Op} {b b' : Bool} {k k' : Nat} {out : Out} : St l p b k p' b' k' → Run l p' b' k' out → Run l p b k out
 | tree (o : Op) (b : Bool) (k : Nat) : k = l.length → Run l [o] b k (.tree (closedT o))
 | short (o o' : Op) (p : List Op) (b : Bool) (k : Nat) : k = l.length → Run l (o :: o' :: p) b k (.bad l.length 2)
 | mark (p : List Op) (k n e : Nat) (x y : Int) : Mk l k x y n e → e ≠ 0 → Run l p true k (.bad n e)
 | close (o : Op) (b : Bool) (k : Nat) : l[k]? = some 41 → Run l [o] b k (.bad k 4)
 | atom (p : List Op) (b : Bool) (k : Nat) (n : Int) (e : Nat) : ¬ (b = true ∧ IsMark l k) → AtmBad l k n e → Run l p b k (.bad n e)
end Go.Proofs.YtobbifhflnlplaaDoor
namespace Go.Proofs.YtobbifhflnlplaaDoor
open Go.RowKit
open Go.Tree7
open S7
open S5 (nl nl_length nl_small at_nl nl_at)
def most : List Nat → Nat
 | [] => 0
 | x :: xs => max x (most xs)
theorem le_most {l : List Nat} {x : Nat} (h : x ∈ l) : x ≤ most l := by
 induction l with
 | nil => simp at h
 | cons y ys ih =>
  rcases List.mem_cons.1 h with rfl | h
  ·simp [most]; omega
  ·have := ih h; simp [most]; omega
theorem most_le {l : List Nat} {n : Nat} (h : ∀ x ∈ l, x ≤ n) : most l ≤ n := by
 induction l with
 | nil => simp [most]
 | cons y ys ih =>
  have h1 := h y (by simp)
  have h2 := ih fun x hx => h x (by simp [hx])
  simp [most]
  omega
def deep : T → Nat
 | .mk _ _ _ _ _ _ _ _ _ _ ks => 1 + most (ks.attach.map fun ⟨t, _⟩ => deep t)
theorem deep_mk (k u0 u1 u2 u3 : Int) (p : Option Addr) (cap : Nat) (mn mx : Int) (tx : ByteArray) (ks : List T) : deep (.mk k u0 u1 u2 u3 p cap mn mx tx ks) = 1 + most (ks.map deep) := by
 rw [deep]
 simp
theorem deep_kid {k u0 u1 u2 u3 : Int} {p : Option Addr} {cap : Nat} {mn mx : Int} {tx : ByteArray} {ks : List T} {t : T} (h : t ∈ ks) : deep t + 1 ≤ deep (.mk k u0 u1 u2 u3 p cap mn mx tx ks) := by
 rw [deep_mk]
 have := le_most (List.mem_map_of_mem (f := deep) h)
 omega
theorem pre_small {P : T → Prop} : ∀ (d lv : Nat) (t : T), deep t ≤ d + 1 → T.All P t → (∀ x ∈ preT d lv t, x.1 + 1 ≤ lv + deep t ∧ P x.2) ∧ (preT d lv t).length = t.size := by
 intro d
 induction d with
 | zero =>
  intro lv t hd h
  cases h with
  | mk h1 h2 =>
   rename_i k u0 u1 u2 u3 p cap mn mx tx ks
   have hk : ks = [] := by
    cases ks with
    | nil => rfl
    | cons t ts =>
     have := deep_kid (k := k) (u0 := u0) (u1 := u1) (u2 := u2) (u3 := u3) (p := p) (cap := cap) (mn := mn) (mx := mx) (tx := tx) (ks := t :: ts) (t := t) (by simp)
     have h0 : 1 ≤ deep t := by cases t; rw [deep_mk]; omega
     omega
   subst hk
   refine ⟨fun x hx => ?_, by simp [preT, T.size_mk]⟩
   simp [preT] at hx
   subst hx
   rw [deep_mk]
   exact ⟨by simp [most], h1⟩
 | succ d ih =>
  intro lv t hd h
  cases h with
  | mk h1 h2 =>
   rename_i k u0 u1 u2 u3 p cap mn mx tx ks
   have each : ∀ t ∈ ks, (∀ x ∈ preT d (lv + 1) t, x.1 + 1 ≤ lv + 1 + deep t ∧ P x.2) ∧ (preT d (lv + 1) t).length = t.size := fun t ht => ih (lv + 1) t (by
    have := deep_kid (k := k) (u0 := u0) (u1 := u1) (u2 := u2) (u3 := u3) (p := p) (cap := cap) (mn := mn) (mx := mx) (tx := tx) ht
    omega) (h2 t ht)
   refine ⟨fun x hx => ?_, ?_⟩
   ·simp only [preT, T.kids, List.mem_cons, List.mem_flatMap] at hx
    rcases hx with rfl | ⟨t, ht, hx⟩
    ·refine ⟨?_, h1⟩
     rw [deep_mk]
     show lv + 1 ≤ _
     omega
    ·have := ((each t ht).1 x hx)
     have hk := deep_kid (k := k) (u0 := u0) (u1 := u1) (u2 := u2) (u3 := u3) (p := p) (cap := cap) (mn := mn) (mx := mx) (tx := tx) ht
     exact ⟨by omega, this.2⟩
   ·rw [T.size_mk]
    simp only [preT, T.kids, List.length_cons, List.length_flatMap]
    have e : (ks.map fun t => (preT d (lv + 1) t).length) = ks.map T.size := List.map_congr_left fun t ht => (each t ht).2
    rw [e]
    omega
theorem right_of {t : T} (h : T.All (fun t => T.ok t = true) t) (h1 : deep t ≤ 24) (h2 : t.size ≤ 600) : RightP t := by
 obtain ⟨a, b⟩ := pre_small 24 1 t (by omega) h
 have e : allT t = preT 24 1 t := by unfold allT; exact List.take_of_length_le (by omega)
 unfold RightP
 rw [e]
 exact ⟨fun x hx => ⟨by have := (a x hx).1; omega, (a x hx).2⟩, by omega⟩
theorem deep_of : ∀ (d lv : Nat) (t : T), lv + d = 25 → (∀ x ∈ preT d lv t, x.1 ≤ 24) → deep t + lv ≤ 25 := by
 intro d
 induction d with
 | zero =>
  intro lv t hd h
  have := h (lv, t) (by simp [preT])
  simp at this
  omega
 | succ d ih =>
  intro lv t hd h
  cases t with
  | mk k u0 u1 u2 u3 p cap mn mx tx ks =>
   have : most (ks.map deep) ≤ 24 - lv := most_le fun x hx => by
    obtain ⟨t, ht, rfl⟩ := List.mem_map.1 hx
    have := ih (lv + 1) t (by omega) fun x hx => h x (by
     simp only [preT, T.kids, List.mem_cons, List.mem_flatMap]
     exact .inr ⟨t, ht, hx⟩)
    omega
   rw [deep_mk]
   have := h (lv, .mk k u0 u1 u2 u3 p cap mn mx tx ks) (by simp [preT])
   simp at this
   omega
theorem right_iff (t : T) : RightP t ↔ T.All (fun t => T.ok t = true) t ∧ deep t ≤ 24 ∧ t.size ≤ 600 := by
 constructor
 ·intro h
  obtain ⟨a, b⟩ := right_all h
  obtain ⟨h1, h2⟩ := h
  have hl : (preT 24 1 t).length ≤ 600 := by
   unfold allT at h2
   simp at h2
   omega
  have e : allT t = preT 24 1 t := by unfold allT; exact List.take_of_length_le (by omega)
  rw [e] at h1
  have := deep_of 24 1 t rfl fun x hx => (h1 x hx).1
  exact ⟨a, by omega, b⟩
 ·rintro ⟨a, b, c⟩
  exact right_of a b c
end Go.Proofs.YtobbifhflnlplaaDoor
namespace Go.Proofs.YtobbifhflnlplaaDoor
open Go.RowKit
open Go.Tree7
open S7
open S5 (nl nl_length nl_small at_nl nl_at)
theorem empty_mem4 : S1.eqB (S1.mem4 0 0 0 0) S1.noS = true := S1.eqB_true fun c _ => by simp [S1.mem4, S1.noS]
theorem plain_zero : plainB (S1.mem4 0 0 0 0) 0 0 ⟨#[]⟩ = true := by
 have := plain0
 unfold plainB at this ⊢
 rw [empty_noS] at this
 rw [empty_mem4]
 exact this
theorem pl_ok {t : T} (h : Pl t) : T.All (fun t => T.ok t = true) t := by
 induction h with
 | set u0 u1 u2 u3 hw =>
  refine .mk ?_ (by simp)
  show okB _ 1 0 0 0 ⟨#[]⟩ = true
  unfold okB
  rw [if_pos rfl, plain0]
  rfl
 | cat ks hk _ ih =>
  refine .mk ?_ ih
  show okB (S1.mem4 0 0 0 0) 2 ks.length 0 0 ⟨#[]⟩ = true
  unfold okB
  rw [if_neg (by decide), if_pos rfl]
  exact plain_zero
 | alt ks hk _ ih =>
  refine .mk ?_ ih
  show okB (S1.mem4 0 0 0 0) 3 ks.length 0 0 ⟨#[]⟩ = true
  unfold okB
  rw [if_neg (by decide), if_neg (by decide), if_pos rfl, plain_zero]
  simp [hk]
 | rep a b t h0 h1 hb _ ih =>
  refine .mk ?_ (fun x hx => by simp at hx; rw [hx]; exact ih)
  show okB (S1.mem4 0 0 0 0) 4 1 a b ⟨#[]⟩ = true
  unfold okB
  rw [if_neg (by decide), if_neg (by decide), if_neg (by decide), if_pos rfl, plain_zero]
  unfold boundsB
  simp
  omega
 | name tx hn =>
  refine .mk ?_ (by simp)
  show okB (S1.mem4 0 0 0 0) 5 0 0 0 tx = true
  unfold okB
  rw [if_neg (by decide), if_neg (by decide), if_neg (by decide), if_neg (by decide), if_pos rfl, plain_zero, (nameB_iff tx).2 hn]
  rfl
theorem pl_right {t : T} (h : Pl t) (h1 : deep t ≤ 24) (h2 : t.size ≤ 600) : RightP t := right_of (pl_ok h) h1 h2
def T.simp : T → T
 | .mk k u0 u1 u2 u3 _ _ mn mx tx ks => if k = 2 ∧ ks.length = 1 then (ks.attach.map fun ⟨t, _⟩ => T.simp t).headD (tC []) else .mk k u0 u1 u2 u3 none 0 mn mx tx (ks.attach.map fun ⟨t, _⟩ => T.simp t)
end Go.Proofs.YtobbifhflnlplaaDoor
namespace Go.Proofs.YtobbifhflnlplaaDoor
open Go.RowKit
open Go.Tree7
open S7
open S5 (nl nl_length nl_small at_nl nl_at)
theorem all_true : ∀ t : T, T.All (fun _ => True) t
 | .mk _ _ _ _ _ _ _ _ _ _ ks => .mk trivial fun t _ => all_true t
def T.one : T → Prop
 | .mk k _ _ _ _ _ _ _ _ _ ks => k = 2 ∧ ks.length = 1
theorem T.All.and {P Q : T → Prop} {t : T} (h : T.All P t) (h' : T.All Q t) : T.All (fun t => P t ∧ Q t) t := by
 induction h with
 | mk h1 h2 ih =>
  cases h' with
  | mk h3 h4 => exact .mk ⟨h1, h3⟩ fun t ht => ih t ht (h4 t ht)
end Go.Proofs.YtobbifhflnlplaaDoor
