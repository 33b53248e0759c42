/- Texts of earlier layers, merged: M8, M9, M10, M11, M12, M13, M14, M15, M16, M17. -/
import Derived.Test.YtjlmeegaiagfpaaDoorS7C
namespace Go.Proofs.YtjlmeegaiagfpaaDoor
open Go.RowKit
open Go.Tree7
open S7
open S5 (nl nl_length nl_small at_nl nl_at nl_strN)
def tC (ks : List T) : T := .mk 2 0 0 0 0 none 0 0 0 ⟨#[]⟩ ks
def tA (ks : List T) : T := .mk 3 0 0 0 0 none 0 0 0 ⟨#[]⟩ ks
def tR (a b : Int) (t : T) : T := .mk 4 0 0 0 0 none 0 a b ⟨#[]⟩ [t]
def tN (tx : ByteArray) : T := .mk 5 0 0 0 0 none 0 0 0 tx []
/-- A branch of pieces. -/
def catT : List T → T
  | [x] => x
  | l => tC l
abbrev Op := List T × List T
/-- The expression of what is open. -/
def closedT (o : Op) : T := if o.1 = [] then catT o.2 else tA (o.1 ++ [catT o.2])
def Dg (l : List Nat) (k : Nat) : Prop := ∃ c, l[k]? = some c ∧ 48 ≤ c ∧ c ≤ 57
/-- A bound of one or two figures. -/
inductive Nm (l : List Nat) : Nat → Nat → Nat → Prop
  | one (k c : Nat) : l[k]? = some c → 48 ≤ c → c ≤ 57 → ¬ Dg l (k + 1) → Nm l k (c - 48) (k + 1)
  | two (k c d : Nat) : l[k]? = some c → 48 ≤ c → c ≤ 57 → l[k + 1]? = some d → 48 ≤ d → d ≤ 57 → ¬ Dg l (k + 2) → 10 * (c - 48) + (d - 48) ≤ 40 → Nm l k (10 * (c - 48) + (d - 48)) (k + 2)
/-- What is no bound: three figures, or too great. -/
inductive NmBad (l : List Nat) : Nat → Prop
  | long (k : Nat) : Dg l k → Dg l (k + 1) → Dg l (k + 2) → NmBad l k
  | big (k c d : Nat) : l[k]? = some c → 48 ≤ c → c ≤ 57 → l[k + 1]? = some d → 48 ≤ d → d ≤ 57 → ¬ Dg l (k + 2) → 40 < 10 * (c - 48) + (d - 48) → NmBad l k
/-- Bounds that begin with a brace at a place: least, most, the place behind or of the fault, the error's number. -/
inductive Bd (l : List Nat) : Nat → Int → Int → Nat → Nat → Prop
  | m (k a j : Nat) : Nm l (k + 1) a j → l[j]? = some 125 → 1 ≤ a → Bd l k a a (j + 1) 0
  | mopen (k a j : Nat) : Nm l (k + 1) a j → l[j]? = some 44 → l[j + 1]? = some 125 → Bd l k a (-1) (j + 2) 0
  | mn (k a j b i : Nat) : Nm l (k + 1) a j → l[j]? = some 44 → Nm l (j + 1) b i → l[i]? = some 125 → a ≤ b → 1 ≤ b → Bd l k a b (i + 1) 0
  | bad1 (k : Nat) : NmBad l (k + 1) → Bd l k 0 0 (k + 1) 1
  | short1 (k a j : Nat) : Nm l (k + 1) a j → j = l.length → Bd l k 0 0 l.length 2
  | form1 (k a j c : Nat) : Nm l (k + 1) a j → l[j]? = some c → c ≠ 44 → c ≠ 125 → Bd l k 0 0 j 4
  | low1 (k j : Nat) : Nm l (k + 1) 0 j → l[j]? = some 125 → Bd l k 0 0 (k + 1) 1
  | short2 (k a j : Nat) : Nm l (k + 1) a j → l[j]? = some 44 → j + 1 = l.length → Bd l k 0 0 l.length 2
  | form2 (k a j c : Nat) : Nm l (k + 1) a j → l[j]? = some 44 → l[j + 1]? = some c → ¬ Dg l (j + 1) → c ≠ 125 → Bd l k 0 0 (j + 1) 4
  | bad2 (k a j : Nat) : Nm l (k + 1) a j → l[j]? = some 44 → NmBad l (j + 1) → Bd l k 0 0 (j + 1) 1
  | short3 (k a j b i : Nat) : Nm l (k + 1) a j → l[j]? = some 44 → Nm l (j + 1) b i → i = l.length → Bd l k 0 0 l.length 2
  | form3 (k a j b i c : Nat) : Nm l (k + 1) a j → l[j]? = some 44 → Nm l (j + 1) b i → l[i]? = some c → c ≠ 125 → Bd l k 0 0 i 4
  | low2 (k a j b i : Nat) : Nm l (k + 1) a j → l[j]? = some 44 → Nm l (j + 1) b i → l[i]? = some 125 → (b < a ∨ b = 0) → Bd l k 0 0 (j + 1) 1
/-- Does a suffix stand here, if one may? -/
def IsMark (l : List Nat) (k : Nat) : Prop := l[k]? = some 42 ∨ l[k]? = some 43 ∨ l[k]? = some 63 ∨ (l[k]? = some 123 ∧ Dg l (k + 1))
/-- A suffix. -/
inductive Mk (l : List Nat) : Nat → Int → Int → Nat → Nat → Prop
  | star (k : Nat) : l[k]? = some 42 → Mk l k 0 (-1) (k + 1) 0
  | plus (k : Nat) : l[k]? = some 43 → Mk l k 1 (-1) (k + 1) 0
  | opt (k : Nat) : l[k]? = some 63 → Mk l k 0 1 (k + 1) 0
  | bounds (k : Nat) (a b : Int) (n e : Nat) : l[k]? = some 123 → Dg l (k + 1) → Bd l k a b n e → Mk l k a b n e
/-- An atom that opens nothing, and the place behind. -/
inductive Atm (l : List Nat) : Nat → T → Nat → Prop
  | br (k : Nat) (f : Nat → Bool) (n : Nat) : l[k]? = some 91 → S6.Br l k f n 0 → Atm l k (leafT f) n
  | dot (k : Nat) : l[k]? = some 46 → Atm l k (leafT dotS) (k + 1)
  | name (k : Nat) (tx : ByteArray) : l[k]? = some 123 → (∀ j x, (nl tx)[j]? = some x → l[k + 1 + j]? = some x) → l[k + 1 + tx.size]? = some 125 → NameOk (nl tx) → Atm l k (tN tx) (k + tx.size + 2)
  | byte (k c d n : Nat) : l[k]? = some c → c ∉ [42, 43, 63, 93, 125, 47, 91, 46, 123, 40, 41, 124] → S5.Rd l k d n 0 → Atm l k (leafT (S1.oneS d)) n
/-- A step of the reading. -/
inductive St (l : List Nat) : List Op → Bool → Nat → List Op → Bool → Nat → Prop
  | mark {bs ps : List T} {x : T} {rest : List Op} {k : Nat} {a b : Int} {n : Nat} : Mk l k a b n 0 → St l ((bs, ps ++ [x]) :: rest) true k ((bs, ps ++ [tR a b x]) :: rest) true n
  | opens {pile : List Op} {fr : Bool} {k : Nat} : l[k]? = some 40 → St l pile fr k (([], []) :: pile) false (k + 1)
  | bar {bs ps : List T} {rest : List Op} {fr : Bool} {k : Nat} : l[k]? = some 124 → St l ((bs, ps) :: rest) fr k ((bs ++ [catT ps], []) :: rest) false (k + 1)
  | close {o : Op} {bs ps : List T} {rest : List Op} {fr : Bool} {k : Nat} : l[k]? = some 41 → St l (o :: (bs, ps) :: rest) fr k ((bs, ps ++ [closedT o]) :: rest) true (k + 1)
  | atom {bs ps : List T} {rest : List Op} {fr : Bool} {k : Nat} {x : T} {n : Nat} : ¬ (fr = true ∧ IsMark l k) → Atm l k x n → St l ((bs, ps) :: rest) fr k ((bs, ps ++ [x]) :: rest) true n
inductive Sts (l : List Nat) : List Op → Bool → Nat → List Op → Bool → Nat → Prop
  | refl (s : List Op) (b : Bool) (k : Nat) : Sts l s b k s b k
  | head {s s' s'' : List Op} {b b' b'' : Bool} {k k' k'' : Nat} : St l s b k s' b' k' → Sts l s' b' k' s'' b'' k'' → Sts l s b k s'' b'' k''
theorem Sts.trans {l : List Nat} {s s' s'' : List Op} {b b' b'' : Bool} {k k' k'' : Nat} (h : Sts l s b k s' b' k') (h' : Sts l s' b' k' s'' b'' k'') : Sts l s b k s'' b'' k'' := by
  induction h with
  | refl => exact h'
  | head a _ ih => exact .head a (ih h')
theorem St.one {l : List Nat} {s s' : List Op} {b b' : Bool} {k k' : Nat} (h : St l s b k s' b' k') : Sts l s b k s' b' k' := .head h (.refl ..)
/-- t lies in l at k. -/
def Lies (l : List Nat) (k : Nat) (t : List Nat) : Prop := ∃ x y, l = x ++ t ++ y ∧ x.length = k
theorem Lies.left {l : List Nat} {k : Nat} {a b : List Nat} (h : Lies l k (a ++ b)) : Lies l k a := by
  obtain ⟨x, y, rfl, rfl⟩ := h
  exact ⟨x, b ++ y, by simp, rfl⟩
theorem Lies.right {l : List Nat} {k : Nat} {a b : List Nat} (h : Lies l k (a ++ b)) : Lies l (k + a.length) b := by
  obtain ⟨x, y, rfl, rfl⟩ := h
  exact ⟨x ++ a, y, by simp, by simp⟩
theorem Lies.at {l : List Nat} {k : Nat} {t : List Nat} (h : Lies l k t) : ∀ j c, t[j]? = some c → l[k + j]? = some c := by
  obtain ⟨x, y, rfl, rfl⟩ := h
  intro j c hj
  have hl := (List.getElem?_eq_some_iff.1 hj).1
  rw [List.append_assoc, List.getElem?_append_right (by omega), Nat.add_sub_cancel_left, List.getElem?_append_left hl]
  exact hj
/-- A plain tree. -/
inductive Pl : T → Prop
  | set (u0 u1 u2 u3 : Int) : ((Lit.int .u64 u0).wf = true ∧ (Lit.int .u64 u1).wf = true ∧ (Lit.int .u64 u2).wf = true ∧ (Lit.int .u64 u3).wf = true) → Pl (.mk 1 u0 u1 u2 u3 none 0 0 0 ⟨#[]⟩ [])
  | cat (ks : List T) : ks.length ≠ 1 → (∀ t ∈ ks, Pl t) → Pl (tC ks)
  | alt (ks : List T) : 2 ≤ ks.length → (∀ t ∈ ks, Pl t) → Pl (tA ks)
  | rep (a b : Int) (t : T) : 0 ≤ a → a ≤ 40 → (b = -1 ∨ (a ≤ b ∧ 1 ≤ b ∧ b ≤ 40)) → Pl t → Pl (tR a b t)
  | name (tx : ByteArray) : NameOk (nl tx) → Pl (tN tx)
/-- A piece is read, wherever it lies. -/
def Piece (t : T) (s : List Nat) : Prop := ∀ (l : List Nat) (k : Nat), Lies l k s → ∀ bs ps rest fr, Sts l ((bs, ps) :: rest) fr k ((bs, ps ++ [t]) :: rest) true (k + s.length)
def Branch (t : T) (s : List Nat) : Prop := ∀ (l : List Nat) (k : Nat), Lies l k s → ∀ bs rest, ∃ ps fr, catT ps = t ∧ Sts l ((bs, []) :: rest) false k ((bs, ps) :: rest) fr (k + s.length)
def Expr (t : T) (s : List Nat) : Prop := ∀ (l : List Nat) (k : Nat), Lies l k s → ∀ rest, ∃ o fr, closedT o = t ∧ Sts l (([], []) :: rest) false k (o :: rest) fr (k + s.length)
theorem Piece.branch {t : T} {s : List Nat} (h : Piece t s) : Branch t s := fun l k hl bs rest => ⟨[t], true, rfl, by simpa using h l k hl bs [] rest false⟩
theorem Branch.expr {t : T} {s : List Nat} (h : Branch t s) : Expr t s := fun l k hl rest => by
  obtain ⟨ps, fr, h1, h2⟩ := h l k hl [] rest
  exact ⟨([], ps), fr, by simp [closedT, h1], h2⟩
theorem Expr.piece {t : T} {s : List Nat} (h : Expr t s) : Piece t ([40] ++ s ++ [41]) := fun l k hl bs ps rest fr => by
  have hl1 := hl.left.right
  obtain ⟨o, fr', h1, h2⟩ := h l (k + [40].length) hl1 ((bs, ps) :: rest)
  have a0 : l[k]? = some 40 := by simpa using hl.at 0 40 (by simp)
  have a1 : l[k + 1 + s.length]? = some 41 := by
    have := hl.right.at 0 41 rfl
    simpa [Nat.add_assoc, Nat.add_comm, Nat.add_left_comm] using this
  have h3 : St l (o :: (bs, ps) :: rest) fr' (k + 1 + s.length) _ _ _ := .close a1
  rw [h1] at h3
  have := ((St.opens (fr := fr) (pile := (bs, ps) :: rest) a0).one.trans h2).trans h3.one
  have e : k + ([40] ++ s ++ [41]).length = k + 1 + s.length + 1 := by simp; omega
  rw [e]
  exact this
/-- Pieces one behind the other. -/
theorem pieces {F : T → List Nat} : ∀ (ks : List T), (∀ t ∈ ks, Piece t (F t)) → ∀ (l : List Nat) (k : Nat), Lies l k (ks.flatMap F) → ∀ bs ps rest fr, ∃ fr', Sts l ((bs, ps) :: rest) fr k ((bs, ps ++ ks) :: rest) fr' (k + (ks.flatMap F).length)
  | [], _, l, k, _, bs, ps, rest, fr => ⟨fr, by simpa using Sts.refl ((bs, ps) :: rest) fr k⟩
  | t :: ks, h, l, k, hl, bs, ps, rest, fr => by
    rw [List.flatMap_cons] at hl ⊢
    have h1 := h t (by simp) l k hl.left bs ps rest fr
    obtain ⟨fr', h2⟩ := pieces ks (fun t ht => h t (by simp [ht])) l _ hl.right bs (ps ++ [t]) rest true
    refine ⟨fr', ?_⟩
    have := h1.trans h2
    simpa [Nat.add_assoc] using this
/-- Branches, a bar between them. -/
theorem branches {F : T → List Nat} : ∀ (ks : List T) (t : T), (∀ x ∈ t :: ks, Branch x (F x)) → ∀ (l : List Nat) (k : Nat), Lies l k (F t ++ ks.flatMap fun y => [124] ++ F y) → ∀ bs rest, ∃ bs' ps fr, bs' ++ [catT ps] = bs ++ t :: ks ∧ Sts l ((bs, []) :: rest) false k ((bs', ps) :: rest) fr (k + (F t ++ ks.flatMap fun y => [124] ++ F y).length)
  | [], t, h, l, k, hl, bs, rest => by
    obtain ⟨ps, fr, h1, h2⟩ := h t (by simp) l k hl.left bs rest
    exact ⟨bs, ps, fr, by simp [h1], by simpa using h2⟩
  | y :: ks, t, h, l, k, hl, bs, rest => by
    obtain ⟨ps, fr, h1, h2⟩ := h t (by simp) l k hl.left bs rest
    have hl2 := hl.right
    rw [List.flatMap_cons, List.append_assoc] at hl2
    have a0 : l[k + (F t).length]? = some 124 := by simpa using hl2.at 0 124 (by simp)
    obtain ⟨bs', ps', fr', h3, h4⟩ := branches ks y (fun x hx => h x (by simp at hx ⊢; exact .inr hx)) l _ hl2.right (bs ++ [t]) rest
    refine ⟨bs', ps', fr', by rw [h3]; simp, ?_⟩
    have h5 := St.bar (bs := bs) (ps := ps) (rest := rest) (fr := fr) a0
    rw [h1] at h5
    have := h2.trans (h5.one.trans h4)
    simpa [Nat.add_assoc, Nat.add_comm, Nat.add_left_comm] using this
end Go.Proofs.YtjlmeegaiagfpaaDoor

namespace Go.Proofs.YtjlmeegaiagfpaaDoor
open Go.RowKit
open Go.Tree7
open S7
open S5 (nl nl_length nl_small at_nl nl_at nl_strN)
theorem leaf_congr {f g : Nat → Bool} (h : ∀ c, c < 256 → f c = g c) : leafT f = leafT g := by
  have e : ∀ k, k < 4 → S1.wd f k = S1.wd g k := fun k hk => S1.wd_congr fun i hi => h _ (by omega)
  unfold leafT
  rw [e 0 (by decide), e 1 (by decide), e 2 (by decide), e 3 (by decide)]
theorem leaf_words {u0 u1 u2 u3 : Int} (h : (Lit.int .u64 u0).wf = true ∧ (Lit.int .u64 u1).wf = true ∧ (Lit.int .u64 u2).wf = true ∧ (Lit.int .u64 u3).wf = true) :
    leafT (S1.mem4 u0.toNat u1.toNat u2.toNat u3.toNat) = .mk 1 u0 u1 u2 u3 none 0 0 0 ⟨#[]⟩ [] := by
  obtain ⟨h0, h1, h2, h3⟩ := wd_f h
  unfold leafT
  rw [h0, h1, h2, h3]
theorem not_mark {l : List Nat} {k c : Nat} (h : l[k]? = some c) (h1 : c ≠ 42) (h2 : c ≠ 43) (h3 : c ≠ 63) (h4 : c ≠ 123 ∨ ¬ Dg l (k + 1)) (fr : Bool) : ¬ (fr = true ∧ IsMark l k) := by
  rintro ⟨_, hm⟩
  unfold IsMark at hm
  rw [h] at hm
  simp only [Option.some.injEq] at hm
  rcases hm with h | h | h | ⟨h, h'⟩
  · exact h1 h
  · exact h2 h
  · exact h3 h
  · rcases h4 with h4 | h4
    · exact h4 h
    · exact h4 h'
theorem Atm.piece {t : T} {s : List Nat} (h : ∀ (l : List Nat) (k : Nat), Lies l k s → Atm l k t (k + s.length) ∧ ∀ fr : Bool, ¬ (fr = true ∧ IsMark l k)) : Piece t s := fun l k hl _ _ _ fr =>
  (St.atom ((h l k hl).2 fr) (h l k hl).1).one
theorem set_piece (f : Nat → Bool) : Piece (leafT f) (oneL f) := by
  refine Atm.piece fun l k hl => ?_
  unfold oneL at hl ⊢
  by_cases h1 : (S1.el f 256).length = 1
  · rw [if_pos h1] at hl ⊢
    obtain ⟨c, hc, hc5⟩ := el_one h1
    rw [hc] at hl ⊢
    simp only [List.headD_cons] at hl ⊢
    have hs := po_sp hc5
    have hr := S5.sp_read (.inl rfl) hs
    obtain ⟨x, y, rfl, rfl⟩ := hl
    have hr := hr x y
    have hfst : ∃ d, (po c)[0]? = some d ∧ d ∉ [42, 43, 63, 93, 125, 47, 91, 46, 123, 40, 41, 124] := by
      generalize po c = s at hs
      cases hs with
      | blank k hk => exact ⟨92, rfl, by decide⟩
      | esc h1 h2 h3 => exact ⟨92, rfl, by decide⟩
      | self h1 h2 h3 => refine ⟨c, rfl, fun hm => h1 ?_⟩; revert hm; unfold S5.out; simp; omega
      | hex h1 h2 h3 h4 h5 h6 h7 => exact ⟨92, rfl, by decide⟩
    obtain ⟨d, hd, hd'⟩ := hfst
    have a0 : (x ++ po c ++ y)[x.length]? = some d := by simpa using Lies.at (l := x ++ po c ++ y) (k := x.length) (t := po c) ⟨x, y, rfl, rfl⟩ 0 d hd
    have e : leafT f = leafT (S1.oneS c) := leaf_congr fun b hb => by
      have := S1.el_mem (f := f) (p := 256) (x := b)
      rw [hc] at this
      simp only [List.mem_singleton, S1.oneS] at this ⊢
      by_cases hbc : b = c
      · rw [(this.1 hbc).2]; simp [hbc]
      · have : f b ≠ true := fun hh => hbc (this.2 ⟨hb, hh⟩)
        simp [hbc, this]
    rw [e]
    simp at hd'
    exact ⟨.byte _ _ _ _ a0 (by simp; omega) hr, not_mark a0 (by omega) (by omega) (by omega) (.inl (by omega))⟩
  · rw [if_neg h1] at hl ⊢
    by_cases h2 : S1.eqB f dotS = true
    · rw [if_pos h2] at hl ⊢
      have a0 : l[k]? = some 46 := by simpa using hl.at 0 46 rfl
      rw [leaf_congr (S1.eqB_spec h2)]
      exact ⟨.dot _ a0, not_mark a0 (by omega) (by omega) (by omega) (.inl (by omega))⟩
    · rw [if_neg h2] at hl ⊢
      have a0 : l[k]? = some 91 := by simpa using hl.at 0 91 (by unfold S6.txtB; simp)
      obtain ⟨x, y, rfl, rfl⟩ := hl
      obtain ⟨f', hf, hb⟩ := S6.br_text f x y
      rw [← leaf_congr hf]
      exact ⟨.br _ f' _ a0 hb, not_mark a0 (by omega) (by omega) (by omega) (.inl (by omega))⟩
theorem name_piece {tx : ByteArray} (h : NameOk (nl tx)) : Piece (tN tx) ([123] ++ nl tx ++ [125]) := by
  refine Atm.piece fun l k hl => ?_
  have a0 : l[k]? = some 123 := by simpa using hl.at 0 123 (by simp)
  have a1 : ∀ j x, (nl tx)[j]? = some x → l[k + 1 + j]? = some x := fun j x hx => by simpa using hl.left.right.at j x hx
  have a2 : l[k + 1 + tx.size]? = some 125 := by
    have := hl.right.at 0 125 rfl
    simpa [nl_length, Nat.add_assoc, Nat.add_comm, Nat.add_left_comm] using this
  obtain ⟨h1, h2, h3, h4⟩ := h
  have a3 := List.getElem?_eq_getElem (l := nl tx) (i := 0) (by omega)
  have h5 := h3 _ a3
  have e : k + ([123] ++ nl tx ++ [125]).length = k + tx.size + 2 := by simp [nl_length]; omega
  rw [e]
  refine ⟨.name k tx a0 a1 a2 ⟨h1, h2, h3, h4⟩, not_mark a0 (by omega) (by omega) (by omega) (.inr ?_)⟩
  rintro ⟨c, hc, hc1, hc2⟩
  have := a1 0 _ a3
  rw [Nat.add_zero, hc] at this
  simp only [Option.some.injEq] at this
  omega
theorem nm_figs {n c : Nat} (h : n ≤ 40) (hc : ¬ (48 ≤ c ∧ c ≤ 57)) {l : List Nat} {k : Nat} (hl : Lies l k (figs n ++ [c])) : Nm l k n (k + (figs n).length) ∧ l[k + (figs n).length]? = some c ∧ Dg l k := by
  have e := hl.right.at 0 c rfl
  rw [Nat.add_zero] at e
  refine ⟨?_, e, ?_⟩
  · revert hl e
    unfold figs
    split
    · intro hl e
      have a0 : l[k]? = some (48 + n) := by simpa using hl.at 0 (48 + n) rfl
      have : Nm l k (48 + n - 48) (k + 1) := .one k _ a0 (by omega) (by omega) (by
        rintro ⟨d, hd, hd'⟩
        simp only [List.length_singleton] at e
        rw [e] at hd
        cases hd
        exact hc hd')
      simpa using this
    · intro hl e
      have a0 : l[k]? = some (48 + n / 10) := by simpa using hl.at 0 (48 + n / 10) rfl
      have a1 : l[k + 1]? = some (48 + n % 10) := hl.at 1 (48 + n % 10) rfl
      have : Nm l k (10 * (48 + n / 10 - 48) + (48 + n % 10 - 48)) (k + 2) := .two k _ _ a0 (by omega) (by omega) a1 (by omega) (by omega) (by
        rintro ⟨d, hd, hd'⟩
        simp only [List.length_cons, List.length_nil] at e
        rw [e] at hd
        cases hd
        exact hc hd') (by omega)
      have e2 : 10 * (48 + n / 10 - 48) + (48 + n % 10 - 48) = n := by omega
      rw [e2] at this
      exact this
  · revert hl
    unfold figs
    split
    · intro hl
      exact ⟨48 + n, by simpa using hl.at 0 (48 + n) rfl, by omega, by omega⟩
    · intro hl
      exact ⟨48 + n / 10, by simpa using hl.at 0 (48 + n / 10) rfl, by omega, by omega⟩
theorem times_mark {a b : Int} (h0 : 0 ≤ a) (h1 : a ≤ 40) (hb : b = -1 ∨ (a ≤ b ∧ 1 ≤ b ∧ b ≤ 40)) {l : List Nat} {k : Nat} (hl : Lies l k (timesL a b)) : Mk l k a b (k + (timesL a b).length) 0 := by
  obtain ⟨m, rfl⟩ : ∃ m : Nat, a = m := ⟨a.toNat, by omega⟩
  revert hl
  unfold timesL
  rw [Int.toNat_natCast]
  split
  · rename_i h; intro hl; rw [h.1, h.2]; exact .star k (by simpa using hl.at 0 42 rfl)
  · split
    · rename_i h; intro hl; rw [h.1, h.2]; exact .plus k (by simpa using hl.at 0 43 rfl)
    · split
      · rename_i h; intro hl; rw [h.1, h.2]; exact .opt k (by simpa using hl.at 0 63 rfl)
      · split
        · rename_i h
          intro hl
          rw [List.append_assoc] at hl
          have a0 : l[k]? = some 123 := by simpa using hl.at 0 123 (by simp)
          obtain ⟨n1, n2, n3⟩ := nm_figs (by omega) (by omega) hl.right
          have e : k + ([123] ++ figs m ++ [125]).length = k + [123].length + (figs m).length + 1 := by simp; omega
          rw [e, ← h]
          exact .bounds k _ _ _ _ a0 n3 (.m k m _ n1 n2 (by omega))
        · split
          · rename_i h
            intro hl
            have e0 : [123] ++ figs m ++ [44, 125] = [123] ++ ((figs m ++ [44]) ++ [125]) := by simp
            rw [e0] at hl
            have a0 : l[k]? = some 123 := by simpa using hl.at 0 123 (by simp)
            obtain ⟨n1, n2, n3⟩ := nm_figs (by omega) (by omega) hl.right.left
            have a1 := hl.right.right.at 0 125 rfl
            have e : k + ([123] ++ figs m ++ [44, 125]).length = k + [123].length + (figs m).length + 2 := by simp; omega
            rw [e, h]
            refine .bounds k _ _ _ _ a0 n3 (.mopen k m _ n1 n2 ?_)
            rw [← a1]
            congr 1
            simp
            omega
          · intro hl
            obtain ⟨n, rfl⟩ : ∃ n : Nat, b = n := ⟨b.toNat, by omega⟩
            rw [Int.toNat_natCast] at hl ⊢
            have e0 : [123] ++ figs m ++ [44] ++ figs n ++ [125] = [123] ++ ((figs m ++ [44]) ++ (figs n ++ [125])) := by simp
            have a0 : l[k]? = some 123 := by simpa using (e0 ▸ hl).at 0 123 (by simp)
            rw [e0] at hl
            obtain ⟨n1, n2, n3⟩ := nm_figs (by omega) (by omega) hl.right.left
            obtain ⟨m1, m2, m3⟩ := nm_figs (by omega) (by omega) hl.right.right
            have e1 : k + [123].length + (figs m ++ [44]).length = k + [123].length + (figs m).length + 1 := by simp; omega
            rw [e1] at m1 m2 m3
            have e : k + ([123] ++ figs m ++ [44] ++ figs n ++ [125]).length = k + [123].length + (figs m).length + 1 + (figs n).length + 1 := by simp; omega
            rw [e]
            exact .bounds k _ _ _ _ a0 n3 (.mn k m _ n _ n1 n2 m1 m2 (by omega) (by omega))
end Go.Proofs.YtjlmeegaiagfpaaDoor

namespace Go.Proofs.YtjlmeegaiagfpaaDoor
open Go.RowKit
open Go.Tree7
open S7
open S5 (nl nl_length nl_small at_nl nl_at nl_strN)
/-- What is said of a plain tree by its kind. -/
def Reads (t : T) : Prop := ((T.k t ≠ 2 ∧ T.k t ≠ 3) → Piece t (T.txt t)) ∧ (T.k t ≠ 3 → Branch t (T.txt t)) ∧ Expr t (T.txt t)
theorem Reads.of_piece {t : T} (h : Piece t (T.txt t)) : Reads t := ⟨fun _ => h, fun _ => h.branch, h.branch.expr⟩
theorem Reads.of_branch {t : T} (h2 : T.k t = 2) (h : Branch t (T.txt t)) : Reads t := ⟨fun h' => absurd h2 h'.1, fun _ => h, h.expr⟩
theorem Reads.of_expr {t : T} (h3 : T.k t = 3) (h : Expr t (T.txt t)) : Reads t := ⟨fun h' => absurd h3 h'.2, fun h' => absurd h3 h', h⟩
theorem Reads.item {t : T} (h : Reads t) {cl : List Int} (h2 : (2 : Int) ∈ cl) (h3 : (3 : Int) ∈ cl) : Piece t (itm cl (T.k t) (T.txt t)) := by
  unfold itm
  split
  · exact h.2.2.piece
  · rename_i hk
    exact h.1 ⟨fun e => hk (e ▸ h2), fun e => hk (e ▸ h3)⟩
theorem Reads.arm {t : T} (h : Reads t) : Branch t (itm [3] (T.k t) (T.txt t)) := by
  unfold itm
  split
  · exact h.2.2.piece.branch
  · rename_i hk
    exact h.2.1 (by simpa using hk)
theorem join_nil (l : List (List Nat)) : joinS [] l = l.flatten := by
  cases l with
  | nil => rfl
  | cons x xs => simp [joinS, List.flatMap_def]
theorem catT_of {ks : List T} (h : ks.length ≠ 1) : catT ks = tC ks := by
  unfold catT
  split
  · simp at h
  · rfl
theorem pl_reads {t : T} (h : Pl t) : Reads t := by
  induction h with
  | set u0 u1 u2 u3 hw =>
    refine .of_piece ?_
    rw [txt_mk, if_pos rfl]
    have := set_piece (S1.mem4 u0.toNat u1.toNat u2.toNat u3.toNat)
    rw [leaf_words hw] at this
    exact this
  | name tx hn =>
    refine .of_piece ?_
    unfold tN
    rw [txt_mk]
    simp only [show ¬ ((5 : Int) = 1) by decide, show ¬ ((5 : Int) = 2) by decide, show ¬ ((5 : Int) = 3) by decide, show ¬ ((5 : Int) = 4) by decide, if_false]
    exact name_piece hn
  | rep a b t h0 h1 hb _ ih =>
    refine .of_piece ?_
    have e : T.txt (tR a b t) = itm [2, 3, 4] (T.k t) (T.txt t) ++ timesL a b := by
      unfold tR
      rw [txt_mk]
      simp only [show ¬ ((4 : Int) = 1) by decide, show ¬ ((4 : Int) = 2) by decide, show ¬ ((4 : Int) = 3) by decide, if_false, if_true]
      simp [its, joinS]
    rw [e]
    intro l k hl bs ps rest fr
    have h1 := ih.item (cl := [2, 3, 4]) (by simp) (by simp) l k hl.left bs ps rest fr
    have h2 := St.mark (bs := bs) (ps := ps) (x := t) (rest := rest) (times_mark h0 ‹_› hb hl.right)
    have := h1.trans h2.one
    simpa [Nat.add_assoc] using this
  | cat ks hk _ ih =>
    refine .of_branch rfl ?_
    have e : T.txt (tC ks) = if ks.length = 0 then [40, 41] else ks.flatMap fun t => itm [2, 3] (T.k t) (T.txt t) := by
      unfold tC
      rw [txt_mk, join_nil]
      simp only [show ¬ ((2 : Int) = 1) by decide, if_false, if_true]
      rfl
    rw [e]
    split
    · rename_i h
      have hn : ks = [] := List.length_eq_zero_iff.1 h
      subst hn
      intro l k hl bs rest
      have a0 : l[k]? = some 40 := by simpa using hl.at 0 40 rfl
      have a1 : l[k + 1]? = some 41 := hl.at 1 41 rfl
      exact ⟨[tC []], true, rfl, (St.opens a0).one.trans (St.close (o := ([], [])) (ps := []) a1).one⟩
    · intro l k hl bs rest
      obtain ⟨fr', h⟩ := pieces ks (fun t ht => (ih t ht).item (cl := [2, 3]) (by simp) (by simp)) l k hl bs [] rest false
      exact ⟨ks, fr', catT_of hk, by simpa using h⟩
  | alt ks hk _ ih =>
    refine .of_expr rfl ?_
    cases ks with
    | nil => simp at hk
    | cons y ys =>
      have e : T.txt (tA (y :: ys)) = itm [3] (T.k y) (T.txt y) ++ ys.flatMap fun t => [124] ++ itm [3] (T.k t) (T.txt t) := by
        unfold tA
        rw [txt_mk]
        simp only [show ¬ ((3 : Int) = 1) by decide, show ¬ ((3 : Int) = 2) by decide, if_false, if_true]
        simp [its, joinS, List.flatMap_map]
      rw [e]
      intro l k hl rest
      obtain ⟨bs', ps, fr, h1, h2⟩ := branches (F := fun t => itm [3] (T.k t) (T.txt t)) ys y (fun x hx => (ih x hx).arm) l k hl [] rest
      refine ⟨(bs', ps), fr, ?_, h2⟩
      have hb : bs' ≠ [] := by
        intro hb
        rw [hb] at h1
        have := congrArg List.length h1
        simp only [List.nil_append, List.length_cons, List.length_nil] at this hk
        omega
      unfold closedT
      simp only [hb, if_false]
      rw [h1]
      rfl
/-- From the beginning to the end. -/
theorem read_back {t : T} (h : Pl t) : ∃ o fr, closedT o = t ∧ Sts (T.txt t) [([], [])] false 0 [o] fr (T.txt t).length := by
  obtain ⟨o, fr, h1, h2⟩ := (pl_reads h).2.2 (T.txt t) 0 ⟨[], [], by simp, rfl⟩ []
  exact ⟨o, fr, h1, by simpa using h2⟩
end Go.Proofs.YtjlmeegaiagfpaaDoor

namespace Go.Proofs.YtjlmeegaiagfpaaDoor
open Go.RowKit
open Go.Tree7
open S7
open S5 (nl nl_length nl_small at_nl nl_at nl_strN)
theorem at_lift {s : List Nat} (x y : List Nat) {j c : Nat} (h : s[j]? = some c) : (x ++ s ++ y)[x.length + j]? = some c := Lies.at (l := x ++ s ++ y) ⟨x, y, rfl, rfl⟩ j c h
theorem rd_lift {s : List Nat} (x y : List Nat) {k c n : Nat} (h : S5.Rd s k c n 0) : S5.Rd (x ++ s ++ y) (x.length + k : Nat) c (x.length + n : Nat) 0 := by
  have up := fun {j c} (h : s[j]? = some c) => at_lift x y h
  generalize hi : (k : Int) = i at h
  generalize he : (0 : Nat) = e at h
  generalize hn : (n : Int) = t at h
  cases h with
  | outside => cases he
  | plain j c h1 h2 =>
    have hk : k = j := by omega
    have hn' : n = j + 1 := by omega
    subst hk hn'
    exact .plain (x.length + k) c (up h1) h2
  | ends1 => cases he
  | blank j c d h1 h2 h3 =>
    have hk : k = j := by omega
    have hn' : n = j + 2 := by omega
    subst hk hn'
    exact .blank (x.length + k) c _ (up h1) (up h2) h3
  | ends2 => cases he
  | bad2 => cases he
  | ends3 => cases he
  | bad3 => cases he
  | hex j c d b e h1 h2 h3 h4 h5 h6 =>
    have hk : k = j := by omega
    have hn' : n = j + 4 := by omega
    subst hk hn'
    exact .hex (x.length + k) c d b e (up h1) (up h2) (up h3) h4 (up h5) h6
  | sign j c h1 h2 h3 =>
    have hk : k = j := by omega
    have hn' : n = j + 2 := by omega
    subst hk hn'
    exact .sign (x.length + k) c (up h1) (up h2) h3
  | bad1 => cases he
theorem one_at {s : List Nat} {k c : Nat} {t : Int} (h : S6.One s k c t 0) : ∃ b n, s[k]? = some b ∧ ¬ S6.Bare b ∧ t = (n : Nat) ∧ S5.Rd s k c n 0 := by
  generalize he : (0 : Nat) = e at h
  cases h with
  | bare => cases he
  | rd k c t h1 h2 =>
    subst he
    obtain ⟨n, rfl, hlt, hle⟩ := S6.rd_next h2
    have a0 : s[k]? = some s[k] := List.getElem?_eq_getElem (by omega)
    exact ⟨_, n, a0, h1 _ a0, rfl, h2⟩
theorem one_lift {s : List Nat} (x y : List Nat) {k c n : Nat} (h : S6.One s k c n 0) : S6.One (x ++ s ++ y) (x.length + k) c (x.length + n : Nat) 0 := by
  obtain ⟨b, n', h1, h2, h3, h4⟩ := one_at h
  have : n = n' := by omega
  subst this
  refine .rd _ _ _ _ (fun z hz => ?_) (rd_lift x y h4)
  rw [at_lift x y h1] at hz
  cases hz
  exact h2
theorem its_at {s : List Nat} {b : Bool} {k : Nat} {ps : List (Nat × Nat)} {t : Int} (h : S6.Its s b k ps t 0) : ∃ c, s[k]? = some c := by
  generalize he : (0 : Nat) = e at h
  cases h with
  | close => exact ⟨_, by assumption⟩
  | bad1 => exact absurd he.symm (by assumption)
  | one => rename_i h _ _; obtain ⟨b, _, h, _⟩ := one_at h; exact ⟨b, h⟩
  | bad2 => exact absurd he.symm (by assumption)
  | down => cases he
  | span => obtain ⟨b, _, h, _⟩ := one_at (s := s) (k := k) (by assumption); exact ⟨b, h⟩
theorem its_lift {s : List Nat} (x y : List Nat) {b : Bool} {k : Nat} {ps : List (Nat × Nat)} {t : Int} {e : Nat} (h : S6.Its s b k ps t e) : e = 0 → ∃ n : Nat, t = n ∧ S6.Its (x ++ s ++ y) b (x.length + k) ps (x.length + n : Nat) 0 := by
  induction h with
  | close k h => intro _; exact ⟨k + 1, by omega, .close _ (at_lift x y h)⟩
  | bad1 b k t e _ _ h => intro he; exact absurd he h
  | one b k c n ps t e h1 h2 h3 h4 ih =>
    intro he
    subst he
    obtain ⟨m, rfl, h5⟩ := ih rfl
    obtain ⟨z, hz⟩ := its_at h4
    obtain ⟨z', n', hz', _⟩ := one_at h2
    refine ⟨m, rfl, .one b _ c _ ps _ _ ?_ (one_lift x y h2) ?_ h5⟩
    · rcases h1 with h1 | h1
      · exact .inl h1
      · refine .inr ?_
        rw [at_lift x y hz', ← hz']
        exact h1
    · rw [at_lift x y hz, ← hz]
      exact h3
  | bad2 b k c n t e _ _ _ _ h => intro he; exact absurd he h
  | down => intro he; cases he
  | span b k c n d m ps t e h1 h2 h3 h4 h5 h6 ih =>
    intro he
    subst he
    obtain ⟨m', rfl, h7⟩ := ih rfl
    obtain ⟨z', n', hz', _⟩ := one_at h2
    refine ⟨m', rfl, .span b _ c _ d _ ps _ _ ?_ (one_lift x y h2) (at_lift x y h3) ?_ h5 h7⟩
    · rcases h1 with h1 | h1
      · exact .inl h1
      · refine .inr ?_
        rw [at_lift x y hz', ← hz']
        exact h1
    · have := one_lift x y h4
      rw [← Nat.add_assoc] at this
      exact this
theorem br_lift {s : List Nat} (x y : List Nat) {k n : Nat} {f : Nat → Bool} (h : S6.Br s k f n 0) : S6.Br (x ++ s ++ y) (x.length + k : Nat) f (x.length + n : Nat) 0 := by
  generalize hi : (k : Int) = i at h
  generalize he : (0 : Nat) = e at h
  generalize hn : (n : Int) = t at h
  cases h with
  | outside => cases he
  | other => cases he
  | ok j ps t h1 h2 h3 =>
    have hk : k = j := by omega
    subst hk
    obtain ⟨m, hm, h4⟩ := its_lift x y h3 rfl
    have : n = m := by omega
    subst this
    obtain ⟨z, hz⟩ := its_at h3
    exact .ok _ _ _ (at_lift x y h1) (by rw [Nat.add_assoc, at_lift x y hz, ← hz]; exact h2) (by rw [Nat.add_assoc]; exact h4)
  | okNot j ps t h1 h2 h3 =>
    have hk : k = j := by omega
    subst hk
    obtain ⟨m, hm, h4⟩ := its_lift x y h3 rfl
    have : n = m := by omega
    subst this
    exact .okNot _ _ _ (at_lift x y h1) (by rw [Nat.add_assoc]; exact at_lift x y h2) (by rw [Nat.add_assoc]; exact h4)
  | bad _ _ _ _ _ _ _ h => exact absurd he.symm h
  | badNot _ _ _ _ _ _ _ h => exact absurd he.symm h
end Go.Proofs.YtjlmeegaiagfpaaDoor

namespace Go.Proofs.YtjlmeegaiagfpaaDoor
open Go.RowKit
open Go.Tree7
open S7
open S5 (nl nl_length nl_small at_nl nl_at nl_strN)
/-- What follows opens with no figure. -/
def NoFig (y : List Nat) : Prop := ∀ c, y[0]? = some c → ¬ (48 ≤ c ∧ c ≤ 57)
theorem dg_lift {s : List Nat} (x y : List Nat) {k : Nat} (h : Dg s k) : Dg (x ++ s ++ y) (x.length + k) := by
  obtain ⟨c, h1, h2⟩ := h
  exact ⟨c, at_lift x y h1, h2⟩
theorem nodg_lift {s : List Nat} (x : List Nat) {y : List Nat} (hy : NoFig y) {k : Nat} (hk : k ≤ s.length) (h : ¬ Dg s k) : ¬ Dg (x ++ s ++ y) (x.length + k) := by
  rintro ⟨c, h1, h2⟩
  by_cases hlt : k < s.length
  · have a0 : s[k]? = some s[k] := List.getElem?_eq_getElem hlt
    have := at_lift x y a0
    rw [h1] at this
    cases this
    exact h ⟨_, a0, h2⟩
  · have : k = s.length := by omega
    subst this
    rw [List.getElem?_append_right (by simp)] at h1
    have e : x.length + s.length - (x ++ s).length = 0 := by simp
    rw [e] at h1
    exact hy c h1 h2
theorem lt_of_at {s : List Nat} {k c : Nat} (h : s[k]? = some c) : k < s.length := (List.getElem?_eq_some_iff.1 h).1
theorem nm_lift {s : List Nat} (x : List Nat) {y : List Nat} (hy : NoFig y) {k a n : Nat} (h : Nm s k a n) : Nm (x ++ s ++ y) (x.length + k) a (x.length + n) := by
  cases h with
  | one c h1 h2 h3 h4 => exact .one _ c (at_lift x y h1) h2 h3 (nodg_lift x hy (lt_of_at h1) h4)
  | two c d h1 h2 h3 h4 h5 h6 h7 h8 => exact .two _ c d (at_lift x y h1) h2 h3 (at_lift x y h4) h5 h6 (nodg_lift x hy (lt_of_at h4) h7) h8
theorem bd_lift {s : List Nat} (x : List Nat) {y : List Nat} (hy : NoFig y) {k n : Nat} {a b : Int} (h : Bd s k a b n 0) : Bd (x ++ s ++ y) (x.length + k) a b (x.length + n) 0 := by
  cases h with
  | m a j h1 h2 h3 => exact .m _ _ _ (nm_lift x hy h1) (at_lift x y h2) h3
  | mopen a j h1 h2 h3 => exact .mopen _ _ _ (nm_lift x hy h1) (at_lift x y h2) (at_lift x y h3)
  | mn a j b i h1 h2 h3 h4 h5 h6 => exact .mn _ _ _ _ _ (nm_lift x hy h1) (at_lift x y h2) (nm_lift x hy h3) (at_lift x y h4) h5 h6
theorem mk_lift {s : List Nat} (x : List Nat) {y : List Nat} (hy : NoFig y) {k n : Nat} {a b : Int} (h : Mk s k a b n 0) : Mk (x ++ s ++ y) (x.length + k) a b (x.length + n) 0 := by
  cases h with
  | star h => exact .star _ (at_lift x y h)
  | plus h => exact .plus _ (at_lift x y h)
  | opt h => exact .opt _ (at_lift x y h)
  | bounds => exact .bounds _ _ _ _ _ (at_lift x y (by assumption)) (dg_lift x y (by assumption)) (bd_lift x hy (by assumption))
theorem nomark_lift {s : List Nat} (x : List Nat) {y : List Nat} (hy : NoFig y) {k : Nat} (hk : k < s.length) {fr : Bool} (h : ¬ (fr = true ∧ IsMark s k)) : ¬ (fr = true ∧ IsMark (x ++ s ++ y) (x.length + k)) := by
  rintro ⟨h1, h2⟩
  refine h ⟨h1, ?_⟩
  have a0 : s[k]? = some s[k] := List.getElem?_eq_getElem hk
  have a1 := at_lift x y a0
  unfold IsMark at h2 ⊢
  rw [a1] at h2
  rw [a0]
  rcases h2 with h | h | h | ⟨h, h'⟩
  · exact .inl h
  · exact .inr (.inl h)
  · exact .inr (.inr (.inl h))
  · refine .inr (.inr (.inr ⟨h, Classical.byContradiction fun hn => ?_⟩))
    exact nodg_lift x hy hk hn h'
theorem atm_at {s : List Nat} {k n : Nat} {t : T} (h : Atm s k t n) : k < s.length := by
  cases h with
  | br f _ h => exact lt_of_at h
  | dot h => exact lt_of_at h
  | name tx h => exact lt_of_at h
  | byte c d _ h => exact lt_of_at h
theorem atm_lift {s : List Nat} (x y : List Nat) {k n : Nat} {t : T} (h : Atm s k t n) : Atm (x ++ s ++ y) (x.length + k) t (x.length + n) := by
  cases h with
  | br f _ h1 h2 => exact .br _ _ _ (at_lift x y h1) (br_lift x y h2)
  | dot h => exact .dot _ (at_lift x y h)
  | name tx h1 h2 h3 h4 =>
    have e : x.length + (k + tx.size + 2) = x.length + k + tx.size + 2 := by omega
    rw [e]
    refine .name _ _ (at_lift x y h1) (fun j z hz => ?_) ?_ h4
    · have := at_lift x y (h2 j z hz)
      simpa [Nat.add_assoc] using this
    · have := at_lift x y h3
      simpa [Nat.add_assoc] using this
  | byte c d _ h1 h2 h3 => exact .byte _ c _ _ (at_lift x y h1) h2 (rd_lift x y h3)
theorem st_lift {s : List Nat} (x : List Nat) {y : List Nat} (hy : NoFig y) (base : List Op) {p p' : List Op} {b b' : Bool} {k k' : Nat} (h : St s p b k p' b' k') : St (x ++ s ++ y) (p ++ base) b (x.length + k) (p' ++ base) b' (x.length + k') := by
  cases h with
  | mark h => exact .mark (mk_lift x hy h)
  | opens h => exact .opens (at_lift x y h)
  | bar h => exact .bar (at_lift x y h)
  | close h => exact .close (at_lift x y h)
  | atom h1 h2 => exact .atom (nomark_lift x hy (atm_at h2) h1) (atm_lift x y h2)
theorem sts_lift {s : List Nat} (x : List Nat) {y : List Nat} (hy : NoFig y) (base : List Op) {p p' : List Op} {b b' : Bool} {k k' : Nat} (h : Sts s p b k p' b' k') : Sts (x ++ s ++ y) (p ++ base) b (x.length + k) (p' ++ base) b' (x.length + k') := by
  induction h with
  | refl => exact .refl ..
  | head h _ ih => exact .head (st_lift x hy base h) ih
/-- A text in round brackets: the same expression; cut off within them: it is still open at the end. -/
theorem in_brackets {s : List Nat} {o : Op} {fr : Bool} (h : Sts s [([], [])] false 0 [o] fr s.length) :
    Sts ([40] ++ s ++ [41]) [([], [])] false 0 [([], [closedT o])] true (s.length + 2) ∧ Sts ([40] ++ s) [([], [])] false 0 [o, ([], [])] fr (s.length + 1) := by
  constructor
  · have h1 := sts_lift [40] (y := [41]) (fun c hc => by simp at hc; omega) [([], [])] h
    have a0 : ([40] ++ s ++ [41])[0]? = some 40 := rfl
    have a1 : ([40] ++ s ++ [41])[[40].length + s.length]? = some 41 := by
      have e : [40].length + s.length = ([40] ++ s).length := by simp [Nat.add_comm]
      rw [e, List.getElem?_append_right (Nat.le_refl _), Nat.sub_self]
      rfl
    have := ((St.opens (fr := false) (pile := [([], [])]) a0).one.trans h1).trans (St.close (o := o) (bs := []) (ps := []) (rest := []) (fr := fr) a1).one
    have e : s.length + 2 = [40].length + s.length + 1 := by simp; omega
    rw [e]
    exact this
  · have h1 := sts_lift [40] (y := []) (fun c hc => by simp at hc) [([], [])] h
    rw [List.append_nil] at h1
    have a0 : ([40] ++ s)[0]? = some 40 := rfl
    have := (St.opens (fr := false) (pile := [([], [])]) a0).one.trans h1
    have e : s.length + 1 = [40].length + s.length := by simp; omega
    rw [e]
    exact this
end Go.Proofs.YtjlmeegaiagfpaaDoor

namespace Go.Proofs.YtjlmeegaiagfpaaDoor
open Go.RowKit
open Go.Tree7
open S7
open S5 (nl nl_length nl_small at_nl nl_at nl_strN)
/-- All that lies on the pile is plain. -/
def PlO (o : Op) : Prop := (∀ t ∈ o.1, Pl t) ∧ ∀ t ∈ o.2, Pl t
theorem pl_leaf (f : Nat → Bool) : Pl (leafT f) := .set _ _ _ _ ⟨wf_nat (S1.wd_lt f 0), wf_nat (S1.wd_lt f 1), wf_nat (S1.wd_lt f 2), wf_nat (S1.wd_lt f 3)⟩
theorem pl_catT {ks : List T} (h : ∀ t ∈ ks, Pl t) : Pl (catT ks) := by
  by_cases hk : ks.length = 1
  · obtain ⟨x, rfl⟩ := List.length_eq_one_iff.1 hk
    exact h x (by simp)
  · rw [catT_of hk]
    exact .cat ks hk h
theorem pl_closed {o : Op} (h : PlO o) : Pl (closedT o) := by
  unfold closedT
  split
  · exact pl_catT h.2
  · rename_i hb
    refine .alt _ ?_ fun t ht => ?_
    · have : o.1.length ≠ 0 := fun e => hb (List.length_eq_zero_iff.1 e)
      simp
      omega
    · rcases List.mem_append.1 ht with ht | ht
      · exact h.1 t ht
      · simp at ht
        rw [ht]
        exact pl_catT h.2
theorem nm_le {l : List Nat} {k a n : Nat} (h : Nm l k a n) : a ≤ 40 ∧ k < n ∧ n ≤ l.length := by
  cases h with
  | one c h1 h2 h3 h4 => have := lt_of_at h1; omega
  | two c d h1 h2 h3 h4 h5 h6 h7 h8 => have := lt_of_at h4; omega
theorem bd_ok {l : List Nat} {k n : Nat} {a b : Int} (h : Bd l k a b n 0) : 0 ≤ a ∧ a ≤ 40 ∧ (b = -1 ∨ (a ≤ b ∧ 1 ≤ b ∧ b ≤ 40)) ∧ k < n ∧ n ≤ l.length := by
  cases h with
  | m a j h1 h2 h3 => have := nm_le h1; have := lt_of_at h2; omega
  | mopen a j h1 h2 h3 => have := nm_le h1; have := lt_of_at h3; omega
  | mn a j b i h1 h2 h3 h4 h5 h6 => have := nm_le h1; have := nm_le h3; have := lt_of_at h4; omega
theorem mk_ok {l : List Nat} {k n : Nat} {a b : Int} (h : Mk l k a b n 0) : 0 ≤ a ∧ a ≤ 40 ∧ (b = -1 ∨ (a ≤ b ∧ 1 ≤ b ∧ b ≤ 40)) ∧ k < n ∧ n ≤ l.length := by
  cases h with
  | star h => have := lt_of_at h; omega
  | plus h => have := lt_of_at h; omega
  | opt h => have := lt_of_at h; omega
  | bounds => exact bd_ok (by assumption)
theorem atm_next {l : List Nat} {k n : Nat} {t : T} (h : Atm l k t n) : k < n ∧ n ≤ l.length ∧ Pl t := by
  cases h with
  | br f _ h1 h2 =>
    obtain ⟨m, hm, h3⟩ : ∃ m : Nat, (n : Int) = m ∧ k < m ∧ m ≤ l.length := by
      generalize hi : (k : Int) = i at h2
      generalize he : (0 : Nat) = e at h2
      have key : ∀ {b : Bool} {j : Nat} {ps : List (Nat × Nat)} {t : Int} {e : Nat}, S6.Its l b j ps t e → e = 0 → ∃ m : Nat, t = m ∧ j < m ∧ m ≤ l.length := by
        intro b j ps t e h
        induction h with
        | close k h => intro _; have := lt_of_at h; exact ⟨k + 1, by omega, by omega, by omega⟩
        | bad1 b k t e _ _ h => intro he; exact absurd he h
        | one b k c n ps t e h1 h2 h3 h4 ih =>
          intro he
          obtain ⟨m, hm, h5, h6⟩ := ih he
          obtain ⟨q, hq, h7, h8⟩ := S6.one_next h2
          exact ⟨m, hm, by omega, h6⟩
        | bad2 b k c n t e _ _ _ _ h => intro he; exact absurd he h
        | down => intro he; cases he
        | span b k c n d m ps t e h1 h2 h3 h4 h5 h6 ih =>
          intro he
          obtain ⟨m', hm, h9, h10⟩ := ih he
          obtain ⟨q, hq, h7, h8⟩ := S6.one_next h2
          obtain ⟨q', hq', h7', h8'⟩ := S6.one_next h4
          exact ⟨m', hm, by omega, h10⟩
      cases h2 with
      | outside => cases he
      | other => cases he
      | ok j ps t _ _ h3 => obtain ⟨m, hm, h5, h6⟩ := key h3 rfl; exact ⟨m, hm, by omega, h6⟩
      | okNot j ps t _ _ h3 => obtain ⟨m, hm, h5, h6⟩ := key h3 rfl; exact ⟨m, hm, by omega, h6⟩
      | bad _ _ _ _ _ _ _ h => exact absurd he.symm h
      | badNot _ _ _ _ _ _ _ h => exact absurd he.symm h
    have : n = m := by omega
    subst this
    exact ⟨h3.1, h3.2, pl_leaf _⟩
  | dot h => have := lt_of_at h; exact ⟨by omega, by omega, pl_leaf _⟩
  | name tx h1 h2 h3 h4 => have := lt_of_at h3; exact ⟨by omega, by omega, .name _ h4⟩
  | byte c d _ h1 h2 h3 =>
    obtain ⟨m, hm, h4, h5⟩ := S6.rd_next h3
    exact ⟨by omega, by omega, pl_leaf _⟩
theorem st_next {l : List Nat} {p p' : List Op} {b b' : Bool} {k k' : Nat} (h : St l p b k p' b' k') : k < k' ∧ k' ≤ l.length := by
  cases h with
  | mark h => have := mk_ok h; omega
  | opens h => have := lt_of_at h; omega
  | bar h => have := lt_of_at h; omega
  | close h => have := lt_of_at h; omega
  | atom h1 h2 => have := atm_next h2; omega
theorem st_plain {l : List Nat} {p p' : List Op} {b b' : Bool} {k k' : Nat} (h : St l p b k p' b' k') (hp : ∀ o ∈ p, PlO o) : ∀ o ∈ p', PlO o := by
  cases h with
  | mark h =>
    rename_i bs ps x rest a b
    intro o ho
    rcases List.mem_cons.1 ho with rfl | ho
    · obtain ⟨h1, h2⟩ := hp _ (.head _)
      refine ⟨h1, fun t ht => ?_⟩
      rcases List.mem_append.1 ht with ht | ht
      · exact h2 t (by simp; exact .inl ht)
      · simp at ht
        subst ht
        obtain ⟨m1, m2, m3, _⟩ := mk_ok h
        exact .rep _ _ _ m1 m2 m3 (h2 x (by simp))
    · exact hp o (.tail _ ho)
  | opens h =>
    intro o ho
    rcases List.mem_cons.1 ho with rfl | ho
    · exact ⟨by simp, by simp⟩
    · exact hp o ho
  | bar h =>
    intro o ho
    rcases List.mem_cons.1 ho with rfl | ho
    · obtain ⟨h1, h2⟩ := hp _ (.head _)
      refine ⟨fun t ht => ?_, by simp⟩
      rcases List.mem_append.1 ht with ht | ht
      · exact h1 t ht
      · simp at ht
        rw [ht]
        exact pl_catT h2
    · exact hp o (.tail _ ho)
  | close h =>
    intro o ho
    rcases List.mem_cons.1 ho with rfl | ho
    · obtain ⟨h1, h2⟩ := hp _ (.tail _ (.head _))
      refine ⟨h1, fun t ht => ?_⟩
      rcases List.mem_append.1 ht with ht | ht
      · exact h2 t ht
      · simp at ht
        rw [ht]
        exact pl_closed (hp _ (.head _))
    · exact hp o (.tail _ (.tail _ ho))
  | atom h1 h2 =>
    intro o ho
    rcases List.mem_cons.1 ho with rfl | ho
    · obtain ⟨h3, h4⟩ := hp _ (.head _)
      refine ⟨h3, fun t ht => ?_⟩
      rcases List.mem_append.1 ht with ht | ht
      · exact h4 t ht
      · simp at ht
        rw [ht]
        exact (atm_next h2).2.2
    · exact hp o (.tail _ ho)
theorem sts_plain {l : List Nat} {p p' : List Op} {b b' : Bool} {k k' : Nat} (h : Sts l p b k p' b' k') (hp : ∀ o ∈ p, PlO o) : ∀ o ∈ p', PlO o := by
  induction h with
  | refl => exact hp
  | head h _ ih => exact ih (st_plain h hp)
end Go.Proofs.YtjlmeegaiagfpaaDoor

namespace Go.Proofs.YtjlmeegaiagfpaaDoor
open Go.RowKit
open Go.Tree7
open S7
open S5 (nl nl_length nl_small at_nl nl_at nl_strN)
theorem nm_some {l : List Nat} {k : Nat} (h : Dg l k) : NmBad l k ∨ ∃ a n, Nm l k a n := by
  obtain ⟨c, h1, h2, h3⟩ := h
  by_cases hd : Dg l (k + 1)
  · obtain ⟨d, h4, h5, h6⟩ := hd
    by_cases he : Dg l (k + 2)
    · exact .inl (.long k ⟨c, h1, h2, h3⟩ ⟨d, h4, h5, h6⟩ he)
    · by_cases hb : 10 * (c - 48) + (d - 48) ≤ 40
      · exact .inr ⟨_, _, .two k c d h1 h2 h3 h4 h5 h6 he hb⟩
      · exact .inl (.big k c d h1 h2 h3 h4 h5 h6 he (by omega))
  · exact .inr ⟨_, _, .one k c h1 h2 h3 hd⟩
theorem at_some (l : List Nat) {k : Nat} (h : k ≤ l.length) : k = l.length ∨ ∃ c, l[k]? = some c := by
  by_cases hk : k = l.length
  · exact .inl hk
  · exact .inr ⟨_, List.getElem?_eq_getElem (by omega)⟩
theorem bd_some {l : List Nat} {k : Nat} (h : Dg l (k + 1)) : ∃ a b n e, Bd l k a b n e := by
  rcases nm_some h with h | ⟨a, j, h1⟩
  · exact ⟨_, _, _, _, .bad1 k h⟩
  · rcases at_some l (nm_le h1).2.2 with hj | ⟨c, hc⟩
    · exact ⟨_, _, _, _, .short1 k a j h1 hj⟩
    · by_cases h125 : c = 125
      · subst h125
        by_cases ha : a = 0
        · subst ha; exact ⟨_, _, _, _, .low1 k j h1 hc⟩
        · exact ⟨_, _, _, _, .m k a j h1 hc (by omega)⟩
      · by_cases h44 : c = 44
        · subst h44
          have hj := lt_of_at hc
          rcases at_some l (k := j + 1) (by omega) with hj | ⟨d, hd⟩
          · exact ⟨_, _, _, _, .short2 k a j h1 hc hj⟩
          · by_cases hg : Dg l (j + 1)
            · rcases nm_some hg with h2 | ⟨b, i, h2⟩
              · exact ⟨_, _, _, _, .bad2 k a j h1 hc h2⟩
              · rcases at_some l (nm_le h2).2.2 with hi | ⟨x, hx⟩
                · exact ⟨_, _, _, _, .short3 k a j b i h1 hc h2 hi⟩
                · by_cases hx5 : x = 125
                  · subst hx5
                    by_cases hb : b < a ∨ b = 0
                    · exact ⟨_, _, _, _, .low2 k a j b i h1 hc h2 hx hb⟩
                    · exact ⟨_, _, _, _, .mn k a j b i h1 hc h2 hx (by omega) (by omega)⟩
                  · exact ⟨_, _, _, _, .form3 k a j b i x h1 hc h2 hx hx5⟩
            · by_cases hd5 : d = 125
              · subst hd5; exact ⟨_, _, _, _, .mopen k a j h1 hc hd⟩
              · exact ⟨_, _, _, _, .form2 k a j d h1 hc hd hg hd5⟩
        · exact ⟨_, _, _, _, .form1 k a j c h1 hc h44 h125⟩
theorem mk_some {l : List Nat} {k : Nat} (h : IsMark l k) : ∃ a b n e, Mk l k a b n e := by
  rcases h with h | h | h | ⟨h, h'⟩
  · exact ⟨_, _, _, _, .star k h⟩
  · exact ⟨_, _, _, _, .plus k h⟩
  · exact ⟨_, _, _, _, .opt k h⟩
  · obtain ⟨a, b, n, e, hb⟩ := bd_some h'
    exact ⟨_, _, _, _, .bounds k a b n e h h' hb⟩
/-- What is no atom: the place of the fault, the error's number. -/
inductive AtmBad (l : List Nat) : Nat → Int → Nat → Prop
  | form (k c : Nat) : l[k]? = some c → c ∈ [42, 43, 63, 93, 125, 47] → AtmBad l k k 4
  | br (k : Nat) (f : Nat → Bool) (n : Int) (e : Nat) : l[k]? = some 91 → S6.Br l k f n e → e ≠ 0 → AtmBad l k n e
  | short (k : Nat) : l[k]? = some 123 → (∀ j, k < j → l[j]? ≠ some 125) → AtmBad l k l.length 2
  | name (k m : Nat) : l[k]? = some 123 → (∀ j, k < j → j < k + 1 + m → l[j]? ≠ some 125) → l[k + 1 + m]? = some 125 → ¬ NameOk ((l.drop (k + 1)).take m) → AtmBad l k (k + 1 : Nat) 5
  | byte (k c d : Nat) (n : Int) (e : Nat) : l[k]? = some c → c ∉ [42, 43, 63, 93, 125, 47, 91, 46, 123, 40, 41, 124] → S5.Rd l k d n e → e ≠ 0 → AtmBad l k n e
/-- A list of small numbers is a string's. -/
theorem nl_some {l : List Nat} (h : ∀ x ∈ l, x ≤ 255) : ∃ s : ByteArray, nl s = l := by
  refine ⟨⟨(l.map UInt8.ofNat).toArray⟩, ?_⟩
  unfold nl
  rw [List.map_map]
  refine (List.map_congr_left fun x hx => ?_).trans (List.map_id _)
  have := h x hx
  simp
  omega
theorem first_some (l : List Nat) (k : Nat) : (∀ j, k < j → l[j]? ≠ some 125) ∨ ∃ m, (∀ j, k < j → j < k + 1 + m → l[j]? ≠ some 125) ∧ l[k + 1 + m]? = some 125 := by
  by_cases h : ∃ m, l[k + 1 + m]? = some 125
  · right
    obtain ⟨m, hm⟩ := h
    have key : ∀ m, l[k + 1 + m]? = some 125 → ∃ m, (∀ j, k < j → j < k + 1 + m → l[j]? ≠ some 125) ∧ l[k + 1 + m]? = some 125 := by
      intro m
      induction m using Nat.strongRecOn with
      | ind m ih =>
        intro hm
        by_cases hq : ∃ q, q < m ∧ l[k + 1 + q]? = some 125
        · obtain ⟨q, h1, h2⟩ := hq
          exact ih q h1 h2
        · refine ⟨m, fun j h1 h2 h3 => hq ⟨j - (k + 1), by omega, ?_⟩, hm⟩
          rw [show k + 1 + (j - (k + 1)) = j by omega]
          exact h3
    exact key m hm
  · left
    intro j hj h3
    exact h ⟨j - (k + 1), by rw [show k + 1 + (j - (k + 1)) = j by omega]; exact h3⟩
theorem atm_some {l : List Nat} (hl : ∀ x ∈ l, x ≤ 255) {k c : Nat} (h : l[k]? = some c) (h1 : c ≠ 40) (h2 : c ≠ 41) (h3 : c ≠ 124) : (∃ t n, Atm l k t n) ∨ ∃ n e, AtmBad l k n e := by
  by_cases hf : c ∈ [42, 43, 63, 93, 125, 47]
  · exact .inr ⟨_, _, .form k c h hf⟩
  by_cases h91 : c = 91
  · subst h91
    obtain ⟨f, t, e, hb⟩ := S6.br_some l k
    by_cases he : e = 0
    · subst he
      have ht : ∃ n : Nat, t = n := by
        have hb' := hb
        generalize hi : (k : Int) = i at hb'
        generalize he : (0 : Nat) = e at hb'
        cases hb' with
        | outside => cases he
        | other => cases he
        | ok j ps t _ _ h3 => obtain ⟨m, hm, _⟩ := its_lift [] [] h3 rfl; exact ⟨m, hm⟩
        | okNot j ps t _ _ h3 => obtain ⟨m, hm, _⟩ := its_lift [] [] h3 rfl; exact ⟨m, hm⟩
        | bad _ _ _ _ _ _ _ h => exact absurd he.symm h
        | badNot _ _ _ _ _ _ _ h => exact absurd he.symm h
      obtain ⟨n, rfl⟩ := ht
      exact .inl ⟨_, _, .br k f n h hb⟩
    · exact .inr ⟨_, _, .br k f t e h hb he⟩
  by_cases h46 : c = 46
  · subst h46; exact .inl ⟨_, _, .dot k h⟩
  by_cases h123 : c = 123
  · subst h123
    rcases first_some l k with hn | ⟨m, hm, hz⟩
    · exact .inr ⟨_, _, .short k h hn⟩
    · by_cases hk : NameOk ((l.drop (k + 1)).take m)
      · obtain ⟨s, hs⟩ := nl_some (l := (l.drop (k + 1)).take m) fun x hx => hl x (List.mem_of_mem_drop (List.mem_of_mem_take hx))
        have hlen : s.size = m := by
          have hq := lt_of_at hz
          rw [← nl_length, hs]
          simp
          omega
        refine .inl ⟨tN s, _, .name k s h (fun j x hx => ?_) (by rw [hlen]; exact hz) (by rw [hs]; exact hk)⟩
        rw [hs, List.getElem?_take] at hx
        split at hx
        · rw [List.getElem?_drop] at hx
          exact hx
        · cases hx
      · exact .inr ⟨_, _, .name k m h hm hz hk⟩
  have hc : c ∉ [42, 43, 63, 93, 125, 47, 91, 46, 123, 40, 41, 124] := by simp at hf ⊢; omega
  obtain ⟨d, t, e, hr⟩ := S5.rd_some l k
  by_cases he : e = 0
  · subst he
    obtain ⟨n, rfl, _⟩ := S6.rd_next hr
    exact .inl ⟨_, _, .byte k c d n h hc hr⟩
  · exact .inr ⟨_, _, .byte k c d t e h hc hr he⟩
/-- How a reading ends, ahead of the limits. -/
inductive Out where
  | tree (t : T)
  | bad (at_ : Int) (e : Nat)
/-- How it ends from here on. -/
inductive Run (l : List Nat) : List Op → Bool → Nat → Out → Prop
  | step {p p' : List Op} {b b' : Bool} {k k' : Nat} {out : Out} : St l p b k p' b' k' → Run l p' b' k' out → Run l p b k out
  | tree (o : Op) (b : Bool) (k : Nat) : k = l.length → Run l [o] b k (.tree (closedT o))
  | short (o o' : Op) (p : List Op) (b : Bool) (k : Nat) : k = l.length → Run l (o :: o' :: p) b k (.bad l.length 2)
  | mark (p : List Op) (k n e : Nat) (x y : Int) : Mk l k x y n e → e ≠ 0 → Run l p true k (.bad n e)
  | close (o : Op) (b : Bool) (k : Nat) : l[k]? = some 41 → Run l [o] b k (.bad k 4)
  | atom (p : List Op) (b : Bool) (k : Nat) (n : Int) (e : Nat) : ¬ (b = true ∧ IsMark l k) → AtmBad l k n e → Run l p b k (.bad n e)
/-- What always holds of the pile. -/
def PileOk (p : List Op) (b : Bool) : Prop := ∃ o p', p = o :: p' ∧ (b = true → ∃ ps x, o.2 = ps ++ [x])
theorem st_pile {l : List Nat} {p p' : List Op} {b b' : Bool} {k k' : Nat} (h : St l p b k p' b' k') : PileOk p' b' := by
  cases h with
  | mark h => exact ⟨_, _, rfl, fun _ => ⟨_, _, rfl⟩⟩
  | opens h => exact ⟨_, _, rfl, fun h => by cases h⟩
  | bar h => exact ⟨_, _, rfl, fun h => by cases h⟩
  | close h => exact ⟨_, _, rfl, fun _ => ⟨_, _, rfl⟩⟩
  | atom h1 h2 => exact ⟨_, _, rfl, fun _ => ⟨_, _, rfl⟩⟩
theorem run_some {l : List Nat} (hl : ∀ x ∈ l, x ≤ 255) : ∀ (n : Nat) (p : List Op) (b : Bool) (k : Nat), l.length - k ≤ n → k ≤ l.length → PileOk p b → ∃ out, Run l p b k out := by
  intro n
  induction n with
  | zero =>
    rintro p b k h1 h2 ⟨o, p', rfl, _⟩
    cases p' with
    | nil => exact ⟨_, .tree o b k (by omega)⟩
    | cons o' p' => exact ⟨_, .short o o' p' b k (by omega)⟩
  | succ n ih =>
    intro p b k h1 h2 hp
    have next : ∀ {p' : List Op} {b' : Bool} {k' : Nat}, St l p b k p' b' k' → ∃ out, Run l p b k out := fun {p' b' k'} hs => by
      obtain ⟨h3, h4⟩ := st_next hs
      obtain ⟨out, h5⟩ := ih p' b' k' (by omega) h4 (st_pile hs)
      exact ⟨out, .step hs h5⟩
    obtain ⟨⟨bs, ps⟩, p', rfl, hpo⟩ := hp
    rcases at_some l h2 with hk | ⟨c, hc⟩
    · cases p' with
      | nil => exact ⟨_, .tree _ b k hk⟩
      | cons o' p' => exact ⟨_, .short _ o' p' b k hk⟩
    by_cases hm : b = true ∧ IsMark l k
    · obtain ⟨rfl, hm⟩ := hm
      obtain ⟨x, y, m, e, hk⟩ := mk_some hm
      by_cases he : e = 0
      · subst he
        obtain ⟨ps', z, hz⟩ := hpo rfl
        simp only at hz
        subst hz
        exact next (.mark hk)
      · exact ⟨_, .mark _ k m e x y hk he⟩
    by_cases h40 : c = 40
    · subst h40; exact next (.opens hc)
    by_cases h124 : c = 124
    · subst h124; exact next (.bar hc)
    by_cases h41 : c = 41
    · subst h41
      cases p' with
      | nil => exact ⟨_, .close _ b k hc⟩
      | cons o' p' => exact next (.close (bs := o'.1) (ps := o'.2) hc)
    rcases atm_some hl hc h40 h41 h124 with ⟨t, m, ha⟩ | ⟨m, e, ha⟩
    · exact next (.atom hm ha)
    · exact ⟨_, .atom _ b k m e hm ha⟩
end Go.Proofs.YtjlmeegaiagfpaaDoor

namespace Go.Proofs.YtjlmeegaiagfpaaDoor
open Go.RowKit
open Go.Tree7
open S7
open S5 (nl nl_length nl_small at_nl nl_at nl_strN)
/-- The greatest of some numbers. -/
def most : List Nat → Nat
  | [] => 0
  | x :: xs => max x (most xs)
theorem le_most {l : List Nat} {x : Nat} (h : x ∈ l) : x ≤ most l := by
  induction l with
  | nil => simp at h
  | cons y ys ih =>
    rcases List.mem_cons.1 h with rfl | h
    · simp [most]; omega
    · have := ih h; simp [most]; omega
theorem most_le {l : List Nat} {n : Nat} (h : ∀ x ∈ l, x ≤ n) : most l ≤ n := by
  induction l with
  | nil => simp [most]
  | cons y ys ih =>
    have h1 := h y (by simp)
    have h2 := ih fun x hx => h x (by simp [hx])
    simp [most]
    omega
/-- The levels of a tree. -/
def deep : T → Nat
  | .mk _ _ _ _ _ _ _ _ _ _ ks => 1 + most (ks.attach.map fun ⟨t, _⟩ => deep t)
theorem deep_mk (k u0 u1 u2 u3 : Int) (p : Option Addr) (cap : Nat) (mn mx : Int) (tx : ByteArray) (ks : List T) : deep (.mk k u0 u1 u2 u3 p cap mn mx tx ks) = 1 + most (ks.map deep) := by
  rw [deep]
  simp
theorem deep_kid {k u0 u1 u2 u3 : Int} {p : Option Addr} {cap : Nat} {mn mx : Int} {tx : ByteArray} {ks : List T} {t : T} (h : t ∈ ks) : deep t + 1 ≤ deep (.mk k u0 u1 u2 u3 p cap mn mx tx ks) := by
  rw [deep_mk]
  have := le_most (List.mem_map_of_mem (f := deep) h)
  omega
theorem pre_small {P : T → Prop} : ∀ (d lv : Nat) (t : T), deep t ≤ d + 1 → T.All P t → (∀ x ∈ preT d lv t, x.1 + 1 ≤ lv + deep t ∧ P x.2) ∧ (preT d lv t).length = t.size := by
  intro d
  induction d with
  | zero =>
    intro lv t hd h
    cases h with
    | mk h1 h2 =>
      rename_i k u0 u1 u2 u3 p cap mn mx tx ks
      have hk : ks = [] := by
        cases ks with
        | nil => rfl
        | cons t ts =>
          have := deep_kid (k := k) (u0 := u0) (u1 := u1) (u2 := u2) (u3 := u3) (p := p) (cap := cap) (mn := mn) (mx := mx) (tx := tx) (ks := t :: ts) (t := t) (by simp)
          have h0 : 1 ≤ deep t := by cases t; rw [deep_mk]; omega
          omega
      subst hk
      refine ⟨fun x hx => ?_, by simp [preT, T.size_mk]⟩
      simp [preT] at hx
      subst hx
      rw [deep_mk]
      exact ⟨by simp [most], h1⟩
  | succ d ih =>
    intro lv t hd h
    cases h with
    | mk h1 h2 =>
      rename_i k u0 u1 u2 u3 p cap mn mx tx ks
      have each : ∀ t ∈ ks, (∀ x ∈ preT d (lv + 1) t, x.1 + 1 ≤ lv + 1 + deep t ∧ P x.2) ∧ (preT d (lv + 1) t).length = t.size := fun t ht => ih (lv + 1) t (by
        have := deep_kid (k := k) (u0 := u0) (u1 := u1) (u2 := u2) (u3 := u3) (p := p) (cap := cap) (mn := mn) (mx := mx) (tx := tx) ht
        omega) (h2 t ht)
      refine ⟨fun x hx => ?_, ?_⟩
      · simp only [preT, T.kids, List.mem_cons, List.mem_flatMap] at hx
        rcases hx with rfl | ⟨t, ht, hx⟩
        · refine ⟨?_, h1⟩
          rw [deep_mk]
          show lv + 1 ≤ _
          omega
        · have := ((each t ht).1 x hx)
          have hk := deep_kid (k := k) (u0 := u0) (u1 := u1) (u2 := u2) (u3 := u3) (p := p) (cap := cap) (mn := mn) (mx := mx) (tx := tx) ht
          exact ⟨by omega, this.2⟩
      · rw [T.size_mk]
        simp only [preT, T.kids, List.length_cons, List.length_flatMap]
        have e : (ks.map fun t => (preT d (lv + 1) t).length) = ks.map T.size := List.map_congr_left fun t ht => (each t ht).2
        rw [e]
        omega
theorem right_of {t : T} (h : T.All (fun t => T.ok t = true) t) (h1 : deep t ≤ 24) (h2 : t.size ≤ 600) : RightP t := by
  obtain ⟨a, b⟩ := pre_small 24 1 t (by omega) h
  have e : allT t = preT 24 1 t := by unfold allT; exact List.take_of_length_le (by omega)
  unfold RightP
  rw [e]
  exact ⟨fun x hx => ⟨by have := (a x hx).1; omega, (a x hx).2⟩, by omega⟩
theorem deep_of : ∀ (d lv : Nat) (t : T), lv + d = 25 → (∀ x ∈ preT d lv t, x.1 ≤ 24) → deep t + lv ≤ 25 := by
  intro d
  induction d with
  | zero =>
    intro lv t hd h
    have := h (lv, t) (by simp [preT])
    simp at this
    omega
  | succ d ih =>
    intro lv t hd h
    cases t with
    | mk k u0 u1 u2 u3 p cap mn mx tx ks =>
      have : most (ks.map deep) ≤ 24 - lv := most_le fun x hx => by
        obtain ⟨t, ht, rfl⟩ := List.mem_map.1 hx
        have := ih (lv + 1) t (by omega) fun x hx => h x (by
          simp only [preT, T.kids, List.mem_cons, List.mem_flatMap]
          exact .inr ⟨t, ht, hx⟩)
        omega
      rw [deep_mk]
      have := h (lv, .mk k u0 u1 u2 u3 p cap mn mx tx ks) (by simp [preT])
      simp at this
      omega
/-- A tree is right where its nodes are, and it is neither too deep nor too great. -/
theorem right_iff (t : T) : RightP t ↔ T.All (fun t => T.ok t = true) t ∧ deep t ≤ 24 ∧ t.size ≤ 600 := by
  constructor
  · intro h
    obtain ⟨a, b⟩ := right_all h
    obtain ⟨h1, h2⟩ := h
    have hl : (preT 24 1 t).length ≤ 600 := by
      unfold allT at h2
      simp at h2
      omega
    have e : allT t = preT 24 1 t := by unfold allT; exact List.take_of_length_le (by omega)
    rw [e] at h1
    have := deep_of 24 1 t rfl fun x hx => (h1 x hx).1
    exact ⟨a, by omega, b⟩
  · rintro ⟨a, b, c⟩
    exact right_of a b c
end Go.Proofs.YtjlmeegaiagfpaaDoor

namespace Go.Proofs.YtjlmeegaiagfpaaDoor
open Go.RowKit
open Go.Tree7
open S7
open S5 (nl nl_length nl_small at_nl nl_at nl_strN)
theorem empty_mem4 : S1.eqB (S1.mem4 0 0 0 0) S1.noS = true := S1.eqB_true fun c _ => by simp [S1.mem4, S1.noS]
theorem plain_zero : plainB (S1.mem4 0 0 0 0) 0 0 ⟨#[]⟩ = true := by
  have := plain0
  unfold plainB at this ⊢
  rw [empty_noS] at this
  rw [empty_mem4]
  exact this
/-- What is plain is right, node by node. -/
theorem pl_ok {t : T} (h : Pl t) : T.All (fun t => T.ok t = true) t := by
  induction h with
  | set u0 u1 u2 u3 hw =>
    refine .mk ?_ (by simp)
    show okB _ 1 0 0 0 ⟨#[]⟩ = true
    unfold okB
    rw [if_pos rfl, plain0]
    rfl
  | cat ks hk _ ih =>
    refine .mk ?_ ih
    show okB (S1.mem4 0 0 0 0) 2 ks.length 0 0 ⟨#[]⟩ = true
    unfold okB
    rw [if_neg (by decide), if_pos rfl]
    exact plain_zero
  | alt ks hk _ ih =>
    refine .mk ?_ ih
    show okB (S1.mem4 0 0 0 0) 3 ks.length 0 0 ⟨#[]⟩ = true
    unfold okB
    rw [if_neg (by decide), if_neg (by decide), if_pos rfl, plain_zero]
    simp [hk]
  | rep a b t h0 h1 hb _ ih =>
    refine .mk ?_ (fun x hx => by simp at hx; rw [hx]; exact ih)
    show okB (S1.mem4 0 0 0 0) 4 1 a b ⟨#[]⟩ = true
    unfold okB
    rw [if_neg (by decide), if_neg (by decide), if_neg (by decide), if_pos rfl, plain_zero]
    unfold boundsB
    simp
    omega
  | name tx hn =>
    refine .mk ?_ (by simp)
    show okB (S1.mem4 0 0 0 0) 5 0 0 0 tx = true
    unfold okB
    rw [if_neg (by decide), if_neg (by decide), if_neg (by decide), if_neg (by decide), if_pos rfl, plain_zero, (nameB_iff tx).2 hn]
    rfl
/-- What is read, where it is neither too deep nor too great, is valid. -/
theorem pl_right {t : T} (h : Pl t) (h1 : deep t ≤ 24) (h2 : t.size ≤ 600) : RightP t := right_of (pl_ok h) h1 h2
/-- The words of a node's set fit. -/
def T.wf4 : T → Prop
  | .mk _ u0 u1 u2 u3 _ _ _ _ _ _ => (Lit.int .u64 u0).wf = true ∧ (Lit.int .u64 u1).wf = true ∧ (Lit.int .u64 u2).wf = true ∧ (Lit.int .u64 u3).wf = true
theorem plain_parts {u0 u1 u2 u3 mn mx : Int} {tx : ByteArray} (hw : (Lit.int .u64 u0).wf = true ∧ (Lit.int .u64 u1).wf = true ∧ (Lit.int .u64 u2).wf = true ∧ (Lit.int .u64 u3).wf = true) (h : plainB (S1.mem4 u0.toNat u1.toNat u2.toNat u3.toNat) mn mx tx = true) :
    (u0 = 0 ∧ u1 = 0 ∧ u2 = 0 ∧ u3 = 0) ∧ mn = 0 ∧ mx = 0 ∧ tx = ⟨#[]⟩ := by
  unfold plainB at h
  simp only [Bool.and_eq_true, decide_eq_true_eq] at h
  obtain ⟨⟨⟨h1, h2⟩, h3⟩, h4⟩ := h
  obtain ⟨w0, w1, w2, w3⟩ := wd_f hw
  have hs := S1.eqB_spec h1
  have e : ∀ k, k < 4 → ((S1.wd (S1.mem4 u0.toNat u1.toNat u2.toNat u3.toNat) k : Nat) : Int) = 0 := fun k hk => by
    rw [S1.wd_congr (g := S1.noS) fun i hi => hs _ (by omega)]
    exact no_wd' k
  refine ⟨⟨w0 ▸ e 0 (by decide), w1 ▸ e 1 (by decide), w2 ▸ e 2 (by decide), w3 ▸ e 3 (by decide)⟩, h2, h3, ?_⟩
  rw [ByteArray.toList_eq] at h4
  obtain ⟨⟨d⟩⟩ := tx
  simp at h4
  rw [h4]
theorem plain_none {mn mx : Int} {tx : ByteArray} (h : plainB S1.noS mn mx tx = true) : mn = 0 ∧ mx = 0 ∧ tx = ⟨#[]⟩ := by
  unfold plainB at h
  simp only [Bool.and_eq_true, decide_eq_true_eq] at h
  obtain ⟨⟨⟨h1, h2⟩, h3⟩, h4⟩ := h
  refine ⟨h2, h3, ?_⟩
  rw [ByteArray.toList_eq] at h4
  obtain ⟨⟨d⟩⟩ := tx
  simp at h4
  rw [h4]
/-- Without Cats of one kid. -/
def T.simp : T → T
  | .mk k u0 u1 u2 u3 _ _ mn mx tx ks => if k = 2 ∧ ks.length = 1 then (ks.attach.map fun ⟨t, _⟩ => T.simp t).headD (tC []) else .mk k u0 u1 u2 u3 none 0 mn mx tx (ks.attach.map fun ⟨t, _⟩ => T.simp t)
theorem simp_mk (k u0 u1 u2 u3 : Int) (p : Option Addr) (cap : Nat) (mn mx : Int) (tx : ByteArray) (ks : List T) : T.simp (.mk k u0 u1 u2 u3 p cap mn mx tx ks) =
    if k = 2 ∧ ks.length = 1 then (ks.map T.simp).headD (tC []) else .mk k u0 u1 u2 u3 none 0 mn mx tx (ks.map T.simp) := by
  rw [T.simp]
  simp
theorem most_map_le {ks : List T} {f g : T → Nat} (h : ∀ t ∈ ks, f t ≤ g t) : most (ks.map f) ≤ most (ks.map g) := most_le fun x hx => by
  obtain ⟨t, ht, rfl⟩ := List.mem_map.1 hx
  have := le_most (List.mem_map_of_mem (f := g) ht)
  have := h t ht
  omega
theorem sum_map_le {ks : List T} {f g : T → Nat} (h : ∀ t ∈ ks, f t ≤ g t) : (ks.map f).sum ≤ (ks.map g).sum := by
  induction ks with
  | nil => simp
  | cons t ts ih =>
    have h1 := h t (by simp)
    have h2 := ih fun t ht => h t (by simp [ht])
    simp
    omega
/-- It is plain, neither deeper nor greater. -/
theorem simp_plain {t : T} (h : T.All (fun t => T.ok t = true ∧ T.wf4 t) t) : Pl (T.simp t) ∧ deep (T.simp t) ≤ deep t ∧ (T.simp t).size ≤ t.size := by
  induction h with
  | mk h1 h2 ih =>
    rename_i k u0 u1 u2 u3 p cap mn mx tx ks
    obtain ⟨ho, hw⟩ := h1
    rw [simp_mk]
    have hd : ∀ (k u0 u1 u2 u3 mn mx : Int) (p : Option Addr) (cap : Nat) (tx : ByteArray), deep (.mk k u0 u1 u2 u3 none 0 mn mx tx (ks.map T.simp)) ≤ deep (.mk k u0 u1 u2 u3 p cap mn mx tx ks) ∧ (T.mk k u0 u1 u2 u3 none 0 mn mx tx (ks.map T.simp)).size ≤ (T.mk k u0 u1 u2 u3 p cap mn mx tx ks).size := fun k u0 u1 u2 u3 mn mx p cap tx => by
      rw [deep_mk, deep_mk, T.size_mk, T.size_mk, List.map_map, List.map_map]
      have := most_map_le (ks := ks) (f := deep ∘ T.simp) (g := deep) fun t ht => (ih t ht).2.1
      have := sum_map_le (ks := ks) (f := T.size ∘ T.simp) (g := T.size) fun t ht => (ih t ht).2.2
      omega
    split
    · rename_i hk
      obtain ⟨x, rfl⟩ := List.length_eq_one_iff.1 hk.2
      obtain ⟨i1, i2, i3⟩ := ih x (by simp)
      simp only [List.map_cons, List.map_nil, List.headD_cons]
      have := deep_kid (k := k) (u0 := u0) (u1 := u1) (u2 := u2) (u3 := u3) (p := p) (cap := cap) (mn := mn) (mx := mx) (tx := tx) (ks := [x]) (t := x) (by simp)
      refine ⟨i1, by omega, ?_⟩
      rw [T.size_mk]
      simp
      omega
    · rename_i hk
      refine ⟨?_, hd k u0 u1 u2 u3 mn mx p cap tx⟩
      have hkids : ∀ t ∈ ks.map T.simp, Pl t := fun t ht => by
        obtain ⟨x, hx, rfl⟩ := List.mem_map.1 ht
        exact (ih x hx).1
      have hq : okB (S1.mem4 u0.toNat u1.toNat u2.toNat u3.toNat) k ks.length mn mx tx = true := ho
      clear ho
      have hw : (Lit.int .u64 u0).wf = true ∧ (Lit.int .u64 u1).wf = true ∧ (Lit.int .u64 u2).wf = true ∧ (Lit.int .u64 u3).wf = true := hw
      unfold okB at hq
      split at hq
      · rename_i h
        subst h
        simp only [Bool.and_eq_true, decide_eq_true_eq] at hq
        obtain ⟨rfl, rfl, rfl⟩ := plain_none hq.2
        have : ks = [] := List.length_eq_zero_iff.1 hq.1
        subst this
        exact .set _ _ _ _ hw
      · split at hq
        · rename_i h
          subst h
          obtain ⟨⟨rfl, rfl, rfl, rfl⟩, rfl, rfl, rfl⟩ := plain_parts hw hq
          exact .cat _ (by simpa using hk) hkids
        · split at hq
          · rename_i h
            subst h
            simp only [Bool.and_eq_true, decide_eq_true_eq] at hq
            obtain ⟨⟨rfl, rfl, rfl, rfl⟩, rfl, rfl, rfl⟩ := plain_parts hw hq.2
            exact .alt _ (by simpa using hq.1) hkids
          · split at hq
            · rename_i h
              subst h
              simp only [Bool.and_eq_true, decide_eq_true_eq] at hq
              obtain ⟨⟨rfl, rfl, rfl, rfl⟩, _, _, rfl⟩ := plain_parts hw hq.2
              obtain ⟨x, rfl⟩ := List.length_eq_one_iff.1 hq.1.1
              have hb := hq.1.2
              unfold boundsB at hb
              simp at hb
              exact .rep _ _ _ (by omega) (by omega) (by omega) (hkids _ (by simp))
            · split at hq
              · rename_i h
                subst h
                simp only [Bool.and_eq_true, decide_eq_true_eq] at hq
                obtain ⟨⟨rfl, rfl, rfl, rfl⟩, rfl, rfl, _⟩ := plain_parts hw hq.2
                have : ks = [] := List.length_eq_zero_iff.1 hq.1.1
                subst this
                exact .name _ ((nameB_iff tx).1 hq.1.2)
              · cases hq
end Go.Proofs.YtjlmeegaiagfpaaDoor

namespace Go.Proofs.YtjlmeegaiagfpaaDoor
open Go.RowKit
open Go.Tree7
open S7
open S5 (nl nl_length nl_small at_nl nl_at nl_strN)
theorem all_true : ∀ t : T, T.All (fun _ => True) t
  | .mk _ _ _ _ _ _ _ _ _ _ ks => .mk trivial fun t _ => all_true t
/-- A Cat of one kid. -/
def T.one : T → Prop
  | .mk k _ _ _ _ _ _ _ _ _ ks => k = 2 ∧ ks.length = 1
theorem T.All.and {P Q : T → Prop} {t : T} (h : T.All P t) (h' : T.All Q t) : T.All (fun t => P t ∧ Q t) t := by
  induction h with
  | mk h1 h2 ih =>
    cases h' with
    | mk h3 h4 => exact .mk ⟨h1, h3⟩ fun t ht => ih t ht (h4 t ht)
theorem simp_same {t : T} (h : T.All (fun t => ¬ T.one t) t) : T.simp t = T.strip t := by
  induction h with
  | mk h1 h2 ih =>
    rw [simp_mk, T.strip_mk]
    refine (if_neg h1).trans ?_
    congr 1
    exact List.map_congr_left fun t ht => ih t ht
theorem sum_map_eq {ks : List T} {f g : T → Nat} (h : ∀ t ∈ ks, f t ≤ g t) (he : (ks.map f).sum = (ks.map g).sum) : ∀ t ∈ ks, f t = g t := by
  induction ks with
  | nil => simp
  | cons t ts ih =>
    have h1 := h t (by simp)
    have h2 := sum_map_le (ks := ts) fun t ht => h t (by simp [ht])
    simp at he
    intro x hx
    rcases List.mem_cons.1 hx with rfl | hx
    · omega
    · exact ih (fun t ht => h t (by simp [ht])) (by omega) x hx
theorem simp_size (t : T) : (T.simp t).size ≤ t.size ∧ ((T.simp t).size = t.size → T.All (fun t => ¬ T.one t) t) := by
  induction all_true t with
  | mk _ _ ih =>
    rename_i k u0 u1 u2 u3 p cap mn mx tx ks _ _
    rw [simp_mk]
    split
    · rename_i hk
      obtain ⟨x, rfl⟩ := List.length_eq_one_iff.1 hk.2
      have := (ih x (by simp)).1
      simp only [List.map_cons, List.map_nil, List.headD_cons]
      rw [T.size_mk]
      simp only [List.map_cons, List.map_nil, List.sum_cons, List.sum_nil]
      exact ⟨by omega, fun h => by omega⟩
    · rename_i hk
      rw [T.size_mk, T.size_mk, List.map_map]
      have hle : ∀ t ∈ ks, (T.size ∘ T.simp) t ≤ T.size t := fun t ht => (ih t ht).1
      have := sum_map_le hle
      refine ⟨by omega, fun he => .mk hk fun t ht => (ih t ht).2 (sum_map_eq hle (by omega) t ht)⟩
/-- No Cat of one kid: as it stands. -/
theorem simp_iff (t : T) : T.simp t = T.strip t ↔ T.All (fun t => ¬ T.one t) t := by
  constructor
  · intro h
    refine (simp_size t).2 ?_
    rw [h, size_strip]
  · exact simp_same
/-- A tree without its places is plain where it is right, node by node, and no Cat has one kid. -/
theorem strip_plain {t : T} (h : T.All (fun t => T.ok t = true ∧ T.wf4 t) t) (h1 : T.All (fun t => ¬ T.one t) t) : Pl (T.strip t) := by
  rw [← simp_same h1]
  exact (simp_plain h).1
theorem pl_all {t : T} (h : Pl t) : T.All (fun t => ¬ T.one t) t ∧ T.All T.wf4 t ∧ T.strip t = t := by
  have z : (Lit.int .u64 0).wf = true := by decide
  induction h with
  | set u0 u1 u2 u3 hw => exact ⟨.mk (by rintro ⟨h, _⟩; cases h) (by simp), .mk hw (by simp), by rw [T.strip_mk]; rfl⟩
  | cat ks hk _ ih =>
    refine ⟨.mk (by rintro ⟨_, h⟩; exact hk h) fun t ht => (ih t ht).1, .mk ⟨z, z, z, z⟩ fun t ht => (ih t ht).2.1, ?_⟩
    unfold tC
    rw [T.strip_mk]
    congr 1
    exact (List.map_congr_left fun t ht => (ih t ht).2.2).trans (List.map_id _)
  | alt ks hk _ ih =>
    refine ⟨.mk (by rintro ⟨h, _⟩; cases h) fun t ht => (ih t ht).1, .mk ⟨z, z, z, z⟩ fun t ht => (ih t ht).2.1, ?_⟩
    unfold tA
    rw [T.strip_mk]
    congr 1
    exact (List.map_congr_left fun t ht => (ih t ht).2.2).trans (List.map_id _)
  | rep a b t h0 h1 hb _ ih =>
    refine ⟨.mk (by rintro ⟨h, _⟩; cases h) fun t ht => ?_, .mk ⟨z, z, z, z⟩ fun t ht => ?_, ?_⟩
    · simp at ht; rw [ht]; exact ih.1
    · simp at ht; rw [ht]; exact ih.2.1
    · unfold tR
      rw [T.strip_mk]
      simp [ih.2.2]
  | name tx hn => exact ⟨.mk (by rintro ⟨h, _⟩; cases h) (by simp), .mk ⟨z, z, z, z⟩ (by simp), by unfold tN; rw [T.strip_mk]; rfl⟩
/-- What is parsed of a right tree's text, once its Cats of one kid are gone, is that tree. -/
theorem back_simp {t : T} (h : T.All (fun t => T.ok t = true ∧ T.wf4 t) t) : ∃ o fr, closedT o = T.simp t ∧ Sts (T.txt (T.simp t)) [([], [])] false 0 [o] fr (T.txt (T.simp t)).length := read_back (simp_plain h).1
end Go.Proofs.YtjlmeegaiagfpaaDoor
