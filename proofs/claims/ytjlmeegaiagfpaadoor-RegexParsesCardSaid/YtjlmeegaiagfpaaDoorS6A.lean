/- Texts of earlier layers, merged: S6M, S6W1, S6W2. -/
import Derived.Test.YtjlmeegaiagfpaaDoorS5A
import Derived.Test.YtjlmeegaiagfpaaDoorS1C
namespace Go.Proofs.YtjlmeegaiagfpaaDoor.S6
open Go.RowKit
open S5 (Rd Sp)
open S1 (spU)

/-! ### Reading -/
/-- What stands in brackets only behind a backslash. -/
def Bare (c : Nat) : Prop := c = 91 ∨ c = 93 ∨ c = 45 ∨ c = 47
instance (c : Nat) : Decidable (Bare c) := by unfold Bare; infer_instance
/-- One byte of an item. -/
inductive One (l : List Nat) : Nat → Nat → Int → Nat → Prop
  | bare (k c : Nat) : l[k]? = some c → Bare c → One l k 0 k 4
  | rd (k c : Nat) (t : Int) (e : Nat) : (∀ x, l[k]? = some x → ¬ Bare x) → Rd l k c t e → One l k c t e
theorem rd_next {l : List Nat} {k c : Nat} {t : Int} (h : Rd l k c t 0) : ∃ n : Nat, t = n ∧ k < n ∧ n ≤ l.length := by
  have lt : ∀ {j u : Nat}, l[j]? = some u → j < l.length := fun h => (List.getElem?_eq_some_iff.1 h).1
  generalize hi : (k : Int) = i at h
  generalize he : (0 : Nat) = e at h
  cases h with
  | outside => cases he
  | plain j c h1 h2 => have := lt h1; exact ⟨j + 1, by omega, by omega, by omega⟩
  | ends1 => cases he
  | blank j c d h1 h2 h3 => have := lt h2; exact ⟨j + 2, by omega, by omega, by omega⟩
  | ends2 => cases he
  | bad2 => cases he
  | ends3 => cases he
  | bad3 => cases he
  | hex j c d b e h1 h2 h3 h4 h5 h6 => have := lt h5; exact ⟨j + 4, by omega, by omega, by omega⟩
  | sign j c h1 h2 h3 => have := lt h2; exact ⟨j + 2, by omega, by omega, by omega⟩
  | bad1 => cases he
theorem rd_zero {l : List Nat} {i : Int} {c : Nat} {t : Int} {e : Nat} (h : Rd l i c t e) (he : e ≠ 0) : c = 0 := by
  cases h <;> first | rfl | exact absurd rfl he
theorem rd_small {l : List Nat} (hl : ∀ x ∈ l, x ≤ 255) {i : Int} {c : Nat} {t : Int} {e : Nat} (h : Rd l i c t e) : c ≤ 255 := by
  have m : ∀ {j u : Nat}, l[j]? = some u → u ≤ 255 := fun h => hl _ (List.mem_of_getElem? h)
  cases h with
  | plain j c h1 h2 => exact m h1
  | blank j c d h1 h2 h3 => simp at h3; omega
  | hex j c d b e h1 h2 h3 h4 h5 h6 => have := S5.fig_range h4; have := S5.fig_range h6; omega
  | sign j c h1 h2 h3 => exact m h2
  | _ => omega
theorem one_some (l : List Nat) (k : Nat) : ∃ c t e, One l k c t e := by
  by_cases h : ∃ c, l[k]? = some c ∧ Bare c
  · obtain ⟨c, h1, h2⟩ := h
    exact ⟨_, _, _, .bare k c h1 h2⟩
  · obtain ⟨c, t, e, hr⟩ := S5.rd_some l k
    exact ⟨c, t, e, .rd k c t e (fun x hx hb => h ⟨x, hx, hb⟩) hr⟩
theorem one_next {l : List Nat} {k c : Nat} {t : Int} (h : One l k c t 0) : ∃ n : Nat, t = n ∧ k < n ∧ n ≤ l.length := by
  generalize he : (0 : Nat) = e at h
  cases h with
  | bare => cases he
  | rd _ _ _ _ h2 => subst he; exact rd_next h2
theorem one_zero {l : List Nat} {k c : Nat} {t : Int} {e : Nat} (h : One l k c t e) (he : e ≠ 0) : c = 0 := by
  cases h with
  | bare => rfl
  | rd _ _ _ _ h2 => exact rd_zero h2 he
theorem one_small {l : List Nat} (hl : ∀ x ∈ l, x ≤ 255) {k c : Nat} {t : Int} {e : Nat} (h : One l k c t e) : c ≤ 255 := by
  cases h with
  | bare => omega
  | rd _ _ _ _ h2 => exact rd_small hl h2
theorem one_err {l : List Nat} {k c : Nat} {t : Int} {e : Nat} (h : One l k c t e) : e = 0 ∨ e = 2 ∨ e = 4 := by
  cases h with
  | bare => simp
  | rd _ _ _ _ h2 => cases h2 <;> simp
/-- The items from a place on, the place behind (or of the fault), the error's number; b: none was read yet. -/
inductive Its (l : List Nat) : Bool → Nat → List (Nat × Nat) → Int → Nat → Prop
  | close (k : Nat) : l[k]? = some 93 → Its l false k [] (k + 1) 0
  | bad1 (b : Bool) (k : Nat) (t : Int) (e : Nat) : (b = true ∨ l[k]? ≠ some 93) → One l k 0 t e → e ≠ 0 → Its l b k [] t e
  | one (b : Bool) (k c n : Nat) (ps : List (Nat × Nat)) (t : Int) (e : Nat) : (b = true ∨ l[k]? ≠ some 93) → One l k c n 0 → l[n]? ≠ some 45 → Its l false n ps t e → Its l b k ((c, c) :: ps) t e
  | bad2 (b : Bool) (k c n : Nat) (t : Int) (e : Nat) : (b = true ∨ l[k]? ≠ some 93) → One l k c n 0 → l[n]? = some 45 → One l (n + 1) 0 t e → e ≠ 0 → Its l b k [] t e
  | down (b : Bool) (k c n d : Nat) (m : Nat) : (b = true ∨ l[k]? ≠ some 93) → One l k c n 0 → l[n]? = some 45 → One l (n + 1) d m 0 → d < c → Its l b k [] (n + 1) 1
  | span (b : Bool) (k c n d m : Nat) (ps : List (Nat × Nat)) (t : Int) (e : Nat) : (b = true ∨ l[k]? ≠ some 93) → One l k c n 0 → l[n]? = some 45 → One l (n + 1) d m 0 → c ≤ d → Its l false m ps t e → Its l b k ((c, d) :: ps) t e
theorem its_some (l : List Nat) : ∀ (n : Nat) (b : Bool) (k : Nat), l.length - k ≤ n → k ≤ l.length → ∃ ps t e, Its l b k ps t e := by
  intro n
  induction n with
  | zero =>
    intro b k h1 h2
    have hk : l[k]? = none := List.getElem?_eq_none (by omega)
    have hr : Rd l k 0 l.length 2 := .outside k (.inr (by omega))
    exact ⟨_, _, _, .bad1 b k _ _ (.inr (by rw [hk]; simp)) (.rd k 0 _ _ (by intro x hx; rw [hk] at hx; cases hx) hr) (by decide)⟩
  | succ n ih =>
    intro b k h1 h2
    by_cases h3 : b = false ∧ l[k]? = some 93
    · obtain ⟨rfl, h4⟩ := h3
      exact ⟨_, _, _, .close k h4⟩
    have h4 : b = true ∨ l[k]? ≠ some 93 := by
      cases b
      · exact .inr fun e => h3 ⟨rfl, e⟩
      · exact .inl rfl
    obtain ⟨c, t, e, ho⟩ := one_some l k
    by_cases he : e = 0
    · subst he
      obtain ⟨m, rfl, hm1, hm2⟩ := one_next ho
      by_cases h5 : l[m]? = some 45
      · have hm3 := (List.getElem?_eq_some_iff.1 h5).1
        obtain ⟨d, t2, e2, ho2⟩ := one_some l (m + 1)
        by_cases he2 : e2 = 0
        · subst he2
          obtain ⟨q, rfl, hq1, hq2⟩ := one_next ho2
          by_cases h6 : d < c
          · exact ⟨_, _, _, .down b k c m d q h4 ho h5 ho2 h6⟩
          · obtain ⟨ps, t, e, hp⟩ := ih false q (by omega) hq2
            exact ⟨_, _, _, .span b k c m d q ps t e h4 ho h5 ho2 (by omega) hp⟩
        · have := one_zero ho2 he2
          subst this
          exact ⟨_, _, _, .bad2 b k c m t2 e2 h4 ho h5 ho2 he2⟩
      · obtain ⟨ps, t, e, hp⟩ := ih false m (by omega) hm2
        exact ⟨_, _, _, .one b k c m ps t e h4 ho h5 hp⟩
    · have := one_zero ho he
      subst this
      exact ⟨_, _, _, .bad1 b k t e h4 ho he⟩
theorem its_small {l : List Nat} (hl : ∀ x ∈ l, x ≤ 255) {b : Bool} {k : Nat} {ps : List (Nat × Nat)} {t : Int} {e : Nat} (h : Its l b k ps t e) : ∀ p ∈ ps, p.1 ≤ p.2 ∧ p.2 ≤ 255 := by
  induction h with
  | one b k c n ps t e h1 h2 h3 h4 ih =>
    intro p hp
    rcases List.mem_cons.1 hp with rfl | hp
    · exact ⟨Nat.le_refl _, one_small hl h2⟩
    · exact ih p hp
  | span b k c n d m ps t e h1 h2 h3 h4 h5 h6 ih =>
    intro p hp
    rcases List.mem_cons.1 hp with rfl | hp
    · exact ⟨h5, one_small hl h4⟩
    · exact ih p hp
  | _ => intro p hp; simp at hp
/-- The set of items; turned. -/
def res (neg : Bool) (ps : List (Nat × Nat)) : Nat → Bool := if neg then S1.notS (spU ps) else spU ps
/-- At a place: the bracket expression's set, the place behind (or of the fault), the error's number. -/
inductive Br (l : List Nat) : Int → (Nat → Bool) → Int → Nat → Prop
  | outside (i : Int) : (i < 0 ∨ (l.length : Int) ≤ i) → Br l i S1.noS l.length 2
  | other (k c : Nat) : l[k]? = some c → c ≠ 91 → Br l k S1.noS k 4
  | ok (k : Nat) (ps : List (Nat × Nat)) (t : Int) : l[k]? = some 91 → l[k + 1]? ≠ some 94 → Its l true (k + 1) ps t 0 → Br l k (res false ps) t 0
  | okNot (k : Nat) (ps : List (Nat × Nat)) (t : Int) : l[k]? = some 91 → l[k + 1]? = some 94 → Its l true (k + 2) ps t 0 → Br l k (res true ps) t 0
  | bad (k : Nat) (ps : List (Nat × Nat)) (t : Int) (e : Nat) : l[k]? = some 91 → l[k + 1]? ≠ some 94 → Its l true (k + 1) ps t e → e ≠ 0 → Br l k S1.noS t e
  | badNot (k : Nat) (ps : List (Nat × Nat)) (t : Int) (e : Nat) : l[k]? = some 91 → l[k + 1]? = some 94 → Its l true (k + 2) ps t e → e ≠ 0 → Br l k S1.noS t e
theorem br_some (l : List Nat) (i : Int) : ∃ f t e, Br l i f t e := by
  by_cases h : i < 0 ∨ (l.length : Int) ≤ i
  · exact ⟨_, _, _, .outside i h⟩
  obtain ⟨k, rfl⟩ : ∃ k : Nat, i = k := ⟨i.toNat, by omega⟩
  have hk : k < l.length := by omega
  have at0 : l[k]? = some l[k] := List.getElem?_eq_getElem hk
  by_cases h1 : l[k] = 91
  · rw [h1] at at0
    by_cases h2 : l[k + 1]? = some 94
    · have hk2 := (List.getElem?_eq_some_iff.1 h2).1
      obtain ⟨ps, t, e, hi⟩ := its_some l l.length true (k + 2) (by omega) (by omega)
      by_cases he : e = 0
      · subst he; exact ⟨_, _, _, .okNot k ps t at0 h2 hi⟩
      · exact ⟨_, _, _, .badNot k ps t e at0 h2 hi he⟩
    · obtain ⟨ps, t, e, hi⟩ := its_some l l.length true (k + 1) (by omega) (by omega)
      by_cases he : e = 0
      · subst he; exact ⟨_, _, _, .ok k ps t at0 h2 hi⟩
      · exact ⟨_, _, _, .bad k ps t e at0 h2 hi he⟩
  · exact ⟨_, _, _, .other k _ at0 h1⟩

/-! ### Writing -/
open S5 in
/-- How a byte is written in brackets. -/
def pi (c : Nat) : List Nat :=
  if c = 10 then [92, 110] else if c = 9 then [92, 116] else if c = 13 then [92, 114] else if c = 32 then [92, 115]
  else if c ∈ inn then [92, c] else if 33 ≤ c ∧ c ≤ 126 then [c] else [92, 120, hx (c / 16), hx (c % 16)]
theorem pi_sp {c : Nat} (hc : c ≤ 255) : Sp S5.inn c (pi c) := by
  unfold pi
  split
  · rename_i h; subst h; exact .blank _ _ (by decide)
  split
  · rename_i h; subst h; exact .blank _ _ (by decide)
  split
  · rename_i h; subst h; exact .blank _ _ (by decide)
  split
  · rename_i h; subst h; exact .blank _ _ (by decide)
  split
  · rename_i h
    have := S5.ex_mid (.inr rfl) c h
    exact .esc c h this.1 this.2.1
  split
  · rename_i h1 h2; exact .self c h1 h2.1 h2.2
  · exact .hex c (by assumption) (by assumption) (by assumption) (by assumption) (by assumption) (by omega) hc
/-- What it begins with. -/
theorem pi_head {c : Nat} (hc : c ≤ 255) : ∃ h r, pi c = h :: r ∧ ¬ Bare h ∧ h ≠ 94 := by
  have h := pi_sp hc
  generalize pi c = l at h
  cases h with
  | blank k hk => exact ⟨_, _, rfl, by decide, by decide⟩
  | esc h1 h2 h3 => exact ⟨_, _, rfl, by decide, by decide⟩
  | self h1 h2 h3 =>
    refine ⟨c, [], rfl, fun hb => h1 ?_, fun e => h1 (by subst e; decide)⟩
    rcases hb with rfl | rfl | rfl | rfl <;> decide
  | hex h1 h2 h3 h4 h5 h6 h7 => exact ⟨_, _, rfl, by decide, by decide⟩
theorem one_pi {c : Nat} (hc : c ≤ 255) (x y : List Nat) : One (x ++ pi c ++ y) x.length c (x.length + (pi c).length : Nat) 0 := by
  obtain ⟨h, r, e, hb, _⟩ := pi_head hc
  refine .rd _ _ _ _ (fun z hz => ?_) (S5.sp_read (.inr rfl) (pi_sp hc) x y)
  rw [e, List.append_assoc, List.getElem?_append_right (Nat.le_refl _), Nat.sub_self] at hz
  simp at hz
  subst hz
  exact hb
/-- The items of a range. -/
def itm (p : Nat × Nat) : List Nat := pi p.1 ++ (if p.1 + 1 < p.2 then [45] else []) ++ (if p.1 < p.2 then pi p.2 else [])
/-- What they are read as. -/
def rdp (p : Nat × Nat) : List (Nat × Nat) := if p.1 + 1 < p.2 then [p] else if p.1 < p.2 then [(p.1, p.1), (p.2, p.2)] else [(p.1, p.1)]
def itms (ps : List (Nat × Nat)) : List Nat := ps.flatMap itm
theorem rdp_spU {p : Nat × Nat} (h : p.1 ≤ p.2) (c : Nat) : spU (rdp p) c = (decide (p.1 ≤ c) && decide (c ≤ p.2)) := by
  unfold rdp
  split
  · simp [spU]
  split
  · rw [Bool.eq_iff_iff]; simp [spU]; omega
  · rw [Bool.eq_iff_iff]; simp [spU]; omega
theorem flat_spU {ps : List (Nat × Nat)} (h : ∀ p ∈ ps, p.1 ≤ p.2) (c : Nat) : spU (ps.flatMap rdp) c = spU ps c := by
  induction ps with
  | nil => rfl
  | cons p ps ih =>
    have h1 := rdp_spU (h p (by simp)) c
    have h2 := ih fun q hq => h q (by simp [hq])
    have e1 : spU ((p :: ps).flatMap rdp) c = (spU (rdp p) c || spU (ps.flatMap rdp) c) := by simp [spU, List.any_append]
    have e2 : spU (p :: ps) c = ((decide (p.1 ≤ c) && decide (c ≤ p.2)) || spU ps c) := by simp [spU]
    rw [e1, e2, h1, h2]
theorem itms_head {ps : List (Nat × Nat)} (h : ∀ p ∈ ps, p.1 ≤ p.2 ∧ p.2 ≤ 255) (z : List Nat) : ∃ c r, itms ps ++ 93 :: z = c :: r ∧ c ≠ 45 ∧ c ≠ 94 ∧ (ps ≠ [] → c ≠ 93) := by
  cases ps with
  | nil => exact ⟨93, z, rfl, by decide, by decide, fun h => absurd rfl h⟩
  | cons p ps =>
    have hp := h p (by simp)
    obtain ⟨c, r, e, hb, hn⟩ := pi_head (c := p.1) (by omega)
    refine ⟨c, r ++ ((if p.1 + 1 < p.2 then [45] else []) ++ (if p.1 < p.2 then pi p.2 else [])) ++ itms ps ++ 93 :: z, ?_, fun e => hb (by subst e; decide), hn, fun _ e => hb (by subst e; decide)⟩
    simp [itms, itm, e]
/-- Items that are written are read. -/
theorem its_read {ps : List (Nat × Nat)} (h : ∀ p ∈ ps, p.1 ≤ p.2 ∧ p.2 ≤ 255) : ∀ (b : Bool) (x z : List Nat), (b = true → ps ≠ []) →
    Its (x ++ itms ps ++ 93 :: z) b x.length (ps.flatMap rdp) (x.length + (itms ps).length + 1 : Nat) 0 := by
  induction ps with
  | nil =>
    intro b x z hb
    have hb' : b = false := by cases b; rfl; exact absurd rfl (hb rfl)
    subst hb'
    have : (x ++ itms [] ++ 93 :: z)[x.length]? = some 93 := by simp [itms]
    exact .close _ this
  | cons p ps ih =>
    intro b x z hb
    have hp := h p (by simp)
    have hps : ∀ q ∈ ps, q.1 ≤ q.2 ∧ q.2 ≤ 255 := fun q hq => h q (by simp [hq])
    obtain ⟨c0, r0, e0, n0, _, m0⟩ := itms_head h z
    have hopen : b = true ∨ (x ++ itms (p :: ps) ++ 93 :: z)[x.length]? ≠ some 93 := by
      right
      rw [List.append_assoc, e0, List.getElem?_append_right (Nat.le_refl _), Nat.sub_self]
      simp
      exact m0 (by simp)
    obtain ⟨c1, r1, e1, n1, _⟩ := itms_head hps z
    have eI : itms (p :: ps) = itm p ++ itms ps := by simp [itms]
    -- what stands behind a prefix
    have at0 : ∀ (u v : List Nat), (u ++ v)[u.length]? = v[0]? := fun u v => by rw [List.getElem?_append_right (Nat.le_refl _), Nat.sub_self]
    by_cases h1 : p.1 + 1 < p.2
    · have h2 : p.1 < p.2 := by omega
      have em : itm p = pi p.1 ++ [45] ++ pi p.2 := by unfold itm; rw [if_pos h1, if_pos h2]
      have er : (p :: ps).flatMap rdp = (p.1, p.2) :: ps.flatMap rdp := by simp [rdp, h1]
      have eL : x ++ itms (p :: ps) ++ 93 :: z = x ++ pi p.1 ++ (45 :: (pi p.2 ++ (itms ps ++ 93 :: z))) := by rw [eI, em]; simp
      have eM : x ++ itms (p :: ps) ++ 93 :: z = (x ++ pi p.1 ++ [45]) ++ pi p.2 ++ (itms ps ++ 93 :: z) := by rw [eI, em]; simp
      have eN : x ++ itms (p :: ps) ++ 93 :: z = (x ++ pi p.1 ++ [45] ++ pi p.2) ++ itms ps ++ 93 :: z := by rw [eI, em]; simp
      have o1 := one_pi (c := p.1) (by omega) x (45 :: (pi p.2 ++ (itms ps ++ 93 :: z)))
      rw [← eL] at o1
      have o2 := one_pi (c := p.2) (by omega) (x ++ pi p.1 ++ [45]) (itms ps ++ 93 :: z)
      rw [← eM] at o2
      have o3 := ih hps false (x ++ pi p.1 ++ [45] ++ pi p.2) z (by simp)
      rw [← eN] at o3
      have hd : (x ++ itms (p :: ps) ++ 93 :: z)[x.length + (pi p.1).length]? = some 45 := by
        rw [eL, ← List.length_append, at0]; rfl
      have l1 : (x ++ pi p.1 ++ [45]).length = x.length + (pi p.1).length + 1 := by simp; omega
      have l2 : (x ++ pi p.1 ++ [45] ++ pi p.2).length = x.length + (pi p.1).length + 1 + (pi p.2).length := by simp; omega
      rw [l1] at o2
      rw [l2] at o3
      rw [er]
      have := Its.span b x.length p.1 _ p.2 _ _ _ _ hopen o1 hd o2 hp.1 o3
      have e : x.length + (pi p.1).length + 1 + (pi p.2).length + (itms ps).length + 1 = x.length + (itms (p :: ps)).length + 1 := by rw [eI, em]; simp; omega
      rw [e] at this
      exact this
    · by_cases h2 : p.1 < p.2
      · have em : itm p = pi p.1 ++ pi p.2 := by unfold itm; rw [if_neg h1, if_pos h2]; simp
        have er : (p :: ps).flatMap rdp = (p.1, p.1) :: (p.2, p.2) :: ps.flatMap rdp := by simp [rdp, h1, h2]
        have eL : x ++ itms (p :: ps) ++ 93 :: z = x ++ pi p.1 ++ (pi p.2 ++ (itms ps ++ 93 :: z)) := by rw [eI, em]; simp
        have eM : x ++ itms (p :: ps) ++ 93 :: z = (x ++ pi p.1) ++ pi p.2 ++ (itms ps ++ 93 :: z) := by rw [eI, em]; simp
        have eN : x ++ itms (p :: ps) ++ 93 :: z = (x ++ pi p.1 ++ pi p.2) ++ itms ps ++ 93 :: z := by rw [eI, em]; simp
        have o1 := one_pi (c := p.1) (by omega) x (pi p.2 ++ (itms ps ++ 93 :: z))
        rw [← eL] at o1
        have o2 := one_pi (c := p.2) (by omega) (x ++ pi p.1) (itms ps ++ 93 :: z)
        rw [← eM] at o2
        have o3 := ih hps false (x ++ pi p.1 ++ pi p.2) z (by simp)
        rw [← eN] at o3
        obtain ⟨h0, rr, eh, hb0, _⟩ := pi_head (c := p.2) (by omega)
        have hd : (x ++ itms (p :: ps) ++ 93 :: z)[x.length + (pi p.1).length]? = some h0 := by
          rw [eL, ← List.length_append, at0, eh]; rfl
        have hd1 : (x ++ itms (p :: ps) ++ 93 :: z)[x.length + (pi p.1).length]? ≠ some 45 := by
          rw [hd]; intro e; cases e; exact hb0 (by decide)
        have hd2 : (x ++ itms (p :: ps) ++ 93 :: z)[x.length + (pi p.1).length]? ≠ some 93 := by
          rw [hd]; intro e; cases e; exact hb0 (by decide)
        have hd3 : (x ++ itms (p :: ps) ++ 93 :: z)[x.length + (pi p.1).length + (pi p.2).length]? ≠ some 45 := by
          have e : x ++ itms (p :: ps) ++ 93 :: z = (x ++ pi p.1 ++ pi p.2) ++ (c1 :: r1) := by rw [← e1, eI, em]; simp
          rw [e, show x.length + (pi p.1).length + (pi p.2).length = (x ++ pi p.1 ++ pi p.2).length by simp; omega, at0]
          simpa using n1
        have l1 : (x ++ pi p.1).length = x.length + (pi p.1).length := by simp
        have l2 : (x ++ pi p.1 ++ pi p.2).length = x.length + (pi p.1).length + (pi p.2).length := by simp; omega
        rw [l1] at o2
        rw [l2] at o3
        rw [er]
        have := Its.one b x.length p.1 _ _ _ _ hopen o1 hd1 (Its.one false _ p.2 _ _ _ _ (.inr hd2) o2 hd3 o3)
        have e : x.length + (pi p.1).length + (pi p.2).length + (itms ps).length + 1 = x.length + (itms (p :: ps)).length + 1 := by rw [eI, em]; simp; omega
        rw [e] at this
        exact this
      · have em : itm p = pi p.1 := by unfold itm; rw [if_neg h1, if_neg h2]; simp
        have er : (p :: ps).flatMap rdp = (p.1, p.1) :: ps.flatMap rdp := by simp [rdp, h1, h2]
        have eL : x ++ itms (p :: ps) ++ 93 :: z = x ++ pi p.1 ++ (itms ps ++ 93 :: z) := by rw [eI, em]; simp
        have eN : x ++ itms (p :: ps) ++ 93 :: z = (x ++ pi p.1) ++ itms ps ++ 93 :: z := by rw [eI, em]; simp
        have o1 := one_pi (c := p.1) (by omega) x (itms ps ++ 93 :: z)
        rw [← eL] at o1
        have o3 := ih hps false (x ++ pi p.1) z (by simp)
        rw [← eN] at o3
        have hd3 : (x ++ itms (p :: ps) ++ 93 :: z)[x.length + (pi p.1).length]? ≠ some 45 := by
          have e : x ++ itms (p :: ps) ++ 93 :: z = (x ++ pi p.1) ++ (c1 :: r1) := by rw [← e1, eI, em]; simp
          rw [e, show x.length + (pi p.1).length = (x ++ pi p.1).length by simp, at0]
          simpa using n1
        have l2 : (x ++ pi p.1).length = x.length + (pi p.1).length := by simp
        rw [l2] at o3
        rw [er]
        have := Its.one b x.length p.1 _ _ _ _ hopen o1 hd3 o3
        have e : x.length + (pi p.1).length + (itms ps).length + 1 = x.length + (itms (p :: ps)).length + 1 := by rw [eI, em]; simp; omega
        rw [e] at this
        exact this
/-! ### A set's text -/
open S1 in
/-- Is it written turned? -/
def neg (f : Nat → Bool) : Bool := (el f 256).length == 0 || (decide (128 < (el f 256).length) && decide ((el f 256).length < 256))
open S1 in
/-- The ranges that are written. -/
def rng (f : Nat → Bool) : List (Nat × Nat) := spAll (el (if neg f then notS f else f) 256)
def txtB (f : Nat → Bool) : List Nat := [91] ++ (if neg f then [94] else []) ++ itms (rng f) ++ [93]
open S1 in
theorem el_full {f : Nat → Bool} (h : ∀ c, c < 256 → f c = true) : ∀ p, p ≤ 256 → (el f p).length = p := by
  intro p
  induction p with
  | zero => intro _; rfl
  | succ p ih =>
    intro hp
    rw [el_snoc_hit (h p (by omega)), List.length_append, ih (by omega)]
    rfl
open S1 in
theorem rng_ne (f : Nat → Bool) : rng f ≠ [] := by
  have key : ∀ g : Nat → Bool, (∃ c, c < 256 ∧ g c = true) → spAll (el g 256) ≠ [] := fun g ⟨c, hc, hg⟩ e => by
    have := spU_all g c hc
    rw [e, hg] at this
    simp [spU] at this
  unfold rng
  apply key
  cases hn : neg f with
  | true =>
    simp only [if_true]
    refine Classical.byContradiction fun hno => ?_
    have hall : ∀ c, c < 256 → f c = true := fun c hc => by
      cases hf : f c with
      | true => rfl
      | false => exact absurd ⟨c, hc, by simp [notS, hf]⟩ hno
    have := el_full hall 256 (Nat.le_refl _)
    unfold neg at hn
    rw [this] at hn
    simp at hn
  | false =>
    simp only [Bool.false_eq_true, if_false]
    refine Classical.byContradiction fun hno => ?_
    have : el f 256 = [] := by
      cases he : el f 256 with
      | nil => rfl
      | cons c r =>
        have : c ∈ el f 256 := by rw [he]; simp
        have := el_mem.1 this
        exact absurd ⟨c, this.1, this.2⟩ hno
    unfold neg at hn
    rw [this] at hn
    simp at hn
open S1 in
theorem rng_ok (f : Nat → Bool) : ∀ p ∈ rng f, p.1 ≤ p.2 ∧ p.2 ≤ 255 := fun p hp => by
  have := (spAll_el (if neg f then notS f else f) 256 (Nat.le_refl _)).1 p hp
  omega
/-- The text of a set is read as that set, whatever stands around it. -/
theorem br_text (f : Nat → Bool) (x y : List Nat) : ∃ f', (∀ c, c < 256 → f' c = f c) ∧ Br (x ++ txtB f ++ y) x.length f' (x.length + (txtB f).length : Nat) 0 := by
  have at0 : ∀ (u v : List Nat), (u ++ v)[u.length]? = v[0]? := fun u v => by rw [List.getElem?_append_right (Nat.le_refl _), Nat.sub_self]
  have hU : ∀ c, c < 256 → spU ((rng f).flatMap rdp) c = (if neg f then S1.notS f else f) c := fun c hc => by
    rw [flat_spU (fun p hp => (rng_ok f p hp).1) c]
    exact S1.spU_all _ c hc
  cases hn : neg f with
  | true =>
    refine ⟨res true ((rng f).flatMap rdp), fun c hc => ?_, ?_⟩
    · have := hU c hc
      rw [hn] at this
      simp only [if_true] at this
      simp [res, S1.notS, this]
    · have e1 : x ++ txtB f ++ y = (x ++ [91, 94]) ++ itms (rng f) ++ 93 :: y := by unfold txtB; rw [hn]; simp
      have h1 := its_read (rng_ok f) true (x ++ [91, 94]) y (fun _ => rng_ne f)
      rw [← e1] at h1
      have l1 : (x ++ [91, 94]).length = x.length + 2 := by simp
      have l2 : (x ++ [91, 94]).length + (itms (rng f)).length + 1 = x.length + (txtB f).length := by unfold txtB; rw [hn]; simp; omega
      rw [l2, l1] at h1
      have b1 : (x ++ txtB f ++ y)[x.length]? = some 91 := by
        rw [show x ++ txtB f ++ y = x ++ (91 :: 94 :: (itms (rng f) ++ 93 :: y)) by rw [e1]; simp, at0]; rfl
      have b2 : (x ++ txtB f ++ y)[x.length + 1]? = some 94 := by
        rw [show x ++ txtB f ++ y = (x ++ [91]) ++ (94 :: (itms (rng f) ++ 93 :: y)) by rw [e1]; simp, show x.length + 1 = (x ++ [91]).length by simp, at0]; rfl
      exact .okNot _ _ _ b1 b2 h1
  | false =>
    refine ⟨res false ((rng f).flatMap rdp), fun c hc => ?_, ?_⟩
    · have := hU c hc
      rw [hn] at this
      simpa [res] using this
    · have e1 : x ++ txtB f ++ y = (x ++ [91]) ++ itms (rng f) ++ 93 :: y := by unfold txtB; rw [hn]; simp
      have h1 := its_read (rng_ok f) true (x ++ [91]) y (fun _ => rng_ne f)
      rw [← e1] at h1
      have l1 : (x ++ [91]).length = x.length + 1 := by simp
      have l2 : (x ++ [91]).length + (itms (rng f)).length + 1 = x.length + (txtB f).length := by unfold txtB; rw [hn]; simp; omega
      rw [l2, l1] at h1
      have b1 : (x ++ txtB f ++ y)[x.length]? = some 91 := by
        rw [show x ++ txtB f ++ y = x ++ (91 :: (itms (rng f) ++ 93 :: y)) by rw [e1]; simp, at0]; rfl
      obtain ⟨c, r, e2, _, n2, _⟩ := itms_head (rng_ok f) y
      have b2 : (x ++ txtB f ++ y)[x.length + 1]? ≠ some 94 := by
        rw [e1, List.append_assoc, e2, show x.length + 1 = (x ++ [91]).length by simp, at0]
        simpa using n2
      exact .ok _ _ _ b1 b2 h1
end Go.Proofs.YtjlmeegaiagfpaaDoor.S6

namespace Go.Proofs.YtjlmeegaiagfpaaDoor.S6
open Go.RowKit
open S5 (nl nl_length nl_small at_nl nl_at Rd Sp Gives Two errV ix ix_no ix_yes idx_at)

theorem is_in {s : ByteArray} {i d : Int} {k c : Nat} (hi : i = k) (hd : d = c) (_ : s.size ≤ 99990) {r : Bool} (hr : r = true ↔ (nl s)[k]? = some c) (w : World) :
    Calls Tryd.prog 81 #[.string s, .int .i64 i, .int .u8 d] w fun e w' => e = .returned (.bool r) ∧ w = w' := by
  subst hi hd
  by_cases hk : k < s.size
  · have hat := nl_at s k hk
    obtain ⟨x, hx⟩ : ∃ x, (s[k]).toNat = x := ⟨_, rfl⟩
    rw [hx] at hat
    rw [hat] at hr
    have e : ((x : Int) == (c : Int)) = r := by
      rw [Bool.eq_iff_iff, hr]
      simp
      omega
    clear hr hat
    go_enter Tryd.func81, Tryd.ntmps81
    go_wp2
    go_ret
    exact ⟨ret_bool (by simp), rfl⟩
  · have hn : (nl s)[k]? = none := List.getElem?_eq_none (by rw [nl_length]; omega)
    rw [hn] at hr
    have e : r = false := by cases r <;> simp_all
    subst e
    clear hr hn
    go_enter Tryd.func81, Tryd.ntmps81
    go_wp2
    go_ret
    exact ⟨rfl, rfl⟩
abbrev barB : ByteArray := ⟨#[91, 93, 45, 47]⟩
theorem nl_bar : nl barB = [91, 93, 45, 47] := by decide
theorem single_bare {s : ByteArray} {k c : Nat} (h0 : (nl s)[k]? = some c) (hb : Bare c) (_ : s.size ≤ 99990) {E2 E4 : Value} (w : World) (hT : Two w E2 E4) :
    Gives 91 #[.string s, .int .i64 k] (.tuple #[.int .u8 0, .int .i64 k, .iface 139 E4]) w := by
  obtain ⟨hlt, hat⟩ := at_nl h0
  have hf := hT.form
  have hi : 0 ≤ ix barB c := ix_yes (by rw [nl_bar]; unfold Bare at hb; simp; omega)
  have c1 := Lib.hid (fun w => idx_at barB c w _ rfl)
  generalize ix barB c = i at *
  clear hT h0 hb
  unfold Gives
  go_enter Tryd.func91, Tryd.ntmps91
  go_wp2_with (go_at_call 61; (with_reducible refine (c1.out _).mono ?_); rintro e w' ⟨rfl, rfl⟩)
  go_quiet (fail)
  go_wp2
  refine bodyPost_ret (v := .tuple #[.int .u8 0, .int .i64 k, .iface 139 E4]) (by simp [results, Tryd.results91, go_sem]) rfl ?_
  exact ⟨rfl, below_drewN (Below.refl _ _) _⟩
theorem single_rd {s : ByteArray} {k : Nat} {x y z : Value} (hn : ∀ x, (nl s)[k]? = some x → ¬ Bare x) (_ : s.size ≤ 99990) (w : World) (hC : Gives 68 #[.string s, .int .i64 k] (.tuple #[x, y, z]) w) :
    Gives 91 #[.string s, .int .i64 k] (.tuple #[x, y, z]) w := by
  unfold Gives at hC ⊢
  have C := Lib.hid hC
  clear hC
  by_cases hk : k < s.size
  · have hat := nl_at s k hk
    obtain ⟨c, hx⟩ : ∃ c, (s[k]).toNat = c := ⟨_, rfl⟩
    rw [hx] at hat
    have hcs : c ≤ 255 := nl_small s c (List.mem_of_getElem? hat)
    have hb := hn c hat
    have c1 := Lib.hid (fun w => idx_at barB c w (-1) (ix_no hcs (by rw [nl_bar]; unfold Bare at hb; simp; omega)))
    clear hn hat hb
    go_enter Tryd.func91, Tryd.ntmps91
    go_wp2_with (first | (go_at_call 61; (with_reducible refine (c1.out _).mono ?_); rintro e w' ⟨rfl, rfl⟩) | (go_at_call 68; (with_reducible refine C.out.mono ?_); rintro e w' ⟨rfl, hb⟩))
    refine bodyPost_ret (v := .tuple #[x, y, z]) (by simp [results, Tryd.results91, go_sem]) rfl ?_
    exact ⟨rfl, hb⟩
  · clear hn
    go_enter Tryd.func91, Tryd.ntmps91
    go_wp2_with (go_at_call 68; (with_reducible refine C.out.mono ?_); rintro e w' ⟨rfl, hb⟩)
    refine bodyPost_ret (v := .tuple #[x, y, z]) (by simp [results, Tryd.results91, go_sem]) rfl ?_
    exact ⟨rfl, hb⟩
theorem single_in {s : ByteArray} {k c : Nat} {t : Int} {e : Nat} (h : One (nl s) k c t e) (hm : s.size ≤ 99990) {E2 E4 : Value} (w : World) (hT : Two w E2 E4) :
    Gives 91 #[.string s, .int .i64 k] (.tuple #[.int .u8 c, .int .i64 t, errV E2 E4 e]) w := by
  cases h with
  | bare _ h1 h2 => exact single_bare h1 h2 hm w hT
  | rd _ _ _ h1 h2 => exact single_rd h1 hm w (S5.read_in h2 hm w hT)
end Go.Proofs.YtjlmeegaiagfpaaDoor.S6

namespace Go.Proofs.YtjlmeegaiagfpaaDoor.S6
open Go.RowKit
open S5 (nl nl_length nl_small at_nl nl_at Rd Sp Gives Two errV)
open S1 (Blk4 wd noS oneS spanS)
theorem stored {w a : World} {b B : Nat} {t : TypeId} {v0 v1 v2 v3 : Value} (h : Blk4 w b t v0 v1 v2 v3) (hb : Below B a w) (hB : B ≤ b) (u0 u1 u2 u3 : Value) :
    ∃ W, (((w.setCell ⟨b, 0, none⟩ u0).setCell ⟨b, 1, none⟩ u1).setCell ⟨b, 2, none⟩ u2).setCell ⟨b, 3, none⟩ u3 = W ∧ Blk4 W b t u0 u1 u2 u3 ∧ Below B a W :=
  ⟨_, rfl, h.set u0 u1 u2 u3, S1.below_set4 hb hB u0 u1 u2 u3⟩
theorem len_le {s : ByteArray} {k c : Nat} (h : (nl s)[k]? = some c) : k < s.size := (at_nl h).1
set_option maxRecDepth 10000 in
set_option maxHeartbeats 1000000 in
theorem item_bad1 {s : ByteArray} {k : Nat} {t : Int} {V : Value} (w : World) (C : ∀ w', Below w.heap.size w w' → Gives 91 #[.string s, .int .i64 k] (.tuple #[.int .u8 0, .int .i64 t, .iface 139 V]) w') :
    Gives 87 #[.string s, .int .i64 k] (.tuple #[(.agg #[.int .u64 0, .int .u64 0, .int .u64 0, .int .u64 0]), .int .i64 t, .iface 139 V]) w := by
  unfold Gives at *
  have C := Lib.hid C
  go_enter Tryd.func87, Tryd.ntmps87
  go_wp2_with fail
  obtain ⟨W, hW, hb, hB⟩ := S1.boxes1 w 25 (.int .u64 0) (.int .u64 0) (.int .u64 0) (.int .u64 0)
  rw [hW]
  replace C := Lib.hid (C.out W hB)
  clear hW
  go_wp2_with (go_at_call 91; (with_reducible refine C.out.mono ?_); rintro e w1 ⟨rfl, h1⟩; replace hb := hb.bel h1; replace hB := hB.trans (h1.mono hB.size); clear h1; obtain ⟨⟨y0, y1, y2, y3⟩, z0, z1, z2, z3⟩ := hb.facts)
  obtain ⟨W3, hW3, hb3, hB3⟩ := stored hb hB (Nat.le_refl _) (.int .u64 0) (.int .u64 0) (.int .u64 0) (.int .u64 0)
  obtain ⟨⟨c0, c1, c2, c3⟩, -⟩ := hb3.facts
  rw [hW3]
  refine bodyPost_ret (v := .tuple #[(.agg #[.int .u64 0, .int .u64 0, .int .u64 0, .int .u64 0]), .int .i64 t, .iface 139 V]) (by simp [results, Tryd.results87, go_sem, c0, c1, c2, c3]) rfl ?_
  first | exact ⟨rfl, hB3⟩ | exact ⟨rfl, hB3.drew⟩
set_option maxRecDepth 10000 in
set_option maxHeartbeats 1000000 in
theorem item_one {s : ByteArray} {k n c : Nat} (hc : c ≤ 255) (hm : s.size ≤ 99990) (hn : (nl s)[n]? ≠ some 45) (w : World) (C : ∀ w', Below w.heap.size w w' → Gives 91 #[.string s, .int .i64 k] (.tuple #[.int .u8 c, .int .i64 n, .nilIface]) w') :
    Gives 87 #[.string s, .int .i64 k] (.tuple #[(.agg #[.int .u64 (S1.wd (oneS c) 0), .int .u64 (S1.wd (oneS c) 1), .int .u64 (S1.wd (oneS c) 2), .int .u64 (S1.wd (oneS c) 3)]), .int .i64 n, .nilIface]) w := by
  have I := Lib.hid (fun w => is_in (s := s) (i := (n : Int)) (d := 45) (k := n) (c := 45) (r := false) rfl rfl hm (by simp [hn]) w)
  have O := Lib.hid (fun w => S1.one_in c hc w)
  clear hn
  unfold Gives at *
  have C := Lib.hid C
  go_enter Tryd.func87, Tryd.ntmps87
  go_wp2_with fail
  obtain ⟨W, hW, hb, hB⟩ := S1.boxes1 w 25 (.int .u64 0) (.int .u64 0) (.int .u64 0) (.int .u64 0)
  rw [hW]
  replace C := Lib.hid (C.out W hB)
  clear hW
  go_wp2_with (first | (go_at_call 91; (with_reducible refine C.out.mono ?_); rintro e w1 ⟨rfl, h1⟩; replace hb := hb.bel h1; replace hB := hB.trans (h1.mono hB.size); clear h1; obtain ⟨⟨y0, y1, y2, y3⟩, z0, z1, z2, z3⟩ := hb.facts) | (go_at_call 81; (with_reducible refine (I.out _).mono ?_); rintro e w1 ⟨rfl, rfl⟩) | (go_at_call 69; (with_reducible refine (O.out _).mono ?_); rintro e w1 ⟨rfl, h1⟩; replace hb := hb.bel h1; replace hB := hB.trans (h1.mono hB.size); clear h1; obtain ⟨⟨y0, y1, y2, y3⟩, z0, z1, z2, z3⟩ := hb.facts))
  obtain ⟨W3, hW3, hb3, hB3⟩ := stored hb hB (Nat.le_refl _) (.int .u64 (S1.wd (oneS c) 0)) (.int .u64 (S1.wd (oneS c) 1)) (.int .u64 (S1.wd (oneS c) 2)) (.int .u64 (S1.wd (oneS c) 3))
  obtain ⟨⟨c0, c1, c2, c3⟩, -⟩ := hb3.facts
  rw [hW3]
  refine bodyPost_ret (v := .tuple #[(.agg #[.int .u64 (S1.wd (oneS c) 0), .int .u64 (S1.wd (oneS c) 1), .int .u64 (S1.wd (oneS c) 2), .int .u64 (S1.wd (oneS c) 3)]), .int .i64 n, .nilIface]) (by simp [results, Tryd.results87, go_sem, c0, c1, c2, c3]) rfl ?_
  first | exact ⟨rfl, hB3⟩ | exact ⟨rfl, hB3.drew⟩
set_option maxRecDepth 10000 in
set_option maxHeartbeats 1000000 in
theorem item_bad2 {s : ByteArray} {k n c : Nat} {t : Int} {V : Value} (hm : s.size ≤ 99990) (hn : (nl s)[n]? = some 45) (w : World) (C : ∀ w', Below w.heap.size w w' → Gives 91 #[.string s, .int .i64 k] (.tuple #[.int .u8 c, .int .i64 n, .nilIface]) w')
    (C2 : ∀ w', Below w.heap.size w w' → Gives 91 #[.string s, .int .i64 (n + 1)] (.tuple #[.int .u8 0, .int .i64 t, .iface 139 V]) w') :
    Gives 87 #[.string s, .int .i64 k] (.tuple #[(.agg #[.int .u64 0, .int .u64 0, .int .u64 0, .int .u64 0]), .int .i64 t, .iface 139 V]) w := by
  have I := Lib.hid (fun w => is_in (s := s) (i := (n : Int)) (d := 45) (k := n) (c := 45) (r := true) rfl rfl hm (by simp [hn]) w)
  have hlt := len_le hn
  clear hn
  unfold Gives at *
  have C2 := Lib.hid C2
  have C := Lib.hid C
  go_enter Tryd.func87, Tryd.ntmps87
  go_wp2_with fail
  obtain ⟨W, hW, hb, hB⟩ := S1.boxes1 w 25 (.int .u64 0) (.int .u64 0) (.int .u64 0) (.int .u64 0)
  rw [hW]
  replace C := Lib.hid (C.out W hB)
  clear hW
  go_wp2_with (first | (go_at_call 91; (with_reducible refine C.out.mono ?_); rintro e w1 ⟨rfl, h1⟩; replace hb := hb.bel h1; replace hB := hB.trans (h1.mono hB.size); clear h1; obtain ⟨⟨y0, y1, y2, y3⟩, z0, z1, z2, z3⟩ := hb.facts) | (go_at_call 81; (with_reducible refine (I.out _).mono ?_); rintro e w1 ⟨rfl, rfl⟩) | (go_at_call 91; (with_reducible refine (C2.out _ hB).mono ?_); rintro e w1 ⟨rfl, h1⟩; replace hb := hb.bel h1; replace hB := hB.trans (h1.mono hB.size); clear h1; obtain ⟨⟨y0, y1, y2, y3⟩, z0, z1, z2, z3⟩ := hb.facts))
  obtain ⟨W3, hW3, hb3, hB3⟩ := stored hb hB (Nat.le_refl _) (.int .u64 0) (.int .u64 0) (.int .u64 0) (.int .u64 0)
  obtain ⟨⟨c0, c1, c2, c3⟩, -⟩ := hb3.facts
  rw [hW3]
  refine bodyPost_ret (v := .tuple #[(.agg #[.int .u64 0, .int .u64 0, .int .u64 0, .int .u64 0]), .int .i64 t, .iface 139 V]) (by simp [results, Tryd.results87, go_sem, c0, c1, c2, c3]) rfl ?_
  first | exact ⟨rfl, hB3⟩ | exact ⟨rfl, hB3.drew⟩
set_option maxRecDepth 10000 in
set_option maxHeartbeats 1000000 in
theorem item_down {s : ByteArray} {k n c d m : Nat} {E1 : Value} (_ : c ≤ 255) (hd : d < c) (hm : s.size ≤ 99990) (hn : (nl s)[n]? = some 45) (w : World) (hE : w.cell? ⟨3, 0, none⟩ = some (.iface 139 E1)) (C : ∀ w', Below w.heap.size w w' → Gives 91 #[.string s, .int .i64 k] (.tuple #[.int .u8 c, .int .i64 n, .nilIface]) w')
    (C2 : ∀ w', Below w.heap.size w w' → Gives 91 #[.string s, .int .i64 (n + 1)] (.tuple #[.int .u8 d, .int .i64 m, .nilIface]) w') :
    Gives 87 #[.string s, .int .i64 k] (.tuple #[(.agg #[.int .u64 0, .int .u64 0, .int .u64 0, .int .u64 0]), .int .i64 (n + 1), .iface 139 E1]) w := by
  have I := Lib.hid (fun w => is_in (s := s) (i := (n : Int)) (d := 45) (k := n) (c := 45) (r := true) rfl rfl hm (by simp [hn]) w)
  have hlt := len_le hn
  have hg := World.block_lt_of_cell? _ _ hE
  have hcd : decide ((d : Int) < c) = true := by simp; omega
  clear hn
  unfold Gives at *
  have C2 := Lib.hid C2
  have C := Lib.hid C
  go_enter Tryd.func87, Tryd.ntmps87
  go_wp2_with fail
  obtain ⟨W, hW, hb, hB⟩ := S1.boxes1 w 25 (.int .u64 0) (.int .u64 0) (.int .u64 0) (.int .u64 0)
  rw [hW]
  replace C := Lib.hid (C.out W hB)
  clear hW
  go_wp2_with (first | (go_at_call 91; (with_reducible refine C.out.mono ?_); rintro e w1 ⟨rfl, h1⟩; replace hb := hb.bel h1; replace hB := hB.trans (h1.mono hB.size); clear h1; obtain ⟨⟨y0, y1, y2, y3⟩, z0, z1, z2, z3⟩ := hb.facts) | (go_at_call 81; (with_reducible refine (I.out _).mono ?_); rintro e w1 ⟨rfl, rfl⟩) | (go_at_call 91; (with_reducible refine (C2.out _ hB).mono ?_); rintro e w1 ⟨rfl, h1⟩; replace hb := hb.bel h1; replace hB := hB.trans (h1.mono hB.size); clear h1; obtain ⟨⟨y0, y1, y2, y3⟩, z0, z1, z2, z3⟩ := hb.facts))
  have hE2 := (hB.cell (p := ⟨3, 0, none⟩) hg).trans hE
  go_region
  go_wp2
  obtain ⟨W3, hW3, hb3, hB3⟩ := stored hb hB (Nat.le_refl _) (.int .u64 0) (.int .u64 0) (.int .u64 0) (.int .u64 0)
  obtain ⟨⟨c0, c1, c2, c3⟩, -⟩ := hb3.facts
  rw [hW3]
  refine bodyPost_ret (v := .tuple #[(.agg #[.int .u64 0, .int .u64 0, .int .u64 0, .int .u64 0]), .int .i64 (n + 1), .iface 139 E1]) (by simp [results, Tryd.results87, go_sem, c0, c1, c2, c3]) rfl ?_
  first | exact ⟨rfl, hB3⟩ | exact ⟨rfl, hB3.drew⟩
set_option maxRecDepth 10000 in
set_option maxHeartbeats 1000000 in
theorem item_span {s : ByteArray} {k n c d m : Nat} (hc : c ≤ 255) (hd8 : d ≤ 255) (hd : c ≤ d) (hm : s.size ≤ 99990) (hn : (nl s)[n]? = some 45) (w : World) (C : ∀ w', Below w.heap.size w w' → Gives 91 #[.string s, .int .i64 k] (.tuple #[.int .u8 c, .int .i64 n, .nilIface]) w')
    (C2 : ∀ w', Below w.heap.size w w' → Gives 91 #[.string s, .int .i64 (n + 1)] (.tuple #[.int .u8 d, .int .i64 m, .nilIface]) w') :
    Gives 87 #[.string s, .int .i64 k] (.tuple #[(.agg #[.int .u64 (S1.wd (spanS c d) 0), .int .u64 (S1.wd (spanS c d) 1), .int .u64 (S1.wd (spanS c d) 2), .int .u64 (S1.wd (spanS c d) 3)]), .int .i64 m, .nilIface]) w := by
  have I := Lib.hid (fun w => is_in (s := s) (i := (n : Int)) (d := 45) (k := n) (c := 45) (r := true) rfl rfl hm (by simp [hn]) w)
  have O := Lib.hid (fun w => S1.span_in c d hc hd8 w)
  have hlt := len_le hn
  have hcd : decide ((d : Int) < c) = false := by simp; omega
  clear hn
  unfold Gives at *
  have C2 := Lib.hid C2
  have C := Lib.hid C
  go_enter Tryd.func87, Tryd.ntmps87
  go_wp2_with fail
  obtain ⟨W, hW, hb, hB⟩ := S1.boxes1 w 25 (.int .u64 0) (.int .u64 0) (.int .u64 0) (.int .u64 0)
  rw [hW]
  replace C := Lib.hid (C.out W hB)
  clear hW
  go_wp2_with (first | (go_at_call 91; (with_reducible refine C.out.mono ?_); rintro e w1 ⟨rfl, h1⟩; replace hb := hb.bel h1; replace hB := hB.trans (h1.mono hB.size); clear h1; obtain ⟨⟨y0, y1, y2, y3⟩, z0, z1, z2, z3⟩ := hb.facts) | (go_at_call 81; (with_reducible refine (I.out _).mono ?_); rintro e w1 ⟨rfl, rfl⟩) | (go_at_call 91; (with_reducible refine (C2.out _ hB).mono ?_); rintro e w1 ⟨rfl, h1⟩; replace hb := hb.bel h1; replace hB := hB.trans (h1.mono hB.size); clear h1; obtain ⟨⟨y0, y1, y2, y3⟩, z0, z1, z2, z3⟩ := hb.facts) | (go_at_call 92; (with_reducible refine (O.out _).mono ?_); rintro e w1 ⟨rfl, h1⟩; replace hb := hb.bel h1; replace hB := hB.trans (h1.mono hB.size); clear h1; obtain ⟨⟨y0, y1, y2, y3⟩, z0, z1, z2, z3⟩ := hb.facts))
  obtain ⟨W3, hW3, hb3, hB3⟩ := stored hb hB (Nat.le_refl _) (.int .u64 (S1.wd (spanS c d) 0)) (.int .u64 (S1.wd (spanS c d) 1)) (.int .u64 (S1.wd (spanS c d) 2)) (.int .u64 (S1.wd (spanS c d) 3))
  obtain ⟨⟨c0, c1, c2, c3⟩, -⟩ := hb3.facts
  rw [hW3]
  refine bodyPost_ret (v := .tuple #[(.agg #[.int .u64 (S1.wd (spanS c d) 0), .int .u64 (S1.wd (spanS c d) 1), .int .u64 (S1.wd (spanS c d) 2), .int .u64 (S1.wd (spanS c d) 3)]), .int .i64 m, .nilIface]) (by simp [results, Tryd.results87, go_sem, c0, c1, c2, c3]) rfl ?_
  first | exact ⟨rfl, hB3⟩ | exact ⟨rfl, hB3.drew⟩
end Go.Proofs.YtjlmeegaiagfpaaDoor.S6
