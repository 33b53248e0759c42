/- How bytes are written, and how what is written is read: plain mathematics. -/
import Derived.Test.YtaahefhiiggagaaDoorLB
import Derived.Lib.Bytealg
namespace Go.Proofs.YtaahefhiiggagaaDoor.S5
open Go.RowKit

/-! ### A string's bytes as numbers -/
def nl (s : ByteArray) : List Nat := s.data.toList.map UInt8.toNat
theorem nl_length (s : ByteArray) : (nl s).length = s.size := by simp [nl]
theorem nl_small (s : ByteArray) : ∀ x ∈ nl s, x ≤ 255 := by
  intro x hx
  obtain ⟨u, _, rfl⟩ := List.mem_map.1 hx
  have := u.toNat_lt
  omega
theorem nl_append (a b : ByteArray) : nl (a ++ b) = nl a ++ nl b := by simp [nl]
theorem nl_at (s : ByteArray) (k : Nat) (h : k < s.size) : (nl s)[k]? = some (s[k]).toNat := by
  have h' : k < s.data.toList.length := by rw [Array.length_toList]; exact h
  simp only [nl, List.getElem?_map, List.getElem?_eq_getElem h', Option.map_some]
  rfl
theorem at_nl {s : ByteArray} {k c : Nat} (h : (nl s)[k]? = some c) : ∃ hk : k < s.size, (s[k]).toNat = c := by
  have hk : k < s.size := by rw [← nl_length]; exact (List.getElem?_eq_some_iff.1 h).1
  exact ⟨hk, by rw [nl_at s k hk] at h; exact Option.some.inj h⟩
theorem nl_strN {ys : List Nat} (h : ∀ x ∈ ys, x ≤ 255) : nl (strN ys) = ys := by
  unfold nl strN
  rw [strOfNums_data, List.map_map, List.map_map]
  conv => rhs; rw [← List.map_id ys]
  apply List.map_congr_left
  intro x hx
  have := h x hx
  simp only [Function.comp_apply, Int.toNat_natCast, id_eq]
  rw [UInt8.toNat_ofNat']
  omega
theorem nl_inj {a b : ByteArray} (h : nl a = nl b) : a = b := by
  apply ByteArray.ext
  apply Array.toList_inj.1
  apply List.ext_getElem?
  intro i
  have := congrArg (fun l => l[i]?) h
  simp only [nl, List.getElem?_map] at this
  cases h1 : a.data.toList[i]? <;> cases h2 : b.data.toList[i]? <;> rw [h1, h2] at this <;> simp at this
  rw [UInt8.toNat_inj.1 this]
theorem strN_nl (s : ByteArray) : strN (nl s) = s := nl_inj (nl_strN (nl_small s))

/-! ### How a byte is written -/
def out : List Nat := [124, 42, 43, 63, 40, 41, 91, 93, 123, 125, 46, 92, 47]
def inn : List Nat := [91, 93, 94, 45, 92, 47]
def hx (d : Nat) : Nat := if d < 10 then 48 + d else 87 + d
theorem hx_small (d : Nat) (h : d < 16) : hx d ≤ 255 := by unfold hx; split <;> omega

inductive Sp (ex : List Nat) : Nat → List Nat → Prop
  | blank (c k : Nat) : [(10, 110), (9, 116), (13, 114), (32, 115)].contains (c, k) = true → Sp ex c [92, k]
  | esc (c : Nat) : c ∈ ex → 33 ≤ c → c ≤ 126 → Sp ex c [92, c]
  | self (c : Nat) : c ∉ ex → 33 ≤ c → c ≤ 126 → Sp ex c [c]
  | hex (c : Nat) : c ∉ ex → c ≠ 10 → c ≠ 9 → c ≠ 13 → c ≠ 32 → (c < 33 ∨ 126 < c) → c ≤ 255 → Sp ex c [92, 120, hx (c / 16), hx (c % 16)]
theorem ex_mid {ex : List Nat} (h : ex = out ∨ ex = inn) : ∀ c ∈ ex, 33 ≤ c ∧ c ≤ 126 ∧ (33 ≤ c ∧ c ≤ 47 ∨ 58 ≤ c ∧ c ≤ 64 ∨ 91 ≤ c ∧ c ≤ 96 ∨ 123 ≤ c ∧ c ≤ 126) := by
  rcases h with rfl | rfl <;> decide
theorem sp_some {ex : List Nat} (h : ex = out ∨ ex = inn) (c : Nat) (hc : c ≤ 255) : ∃ l, Sp ex c l := by
  by_cases h1 : c = 10
  · exact ⟨_, .blank c 110 (by subst h1; rfl)⟩
  by_cases h2 : c = 9
  · exact ⟨_, .blank c 116 (by subst h2; rfl)⟩
  by_cases h3 : c = 13
  · exact ⟨_, .blank c 114 (by subst h3; rfl)⟩
  by_cases h4 : c = 32
  · exact ⟨_, .blank c 115 (by subst h4; rfl)⟩
  by_cases h5 : c ∈ ex
  · have := ex_mid h c h5
    exact ⟨_, .esc c h5 this.1 this.2.1⟩
  by_cases h6 : 33 ≤ c ∧ c ≤ 126
  · exact ⟨_, .self c h5 h6.1 h6.2⟩
  · exact ⟨_, .hex c h5 h1 h2 h3 h4 (by omega) hc⟩
theorem sp_small {ex : List Nat} {c : Nat} {l : List Nat} (h : Sp ex c l) : ∀ x ∈ l, x ≤ 255 := by
  cases h with
  | blank k hk =>
    simp at hk
    intro x hx
    simp at hx
    omega
  | esc h1 h2 h3 => intro x hx; simp at hx; omega
  | self h1 h2 h3 => intro x hx; simp at hx; omega
  | hex _ _ _ _ _ _ h7 =>
    intro x hx
    simp at hx
    have := hx_small (c / 16) (by omega)
    have := hx_small (c % 16) (by omega)
    omega
theorem sp_length {ex : List Nat} {c : Nat} {l : List Nat} (h : Sp ex c l) : 1 ≤ l.length ∧ l.length ≤ 4 := by
  cases h <;> simp

/-! ### How it is read -/
def Sign (c : Nat) : Prop := 33 ≤ c ∧ c ≤ 47 ∨ 58 ≤ c ∧ c ≤ 64 ∨ 91 ≤ c ∧ c ≤ 96 ∨ 123 ≤ c ∧ c ≤ 126
/-- What a digit stands for. -/
inductive Fig : Nat → Int → Prop
  | num (c : Nat) : 48 ≤ c → c ≤ 57 → Fig c ((c : Int) - 48)
  | low (c : Nat) : 97 ≤ c → c ≤ 102 → Fig c ((c : Int) - 87)
  | cap (c : Nat) : 65 ≤ c → c ≤ 70 → Fig c ((c : Int) - 55)
  | none (c : Nat) : ¬ (48 ≤ c ∧ c ≤ 57) → ¬ (97 ≤ c ∧ c ≤ 102) → ¬ (65 ≤ c ∧ c ≤ 70) → Fig c (-1)
theorem fig_some (c : Nat) : ∃ d, Fig c d := by
  by_cases h1 : 48 ≤ c ∧ c ≤ 57
  · exact ⟨_, .num c h1.1 h1.2⟩
  by_cases h2 : 97 ≤ c ∧ c ≤ 102
  · exact ⟨_, .low c h2.1 h2.2⟩
  by_cases h3 : 65 ≤ c ∧ c ≤ 70
  · exact ⟨_, .cap c h3.1 h3.2⟩
  exact ⟨_, .none c h1 h2 h3⟩
theorem fig_range {c : Nat} {d : Int} (h : Fig c d) : -1 ≤ d ∧ d ≤ 15 := by
  cases h <;> omega
theorem fig_hx {d : Nat} (h : d < 16) : Fig (hx d) d := by
  unfold hx
  split
  · have := Fig.num (48 + d) (by omega) (by omega)
    rw [show ((48 + d : Nat) : Int) - 48 = (d : Int) by omega] at this
    exact this
  · have := Fig.low (87 + d) (by omega) (by omega)
    rw [show ((87 + d : Nat) : Int) - 87 = (d : Int) by omega] at this
    exact this
/-- At a place of l: the byte, the place behind (or of the fault), the error's number (2: it ends; 4: it is no notation). -/
inductive Rd (l : List Nat) : Int → Nat → Int → Nat → Prop
  | outside (i : Int) : (i < 0 ∨ (l.length : Int) ≤ i) → Rd l i 0 l.length 2
  | plain (k c : Nat) : l[k]? = some c → c ≠ 92 → Rd l k c (k + 1) 0
  | ends1 (k : Nat) : l[k]? = some 92 → k + 1 = l.length → Rd l k 0 (k + 1) 2
  | blank (k c d : Nat) : l[k]? = some 92 → l[k + 1]? = some c → [(10, 110), (9, 116), (13, 114), (32, 115)].contains (d, c) = true → Rd l k d (k + 2) 0
  | ends2 (k : Nat) : l[k]? = some 92 → l[k + 1]? = some 120 → k + 2 = l.length → Rd l k 0 (k + 2) 2
  | bad2 (k c : Nat) : l[k]? = some 92 → l[k + 1]? = some 120 → l[k + 2]? = some c → Fig c (-1) → Rd l k 0 (k + 2) 4
  | ends3 (k c d : Nat) : l[k]? = some 92 → l[k + 1]? = some 120 → l[k + 2]? = some c → Fig c d → k + 3 = l.length → Rd l k 0 (k + 3) 2
  | bad3 (k c d b : Nat) : l[k]? = some 92 → l[k + 1]? = some 120 → l[k + 2]? = some c → Fig c d → l[k + 3]? = some b → Fig b (-1) → Rd l k 0 (k + 3) 4
  | hex (k c d b e : Nat) : l[k]? = some 92 → l[k + 1]? = some 120 → l[k + 2]? = some c → Fig c d → l[k + 3]? = some b → Fig b e → Rd l k (16 * d + e) (k + 4) 0
  | sign (k c : Nat) : l[k]? = some 92 → l[k + 1]? = some c → Sign c → Rd l k c (k + 2) 0
  | bad1 (k c : Nat) : l[k]? = some 92 → l[k + 1]? = some c → ¬ Sign c → c ≠ 110 → c ≠ 116 → c ≠ 114 → c ≠ 115 → c ≠ 120 → Rd l k 0 (k + 1) 4
theorem rd_some (l : List Nat) (i : Int) : ∃ c t e, Rd l i c t e := by
  by_cases h : i < 0 ∨ (l.length : Int) ≤ i
  · exact ⟨_, _, _, .outside i h⟩
  obtain ⟨k, rfl⟩ : ∃ k : Nat, i = k := ⟨i.toNat, by omega⟩
  have hk : k < l.length := by omega
  have at0 : ∀ j, j < l.length → l[j]? = some (l.getD j 0) := fun j hj => by simp [List.getElem?_eq_getElem hj]
  by_cases h1 : l.getD k 0 = 92
  · have a0 : l[k]? = some 92 := by rw [at0 k hk, h1]
    by_cases h2 : k + 1 = l.length
    · exact ⟨_, _, _, .ends1 k a0 h2⟩
    have a1 := at0 (k + 1) (by omega)
    generalize l.getD (k + 1) 0 = c at a1
    by_cases c1 : c = 110
    · exact ⟨_, _, _, .blank k c 10 a0 a1 (by subst c1; rfl)⟩
    by_cases c2 : c = 116
    · exact ⟨_, _, _, .blank k c 9 a0 a1 (by subst c2; rfl)⟩
    by_cases c3 : c = 114
    · exact ⟨_, _, _, .blank k c 13 a0 a1 (by subst c3; rfl)⟩
    by_cases c4 : c = 115
    · exact ⟨_, _, _, .blank k c 32 a0 a1 (by subst c4; rfl)⟩
    by_cases c5 : c = 120
    · subst c5
      by_cases h3 : k + 2 = l.length
      · exact ⟨_, _, _, .ends2 k a0 a1 h3⟩
      have a2 := at0 (k + 2) (by omega)
      generalize l.getD (k + 2) 0 = c at a2
      obtain ⟨d, hd⟩ := fig_some c
      have hd' := fig_range hd
      by_cases e1 : d = -1
      · subst e1; exact ⟨_, _, _, .bad2 k c a0 a1 a2 hd⟩
      obtain ⟨d, rfl⟩ : ∃ n : Nat, d = n := ⟨d.toNat, by omega⟩
      by_cases h4 : k + 3 = l.length
      · exact ⟨_, _, _, .ends3 k c d a0 a1 a2 hd h4⟩
      have a3 := at0 (k + 3) (by omega)
      generalize l.getD (k + 3) 0 = b at a3
      obtain ⟨e, he⟩ := fig_some b
      have he' := fig_range he
      by_cases e2 : e = -1
      · subst e2; exact ⟨_, _, _, .bad3 k c d b a0 a1 a2 hd a3 he⟩
      obtain ⟨e, rfl⟩ : ∃ n : Nat, e = n := ⟨e.toNat, by omega⟩
      exact ⟨_, _, _, .hex k c d b e a0 a1 a2 hd a3 he⟩
    by_cases c6 : Sign c
    · exact ⟨_, _, _, .sign k c a0 a1 c6⟩
    exact ⟨_, _, _, .bad1 k c a0 a1 c6 c1 c2 c3 c4 c5⟩
  · exact ⟨_, _, _, .plain k _ (at0 k hk) h1⟩
/-- What is written is read, whatever stands around it. -/
theorem sp_read {ex : List Nat} (hex : ex = out ∨ ex = inn) {c : Nat} {l : List Nat} (h : Sp ex c l) (x y : List Nat) : Rd (x ++ l ++ y) x.length c (x.length + l.length : Nat) 0 := by
  have at0 : ∀ j u, l[j]? = some u → (x ++ l ++ y)[x.length + j]? = some u := fun j u hj => by
    have hl := (List.getElem?_eq_some_iff.1 hj).1
    rw [List.append_assoc, List.getElem?_append_right (by omega), Nat.add_sub_cancel_left, List.getElem?_append_left hl]
    exact hj
  cases h with
  | blank k hk =>
    exact .blank x.length k c (at0 0 92 rfl) (at0 1 k rfl) hk
  | esc h1 h2 h3 =>
    exact .sign x.length c (at0 0 92 rfl) (at0 1 c rfl) (ex_mid hex c h1).2.2
  | self h1 h2 h3 =>
    refine .plain x.length c (at0 0 c rfl) fun e => h1 ?_
    subst e
    rcases hex with rfl | rfl <;> decide
  | hex _ _ _ _ _ _ h7 =>
    have := Rd.hex x.length _ _ _ _ (at0 0 92 rfl) (at0 1 120 rfl) (at0 2 _ rfl) (fig_hx (d := c / 16) (by omega)) (at0 3 _ rfl) (fig_hx (d := c % 16) (by omega))
    rw [show 16 * (c / 16) + c % 16 = c by omega] at this
    exact this
end Go.Proofs.YtaahefhiiggagaaDoor.S5
