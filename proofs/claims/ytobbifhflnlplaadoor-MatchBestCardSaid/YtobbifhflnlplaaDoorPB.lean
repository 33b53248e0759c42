/- Texts merged: S10W1, S10W2, S10W3, S10W4, S10W5, S10W6. -/
import Derived.Deep.CutBlock
import Derived.Deep.DeepCutAuto
import Derived.Laws.MakeOwn
import Derived.Test.YtobbifhflnlplaaDoorPA
import Derived.Test.YtobbifhflnlplaaDoorWC
import Derived.Test.YtobbifhflnlplaaDoorMB
import Derived.Test.YtobbifhflnlplaaDoorLL
import Derived.Test.YtobbifhflnlplaaDoorS1C
namespace Go.Proofs.YtobbifhflnlplaaDoor
open Lib (hid)
open Go.RowKit
open Go.Tree7
open S7
open S5 (nl nl_length nl_small at_nl nl_at Gives idx idx_at ix ix_no ix_yes)
def PRow (W : World) (g : Nat) (l : List Pt) : Prop := ∃ cur, W.heap[g]? = some (.cells cur 75 (0, 0)) ∧ ∀ i (hi : i < l.length), ∀ q, q < 10 → cur[i * 10 + q]? = (l[i].cells)[q]?
theorem PRow.keep {W W' : World} {g : Nat} {l : List Pt} (h : PRow W g l) (hk : W'.heap[g]? = W.heap[g]?) : PRow W' g l := by
 obtain ⟨cur, h1, h2⟩ := h
 exact ⟨cur, hk.trans h1, h2⟩
theorem PRow.lt {W : World} {g : Nat} {l : List Pt} (h : PRow W g l) : g < W.heap.size := by
 obtain ⟨cur, h1, -⟩ := h
 exact (Array.getElem?_eq_some_iff.1 h1).1
theorem PRow.cell {W : World} {g : Nat} {l : List Pt} (h : PRow W g l) {i : Nat} (hi : i < l.length) {q : Nat} (hq : q < 10) : W.cell? ⟨g, i * 10 + q, none⟩ = (l[i].cells)[q]? := by
 obtain ⟨cur, h1, h2⟩ := h
 rw [cell_of_row _ _ _ _ _ (0, 0) h1]
 exact h2 i hi q hq
theorem PRow.frozen {W : World} {g : Nat} {l : List Pt} (h : PRow W g l) (x : Nat) : W.frozen? ⟨g, x, none⟩ = false := by
 obtain ⟨cur, h1, -⟩ := h
 simp [World.frozen?, h1]
theorem PRow.congr {W : World} {g : Nat} {l l' : List Pt} (h : PRow W g l) (e : l.map Pt.cells = l'.map Pt.cells) : PRow W g l' := by
 obtain ⟨cur, h1, h2⟩ := h
 have hl : l.length = l'.length := by simpa using congrArg List.length e
 refine ⟨cur, h1, fun i hi q hq => ?_⟩
 rw [h2 i (by omega) q hq]
 have h3 : (l.map Pt.cells)[i]? = (l'.map Pt.cells)[i]? := by rw [e]
 rw [List.getElem?_map, List.getElem?_map, List.getElem?_eq_getElem (by omega), List.getElem?_eq_getElem hi] at h3
 rw [Option.map_some, Option.map_some, Option.some.injEq] at h3
 rw [h3]
theorem PRow.put {W : World} {g : Nat} {l : List Pt} (h : PRow W g l) {j : Nat} (hj : j < l.length) {q : Nat} (hq : q < 10) {v : Value} {y : Pt} (hy : y.cells = (l[j].cells).set q v) : PRow (W.setCell ⟨g, j * 10 + q, none⟩ v) g (l.set j y) := by
 obtain ⟨cur, h1, h2⟩ := h
 refine ⟨_, box_set h1 (j * 10 + q) v, fun i hi r hr => ?_⟩
 have hi' : i < l.length := by rw [List.length_set] at hi; exact hi
 have hsz : j * 10 + q < cur.size := by
  have := h2 j hj q hq
  rw [List.getElem?_eq_getElem (by rw [Pt.cells_length]; exact hq)] at this
  exact (Array.getElem?_eq_some_iff.1 this).1
 by_cases e : i = j
 ·subst e
  rw [List.getElem_set_self, hy]
  by_cases e2 : r = q
  ·subst e2
   rw [Array.getElem?_setIfInBounds_self_of_lt hsz, List.getElem?_set_self (by rw [Pt.cells_length]; exact hr)]
  ·rw [Array.getElem?_setIfInBounds_ne (by omega), List.getElem?_set_ne (Ne.symm e2)]
   exact h2 i hi' r hr
 ·rw [List.getElem_set_ne (Ne.symm e), Array.getElem?_setIfInBounds_ne (by omega)]
  exact h2 i hi' r hr
theorem PRow.ten {W : World} {g : Nat} {l : List Pt} (h : PRow W g l) {j : Nat} (hj : j < l.length) {x : Nat} (hx : x = j * 10) {k u0 u1 u2 u3 : Int} {p : Option Addr} {cap : Nat} {sk ag lv en : Bool} {ks : List Pt} (e : l[j] = .mk k u0 u1 u2 u3 p cap sk ag lv en ks) :
  W.cell? ⟨g, x, none⟩ = some (.int .i64 k) ∧ W.cell? ⟨g, x + 1, none⟩ = some (.int .u64 u0) ∧ W.cell? ⟨g, x + 2, none⟩ = some (.int .u64 u1) ∧ W.cell? ⟨g, x + 3, none⟩ = some (.int .u64 u2) ∧ W.cell? ⟨g, x + 4, none⟩ = some (.int .u64 u3) ∧
  W.cell? ⟨g, x + 5, none⟩ = some (.slice p ks.length cap) ∧ W.cell? ⟨g, x + 6, none⟩ = some (.bool sk) ∧ W.cell? ⟨g, x + 7, none⟩ = some (.bool ag) ∧ W.cell? ⟨g, x + 8, none⟩ = some (.bool lv) ∧ W.cell? ⟨g, x + 9, none⟩ = some (.bool en) := by
 subst hx
 have hc := fun q hq => h.cell hj (q := q) hq
 rw [e] at hc
 exact ⟨hc 0 (by decide), hc 1 (by decide), hc 2 (by decide), hc 3 (by decide), hc 4 (by decide), hc 5 (by decide), hc 6 (by decide), hc 7 (by decide), hc 8 (by decide), hc 9 (by decide)⟩
inductive POwn (w : World) : Nat → Nat → Pt → Prop
 | mk {k u0 u1 u2 u3 : Int} {p : Option Addr} {cap : Nat} {sk ag lv en : Bool} {ks : List Pt} {lo hi : Nat} (bd : Nat → Nat) (hc : ks.length ≤ cap) (hm : cap ≤ maxLen)
   (hrow : 0 < ks.length → ∃ g, p = some ⟨g, 0, none⟩ ∧ lo ≤ g ∧ g < bd 0 ∧ PRow w g ks) (hlo : lo ≤ bd 0) (hhi : bd ks.length ≤ hi) (hbd : ∀ i, i < ks.length → bd i ≤ bd (i + 1)) (hk : ∀ i (h : i < ks.length), POwn w (bd i) (bd (i + 1)) ks[i]) : POwn w lo hi (.mk k u0 u1 u2 u3 p cap sk ag lv en ks)
theorem pbd_mono {bd : Nat → Nat} {n : Nat} (h : ∀ i, i < n → bd i ≤ bd (i + 1)) : ∀ j, j ≤ n → ∀ i, i ≤ j → bd i ≤ bd j := by
 intro j
 induction j with
 | zero =>
   intro _ i hi; obtain rfl : i = 0 := by omega
   exact Nat.le_refl _
 | succ j ih =>
  intro hj i hi
  rcases Nat.lt_or_ge i (j + 1) with h1 | h1
  ·exact Nat.le_trans (ih (by omega) i (by omega)) (h j (by omega))
  ·obtain rfl : i = j + 1 := by omega
   exact Nat.le_refl _
theorem POwn.low {w : World} {lo hi lo' hi' : Nat} {t : Pt} (h : POwn w lo hi t) (hl : lo' ≤ lo) (hh : hi ≤ hi') : POwn w lo' hi' t := by
 cases h with
 | mk bd h2 h3 h4 h5 h6 h7 h8 => exact .mk bd h2 h3 (fun h => by obtain ⟨g, e, a, b, c⟩ := h4 h; exact ⟨g, e, Nat.le_trans hl a, b, c⟩) (Nat.le_trans hl h5) (Nat.le_trans h6 hh) h7 h8
theorem POwn.flags {w : World} {lo hi : Nat} {k u0 u1 u2 u3 : Int} {p : Option Addr} {cap : Nat} {sk ag lv en : Bool} {ks : List Pt} (h : POwn w lo hi (.mk k u0 u1 u2 u3 p cap sk ag lv en ks)) (k' u0' u1' u2' u3' : Int) (sk' ag' lv' en' : Bool) : POwn w lo hi (.mk k' u0' u1' u2' u3' p cap sk' ag' lv' en' ks) := by
 cases h with
 | mk bd h2 h3 h4 h5 h6 h7 h8 => exact .mk bd h2 h3 h4 h5 h6 h7 h8
theorem POwn.keep {w w' : World} : ∀ {t : Pt} {lo hi : Nat}, POwn w lo hi t → (∀ b, lo ≤ b → b < hi → w'.heap[b]? = w.heap[b]?) → POwn w' lo hi t := by
 intro t
 refine Pt.ind (P := fun t => ∀ {lo hi : Nat}, POwn w lo hi t → (∀ b, lo ≤ b → b < hi → w'.heap[b]? = w.heap[b]?) → POwn w' lo hi t) (fun k u0 u1 u2 u3 p cap sk ag lv en ks ih => ?_) t
 intro lo hi h hk
 cases h with
 | mk bd h2 h3 h4 h5 h6 h7 h8 =>
  have hm := pbd_mono h7
  refine .mk bd h2 h3 (fun h => ?_) h5 h6 h7 (fun i hi => ih _ (List.getElem_mem hi) (h8 i hi) fun b hb1 hb2 => hk b ?_ ?_)
  ·obtain ⟨g, e, a, b, c⟩ := h4 h
   have := hm _ (Nat.le_refl _) 0 (Nat.zero_le _)
   exact ⟨g, e, a, b, c.keep (hk g a (by omega))⟩
  ·have := hm i (by omega) 0 (Nat.zero_le _); omega
  ·have := hm ks.length (Nat.le_refl _) (i + 1) (by omega); omega
def GivesStep (w : World) (g j : Nat) (l : List Pt) (lo hi : Nat) (y : Pt) (e : Ending) (w' : World) : Prop :=
 e = .returned (.tuple #[]) ∧ PRow w' g (l.set j y) ∧ POwn w' lo hi y ∧ Fr (fun k => k = g ∨ (lo ≤ k ∧ k < hi)) w w'
def StepOf (x : Pt) : Prop := ∀ (w : World) (g j xo : Nat) (l : List Pt) (lo hi : Nat) (hj : j < l.length), xo = j * 10 → l[j] = x → PRow w g l → POwn w lo hi x → (g < lo ∨ hi ≤ g) → hi ≤ w.heap.size → ∀ (c : Nat) (b : Bool), c < 256 →
 Calls Tryd.prog 37 #[.pointer (some ⟨g, xo, none⟩), .int .u8 c, .bool b] w (GivesStep w g j l lo hi (stepP c x b))
theorem pset_drop {ms ks : List Pt} {j : Nat} (hm : ms.length = j) (hj : j < ks.length) (m : Pt) : (ms ++ ks.drop j).set j m = (ms ++ [m]) ++ ks.drop (j + 1) := by
 subst hm
 rw [List.set_append_right _ _ (Nat.le_refl _), Nat.sub_self, List.drop_eq_getElem_cons hj, List.set_cons_zero, List.append_assoc]
 rfl
end Go.Proofs.YtobbifhflnlplaaDoor
namespace Go.Proofs.YtobbifhflnlplaaDoor
open Lib (hid)
open Go.RowKit
open Go.Tree7
open S7
open S5 (nl nl_length nl_small at_nl nl_at Gives idx idx_at ix ix_no ix_yes)
theorem stepP_still (c : Nat) (b : Bool) (k u0 u1 u2 u3 : Int) (p : Option Addr) (cap : Nat) (sk ag lv en : Bool) (ks : List Pt) : ∃ (lv' en' : Bool) (ks' : List Pt), stepP c (.mk k u0 u1 u2 u3 p cap sk ag lv en ks) b = .mk k u0 u1 u2 u3 p cap sk ag lv' en' ks' := by
 rw [stepP]
 split
 ·exact ⟨_, _, _, rfl⟩
 ·split
  ·exact ⟨_, _, _, rfl⟩
  ·split
   ·exact ⟨_, _, _, rfl⟩
   ·exact ⟨_, _, _, rfl⟩
structure RSt (w wr : World) (g j : Nat) (l : List Pt) (lo hi g2 : Nat) (bd : Nat → Nat) (k u0 u1 u2 u3 : Int) (p : Option Addr) (cap : Nat) (sk ag : Bool) (ks : List Pt) (F : List Pt → Bool → Bool → Bool → List Pt × Bool × Bool) (b0 : Bool) (i : Nat) (ms : List Pt) (b en lv : Bool) : Prop where
 len : ms.length = i
 row2 : PRow wr g2 (ms ++ ks.drop i)
 row1 : PRow wr g (l.set j (.mk k u0 u1 u2 u3 p cap sk ag lv en ks))
 own : ∀ m (h : m < ms.length), POwn wr (bd m) (bd (m + 1)) ms[m]
 owk : ∀ m (h : m < ks.length), i ≤ m → POwn wr (bd m) (bd (m + 1)) ks[m]
 fr : Fr (fun k => k = g ∨ (lo ≤ k ∧ k < hi)) w wr
 res : F ks b0 false false = (ms ++ (F (ks.drop i) b en lv).1, (F (ks.drop i) b en lv).2)
theorem RSt.next {w wr w9 : World} {g j xo : Nat} {l : List Pt} {lo hi g2 : Nat} {bd : Nat → Nat} {k s0 s1 s2 s3 : Int} {p : Option Addr} {cap : Nat} {sk ag : Bool} {ks : List Pt} {F : List Pt → Bool → Bool → Bool → List Pt × Bool × Bool} {b : Bool} {q : Nat} {ms : List Pt} {b' en lv : Bool}
  (h : RSt w wr g j l lo hi g2 bd k s0 s1 s2 s3 p cap sk ag ks F b q ms b' en lv) (hq : q < ks.length) (hj : j < l.length) (hx : xo = j * 10) (hg : g < lo ∨ hi ≤ g) (hg2 : lo ≤ g2) (hg3 : g2 < bd 0) (hhi : bd ks.length ≤ hi) (hbd : ∀ i, i < ks.length → bd i ≤ bd (i + 1)) (hh : hi ≤ w.heap.size) {y : Pt} {b2 e2 l2 B2 E2 L2 : Bool}
  (hF : F (ks.drop q) b' en lv = (y :: (F (ks.drop (q + 1)) B2 E2 L2).1, (F (ks.drop (q + 1)) B2 E2 L2).2)) (hr9 : PRow w9 g2 ((ms ++ ks.drop q).set q y)) (ho9 : POwn w9 (bd q) (bd (q + 1)) y) (hf9 : Fr (fun k => k = g2 ∨ bd q ≤ k ∧ k < bd (q + 1)) wr w9) (e1 : B2 = b2) (e2' : E2 = e2) (e3 : L2 = l2) :
  RSt w ((w9.setCell ⟨g, xo + 9, none⟩ (.bool e2)).setCell ⟨g, xo + 8, none⟩ (.bool l2)) g j l lo hi g2 bd k s0 s1 s2 s3 p cap sk ag ks F b (q + 1) (ms ++ [y]) b2 e2 l2 := by
 subst hx e1 e2' e3
 have hm := pbd_mono hbd
 have m1 := hm q (by omega) 0 (Nat.zero_le _)
 have m2 := hm ks.length (Nat.le_refl _) (q + 1) (by omega)
 have m3 := hbd q hq
 have hs := h.fr.size
 have hgw : g < wr.heap.size := h.row1.lt
 have r1 := h.row1.keep (hf9.block g hgw (by omega))
 have hother : ∀ n, n ≠ g → (((w9.setCell ⟨g, j * 10 + 9, none⟩ (.bool E2)).setCell ⟨g, j * 10 + 8, none⟩ (.bool L2))).heap[n]? = w9.heap[n]? := fun n hn => by rw [Below.heap_setCell _ _ _ _ hn, Below.heap_setCell _ _ _ _ hn]
 refine ⟨by rw [List.length_append, h.len]; rfl, ?_, ?_, fun m hm2 => ?_, fun m hm2 hm3 => ?_, ?_, ?_⟩
 ·rw [pset_drop h.len hq] at hr9
  exact hr9.keep (hother g2 (by omega))
 ·have e1 : (l.set j (.mk k s0 s1 s2 s3 p cap sk ag lv en ks))[j]'(by simpa using hj) = .mk k s0 s1 s2 s3 p cap sk ag lv en ks := by simp
  have r2 := r1.put (q := 9) (j := j) (by simpa using hj) (by decide) (v := .bool E2) (y := .mk k s0 s1 s2 s3 p cap sk ag lv E2 ks) (by rw [e1]; rfl)
  rw [List.set_set] at r2
  have e2 : (l.set j (.mk k s0 s1 s2 s3 p cap sk ag lv E2 ks))[j]'(by simpa using hj) = .mk k s0 s1 s2 s3 p cap sk ag lv E2 ks := by simp
  have r3 := r2.put (q := 8) (j := j) (by simpa using hj) (by decide) (v := (.bool L2)) (y := .mk k s0 s1 s2 s3 p cap sk ag L2 _ ks) (by rw [e2]; rfl)
  rw [List.set_set] at r3
  exact r3
 ·have hl := h.len
  rcases Nat.lt_or_ge m ms.length with h1 | h1
  ·rw [List.getElem_append_left h1]
   have m4 := hm m (by omega) 0 (Nat.zero_le _)
   have m5 := hm q (by omega) (m + 1) (by omega)
   refine (h.own m h1).keep fun n n1 n2 => ?_
   rw [hother n (by omega)]
   exact hf9.block n (by omega) (by omega)
  ·have e : m = ms.length := by rw [List.length_append, List.length_singleton] at hm2; omega
   subst e
   rw [List.getElem_append_right (Nat.le_refl _)]
   simp only [Nat.sub_self, List.getElem_cons_zero]
   rw [hl]
   exact ho9.keep fun n n1 n2 => hother n (by omega)
 ·have m4 := hm ks.length (Nat.le_refl _) (m + 1) (by omega)
  have m5 := hm m (by omega) (q + 1) (by omega)
  refine (h.owk m hm2 (by omega)).keep fun n n1 n2 => ?_
  rw [hother n (by omega)]
  exact hf9.block n (by omega) (by omega)
 ·refine ((h.fr.trans hf9 fun n hn => .inl (.inr ?_)).set (.inl (.inl rfl)) _).set (.inl (.inl rfl)) _
  omega
 ·rw [h.res, hF, List.append_assoc]
  rfl
theorem RSt.last {w wr : World} {g j : Nat} {l : List Pt} {lo hi g2 : Nat} {bd : Nat → Nat} {k s0 s1 s2 s3 : Int} {p : Option Addr} {cap : Nat} {sk ag : Bool} {ks : List Pt} {F : List Pt → Bool → Bool → Bool → List Pt × Bool × Bool} {b : Bool} {ms : List Pt} {b' en lv : Bool}
  (h : RSt w wr g j l lo hi g2 bd k s0 s1 s2 s3 p cap sk ag ks F b ks.length ms b' en lv) (hF : F [] b' en lv = ([], en, lv)) (hcm : ks.length ≤ cap ∧ cap ≤ maxLen) (hp : 0 < ks.length → p = some ⟨g2, 0, none⟩ ∧ lo ≤ g2 ∧ g2 < bd 0) (hlo : lo ≤ bd 0) (hhi : bd ks.length ≤ hi) (hbd : ∀ i, i < ks.length → bd i ≤ bd (i + 1)) :
  GivesStep w g j l lo hi (.mk k s0 s1 s2 s3 p cap sk ag (F ks b false false).2.2 (F ks b false false).2.1 (F ks b false false).1) (.returned (.tuple #[])) wr := by
 have hr := h.res
 rw [List.drop_length, hF, List.append_nil] at hr
 rw [hr]
 have hl := h.len
 refine ⟨rfl, h.row1.congr ?_, ?_, h.fr⟩
 ·rw [List.map_set, List.map_set]
  congr 1
  simp only [Pt.cells, hl]
 ·refine .mk bd (by show ms.length ≤ cap; rw [hl]; exact hcm.1) hcm.2 (fun h0 => ?_) hlo (by show bd ms.length ≤ hi; rw [hl]; exact hhi) (fun i hi => hbd i (by have : i < ms.length := hi; omega)) (fun i hi => h.own i hi)
  obtain ⟨a1, a2, a3⟩ := hp (by have : 0 < ms.length := h0; omega)
  have := h.row2
  rw [List.drop_length, List.append_nil] at this
  exact ⟨g2, a1, a2, a3, this⟩
set_option maxRecDepth 100000 in
set_option maxHeartbeats 4000000 in
theorem row_in {k s0 s1 s2 s3 : Int} {p : Option Addr} {cap : Nat} {sk ag : Bool} {ks : List Pt} (ih : ∀ x ∈ ks, StepOf x) (w : World) (g j xo : Nat) (l : List Pt) (lo hi : Nat) (hj : j < l.length) (hx : xo = j * 10) (hl : l[j] = .mk k s0 s1 s2 s3 p cap sk ag false false ks)
  (hr : PRow w g l) (ho : POwn w lo hi (.mk k s0 s1 s2 s3 p cap sk ag false false ks)) (hg : g < lo ∨ hi ≤ g) (hh : hi ≤ w.heap.size) (c : Nat) (b : Bool) (hc : c < 256) :
  Calls Tryd.prog 62 #[.pointer (some ⟨g, xo, none⟩), .int .u8 c, .bool b] w (GivesStep w g j l lo hi (.mk k s0 s1 s2 s3 p cap sk ag (rowF c ks b false false).2.2 (rowF c ks b false false).2.1 (rowF c ks b false false).1)) := by
 obtain ⟨-, -, -, -, -, x5, -⟩ := hr.ten hj hx hl
 have hset : l.set j (.mk k s0 s1 s2 s3 p cap sk ag false false ks) = l := by rw [← hl]; exact List.set_getElem_self hj
 obtain ⟨bd, g2, hcap, hmax, hlo, hhi, hbd, hown, hp, hrow2⟩ : ∃ (bd : Nat → Nat) (g2 : Nat), ks.length ≤ cap ∧ cap ≤ maxLen ∧ lo ≤ bd 0 ∧ bd ks.length ≤ hi ∧ (∀ i, i < ks.length → bd i ≤ bd (i + 1)) ∧ (∀ i (h : i < ks.length), POwn w (bd i) (bd (i + 1)) ks[i]) ∧ (0 < ks.length → p = some ⟨g2, 0, none⟩ ∧ lo ≤ g2 ∧ g2 < bd 0) ∧ PRow w g2 ks := by
  cases ho with
  | mk bd h2 h3 h4 h5 h6 h7 h8 =>
   by_cases h0 : 0 < ks.length
   ·obtain ⟨g2, a1, a2, a3, a4⟩ := h4 h0
    exact ⟨bd, g2, h2, h3, h5, h6, h7, h8, fun _ => ⟨a1, a2, a3⟩, a4⟩
   ·obtain rfl : ks = [] := List.eq_nil_of_length_eq_zero (by omega)
    obtain ⟨cur, h9, -⟩ := hr
    exact ⟨bd, g, h2, h3, h5, h6, h7, h8, fun h => by simp at h, cur, h9, fun i hi => by simp at hi⟩
 have hst0 : RSt w w g j l lo hi g2 bd k s0 s1 s2 s3 p cap sk ag ks (rowF c) b 0 [] b false false := ⟨rfl, by simpa using hrow2, by rw [hset]; exact hr, fun m h => by simp at h, fun m h _ => hown m h, Fr.refl _ _, by simp⟩
 have hm := pbd_mono hbd
 have hmax2 : ks.length ≤ 9223372036854775807 := by unfold maxLen at hmax; omega
 replace hst0 := hid hst0
 replace hm := hid hm
 replace hbd := hid hbd
 replace ih := hid ih
 replace hp := hid hp
 have hcm := hid (And.intro hcap hmax)
 obtain ⟨G, hG⟩ : ∃ G, G = GivesStep w g j l lo hi (.mk k s0 s1 s2 s3 p cap sk ag (rowF c ks b false false).2.2 (rowF c ks b false false).2.1 (rowF c ks b false false).1) := ⟨_, rfl⟩
 rw [← hG]
 replace hG := hid hG
 replace hl := hid hl
 replace hx := hid hx
 clear hr ho hown hrow2 hcap hmax hset
 go_enter Tryd.func62, Tryd.ntmps62
 go_wp2
 go_loopw [2, 14] (fun bb i wr => ∃ (q : Nat) (ms : List Pt) (b' en lv : Bool), q ≤ ks.length ∧ bb = .bool b' ∧ i = .int .i64 q ∧ Hid (RSt w wr g j l lo hi g2 bd k s0 s1 s2 s3 p cap sk ag ks (rowF c) b q ms b' en lv)) (fun _ i _ => ks.length - (intOf i).toNat)
 case atStart => exact ⟨0, [], b, false, false, Nat.zero_le _, rfl, rfl, hst0⟩
 case round =>
  clear hst0 x5
  obtain ⟨q, ms, b', en, lv, hq, rfl, rfl, hst⟩ := hrel
  by_cases hlt : q < ks.length
  ·obtain ⟨rfl, hg2, hg3⟩ := hp.out (by omega)
   have hl1 : (l.set j (.mk k s0 s1 s2 s3 (some ⟨g2, 0, none⟩) cap sk ag lv en ks))[j]'(by simpa using hj) = .mk k s0 s1 s2 s3 (some ⟨g2, 0, none⟩) cap sk ag lv en ks := by simp
   have hl2 : (ms ++ ks.drop q).length = ks.length := by simp [hst.out.len]; omega
   have hkq : (ms ++ ks.drop q)[q]'(by omega) = ks[q] := by
    rw [List.getElem_append_right (by rw [hst.out.len]; exact Nat.le_refl _)]
    simp [hst.out.len]
   obtain ⟨-, -, -, -, -, x5, x6, x7, x8, x9⟩ := hst.out.row1.ten (by simpa using hj) hx.out hl1
   have hwk := hst.out.owk q hlt (Nat.le_refl _)
   have hbq := hbd.out q hlt
   have hb1 : bd 0 ≤ bd q := hm.out q (by omega) 0 (Nat.zero_le _)
   have hb2 : bd (q + 1) ≤ bd ks.length := hm.out ks.length (Nat.le_refl _) (q + 1) (by omega)
   have cK := ih.out _ (List.getElem_mem hlt) wr g2 q (q * 10) (ms ++ ks.drop q) (bd q) (bd (q + 1)) (by omega) rfl hkq hst.out.row2 hwk (by omega) (by have := hst.out.fr.size; omega) c b' hc
   replace cK := hid cK
   have hF : rowF c (ks.drop q) b' en lv = (stepP c ks[q] b' :: (rowF c (ks.drop (q + 1)) (ks[q].en || (b' && ks[q].sk)) ((stepP c ks[q] b').en || (en && ks[q].sk)) (lv || (stepP c ks[q] b').lv)).1, (rowF c (ks.drop (q + 1)) (ks[q].en || (b' && ks[q].sk)) ((stepP c ks[q] b').en || (en && ks[q].sk)) (lv || (stepP c ks[q] b').lv)).2) := by
    rw [List.drop_eq_getElem_cons hlt, rowF]
   generalize ks[q] = x at *
   obtain ⟨k', s0', s1', s2', s3', p', cap', sk', ag', lv', en', ks'⟩ := x
   obtain ⟨lv2, en2, ks2, hy⟩ := stepP_still c b' k' s0' s1' s2' s3' p' cap' sk' ag' lv' en' ks'
   rw [hy] at cK hF
   simp only [Pt.en, Pt.sk, Pt.lv] at hF
   obtain ⟨-, -, -, -, -, y5, y6, y7, y8, y9⟩ := hst.out.row2.ten (by omega) rfl hkq
   replace hF := hid hF
   clear hkq hwk
   replace cK := hid cK.out
   unfold GivesStep at cK
   replace hy := hid hy
   clear y5 y8
   have hgl : g < wr.heap.size := hst.out.row1.lt
   have hkeep : ∀ (w9 : World), Fr (fun k => k = g2 ∨ bd q ≤ k ∧ k < bd (q + 1)) wr w9 → PRow w9 g (l.set j (.mk k s0 s1 s2 s3 (some ⟨g2, 0, none⟩) cap sk ag lv en ks)) := fun w9 hf => hst.out.row1.keep (hf.block g hgl (by omega))
   have hkid : ∀ (w9 : World), PRow w9 g2 ((ms ++ List.drop q ks).set q (.mk k' s0' s1' s2' s3' p' cap' sk' ag' lv2 en2 ks2)) → (w9.cell? ⟨g2, q * 10 + 6, none⟩ = some (.bool sk') ∧ w9.cell? ⟨g2, q * 10 + 8, none⟩ = some (.bool lv2) ∧ w9.cell? ⟨g2, q * 10 + 9, none⟩ = some (.bool en2)) := fun w9 h => by
    obtain ⟨-, -, -, -, -, -, z6, -, z8, z9⟩ := h.ten (j := q) (by simp [hst.out.len]; omega) rfl (List.getElem_set_self _)
    exact ⟨z6, z8, z9⟩
   have hpar : ∀ (w9 : World), PRow w9 g (l.set j (.mk k s0 s1 s2 s3 (some ⟨g2, 0, none⟩) cap sk ag lv en ks)) → (w9.cell? ⟨g, xo + 8, none⟩ = some (.bool lv) ∧ w9.cell? ⟨g, xo + 9, none⟩ = some (.bool en)) := fun w9 h => by
    obtain ⟨-, -, -, -, -, -, -, -, z8, z9⟩ := h.ten (by simpa using hj) hx.out hl1
    exact ⟨z8, z9⟩
   replace hkeep := hid hkeep
   replace hkid := hid hkid
   replace hpar := hid hpar
   clear x6 x7 x8 x9 y6 y7 hl1 hl2
   go_wp2_with (go_at_call 37; ((with_reducible refine cK.out.mono ?_); rintro e w9 ⟨rfl, hr9, ho9, hf9⟩; have hr1 := hkeep.out w9 hf9; obtain ⟨z6, z8, z9⟩ := hkid.out w9 hr9; obtain ⟨v8, v9⟩ := hpar.out w9 hr1; have fr8 := hr1.frozen (xo + 8); have fr9 := hr1.frozen (xo + 9); replace hr9 := hid hr9; replace ho9 := hid ho9; replace hf9 := hid hf9; replace hr1 := hid hr1))
   all_goals
    exact ⟨⟨q + 1, _, _, _, _, by omega, rfl, by go_num, hid (hst.out.next hlt hj hx.out hg hg2 hg3 hhi hbd.out hh hF.out hr9.out ho9.out hf9.out (by simp [*]) (by simp [*]) (by simp [*]))⟩, by simp [intOf]; omega⟩
  ·obtain rfl : q = ks.length := by omega
   go_wp2
   refine bodyPost_end (v := .tuple #[]) (by simp [results, Tryd.results62, go_sem]) rfl ?_
   rw [hG.out]
   exact hst.out.last rfl hcm.out hp.out hlo hhi hbd.out
end Go.Proofs.YtobbifhflnlplaaDoor
namespace Go.Proofs.YtobbifhflnlplaaDoor
open Lib (hid)
open Go.RowKit
open Go.Tree7
open S7
open S5 (nl nl_length nl_small at_nl nl_at Gives idx idx_at ix ix_no ix_yes)
set_option maxRecDepth 100000 in
set_option maxHeartbeats 4000000 in
theorem alt_in {k s0 s1 s2 s3 : Int} {p : Option Addr} {cap : Nat} {sk ag : Bool} {ks : List Pt} (ih : ∀ x ∈ ks, StepOf x) (w : World) (g j xo : Nat) (l : List Pt) (lo hi : Nat) (hj : j < l.length) (hx : xo = j * 10) (hl : l[j] = .mk k s0 s1 s2 s3 p cap sk ag false false ks)
  (hr : PRow w g l) (ho : POwn w lo hi (.mk k s0 s1 s2 s3 p cap sk ag false false ks)) (hg : g < lo ∨ hi ≤ g) (hh : hi ≤ w.heap.size) (c : Nat) (b : Bool) (hc : c < 256) :
  Calls Tryd.prog 63 #[.pointer (some ⟨g, xo, none⟩), .int .u8 c, .bool b] w (GivesStep w g j l lo hi (.mk k s0 s1 s2 s3 p cap sk ag (altF c ks b false false).2.2 (altF c ks b false false).2.1 (altF c ks b false false).1)) := by
 obtain ⟨-, -, -, -, -, x5, -⟩ := hr.ten hj hx hl
 have hset : l.set j (.mk k s0 s1 s2 s3 p cap sk ag false false ks) = l := by rw [← hl]; exact List.set_getElem_self hj
 obtain ⟨bd, g2, hcap, hmax, hlo, hhi, hbd, hown, hp, hrow2⟩ : ∃ (bd : Nat → Nat) (g2 : Nat), ks.length ≤ cap ∧ cap ≤ maxLen ∧ lo ≤ bd 0 ∧ bd ks.length ≤ hi ∧ (∀ i, i < ks.length → bd i ≤ bd (i + 1)) ∧ (∀ i (h : i < ks.length), POwn w (bd i) (bd (i + 1)) ks[i]) ∧ (0 < ks.length → p = some ⟨g2, 0, none⟩ ∧ lo ≤ g2 ∧ g2 < bd 0) ∧ PRow w g2 ks := by
  cases ho with
  | mk bd h2 h3 h4 h5 h6 h7 h8 =>
   by_cases h0 : 0 < ks.length
   ·obtain ⟨g2, a1, a2, a3, a4⟩ := h4 h0
    exact ⟨bd, g2, h2, h3, h5, h6, h7, h8, fun _ => ⟨a1, a2, a3⟩, a4⟩
   ·obtain rfl : ks = [] := List.eq_nil_of_length_eq_zero (by omega)
    obtain ⟨cur, h9, -⟩ := hr
    exact ⟨bd, g, h2, h3, h5, h6, h7, h8, fun h => by simp at h, cur, h9, fun i hi => by simp at hi⟩
 have hst0 : RSt w w g j l lo hi g2 bd k s0 s1 s2 s3 p cap sk ag ks (altF c) b 0 [] b false false := ⟨rfl, by simpa using hrow2, by rw [hset]; exact hr, fun m h => by simp at h, fun m h _ => hown m h, Fr.refl _ _, by simp⟩
 have hm := pbd_mono hbd
 have hmax2 : ks.length ≤ 9223372036854775807 := by unfold maxLen at hmax; omega
 replace hst0 := hid hst0
 replace hm := hid hm
 replace hbd := hid hbd
 replace ih := hid ih
 replace hp := hid hp
 have hcm := hid (And.intro hcap hmax)
 obtain ⟨G, hG⟩ : ∃ G, G = GivesStep w g j l lo hi (.mk k s0 s1 s2 s3 p cap sk ag (altF c ks b false false).2.2 (altF c ks b false false).2.1 (altF c ks b false false).1) := ⟨_, rfl⟩
 rw [← hG]
 replace hG := hid hG
 replace hl := hid hl
 replace hx := hid hx
 clear hr ho hown hrow2 hcap hmax hset
 go_enter Tryd.func63, Tryd.ntmps63
 go_wp2
 go_loopw [13] (fun i wr => ∃ (q : Nat) (ms : List Pt) (en lv : Bool), q ≤ ks.length ∧ i = .int .i64 q ∧ Hid (RSt w wr g j l lo hi g2 bd k s0 s1 s2 s3 p cap sk ag ks (altF c) b q ms b en lv)) (fun i _ => ks.length - (intOf i).toNat)
 case atStart => exact ⟨0, [], false, false, Nat.zero_le _, rfl, hst0⟩
 case round =>
  clear hst0 x5
  obtain ⟨q, ms, en, lv, hq, rfl, hst⟩ := hrel
  by_cases hlt : q < ks.length
  ·obtain ⟨rfl, hg2, hg3⟩ := hp.out (by omega)
   have hl1 : (l.set j (.mk k s0 s1 s2 s3 (some ⟨g2, 0, none⟩) cap sk ag lv en ks))[j]'(by simpa using hj) = .mk k s0 s1 s2 s3 (some ⟨g2, 0, none⟩) cap sk ag lv en ks := by simp
   have hl2 : (ms ++ ks.drop q).length = ks.length := by simp [hst.out.len]; omega
   have hkq : (ms ++ ks.drop q)[q]'(by omega) = ks[q] := by
    rw [List.getElem_append_right (by rw [hst.out.len]; exact Nat.le_refl _)]
    simp [hst.out.len]
   obtain ⟨-, -, -, -, -, x5, x6, x7, x8, x9⟩ := hst.out.row1.ten (by simpa using hj) hx.out hl1
   have hwk := hst.out.owk q hlt (Nat.le_refl _)
   have hbq := hbd.out q hlt
   have hb1 : bd 0 ≤ bd q := hm.out q (by omega) 0 (Nat.zero_le _)
   have hb2 : bd (q + 1) ≤ bd ks.length := hm.out ks.length (Nat.le_refl _) (q + 1) (by omega)
   have cK := ih.out _ (List.getElem_mem hlt) wr g2 q (q * 10) (ms ++ ks.drop q) (bd q) (bd (q + 1)) (by omega) rfl hkq hst.out.row2 hwk (by omega) (by have := hst.out.fr.size; omega) c b hc
   replace cK := hid cK
   have hF : altF c (ks.drop q) b en lv = (stepP c ks[q] b :: (altF c (ks.drop (q + 1)) b (en || (stepP c ks[q] b).en) (lv || (stepP c ks[q] b).lv)).1, (altF c (ks.drop (q + 1)) b (en || (stepP c ks[q] b).en) (lv || (stepP c ks[q] b).lv)).2) := by
    rw [List.drop_eq_getElem_cons hlt, altF]
   generalize ks[q] = x at *
   obtain ⟨k', s0', s1', s2', s3', p', cap', sk', ag', lv', en', ks'⟩ := x
   obtain ⟨lv2, en2, ks2, hy⟩ := stepP_still c b k' s0' s1' s2' s3' p' cap' sk' ag' lv' en' ks'
   rw [hy] at cK hF
   simp only [Pt.en, Pt.lv] at hF
   obtain ⟨-, -, -, -, -, y5, y6, y7, y8, y9⟩ := hst.out.row2.ten (by omega) rfl hkq
   replace hF := hid hF
   clear hkq hwk
   replace cK := hid cK.out
   unfold GivesStep at cK
   replace hy := hid hy
   clear y5 y8
   have hgl : g < wr.heap.size := hst.out.row1.lt
   have hkeep : ∀ (w9 : World), Fr (fun k => k = g2 ∨ bd q ≤ k ∧ k < bd (q + 1)) wr w9 → PRow w9 g (l.set j (.mk k s0 s1 s2 s3 (some ⟨g2, 0, none⟩) cap sk ag lv en ks)) := fun w9 hf => hst.out.row1.keep (hf.block g hgl (by omega))
   have hkid : ∀ (w9 : World), PRow w9 g2 ((ms ++ List.drop q ks).set q (.mk k' s0' s1' s2' s3' p' cap' sk' ag' lv2 en2 ks2)) → (w9.cell? ⟨g2, q * 10 + 6, none⟩ = some (.bool sk') ∧ w9.cell? ⟨g2, q * 10 + 8, none⟩ = some (.bool lv2) ∧ w9.cell? ⟨g2, q * 10 + 9, none⟩ = some (.bool en2)) := fun w9 h => by
    obtain ⟨-, -, -, -, -, -, z6, -, z8, z9⟩ := h.ten (j := q) (by simp [hst.out.len]; omega) rfl (List.getElem_set_self _)
    exact ⟨z6, z8, z9⟩
   have hpar : ∀ (w9 : World), PRow w9 g (l.set j (.mk k s0 s1 s2 s3 (some ⟨g2, 0, none⟩) cap sk ag lv en ks)) → (w9.cell? ⟨g, xo + 8, none⟩ = some (.bool lv) ∧ w9.cell? ⟨g, xo + 9, none⟩ = some (.bool en)) := fun w9 h => by
    obtain ⟨-, -, -, -, -, -, -, -, z8, z9⟩ := h.ten (by simpa using hj) hx.out hl1
    exact ⟨z8, z9⟩
   replace hkeep := hid hkeep
   replace hkid := hid hkid
   replace hpar := hid hpar
   clear x6 x7 x8 x9 y6 y7 hl1 hl2
   go_wp2_with (go_at_call 37; ((with_reducible refine cK.out.mono ?_); rintro e w9 ⟨rfl, hr9, ho9, hf9⟩; have hr1 := hkeep.out w9 hf9; obtain ⟨z6, z8, z9⟩ := hkid.out w9 hr9; obtain ⟨v8, v9⟩ := hpar.out w9 hr1; have fr8 := hr1.frozen (xo + 8); have fr9 := hr1.frozen (xo + 9); replace hr9 := hid hr9; replace ho9 := hid ho9; replace hf9 := hid hf9; replace hr1 := hid hr1))
   all_goals
    exact ⟨⟨q + 1, _, _, _, by omega, by go_num, hid (hst.out.next hlt hj hx.out hg hg2 hg3 hhi hbd.out hh hF.out hr9.out ho9.out hf9.out (by simp [*]) (by simp [*]) (by simp [*]))⟩, by simp [intOf]; omega⟩
  ·obtain rfl : q = ks.length := by omega
   go_wp2
   refine bodyPost_end (v := .tuple #[]) (by simp [results, Tryd.results63, go_sem]) rfl ?_
   rw [hG.out]
   exact hst.out.last rfl hcm.out hp.out hlo hhi hbd.out
end Go.Proofs.YtobbifhflnlplaaDoor
namespace Go.Proofs.YtobbifhflnlplaaDoor
open Lib (hid)
open Go.RowKit
open Go.Tree7
open S7
open S5 (nl nl_length nl_small at_nl nl_at Gives idx idx_at ix ix_no ix_yes)
def fit4 : Pt → Prop | .mk _ u0 u1 u2 u3 _ _ _ _ _ _ _ => (Lit.int .u64 u0).wf = true ∧ (Lit.int .u64 u1).wf = true ∧ (Lit.int .u64 u2).wf = true ∧ (Lit.int .u64 u3).wf = true
theorem put89 {w : World} {g j xo : Nat} {l : List Pt} (hj : j < l.length) (hx : xo = j * 10) {k s0 s1 s2 s3 : Int} {p : Option Addr} {cap : Nat} {sk ag lv en : Bool} {ks : List Pt} (hl : l[j] = .mk k s0 s1 s2 s3 p cap sk ag lv en ks) (hr : PRow w g l) (lv' en' : Bool) :
  PRow ((w.setCell ⟨g, xo + 8, none⟩ (.bool lv')).setCell ⟨g, xo + 9, none⟩ (.bool en')) g (l.set j (.mk k s0 s1 s2 s3 p cap sk ag lv' en' ks)) := by
 subst hx
 have r2 := hr.put (q := 8) hj (by decide) (v := .bool lv') (y := .mk k s0 s1 s2 s3 p cap sk ag lv' en ks) (by rw [hl]; rfl)
 have e2 : (l.set j (.mk k s0 s1 s2 s3 p cap sk ag lv' en ks))[j]'(by simpa using hj) = .mk k s0 s1 s2 s3 p cap sk ag lv' en ks := by simp
 have r3 := r2.put (q := 9) (j := j) (by simpa using hj) (by decide) (v := .bool en') (y := .mk k s0 s1 s2 s3 p cap sk ag lv' en' ks) (by rw [e2]; rfl)
 rwa [List.set_set] at r3
theorem put98 {w : World} {g j xo : Nat} {l : List Pt} (hj : j < l.length) (hx : xo = j * 10) {k s0 s1 s2 s3 : Int} {p : Option Addr} {cap : Nat} {sk ag lv en : Bool} {ks : List Pt} (hr : PRow w g (l.set j (.mk k s0 s1 s2 s3 p cap sk ag lv en ks))) (lv' en' : Bool) :
  PRow ((w.setCell ⟨g, xo + 9, none⟩ (.bool en')).setCell ⟨g, xo + 8, none⟩ (.bool lv')) g (l.set j (.mk k s0 s1 s2 s3 p cap sk ag lv' en' ks)) := by
 subst hx
 have e1 : (l.set j (.mk k s0 s1 s2 s3 p cap sk ag lv en ks))[j]'(by simpa using hj) = .mk k s0 s1 s2 s3 p cap sk ag lv en ks := by simp
 have r2 := hr.put (q := 9) (j := j) (by simpa using hj) (by decide) (v := .bool en') (y := .mk k s0 s1 s2 s3 p cap sk ag lv en' ks) (by rw [e1]; rfl)
 rw [List.set_set] at r2
 have e2 : (l.set j (.mk k s0 s1 s2 s3 p cap sk ag lv en' ks))[j]'(by simpa using hj) = .mk k s0 s1 s2 s3 p cap sk ag lv en' ks := by simp
 have r3 := r2.put (q := 8) (j := j) (by simpa using hj) (by decide) (v := .bool lv') (y := .mk k s0 s1 s2 s3 p cap sk ag lv' en' ks) (by rw [e2]; rfl)
 rwa [List.set_set] at r3
set_option maxRecDepth 100000 in
set_option maxHeartbeats 4000000 in
theorem step_of : ∀ x : Pt, Pt.All fit4 x → StepOf x := by
 refine Pt.ind fun k s0 s1 s2 s3 p cap sk ag lv en ks ih => ?_
 intro hA w g j xo l lo hi hj hx hl hr ho hg hh c b hc
 obtain ⟨hf, hAk⟩ : fit4 (.mk k s0 s1 s2 s3 p cap sk ag lv en ks) ∧ ∀ x ∈ ks, Pt.All fit4 x := by cases hA with | mk h1 h2 => exact ⟨h1, h2⟩
 obtain ⟨x0, x1, x2, x3, x4, x5, x6, x7, x8, x9⟩ := hr.ten hj hx hl
 have f8 := hr.frozen (xo + 8)
 have f9 := hr.frozen (xo + 9)
 generalize hW : (w.setCell ⟨g, xo + 8, none⟩ (.bool false)).setCell ⟨g, xo + 9, none⟩ (.bool false) = W
 have hr1 : PRow W g (l.set j (.mk k s0 s1 s2 s3 p cap sk ag false false ks)) := by rw [← hW]; exact put89 hj hx hl hr false false
 have hjs : j < (l.set j (.mk k s0 s1 s2 s3 p cap sk ag false false ks)).length := by simpa using hj
 have hjl : (l.set j (.mk k s0 s1 s2 s3 p cap sk ag false false ks))[j] = .mk k s0 s1 s2 s3 p cap sk ag false false ks := by simp
 have hother : ∀ n, n ≠ g → W.heap[n]? = w.heap[n]? := fun n hn => by rw [← hW, Below.heap_setCell _ _ _ _ hn, Below.heap_setCell _ _ _ _ hn]
 have hsz : W.heap.size = w.heap.size := by rw [← hW, size_set, size_set]
 have hoW : POwn W lo hi (.mk k s0 s1 s2 s3 p cap sk ag false false ks) := (ho.flags k s0 s1 s2 s3 sk ag false false).keep fun n n1 n2 => hother n (by omega)
 have hfW : Fr (fun k => k = g ∨ (lo ≤ k ∧ k < hi)) w W := by rw [← hW]; exact ((Fr.refl _ w).set (.inl (.inl rfl)) _).set (.inl (.inl rfl)) _
 have hgive : ∀ {y : Pt} {e : Ending} {w' : World}, GivesStep W g j (l.set j (.mk k s0 s1 s2 s3 p cap sk ag false false ks)) lo hi y e w' → GivesStep w g j l lo hi y e w' := fun h => by
  obtain ⟨h1, h2, h3, h4⟩ := h
  rw [List.set_set] at h2
  exact ⟨h1, h2, h3, hfW.trans h4 fun n hn => .inl hn⟩
 have cR : ∀ B, (b || (ag && en)) = B → (!(b || (ag && en)) && !lv) = false → k = 2 ∨ k = 4 → Calls Tryd.prog 62 #[.pointer (some ⟨g, xo, none⟩), .int .u8 c, .bool B] W (GivesStep w g j l lo hi (stepP c (.mk k s0 s1 s2 s3 p cap sk ag lv en ks) b)) := fun B hB h0 hk => by
  rw [stepP, if_neg (by rw [h0]; exact Bool.false_ne_true), if_pos hk, hB]
  exact (row_in (fun x hx => ih x hx (hAk x hx)) W g j xo _ lo hi hjs hx hjl hr1 hoW hg (by omega) c B hc).mono fun e w' h => hgive h
 have cA : ∀ B, (b || (ag && en)) = B → (!(b || (ag && en)) && !lv) = false → k = 3 → Calls Tryd.prog 63 #[.pointer (some ⟨g, xo, none⟩), .int .u8 c, .bool B] W (GivesStep w g j l lo hi (stepP c (.mk k s0 s1 s2 s3 p cap sk ag lv en ks) b)) := fun B hB h0 hk => by
  rw [stepP, if_neg (by rw [h0]; exact Bool.false_ne_true), if_neg (by omega), if_pos hk, hB]
  exact (alt_in (fun x hx => ih x hx (hAk x hx)) W g j xo _ lo hi hjs hx hjl hr1 hoW hg (by omega) c B hc).mono fun e w' h => hgive h
 have hsame : (!(b || (ag && en)) && !lv) = true → GivesStep w g j l lo hi (stepP c (.mk k s0 s1 s2 s3 p cap sk ag lv en ks) b) (.returned (.tuple #[])) w := fun h0 => by
  rw [stepP, if_pos h0]
  exact ⟨rfl, by rw [← hl, List.set_getElem_self hj]; exact hr, ho, Fr.refl _ _⟩
 have hlast : ∀ B m, (b || (ag && en)) = B → (!(b || (ag && en)) && !lv) = false → ¬ k = 2 → ¬ k = 4 → ¬ k = 3 → m = (B && S1.mem4 s0.toNat s1.toNat s2.toNat s3.toNat c) → ∀ w9, Below W.heap.size W w9 → GivesStep w g j l lo hi (stepP c (.mk k s0 s1 s2 s3 p cap sk ag lv en ks) b) (.returned (.tuple #[])) ((w9.setCell ⟨g, xo + 9, none⟩ (.bool m)).setCell ⟨g, xo + 8, none⟩ (.bool m)) := fun B m hB h0 hk2 hk4 hk3 hm w9 hb9 => by
  rw [stepP, if_neg (by rw [h0]; exact Bool.false_ne_true), if_neg (by omega), if_neg hk3, hB, ← hm]
  have hgl := hr1.lt
  refine ⟨rfl, put98 hj hx (hr1.keep (hb9.block g hgl)) m m, ?_, ?_⟩
  ·refine ((hoW.keep fun n n1 n2 => hb9.block n (by omega)).flags k s0 s1 s2 s3 sk ag m m).keep fun n n1 n2 => ?_
   rw [Below.heap_setCell _ _ _ _ (by show n ≠ g; omega), Below.heap_setCell _ _ _ _ (by show n ≠ g; omega)]
  ·exact ((hfW.trans (Fr.of_bel (X := fun _ => False) hb9) fun _ h => h.elim).set (.inl (.inl rfl)) _).set (.inl (.inl rfl)) _
 have hcell : ∀ w9, Below W.heap.size W w9 → w9.frozen? ⟨g, xo + 9, none⟩ = false ∧ w9.frozen? ⟨g, xo + 8, none⟩ = false ∧ w9.cell? ⟨g, xo + 8, none⟩ = some (.bool false) ∧ w9.cell? ⟨g, xo + 9, none⟩ = some (.bool false) := fun w9 hb9 => by
  have h1 := hr1.keep (hb9.block g hr1.lt)
  obtain ⟨-, -, -, -, -, -, -, -, z8, z9⟩ := h1.ten hjs hx hjl
  exact ⟨h1.frozen _, h1.frozen _, z8, z9⟩
 obtain ⟨e0, e1, e2, e3⟩ := wd_f hf
 have cH : ∀ w', Calls Tryd.prog 64 #[.agg #[.int .u64 s0, .int .u64 s1, .int .u64 s2, .int .u64 s3], .int .u8 c] w' fun e w'' => e = .returned (.bool (S1.mem4 s0.toNat s1.toNat s2.toNat s3.toNat c)) ∧ Below w'.heap.size w' w'' := fun w' => by
  have := S1.has_in (S1.mem4 s0.toNat s1.toNat s2.toNat s3.toNat) c (by omega) w'
  rw [e0, e1, e2, e3] at this
  exact this
 subst W
 obtain ⟨G, hG⟩ : ∃ G, G = GivesStep w g j l lo hi (stepP c (.mk k s0 s1 s2 s3 p cap sk ag lv en ks) b) := ⟨_, rfl⟩
 simp only [← hG] at cR cA hsame hlast ⊢
 have hend : ∀ (e : Ending) (w' : World), G e w' → e = .returned (.tuple #[]) := fun e w' h => by rw [hG] at h; exact h.1
 generalize S1.mem4 s0.toNat s1.toNat s2.toNat s3.toNat c = M at *
 obtain ⟨d9, d8, q8, q9⟩ := (hcell _ (Below.refl _ _))
 replace hsame := hid hsame
 replace hlast := hid hlast
 replace hcell := hid hcell
 replace hend := hid hend
 replace cR := hid cR
 replace cA := hid cA
 replace cH := hid cH
 clear hx hl ih hr ho hA hAk hgive hr1 hjs hjl hother hsz hoW hfW hG x5 x6 e0 e1 e2 e3 hf hg hh hj
 go_enter Tryd.func37, Tryd.ntmps37
 go_wp2_with (first | (go_at_call 62; (with_reducible refine (cR.out _ ?_ ?_ ?_).mono ?_); (clear hlast hcell hsame cR cA cH; grind); (clear hlast hcell hsame cR cA cH; grind); (clear hlast hcell hsame cR cA cH; grind); rintro e w9 h9; obtain rfl := hend.out _ _ h9; replace h9 := hid h9) | (go_at_call 63; (with_reducible refine (cA.out _ ?_ ?_ ?_).mono ?_); (clear hlast hcell hsame cR cA cH; grind); (clear hlast hcell hsame cR cA cH; grind); (clear hlast hcell hsame cR cA cH; grind); rintro e w9 h9; obtain rfl := hend.out _ _ h9; replace h9 := hid h9) | (go_at_call 64; (with_reducible refine (cH.out _).mono ?_); rintro e w9 ⟨rfl, hb9⟩; obtain ⟨z9, z8, y8, y9⟩ := hcell.out _ hb9; replace hb9 := hid hb9))
 all_goals first
  | refine bodyPost_end (v := .tuple #[]) (by simp [results, Tryd.results37, go_sem]) rfl ?_
  | refine bodyPost_ret (v := .tuple #[]) (by simp [results, Tryd.results37, go_sem]) rfl ?_
 all_goals first
  | exact h9.out
  | exact hsame.out (by clear hlast hcell hsame cR cA cH; grind)
  | exact hlast.out _ _ rfl (by clear hlast hcell hsame cR cA cH; grind) (by clear hlast hcell hsame cR cA cH; grind) (by clear hlast hcell hsame cR cA cH; grind) (by clear hlast hcell hsame cR cA cH; grind) (by clear hlast hcell hsame cR cA cH; grind) _ hb9.out
  | exact hlast.out _ _ rfl (by clear hlast hcell hsame cR cA cH; grind) (by clear hlast hcell hsame cR cA cH; grind) (by clear hlast hcell hsame cR cA cH; grind) (by clear hlast hcell hsame cR cA cH; grind) (by clear hlast hcell hsame cR cA cH; grind) _ (Below.refl _ _)
end Go.Proofs.YtobbifhflnlplaaDoor
namespace Go.Proofs.YtobbifhflnlplaaDoor
open Lib (hid)
open Go.RowKit
open Go.Tree7
open S7
open S5 (nl nl_length nl_small at_nl nl_at Gives idx idx_at ix ix_no ix_yes)
set_option maxRecDepth 10000 in
set_option maxHeartbeats 1000000 in
theorem askip_in (x : Pt) (w : World) : Calls Tryd.prog 82 #[.agg x.cells.toArray] w fun e w' => e = .returned (.bool ((fun x : Pt => !x.sk) x)) ∧ Below w.heap.size w w' := by
 obtain ⟨k, s0, s1, s2, s3, p, cap, sk, ag, lv, en, ks⟩ := x
 simp only [Pt.cells, Pt.sk]
 go_enter Tryd.func82, Tryd.ntmps82
 go_wp2
 go_ret
 exact ⟨rfl, (Below.refl _ _).alloc (Nat.le_refl _) _⟩
set_option maxRecDepth 10000 in
set_option maxHeartbeats 4000000 in
theorem askip_index {w : World} {g cap : Nat} {p : Option Addr} {l : List Pt} (hp : 0 < l.length → p = some ⟨g, 0, none⟩ ∧ PRow w g l) (hc : l.length ≤ cap) (hm : cap ≤ maxLen) :
  Calls Tryd.prog 83 #[.slice p l.length cap, .func (.func 82) #[] #[]] w fun e w' => ∃ i : Int, e = .returned (.int .i64 i) ∧ (decide (0 ≤ i) = l.any (fun x : Pt => !x.sk)) ∧ Below w.heap.size w w' := by
 have hks : l.length ≤ 9223372036854775807 := by unfold maxLen at hm; omega
 have hyes : Hid (∀ (j : Nat) (h1 : j < l.length), (fun x : Pt => !x.sk) l[j] = true → l.any (fun x : Pt => !x.sk) = true) := hid fun j h1 h => List.any_eq_true.2 ⟨_, List.getElem_mem h1, h⟩
 have hno : Hid ((∀ i (h1 : i < l.length), (fun x : Pt => !x.sk) l[i] = false) → l.any (fun x : Pt => !x.sk) = false) := hid fun h => by
  cases e : l.any (fun x : Pt => !x.sk) with
  | false => rfl
  | true =>
   obtain ⟨t, ht, e⟩ := List.any_eq_true.1 e
   obtain ⟨i, hi, rfl⟩ := List.getElem_of_mem ht
   exact absurd (e.symm.trans (h i hi)) (by decide)
 have cF := hid (fun x w => askip_in x w)
 replace hp := hid hp
 clear hc hm
 obtain ⟨R, hR⟩ : ∃ R, R = l.any (fun x : Pt => !x.sk) := ⟨_, rfl⟩
 rw [← hR] at hyes hno ⊢
 clear hR
 go_enter Tryd.func83, Tryd.ntmps83
 go_wp2
 go_loopw [8] (fun i wr => ∃ j : Nat, j ≤ l.length ∧ i = .int .i64 j ∧ Hid (Below w.heap.size w wr) ∧ Hid (∀ i (h1 : i < l.length), i < j → (fun x : Pt => !x.sk) l[i] = false)) (fun i _ => l.length - (intOf i).toNat)
 case atStart => exact ⟨0, Nat.zero_le _, rfl, hid (Below.refl _ _), hid fun i h1 h => by omega⟩
 case round =>
  obtain ⟨j, hj, rfl, hB, hso⟩ := hrel
  by_cases hlt : j < l.length
  ·obtain ⟨hp1, hr⟩ := hp.out (by omega)
   subst hp1
   have hrw := hr.keep (hB.out.block g hr.lt)
   have hyes2 := hid (hyes.out j hlt)
   have hso2 : Hid ((fun x : Pt => !x.sk) l[j] = false → ∀ i (h1 : i < l.length), i < j + 1 → (fun x : Pt => !x.sk) l[i] = false) := hid fun h i h1 h3 => by
    by_cases e : i = j
    ·subst e; exact h
    ·exact hso.out i h1 (by omega)
   have cK := cF.out l[j]
   have hten := fun k s0 s1 s2 s3 p cap sk ag lv en ks (e : l[j] = .mk k s0 s1 s2 s3 p cap sk ag lv en ks) => hrw.ten hlt (rfl : j * 10 = j * 10) e
   generalize l[j] = x at *
   obtain ⟨k, s0, s1, s2, s3, p, cap', sk, ag, lv, en, ks⟩ := x
   obtain ⟨x0, x1, x2, x3, x4, x5, x6, x7, x8, x9⟩ := hten _ _ _ _ _ _ _ _ _ _ _ _ rfl
   simp only [Pt.cells, Pt.sk] at cK hyes2 hso2
   replace cK := hid cK
   clear hten hr hrw
   cases sk <;>
   ·go_wp2_with (go_at_call 82; (with_reducible refine (cK.out _).mono ?_); rintro e w2 ⟨rfl, hb2⟩; replace hb2 := hid hb2)
    first
     | (go_ret; exact ⟨j, rfl, by rw [hyes2.out (by first | rfl | trivial)]; simp, hB.out.trans (hb2.out.mono hB.out.size)⟩)
     | exact ⟨⟨j + 1, by omega, by go_num, hid (hB.out.trans (hb2.out.mono hB.out.size)), hid (hso2.out (by first | rfl | trivial))⟩, by simp [intOf]; omega⟩
  ·obtain rfl : j = l.length := by omega
   go_wp2
   go_ret
   exact ⟨-1, rfl, by rw [hno.out fun i hi => hso.out i hi hi]; rfl, hB.out⟩
theorem askip_some {w : World} {g cap : Nat} {p : Option Addr} {l : List Pt} (hp : 0 < l.length → p = some ⟨g, 0, none⟩ ∧ PRow w g l) (hc : l.length ≤ cap) (hm : cap ≤ maxLen) :
  Calls Tryd.prog 59 #[.slice p l.length cap, .func (.func 82) #[] #[]] w fun e w' => e = .returned (.bool (l.any (fun x : Pt => !x.sk))) ∧ Below w.heap.size w w' := by
 have cI := hid (askip_index hp hc hm)
 clear hp hc hm
 go_enter Tryd.func59, Tryd.ntmps59
 go_wp2_with (go_at_call 83; (with_reducible refine cI.out.mono ?_); rintro e w2 ⟨i, rfl, hi, hb⟩; replace hb := hid hb)
 go_ret
 exact ⟨ret_bool (by simp), hb.out⟩
set_option maxRecDepth 10000 in
set_option maxHeartbeats 1000000 in
theorem skip_in (x : Pt) (w : World) : Calls Tryd.prog 60 #[.agg x.cells.toArray] w fun e w' => e = .returned (.bool ((fun x : Pt => x.sk) x)) ∧ Below w.heap.size w w' := by
 obtain ⟨k, s0, s1, s2, s3, p, cap, sk, ag, lv, en, ks⟩ := x
 simp only [Pt.cells, Pt.sk]
 go_enter Tryd.func60, Tryd.ntmps60
 go_wp2
 go_ret
 exact ⟨rfl, (Below.refl _ _).alloc (Nat.le_refl _) _⟩
set_option maxRecDepth 10000 in
set_option maxHeartbeats 4000000 in
theorem skip_index {w : World} {g cap : Nat} {p : Option Addr} {l : List Pt} (hp : 0 < l.length → p = some ⟨g, 0, none⟩ ∧ PRow w g l) (hc : l.length ≤ cap) (hm : cap ≤ maxLen) :
  Calls Tryd.prog 83 #[.slice p l.length cap, .func (.func 60) #[] #[]] w fun e w' => ∃ i : Int, e = .returned (.int .i64 i) ∧ (decide (0 ≤ i) = l.any (fun x : Pt => x.sk)) ∧ Below w.heap.size w w' := by
 have hks : l.length ≤ 9223372036854775807 := by unfold maxLen at hm; omega
 have hyes : Hid (∀ (j : Nat) (h1 : j < l.length), (fun x : Pt => x.sk) l[j] = true → l.any (fun x : Pt => x.sk) = true) := hid fun j h1 h => List.any_eq_true.2 ⟨_, List.getElem_mem h1, h⟩
 have hno : Hid ((∀ i (h1 : i < l.length), (fun x : Pt => x.sk) l[i] = false) → l.any (fun x : Pt => x.sk) = false) := hid fun h => by
  cases e : l.any (fun x : Pt => x.sk) with
  | false => rfl
  | true =>
   obtain ⟨t, ht, e⟩ := List.any_eq_true.1 e
   obtain ⟨i, hi, rfl⟩ := List.getElem_of_mem ht
   exact absurd (e.symm.trans (h i hi)) (by decide)
 have cF := hid (fun x w => skip_in x w)
 replace hp := hid hp
 clear hc hm
 obtain ⟨R, hR⟩ : ∃ R, R = l.any (fun x : Pt => x.sk) := ⟨_, rfl⟩
 rw [← hR] at hyes hno ⊢
 clear hR
 go_enter Tryd.func83, Tryd.ntmps83
 go_wp2
 go_loopw [8] (fun i wr => ∃ j : Nat, j ≤ l.length ∧ i = .int .i64 j ∧ Hid (Below w.heap.size w wr) ∧ Hid (∀ i (h1 : i < l.length), i < j → (fun x : Pt => x.sk) l[i] = false)) (fun i _ => l.length - (intOf i).toNat)
 case atStart => exact ⟨0, Nat.zero_le _, rfl, hid (Below.refl _ _), hid fun i h1 h => by omega⟩
 case round =>
  obtain ⟨j, hj, rfl, hB, hso⟩ := hrel
  by_cases hlt : j < l.length
  ·obtain ⟨hp1, hr⟩ := hp.out (by omega)
   subst hp1
   have hrw := hr.keep (hB.out.block g hr.lt)
   have hyes2 := hid (hyes.out j hlt)
   have hso2 : Hid ((fun x : Pt => x.sk) l[j] = false → ∀ i (h1 : i < l.length), i < j + 1 → (fun x : Pt => x.sk) l[i] = false) := hid fun h i h1 h3 => by
    by_cases e : i = j
    ·subst e; exact h
    ·exact hso.out i h1 (by omega)
   have cK := cF.out l[j]
   have hten := fun k s0 s1 s2 s3 p cap sk ag lv en ks (e : l[j] = .mk k s0 s1 s2 s3 p cap sk ag lv en ks) => hrw.ten hlt (rfl : j * 10 = j * 10) e
   generalize l[j] = x at *
   obtain ⟨k, s0, s1, s2, s3, p, cap', sk, ag, lv, en, ks⟩ := x
   obtain ⟨x0, x1, x2, x3, x4, x5, x6, x7, x8, x9⟩ := hten _ _ _ _ _ _ _ _ _ _ _ _ rfl
   simp only [Pt.cells, Pt.sk] at cK hyes2 hso2
   replace cK := hid cK
   clear hten hr hrw
   cases sk <;>
   ·go_wp2_with (go_at_call 60; (with_reducible refine (cK.out _).mono ?_); rintro e w2 ⟨rfl, hb2⟩; replace hb2 := hid hb2)
    first
     | (go_ret; exact ⟨j, rfl, by rw [hyes2.out (by first | rfl | trivial)]; simp, hB.out.trans (hb2.out.mono hB.out.size)⟩)
     | exact ⟨⟨j + 1, by omega, by go_num, hid (hB.out.trans (hb2.out.mono hB.out.size)), hid (hso2.out (by first | rfl | trivial))⟩, by simp [intOf]; omega⟩
  ·obtain rfl : j = l.length := by omega
   go_wp2
   go_ret
   exact ⟨-1, rfl, by rw [hno.out fun i hi => hso.out i hi hi]; rfl, hB.out⟩
theorem skip_some {w : World} {g cap : Nat} {p : Option Addr} {l : List Pt} (hp : 0 < l.length → p = some ⟨g, 0, none⟩ ∧ PRow w g l) (hc : l.length ≤ cap) (hm : cap ≤ maxLen) :
  Calls Tryd.prog 59 #[.slice p l.length cap, .func (.func 60) #[] #[]] w fun e w' => e = .returned (.bool (l.any (fun x : Pt => x.sk))) ∧ Below w.heap.size w w' := by
 have cI := hid (skip_index hp hc hm)
 clear hp hc hm
 go_enter Tryd.func59, Tryd.ntmps59
 go_wp2_with (go_at_call 83; (with_reducible refine cI.out.mono ?_); rintro e w2 ⟨i, rfl, hi, hb⟩; replace hb := hid hb)
 go_ret
 exact ⟨ret_bool (by simp), hb.out⟩
theorem any_notP (l : List Pt) : (!l.any (fun x : Pt => !x.sk)) = l.all Pt.sk := by
 induction l with
 | nil => rfl
 | cons x l ih => rw [List.any_cons, List.all_cons, ← ih, Bool.not_or, Bool.not_not]
theorem allSkip_in {w : World} {g cap : Nat} {p : Option Addr} {l : List Pt} (hp : 0 < l.length → p = some ⟨g, 0, none⟩ ∧ PRow w g l) (hc : l.length ≤ cap) (hm : cap ≤ maxLen) :
  Calls Tryd.prog 58 #[.slice p l.length cap] w fun e w' => e = .returned (.bool (l.all Pt.sk)) ∧ Below w.heap.size w w' := by
 have cI := askip_some hp hc hm
 rw [← any_notP]
 generalize (l.any fun x : Pt => !x.sk) = R at *
 replace cI := hid cI
 clear hp hc hm
 go_enter Tryd.func58, Tryd.ntmps58
 go_wp2_with (go_at_call 59; (with_reducible refine cI.out.mono ?_); rintro e w2 ⟨rfl, hb⟩; replace hb := hid hb)
 go_ret
 exact ⟨rfl, hb.out⟩
end Go.Proofs.YtobbifhflnlplaaDoor
namespace Go.Proofs.YtobbifhflnlplaaDoor
open Lib (hid)
open Go.RowKit
open Go.Tree7
open S7
open S5 (nl nl_length nl_small at_nl nl_at Gives idx idx_at ix ix_no ix_yes)
theorem infoP : (Tryd.prog.info? 75).map (fun i => (i.zero, i.size, i.bytes)) = some (some (.agg #[.int .i64 0, .int .u64 0, .int .u64 0, .int .u64 0, .int .u64 0, .slice none 0 0, .bool false, .bool false, .bool false, .bool false]), 10, 72) := by kernel_rfl
theorem undPs : Tryd.prog.underlying 73 = some (.slice 75) := by kernel_rfl
abbrev zeroP : Pt := .mk 0 0 0 0 0 none 0 false false false false []
theorem make_parts {n : Nat} (hn : n ≤ 1000000) (W : World) : (Instr.makeSlice 73 (.int .i64 n) (.int .i64 n)).run Tryd.prog W = .ok (.slice (some ⟨W.heap.size, 0, none⟩) n n) (W.alloc (.cells (madeCells #[.int .i64 0, .int .u64 0, .int .u64 0, .int .u64 0, .int .u64 0, .slice none 0 0, .bool false, .bool false, .bool false, .bool false] (n * 10)) 75)) := by
 have i := infoP
 cases hi : Tryd.prog.info? 75 with
 | none => rw [hi] at i; cases i
 | some i0 =>
  rw [hi] at i
  simp only [Option.map_some, Option.some.injEq, Prod.mk.injEq] at i
  obtain ⟨hz0, hz1, hz2⟩ := i
  have h := run_make (P := Tryd.prog) W 73 75 i0 (.agg #[.int .i64 0, .int .u64 0, .int .u64 0, .int .u64 0, .int .u64 0, .slice none 0 0, .bool false, .bool false, .bool false, .bool false]) undPs hi hz0 .i64 .i64 (n : Int) (n : Int) (by omega) (Int.le_refl _) (by rw [hz2]; omega) (by omega)
  have e2 : (Value.agg #[.int .i64 0, .int .u64 0, .int .u64 0, .int .u64 0, .int .u64 0, .slice none 0 0, .bool false, .bool false, .bool false, .bool false]).cells = #[.int .i64 0, .int .u64 0, .int .u64 0, .int .u64 0, .int .u64 0, .slice none 0 0, .bool false, .bool false, .bool false, .bool false] := by simp [Value.cells]
  rw [hz1, e2] at h
  simpa using h
theorem made_row {W : World} {g n : Nat} (h : W.heap[g]? = some (.cells (madeCells #[.int .i64 0, .int .u64 0, .int .u64 0, .int .u64 0, .int .u64 0, .slice none 0 0, .bool false, .bool false, .bool false, .bool false] (n * 10)) 75 (0, 0))) : PRow W g (List.replicate n zeroP) := by
 refine ⟨_, h, fun i hi q hq => ?_⟩
 rw [List.length_replicate] at hi
 rw [List.getElem_replicate]
 unfold madeCells
 rw [Array.getElem?_map, Array.getElem?_eq_getElem (by rw [Array.size_range]; omega), Array.getElem_range, Option.map_some]
 have e : (i * 10 + q) % (#[.int .i64 0, .int .u64 0, .int .u64 0, .int .u64 0, .int .u64 0, .slice none 0 0, .bool false, .bool false, .bool false, .bool false] : Array Value).size = q := by
  show (i * 10 + q) % 10 = q
  omega
 rw [e]
 have hc : q = 0 ∨ q = 1 ∨ q = 2 ∨ q = 3 ∨ q = 4 ∨ q = 5 ∨ q = 6 ∨ q = 7 ∨ q = 8 ∨ q = 9 := by omega
 rcases hc with rfl | rfl | rfl | rfl | rfl | rfl | rfl | rfl | rfl | rfl <;> rfl
theorem PRow.setAll {W : World} {g : Nat} {l : List Pt} (h : PRow W g l) {j : Nat} (hj : j < l.length) (x : Pt) { d0 d1 d2 d3 d4 d5 d6 d7 d8 d9 : Value} (hx : x.cells = [d0, d1, d2, d3, d4, d5, d6, d7, d8, d9]) (W' : World) (hW : W' = ((((((((((W.setCell ⟨g, j * 10, none⟩ d0).setCell ⟨g, j * 10 + 1, none⟩ d1).setCell ⟨g, j * 10 + 2, none⟩ d2).setCell ⟨g, j * 10 + 3, none⟩ d3).setCell ⟨g, j * 10 + 4, none⟩ d4).setCell ⟨g, j * 10 + 5, none⟩ d5).setCell ⟨g, j * 10 + 6, none⟩ d6).setCell ⟨g, j * 10 + 7, none⟩ d7).setCell ⟨g, j * 10 + 8, none⟩ d8).setCell ⟨g, j * 10 + 9, none⟩ d9)) :
  PRow W' g (l.set j x) ∧ W'.heap.size = W.heap.size ∧ (∀ k, k ≠ g → W'.heap[k]? = W.heap[k]?) ∧ ∀ n, n ≤ g → Below n W W' := by
 obtain ⟨cur, h1, h2⟩ := h
 have hsz : j * 10 + 10 ≤ cur.size := by
  have := h2 j hj 9 (by decide)
  rw [List.getElem?_eq_getElem (by rw [Pt.cells_length]; decide)] at this
  have := (Array.getElem?_eq_some_iff.1 this).1
  omega
 have a0 := box_set h1 (j * 10) d0
 have a1 := box_set a0 (j * 10 + 1) d1
 have a2 := box_set a1 (j * 10 + 2) d2
 have a3 := box_set a2 (j * 10 + 3) d3
 have a4 := box_set a3 (j * 10 + 4) d4
 have a5 := box_set a4 (j * 10 + 5) d5
 have a6 := box_set a5 (j * 10 + 6) d6
 have a7 := box_set a6 (j * 10 + 7) d7
 have a8 := box_set a7 (j * 10 + 8) d8
 have a9 := box_set a8 (j * 10 + 9) d9
 rw [← hW] at a9
 refine ⟨⟨_, a9, fun i hi q hq => ?_⟩, by rw [hW]; simp only [size_set], fun k hk => ?_, fun n hn => ?_⟩
 ·have hi' : i < l.length := by rw [List.length_set] at hi; exact hi
  simp only [Array.getElem?_setIfInBounds]
  by_cases e : i = j
  ·subst e
   rw [List.getElem_set_self, hx]
   have hc : q = 0 ∨ q = 1 ∨ q = 2 ∨ q = 3 ∨ q = 4 ∨ q = 5 ∨ q = 6 ∨ q = 7 ∨ q = 8 ∨ q = 9 := by omega
   simp only [Array.size_setIfInBounds]
   rcases hc with rfl | rfl | rfl | rfl | rfl | rfl | rfl | rfl | rfl | rfl <;> simp <;> omega
  ·rw [List.getElem_set_ne (Ne.symm e)]
   rw [if_neg (by omega), if_neg (by omega), if_neg (by omega), if_neg (by omega), if_neg (by omega), if_neg (by omega), if_neg (by omega), if_neg (by omega), if_neg (by omega), if_neg (by omega)]
   exact h2 i hi' q hq
 ·rw [hW]
  iterate 10 rw [Below.heap_setCell _ _ _ _ hk]
 ·rw [hW]
  have s0 := (Below.refl n W).setCell (p := ⟨g, j * 10, none⟩) hn d0
  have s1 := s0.setCell (p := ⟨g, j * 10 + 1, none⟩) hn d1
  have s2 := s1.setCell (p := ⟨g, j * 10 + 2, none⟩) hn d2
  have s3 := s2.setCell (p := ⟨g, j * 10 + 3, none⟩) hn d3
  have s4 := s3.setCell (p := ⟨g, j * 10 + 4, none⟩) hn d4
  have s5 := s4.setCell (p := ⟨g, j * 10 + 5, none⟩) hn d5
  have s6 := s5.setCell (p := ⟨g, j * 10 + 6, none⟩) hn d6
  have s7 := s6.setCell (p := ⟨g, j * 10 + 7, none⟩) hn d7
  have s8 := s7.setCell (p := ⟨g, j * 10 + 8, none⟩) hn d8
  exact s8.setCell (p := ⟨g, j * 10 + 9, none⟩) hn d9
theorem prow_some {W : World} {g : Nat} {l : List Pt} (h : PRow W g l) {j : Nat} (hj : j < l.length) {q : Nat} (hq : q < 10) : ∃ z, W.cell? ⟨g, j * 10 + q, none⟩ = some z := by
 rw [h.cell hj hq, List.getElem?_eq_getElem (by rw [Pt.cells_length]; exact hq)]
 exact ⟨_, rfl⟩
structure OwnRow (w : World) (lo hi : Nat) (p : Option Addr) (cap : Nat) (ps : List Pt) (bd : Nat → Nat) : Prop where
 hcap : ps.length ≤ cap
 hmax : cap ≤ maxLen
 hrow : 0 < ps.length → ∃ g, p = some ⟨g, 0, none⟩ ∧ lo ≤ g ∧ g < bd 0 ∧ PRow w g ps
 hlo : lo ≤ bd 0
 hhi : bd ps.length ≤ hi
 hbd : ∀ i, i < ps.length → bd i ≤ bd (i + 1)
 hown : ∀ i (h : i < ps.length), POwn w (bd i) (bd (i + 1)) ps[i]
theorem OwnRow.own' {w : World} {lo hi : Nat} {p : Option Addr} {cap : Nat} {ps : List Pt} {bd : Nat → Nat} (h : OwnRow w lo hi p cap ps bd) (k u0 u1 u2 u3 : Int) (sk ag lv en : Bool) : POwn w lo hi (.mk k u0 u1 u2 u3 p cap sk ag lv en ps) :=
 .mk bd h.hcap h.hmax h.hrow h.hlo h.hhi h.hbd h.hown
def GivesParts (Q : List Pt → Prop) (w : World) (e : Ending) (w' : World) : Prop :=
 ∃ (g cap : Nat) (ps : List Pt) (bd : Nat → Nat), e = .returned (.slice (some ⟨g, 0, none⟩) ps.length cap) ∧ Below w.heap.size w w' ∧ OwnRow w' w.heap.size w'.heap.size (some ⟨g, 0, none⟩) cap ps bd ∧ PRow w' g ps ∧ (∀ x ∈ ps, Pt.All fit4 x) ∧ Q ps
def GivesPart (w : World) (t : T) (e : Ending) (w' : World) : Prop :=
 ∃ x : Pt, e = .returned (.agg x.cells.toArray) ∧ Below w.heap.size w w' ∧ POwn w' w.heap.size w'.heap.size x ∧ Pt.All fit4 x ∧ Spr t x
def SpreadOf (w0 : World) (B0 : Nat) (t : T) : Prop := ∀ w', Below B0 w0 w' → Calls Tryd.prog 36 #[.agg t.cells.toArray] w' (GivesPart w' t)
structure FSt (w wr : World) (g n : Nat) (Q : Nat → Pt → Prop) (bd : Nat → Nat) (ms : List Pt) : Prop where
 row : PRow wr g (ms ++ List.replicate (n - ms.length) zeroP)
 bel : Below w.heap.size w wr
 gw : w.heap.size ≤ g
 gb : g < bd 0
 mono : ∀ i, i < ms.length → bd i ≤ bd (i + 1)
 top : bd ms.length ≤ wr.heap.size
 own : ∀ i (h : i < ms.length), POwn wr (bd i) (bd (i + 1)) ms[i]
 fit : ∀ x ∈ ms, Pt.All fit4 x
 q : ∀ i (h : i < ms.length), Q i ms[i]
theorem FSt.next {w wr wk w9 W : World} {g n : Nat} {Q : Nat → Pt → Prop} {bd : Nat → Nat} {ms : List Pt} (h : FSt w wr g n Q bd ms) (hn : ms.length < n) (hk : Below wr.heap.size wr wk) (h9 : Below wk.heap.size wk w9) {y z : Pt} (ho : POwn w9 wk.heap.size w9.heap.size y) (hf : Pt.All fit4 z) (hq : Q ms.length z)
  (hz : POwn w9 wk.heap.size w9.heap.size y → POwn w9 wk.heap.size w9.heap.size z) (hW : PRow W g ((ms ++ List.replicate (n - ms.length) zeroP).set ms.length z)) (hs : W.heap.size = w9.heap.size) (hb : ∀ k, k ≠ g → W.heap[k]? = w9.heap[k]?) (hB : ∀ n, n ≤ g → Below n w9 W) : ∃ bd', FSt w W g n Q bd' (ms ++ [z]) := by
 have hm := pbd_mono h.mono
 have g0 : g < wr.heap.size := h.row.lt
 have s1 := hk.size
 have s2 := h9.size
 have hgw := h.gw
 have hgb := h.gb
 have hhi := h.top
 have hz := hz ho
 have e0 := hm ms.length (Nat.le_refl _) 0 (Nat.zero_le _)
 have hl : (ms ++ [z]).length = ms.length + 1 := by simp
 refine ⟨fun i => if i ≤ ms.length then (if i = ms.length then wk.heap.size else bd i) else w9.heap.size, ?_, ?_, hgw, ?_, fun i hi => ?_, ?_, fun i hi => ?_, fun x hx => ?_, fun i hi => ?_⟩
 ·rw [hl]
  have e : (ms ++ List.replicate (n - ms.length) zeroP).set ms.length z = (ms ++ [z]) ++ List.replicate (n - (ms.length + 1)) zeroP := by
   rw [List.set_append_right _ _ (Nat.le_refl _), Nat.sub_self, show n - ms.length = (n - (ms.length + 1)) + 1 by omega, List.replicate_succ, List.set_cons_zero, List.append_assoc]
   rfl
  rw [← e]
  exact hW
 ·exact ((h.bel.trans (hk.mono h.bel.size)).trans (h9.mono (Nat.le_trans h.bel.size s1))).trans (hB _ hgw)
 ·show g < if 0 ≤ ms.length then (if 0 = ms.length then wk.heap.size else bd 0) else w9.heap.size
  rw [if_pos (Nat.zero_le _)]
  split
  ·omega
  ·exact hgb
 ·show (if i ≤ ms.length then (if i = ms.length then wk.heap.size else bd i) else w9.heap.size) ≤ (if i + 1 ≤ ms.length then (if i + 1 = ms.length then wk.heap.size else bd (i + 1)) else w9.heap.size)
  rw [hl] at hi
  rcases Nat.lt_or_ge (i + 1) ms.length with h1 | h1
  ·rw [if_pos (by omega), if_neg (by omega), if_pos (by omega), if_neg (by omega)]
   exact h.mono i (by omega)
  ·rcases Nat.lt_or_ge i ms.length with h2 | h2
   ·rw [if_pos (by omega), if_neg (by omega), if_pos (by omega), if_pos (by omega)]
    have := hm ms.length (Nat.le_refl _) i (by omega)
    omega
   ·rw [if_pos (by omega), if_pos (by omega), if_neg (by omega)]
    exact s2
 ·rw [hl]
  show (if ms.length + 1 ≤ ms.length then _ else w9.heap.size) ≤ W.heap.size
  rw [if_neg (by omega), hs]
  exact Nat.le_refl _
 ·show POwn W (if i ≤ ms.length then (if i = ms.length then wk.heap.size else bd i) else w9.heap.size) (if i + 1 ≤ ms.length then (if i + 1 = ms.length then wk.heap.size else bd (i + 1)) else w9.heap.size) _
  have hi' : i < ms.length + 1 := by rw [← hl]; exact hi
  rcases Nat.lt_or_ge i ms.length with h2 | h2
  ·rw [List.getElem_append_left h2, if_pos (by omega), if_neg (by omega), if_pos (by omega)]
   have e2 := hm ms.length (Nat.le_refl _) (i + 1) (by omega)
   have e3 := hm i (by omega) 0 (Nat.zero_le _)
   refine ((h.own i h2).keep fun b b1 b2 => ?_).low (Nat.le_refl _) (by split <;> omega)
   rw [hb b (by omega), h9.block b (by omega), hk.block b (by omega)]
  ·obtain rfl : i = ms.length := by omega
   rw [List.getElem_append_right (Nat.le_refl _), if_pos (Nat.le_refl _), if_pos rfl, if_neg (by omega)]
   simp only [Nat.sub_self, List.getElem_cons_zero]
   exact hz.keep fun b b1 b2 => hb b (by omega)
 ·rcases List.mem_append.1 hx with hx | hx
  ·exact h.fit x hx
  ·rw [List.mem_singleton.1 hx]; exact hf
 ·have hi' : i < ms.length + 1 := by rw [← hl]; exact hi
  rcases Nat.lt_or_ge i ms.length with h2 | h2
  ·rw [List.getElem_append_left h2]
   exact h.q i h2
  ·obtain rfl : i = ms.length := by omega
   rw [List.getElem_append_right (Nat.le_refl _)]
   simp only [Nat.sub_self, List.getElem_cons_zero]
   exact hq
theorem FSt.full {w W : World} {g n : Nat} {Q : Nat → Pt → Prop} {bd : Nat → Nat} {ms : List Pt} (h : FSt w W g n Q bd ms) (hn : ms.length = n) (hm : n ≤ 1000000) {R : List Pt → Prop} (hR : (∀ i (h : i < ms.length), Q i ms[i]) → R ms) : GivesParts R w (.returned (.slice (some ⟨g, 0, none⟩) (n : Nat) n)) W := by
 subst hn
 have hr := h.row
 rw [Nat.sub_self, List.replicate_zero, List.append_nil] at hr
 have := pbd_mono h.mono
 exact ⟨g, ms.length, ms, bd, rfl, h.bel, ⟨Nat.le_refl _, by unfold maxLen; omega, fun _ => ⟨g, rfl, h.gw, h.gb, hr⟩, by have := h.gw; have := h.gb; omega, h.top, h.mono, h.own⟩, hr, h.fit, hR h.q⟩
end Go.Proofs.YtobbifhflnlplaaDoor
