/- Texts merged: S10W1, S10W2, S10W3. -/
import Derived.Deep.CutBlock
import Derived.Deep.DeepCutAuto
import Derived.Test.YtkpoegnekeiieaaDoorPA
import Derived.Test.YtkpoegnekeiieaaDoorWC
import Derived.Test.YtkpoegnekeiieaaDoorMB
import Derived.Test.YtkpoegnekeiieaaDoorLL
namespace Go.Proofs.YtkpoegnekeiieaaDoor
open Go.RowKit
open Go.Tree7
open S7
open S5 (nl nl_length nl_small at_nl nl_at Gives idx idx_at ix ix_no ix_yes)
/-- A row of parts, all of it known: block g. -/
def PRow (W : World) (g : Nat) (l : List Pt) : Prop := ∃ cur, W.heap[g]? = some (.cells cur 75 (0, 0)) ∧ ∀ i (hi : i < l.length), ∀ q, q < 10 → cur[i * 10 + q]? = (l[i].cells)[q]?
theorem PRow.keep {W W' : World} {g : Nat} {l : List Pt} (h : PRow W g l) (hk : W'.heap[g]? = W.heap[g]?) : PRow W' g l := by
  obtain ⟨cur, h1, h2⟩ := h
  exact ⟨cur, hk.trans h1, h2⟩
theorem PRow.lt {W : World} {g : Nat} {l : List Pt} (h : PRow W g l) : g < W.heap.size := by
  obtain ⟨cur, h1, -⟩ := h
  exact (Array.getElem?_eq_some_iff.1 h1).1
theorem PRow.cell {W : World} {g : Nat} {l : List Pt} (h : PRow W g l) {i : Nat} (hi : i < l.length) {q : Nat} (hq : q < 10) : W.cell? ⟨g, i * 10 + q, none⟩ = (l[i].cells)[q]? := by
  obtain ⟨cur, h1, h2⟩ := h
  rw [cell_of_row _ _ _ _ _ (0, 0) h1]
  exact h2 i hi q hq
theorem PRow.frozen {W : World} {g : Nat} {l : List Pt} (h : PRow W g l) (x : Nat) : W.frozen? ⟨g, x, none⟩ = false := by
  obtain ⟨cur, h1, -⟩ := h
  simp [World.frozen?, h1]
theorem PRow.congr {W : World} {g : Nat} {l l' : List Pt} (h : PRow W g l) (e : l.map Pt.cells = l'.map Pt.cells) : PRow W g l' := by
  obtain ⟨cur, h1, h2⟩ := h
  have hl : l.length = l'.length := by simpa using congrArg List.length e
  refine ⟨cur, h1, fun i hi q hq => ?_⟩
  rw [h2 i (by omega) q hq]
  have h3 : (l.map Pt.cells)[i]? = (l'.map Pt.cells)[i]? := by rw [e]
  rw [List.getElem?_map, List.getElem?_map, List.getElem?_eq_getElem (by omega), List.getElem?_eq_getElem hi] at h3
  rw [Option.map_some, Option.map_some, Option.some.injEq] at h3
  rw [h3]
/-- One cell of a place set anew. -/
theorem PRow.put {W : World} {g : Nat} {l : List Pt} (h : PRow W g l) {j : Nat} (hj : j < l.length) {q : Nat} (hq : q < 10) {v : Value} {y : Pt} (hy : y.cells = (l[j].cells).set q v) : PRow (W.setCell ⟨g, j * 10 + q, none⟩ v) g (l.set j y) := by
  obtain ⟨cur, h1, h2⟩ := h
  refine ⟨_, box_set h1 (j * 10 + q) v, fun i hi r hr => ?_⟩
  have hi' : i < l.length := by rw [List.length_set] at hi; exact hi
  have hsz : j * 10 + q < cur.size := by
    have := h2 j hj q hq
    rw [List.getElem?_eq_getElem (by rw [Pt.cells_length]; exact hq)] at this
    exact (Array.getElem?_eq_some_iff.1 this).1
  by_cases e : i = j
  · subst e
    rw [List.getElem_set_self, hy]
    by_cases e2 : r = q
    · subst e2
      rw [Array.getElem?_setIfInBounds_self_of_lt hsz, List.getElem?_set_self (by rw [Pt.cells_length]; exact hr)]
    · rw [Array.getElem?_setIfInBounds_ne (by omega), List.getElem?_set_ne (Ne.symm e2)]
      exact h2 i hi' r hr
  · rw [List.getElem_set_ne (Ne.symm e), Array.getElem?_setIfInBounds_ne (by omega)]
    exact h2 i hi' r hr
/-- A place's ten cells. -/
theorem PRow.ten {W : World} {g : Nat} {l : List Pt} (h : PRow W g l) {j : Nat} (hj : j < l.length) {x : Nat} (hx : x = j * 10) {k u0 u1 u2 u3 : Int} {p : Option Addr} {cap : Nat} {sk ag lv en : Bool} {ks : List Pt} (e : l[j] = .mk k u0 u1 u2 u3 p cap sk ag lv en ks) :
    W.cell? ⟨g, x, none⟩ = some (.int .i64 k) ∧ W.cell? ⟨g, x + 1, none⟩ = some (.int .u64 u0) ∧ W.cell? ⟨g, x + 2, none⟩ = some (.int .u64 u1) ∧ W.cell? ⟨g, x + 3, none⟩ = some (.int .u64 u2) ∧ W.cell? ⟨g, x + 4, none⟩ = some (.int .u64 u3) ∧
    W.cell? ⟨g, x + 5, none⟩ = some (.slice p ks.length cap) ∧ W.cell? ⟨g, x + 6, none⟩ = some (.bool sk) ∧ W.cell? ⟨g, x + 7, none⟩ = some (.bool ag) ∧ W.cell? ⟨g, x + 8, none⟩ = some (.bool lv) ∧ W.cell? ⟨g, x + 9, none⟩ = some (.bool en) := by
  subst hx
  have hc := fun q hq => h.cell hj (q := q) hq
  rw [e] at hc
  exact ⟨hc 0 (by decide), hc 1 (by decide), hc 2 (by decide), hc 3 (by decide), hc 4 (by decide), hc 5 (by decide), hc 6 (by decide), hc 7 (by decide), hc 8 (by decide), hc 9 (by decide)⟩
/-- Parts whose rows lie apart, between two blocks: a part's row first, then what is below each kid, one kid behind the other. -/
inductive POwn (w : World) : Nat → Nat → Pt → Prop
  | mk {k u0 u1 u2 u3 : Int} {p : Option Addr} {cap : Nat} {sk ag lv en : Bool} {ks : List Pt} {lo hi : Nat} (bd : Nat → Nat) (hc : ks.length ≤ cap) (hm : cap ≤ maxLen)
      (hrow : 0 < ks.length → ∃ g, p = some ⟨g, 0, none⟩ ∧ lo ≤ g ∧ g < bd 0 ∧ PRow w g ks) (hlo : lo ≤ bd 0) (hhi : bd ks.length ≤ hi) (hbd : ∀ i, i < ks.length → bd i ≤ bd (i + 1)) (hk : ∀ i (h : i < ks.length), POwn w (bd i) (bd (i + 1)) ks[i]) : POwn w lo hi (.mk k u0 u1 u2 u3 p cap sk ag lv en ks)
theorem pbd_mono {bd : Nat → Nat} {n : Nat} (h : ∀ i, i < n → bd i ≤ bd (i + 1)) : ∀ j, j ≤ n → ∀ i, i ≤ j → bd i ≤ bd j := by
  intro j
  induction j with
  | zero => intro _ i hi; obtain rfl : i = 0 := by omega
            exact Nat.le_refl _
  | succ j ih =>
    intro hj i hi
    rcases Nat.lt_or_ge i (j + 1) with h1 | h1
    · exact Nat.le_trans (ih (by omega) i (by omega)) (h j (by omega))
    · obtain rfl : i = j + 1 := by omega
      exact Nat.le_refl _
theorem POwn.low {w : World} {lo hi lo' hi' : Nat} {t : Pt} (h : POwn w lo hi t) (hl : lo' ≤ lo) (hh : hi ≤ hi') : POwn w lo' hi' t := by
  cases h with
  | mk bd h2 h3 h4 h5 h6 h7 h8 => exact .mk bd h2 h3 (fun h => by obtain ⟨g, e, a, b, c⟩ := h4 h; exact ⟨g, e, Nat.le_trans hl a, b, c⟩) (Nat.le_trans hl h5) (Nat.le_trans h6 hh) h7 h8
theorem POwn.flags {w : World} {lo hi : Nat} {k u0 u1 u2 u3 : Int} {p : Option Addr} {cap : Nat} {sk ag lv en : Bool} {ks : List Pt} (h : POwn w lo hi (.mk k u0 u1 u2 u3 p cap sk ag lv en ks)) (k' u0' u1' u2' u3' : Int) (sk' ag' lv' en' : Bool) : POwn w lo hi (.mk k' u0' u1' u2' u3' p cap sk' ag' lv' en' ks) := by
  cases h with
  | mk bd h2 h3 h4 h5 h6 h7 h8 => exact .mk bd h2 h3 h4 h5 h6 h7 h8
theorem POwn.keep {w w' : World} : ∀ {t : Pt} {lo hi : Nat}, POwn w lo hi t → (∀ b, lo ≤ b → b < hi → w'.heap[b]? = w.heap[b]?) → POwn w' lo hi t := by
  intro t
  refine Pt.ind (P := fun t => ∀ {lo hi : Nat}, POwn w lo hi t → (∀ b, lo ≤ b → b < hi → w'.heap[b]? = w.heap[b]?) → POwn w' lo hi t) (fun k u0 u1 u2 u3 p cap sk ag lv en ks ih => ?_) t
  intro lo hi h hk
  cases h with
  | mk bd h2 h3 h4 h5 h6 h7 h8 =>
    have hm := pbd_mono h7
    refine .mk bd h2 h3 (fun h => ?_) h5 h6 h7 (fun i hi => ih _ (List.getElem_mem hi) (h8 i hi) fun b hb1 hb2 => hk b ?_ ?_)
    · obtain ⟨g, e, a, b, c⟩ := h4 h
      have := hm _ (Nat.le_refl _) 0 (Nat.zero_le _)
      exact ⟨g, e, a, b, c.keep (hk g a (by omega))⟩
    · have := hm i (by omega) 0 (Nat.zero_le _); omega
    · have := hm ks.length (Nat.le_refl _) (i + 1) (by omega); omega
/-- What a step gives back: the part's place and what is below it are turned, and nothing else. -/
def GivesStep (w : World) (g j : Nat) (l : List Pt) (lo hi : Nat) (y : Pt) (e : Ending) (w' : World) : Prop :=
  e = .returned (.tuple #[]) ∧ PRow w' g (l.set j y) ∧ POwn w' lo hi y ∧ Fr (fun k => k = g ∨ (lo ≤ k ∧ k < hi)) w w'
def StepOf (x : Pt) : Prop := ∀ (w : World) (g j xo : Nat) (l : List Pt) (lo hi : Nat) (hj : j < l.length), xo = j * 10 → l[j] = x → PRow w g l → POwn w lo hi x → (g < lo ∨ hi ≤ g) → hi ≤ w.heap.size → ∀ (c : Nat) (b : Bool), c < 256 →
  Calls Tryd.prog 37 #[.pointer (some ⟨g, xo, none⟩), .int .u8 c, .bool b] w (GivesStep w g j l lo hi (stepP c x b))
theorem pset_drop {ms ks : List Pt} {j : Nat} (hm : ms.length = j) (hj : j < ks.length) (m : Pt) : (ms ++ ks.drop j).set j m = (ms ++ [m]) ++ ks.drop (j + 1) := by
  subst hm
  rw [List.set_append_right _ _ (Nat.le_refl _), Nat.sub_self, List.drop_eq_getElem_cons hj, List.set_cons_zero, List.append_assoc]
  rfl
end Go.Proofs.YtkpoegnekeiieaaDoor
namespace Go.Proofs.YtkpoegnekeiieaaDoor
open Go.RowKit
open Go.Tree7
open S7
open S5 (nl nl_length nl_small at_nl nl_at Gives idx idx_at ix ix_no ix_yes)
/-- What a step leaves as it was. -/
theorem stepP_still (c : Nat) (b : Bool) (k u0 u1 u2 u3 : Int) (p : Option Addr) (cap : Nat) (sk ag lv en : Bool) (ks : List Pt) : ∃ (lv' en' : Bool) (ks' : List Pt), stepP c (.mk k u0 u1 u2 u3 p cap sk ag lv en ks) b = .mk k u0 u1 u2 u3 p cap sk ag lv' en' ks' := by
  rw [stepP]
  split
  · exact ⟨_, _, _, rfl⟩
  · split
    · exact ⟨_, _, _, rfl⟩
    · split
      · exact ⟨_, _, _, rfl⟩
      · exact ⟨_, _, _, rfl⟩
/-- The loop's state. -/
structure RSt (w wr : World) (g j : Nat) (l : List Pt) (lo hi g2 : Nat) (bd : Nat → Nat) (k u0 u1 u2 u3 : Int) (p : Option Addr) (cap : Nat) (sk ag : Bool) (ks : List Pt) (F : List Pt → Bool → Bool → Bool → List Pt × Bool × Bool) (b0 : Bool) (i : Nat) (ms : List Pt) (b en lv : Bool) : Prop where
  len : ms.length = i
  row2 : PRow wr g2 (ms ++ ks.drop i)
  row1 : PRow wr g (l.set j (.mk k u0 u1 u2 u3 p cap sk ag lv en ks))
  own : ∀ m (h : m < ms.length), POwn wr (bd m) (bd (m + 1)) ms[m]
  owk : ∀ m (h : m < ks.length), i ≤ m → POwn wr (bd m) (bd (m + 1)) ks[m]
  fr : Fr (fun k => k = g ∨ (lo ≤ k ∧ k < hi)) w wr
  res : F ks b0 false false = (ms ++ (F (ks.drop i) b en lv).1, (F (ks.drop i) b en lv).2)
/-- A kid further. -/
theorem RSt.next {w wr w9 : World} {g j xo : Nat} {l : List Pt} {lo hi g2 : Nat} {bd : Nat → Nat} {k s0 s1 s2 s3 : Int} {p : Option Addr} {cap : Nat} {sk ag : Bool} {ks : List Pt} {F : List Pt → Bool → Bool → Bool → List Pt × Bool × Bool} {b : Bool} {q : Nat} {ms : List Pt} {b' en lv : Bool}
    (h : RSt w wr g j l lo hi g2 bd k s0 s1 s2 s3 p cap sk ag ks F b q ms b' en lv) (hq : q < ks.length) (hj : j < l.length) (hx : xo = j * 10) (hg : g < lo ∨ hi ≤ g) (hg2 : lo ≤ g2) (hg3 : g2 < bd 0) (hhi : bd ks.length ≤ hi) (hbd : ∀ i, i < ks.length → bd i ≤ bd (i + 1)) (hh : hi ≤ w.heap.size) {y : Pt} {b2 e2 l2 B2 E2 L2 : Bool}
    (hF : F (ks.drop q) b' en lv = (y :: (F (ks.drop (q + 1)) B2 E2 L2).1, (F (ks.drop (q + 1)) B2 E2 L2).2)) (hr9 : PRow w9 g2 ((ms ++ ks.drop q).set q y)) (ho9 : POwn w9 (bd q) (bd (q + 1)) y) (hf9 : Fr (fun k => k = g2 ∨ bd q ≤ k ∧ k < bd (q + 1)) wr w9) (e1 : B2 = b2) (e2' : E2 = e2) (e3 : L2 = l2) :
    RSt w ((w9.setCell ⟨g, xo + 9, none⟩ (.bool e2)).setCell ⟨g, xo + 8, none⟩ (.bool l2)) g j l lo hi g2 bd k s0 s1 s2 s3 p cap sk ag ks F b (q + 1) (ms ++ [y]) b2 e2 l2 := by
  subst hx e1 e2' e3
  have hm := pbd_mono hbd
  have m1 := hm q (by omega) 0 (Nat.zero_le _)
  have m2 := hm ks.length (Nat.le_refl _) (q + 1) (by omega)
  have m3 := hbd q hq
  have hs := h.fr.size
  have hgw : g < wr.heap.size := h.row1.lt
  have r1 := h.row1.keep (hf9.block g hgw (by omega))
  have hother : ∀ n, n ≠ g → (((w9.setCell ⟨g, j * 10 + 9, none⟩ (.bool E2)).setCell ⟨g, j * 10 + 8, none⟩ (.bool L2))).heap[n]? = w9.heap[n]? := fun n hn => by rw [Below.heap_setCell _ _ _ _ hn, Below.heap_setCell _ _ _ _ hn]
  refine ⟨by rw [List.length_append, h.len]; rfl, ?_, ?_, fun m hm2 => ?_, fun m hm2 hm3 => ?_, ?_, ?_⟩
  · rw [pset_drop h.len hq] at hr9
    exact hr9.keep (hother g2 (by omega))
  · have e1 : (l.set j (.mk k s0 s1 s2 s3 p cap sk ag lv en ks))[j]'(by simpa using hj) = .mk k s0 s1 s2 s3 p cap sk ag lv en ks := by simp
    have r2 := r1.put (q := 9) (j := j) (by simpa using hj) (by decide) (v := .bool E2) (y := .mk k s0 s1 s2 s3 p cap sk ag lv E2 ks) (by rw [e1]; rfl)
    rw [List.set_set] at r2
    have e2 : (l.set j (.mk k s0 s1 s2 s3 p cap sk ag lv E2 ks))[j]'(by simpa using hj) = .mk k s0 s1 s2 s3 p cap sk ag lv E2 ks := by simp
    have r3 := r2.put (q := 8) (j := j) (by simpa using hj) (by decide) (v := (.bool L2)) (y := .mk k s0 s1 s2 s3 p cap sk ag L2 _ ks) (by rw [e2]; rfl)
    rw [List.set_set] at r3
    exact r3
  · have hl := h.len
    rcases Nat.lt_or_ge m ms.length with h1 | h1
    · rw [List.getElem_append_left h1]
      have m4 := hm m (by omega) 0 (Nat.zero_le _)
      have m5 := hm q (by omega) (m + 1) (by omega)
      refine (h.own m h1).keep fun n n1 n2 => ?_
      rw [hother n (by omega)]
      exact hf9.block n (by omega) (by omega)
    · have e : m = ms.length := by rw [List.length_append, List.length_singleton] at hm2; omega
      subst e
      rw [List.getElem_append_right (Nat.le_refl _)]
      simp only [Nat.sub_self, List.getElem_cons_zero]
      rw [hl]
      exact ho9.keep fun n n1 n2 => hother n (by omega)
  · have m4 := hm ks.length (Nat.le_refl _) (m + 1) (by omega)
    have m5 := hm m (by omega) (q + 1) (by omega)
    refine (h.owk m hm2 (by omega)).keep fun n n1 n2 => ?_
    rw [hother n (by omega)]
    exact hf9.block n (by omega) (by omega)
  · refine ((h.fr.trans hf9 fun n hn => .inl (.inr ?_)).set (.inl (.inl rfl)) _).set (.inl (.inl rfl)) _
    omega
  · rw [h.res, hF, List.append_assoc]
    rfl
/-- At the end. -/
theorem RSt.last {w wr : World} {g j : Nat} {l : List Pt} {lo hi g2 : Nat} {bd : Nat → Nat} {k s0 s1 s2 s3 : Int} {p : Option Addr} {cap : Nat} {sk ag : Bool} {ks : List Pt} {F : List Pt → Bool → Bool → Bool → List Pt × Bool × Bool} {b : Bool} {ms : List Pt} {b' en lv : Bool}
    (h : RSt w wr g j l lo hi g2 bd k s0 s1 s2 s3 p cap sk ag ks F b ks.length ms b' en lv) (hF : F [] b' en lv = ([], en, lv)) (hcm : ks.length ≤ cap ∧ cap ≤ maxLen) (hp : 0 < ks.length → p = some ⟨g2, 0, none⟩ ∧ lo ≤ g2 ∧ g2 < bd 0) (hlo : lo ≤ bd 0) (hhi : bd ks.length ≤ hi) (hbd : ∀ i, i < ks.length → bd i ≤ bd (i + 1)) :
    GivesStep w g j l lo hi (.mk k s0 s1 s2 s3 p cap sk ag (F ks b false false).2.2 (F ks b false false).2.1 (F ks b false false).1) (.returned (.tuple #[])) wr := by
  have hr := h.res
  rw [List.drop_length, hF, List.append_nil] at hr
  rw [hr]
  have hl := h.len
  refine ⟨rfl, h.row1.congr ?_, ?_, h.fr⟩
  · rw [List.map_set, List.map_set]
    congr 1
    simp only [Pt.cells, hl]
  · refine .mk bd (by show ms.length ≤ cap; rw [hl]; exact hcm.1) hcm.2 (fun h0 => ?_) hlo (by show bd ms.length ≤ hi; rw [hl]; exact hhi) (fun i hi => hbd i (by have : i < ms.length := hi; omega)) (fun i hi => h.own i hi)
    obtain ⟨a1, a2, a3⟩ := hp (by have : 0 < ms.length := h0; omega)
    have := h.row2
    rw [List.drop_length, List.append_nil] at this
    exact ⟨g2, a1, a2, a3, this⟩
set_option maxRecDepth 100000 in
set_option maxHeartbeats 4000000 in
theorem row_in {k s0 s1 s2 s3 : Int} {p : Option Addr} {cap : Nat} {sk ag : Bool} {ks : List Pt} (ih : ∀ x ∈ ks, StepOf x) (w : World) (g j xo : Nat) (l : List Pt) (lo hi : Nat) (hj : j < l.length) (hx : xo = j * 10) (hl : l[j] = .mk k s0 s1 s2 s3 p cap sk ag false false ks)
    (hr : PRow w g l) (ho : POwn w lo hi (.mk k s0 s1 s2 s3 p cap sk ag false false ks)) (hg : g < lo ∨ hi ≤ g) (hh : hi ≤ w.heap.size) (c : Nat) (b : Bool) (hc : c < 256) :
    Calls Tryd.prog 62 #[.pointer (some ⟨g, xo, none⟩), .int .u8 c, .bool b] w (GivesStep w g j l lo hi (.mk k s0 s1 s2 s3 p cap sk ag (rowF c ks b false false).2.2 (rowF c ks b false false).2.1 (rowF c ks b false false).1)) := by
  obtain ⟨-, -, -, -, -, x5, -⟩ := hr.ten hj hx hl
  have hset : l.set j (.mk k s0 s1 s2 s3 p cap sk ag false false ks) = l := by rw [← hl]; exact List.set_getElem_self hj
  obtain ⟨bd, g2, hcap, hmax, hlo, hhi, hbd, hown, hp, hrow2⟩ : ∃ (bd : Nat → Nat) (g2 : Nat), ks.length ≤ cap ∧ cap ≤ maxLen ∧ lo ≤ bd 0 ∧ bd ks.length ≤ hi ∧ (∀ i, i < ks.length → bd i ≤ bd (i + 1)) ∧ (∀ i (h : i < ks.length), POwn w (bd i) (bd (i + 1)) ks[i]) ∧ (0 < ks.length → p = some ⟨g2, 0, none⟩ ∧ lo ≤ g2 ∧ g2 < bd 0) ∧ PRow w g2 ks := by
    cases ho with
    | mk bd h2 h3 h4 h5 h6 h7 h8 =>
      by_cases h0 : 0 < ks.length
      · obtain ⟨g2, a1, a2, a3, a4⟩ := h4 h0
        exact ⟨bd, g2, h2, h3, h5, h6, h7, h8, fun _ => ⟨a1, a2, a3⟩, a4⟩
      · obtain rfl : ks = [] := List.eq_nil_of_length_eq_zero (by omega)
        obtain ⟨cur, h9, -⟩ := hr
        exact ⟨bd, g, h2, h3, h5, h6, h7, h8, fun h => by simp at h, cur, h9, fun i hi => by simp at hi⟩
  have hst0 : RSt w w g j l lo hi g2 bd k s0 s1 s2 s3 p cap sk ag ks (rowF c) b 0 [] b false false := ⟨rfl, by simpa using hrow2, by rw [hset]; exact hr, fun m h => by simp at h, fun m h _ => hown m h, Fr.refl _ _, by simp⟩
  have hm := pbd_mono hbd
  have hmax2 : ks.length ≤ 9223372036854775807 := by unfold maxLen at hmax; omega
  replace hst0 := Lib.hid hst0
  replace hm := Lib.hid hm
  replace hbd := Lib.hid hbd
  replace ih := Lib.hid ih
  replace hp := Lib.hid hp
  have hcm := Lib.hid (And.intro hcap hmax)
  obtain ⟨G, hG⟩ : ∃ G, G = GivesStep w g j l lo hi (.mk k s0 s1 s2 s3 p cap sk ag (rowF c ks b false false).2.2 (rowF c ks b false false).2.1 (rowF c ks b false false).1) := ⟨_, rfl⟩
  rw [← hG]
  replace hG := Lib.hid hG
  replace hl := Lib.hid hl
  replace hx := Lib.hid hx
  clear hr ho hown hrow2 hcap hmax hset
  go_enter Tryd.func62, Tryd.ntmps62
  go_wp2
  go_loopw [2, 14] (fun bb i wr => ∃ (q : Nat) (ms : List Pt) (b' en lv : Bool), q ≤ ks.length ∧ bb = .bool b' ∧ i = .int .i64 q ∧ Hid (RSt w wr g j l lo hi g2 bd k s0 s1 s2 s3 p cap sk ag ks (rowF c) b q ms b' en lv)) (fun _ i _ => ks.length - (intOf i).toNat)
  case atStart => exact ⟨0, [], b, false, false, Nat.zero_le _, rfl, rfl, hst0⟩
  case round =>
    clear hst0 x5
    obtain ⟨q, ms, b', en, lv, hq, rfl, rfl, hst⟩ := hrel
    by_cases hlt : q < ks.length
    · obtain ⟨rfl, hg2, hg3⟩ := hp.out (by omega)
      have hl1 : (l.set j (.mk k s0 s1 s2 s3 (some ⟨g2, 0, none⟩) cap sk ag lv en ks))[j]'(by simpa using hj) = .mk k s0 s1 s2 s3 (some ⟨g2, 0, none⟩) cap sk ag lv en ks := by simp
      have hl2 : (ms ++ ks.drop q).length = ks.length := by simp [hst.out.len]; omega
      have hkq : (ms ++ ks.drop q)[q]'(by omega) = ks[q] := by
        rw [List.getElem_append_right (by rw [hst.out.len]; exact Nat.le_refl _)]
        simp [hst.out.len]
      obtain ⟨-, -, -, -, -, x5, x6, x7, x8, x9⟩ := hst.out.row1.ten (by simpa using hj) hx.out hl1
      have hwk := hst.out.owk q hlt (Nat.le_refl _)
      have hbq := hbd.out q hlt
      have hb1 : bd 0 ≤ bd q := hm.out q (by omega) 0 (Nat.zero_le _)
      have hb2 : bd (q + 1) ≤ bd ks.length := hm.out ks.length (Nat.le_refl _) (q + 1) (by omega)
      have cK := ih.out _ (List.getElem_mem hlt) wr g2 q (q * 10) (ms ++ ks.drop q) (bd q) (bd (q + 1)) (by omega) rfl hkq hst.out.row2 hwk (by omega) (by have := hst.out.fr.size; omega) c b' hc
      replace cK := Lib.hid cK
      have hF : rowF c (ks.drop q) b' en lv = (stepP c ks[q] b' :: (rowF c (ks.drop (q + 1)) (ks[q].en || (b' && ks[q].sk)) ((stepP c ks[q] b').en || (en && ks[q].sk)) (lv || (stepP c ks[q] b').lv)).1, (rowF c (ks.drop (q + 1)) (ks[q].en || (b' && ks[q].sk)) ((stepP c ks[q] b').en || (en && ks[q].sk)) (lv || (stepP c ks[q] b').lv)).2) := by
        rw [List.drop_eq_getElem_cons hlt, rowF]
      generalize ks[q] = x at *
      obtain ⟨k', s0', s1', s2', s3', p', cap', sk', ag', lv', en', ks'⟩ := x
      obtain ⟨lv2, en2, ks2, hy⟩ := stepP_still c b' k' s0' s1' s2' s3' p' cap' sk' ag' lv' en' ks'
      rw [hy] at cK hF
      simp only [Pt.en, Pt.sk, Pt.lv] at hF
      obtain ⟨-, -, -, -, -, y5, y6, y7, y8, y9⟩ := hst.out.row2.ten (by omega) rfl hkq
      replace hF := Lib.hid hF
      clear hkq hwk
      replace cK := Lib.hid cK.out
      unfold GivesStep at cK
      replace hy := Lib.hid hy
      clear y5 y8
      have hgl : g < wr.heap.size := hst.out.row1.lt
      have hkeep : ∀ (w9 : World), Fr (fun k => k = g2 ∨ bd q ≤ k ∧ k < bd (q + 1)) wr w9 → PRow w9 g (l.set j (.mk k s0 s1 s2 s3 (some ⟨g2, 0, none⟩) cap sk ag lv en ks)) := fun w9 hf => hst.out.row1.keep (hf.block g hgl (by omega))
      have hkid : ∀ (w9 : World), PRow w9 g2 ((ms ++ List.drop q ks).set q (.mk k' s0' s1' s2' s3' p' cap' sk' ag' lv2 en2 ks2)) → (w9.cell? ⟨g2, q * 10 + 6, none⟩ = some (.bool sk') ∧ w9.cell? ⟨g2, q * 10 + 8, none⟩ = some (.bool lv2) ∧ w9.cell? ⟨g2, q * 10 + 9, none⟩ = some (.bool en2)) := fun w9 h => by
        obtain ⟨-, -, -, -, -, -, z6, -, z8, z9⟩ := h.ten (j := q) (by simp [hst.out.len]; omega) rfl (List.getElem_set_self _)
        exact ⟨z6, z8, z9⟩
      have hpar : ∀ (w9 : World), PRow w9 g (l.set j (.mk k s0 s1 s2 s3 (some ⟨g2, 0, none⟩) cap sk ag lv en ks)) → (w9.cell? ⟨g, xo + 8, none⟩ = some (.bool lv) ∧ w9.cell? ⟨g, xo + 9, none⟩ = some (.bool en)) := fun w9 h => by
        obtain ⟨-, -, -, -, -, -, -, -, z8, z9⟩ := h.ten (by simpa using hj) hx.out hl1
        exact ⟨z8, z9⟩
      replace hkeep := Lib.hid hkeep
      replace hkid := Lib.hid hkid
      replace hpar := Lib.hid hpar
      clear x6 x7 x8 x9 y6 y7 hl1 hl2
      go_wp2_with (go_at_call 37; ((with_reducible refine cK.out.mono ?_); rintro e w9 ⟨rfl, hr9, ho9, hf9⟩; have hr1 := hkeep.out w9 hf9; obtain ⟨z6, z8, z9⟩ := hkid.out w9 hr9; obtain ⟨v8, v9⟩ := hpar.out w9 hr1; have fr8 := hr1.frozen (xo + 8); have fr9 := hr1.frozen (xo + 9); replace hr9 := Lib.hid hr9; replace ho9 := Lib.hid ho9; replace hf9 := Lib.hid hf9; replace hr1 := Lib.hid hr1))
      all_goals
        exact ⟨⟨q + 1, _, _, _, _, by omega, rfl, by go_num, Lib.hid (hst.out.next hlt hj hx.out hg hg2 hg3 hhi hbd.out hh hF.out hr9.out ho9.out hf9.out (by simp [*]) (by simp [*]) (by simp [*]))⟩, by simp [intOf]; omega⟩
    · obtain rfl : q = ks.length := by omega
      go_wp2
      refine bodyPost_end (v := .tuple #[]) (by simp [results, Tryd.results62, go_sem]) rfl ?_
      rw [hG.out]
      exact hst.out.last rfl hcm.out hp.out hlo hhi hbd.out
end Go.Proofs.YtkpoegnekeiieaaDoor
namespace Go.Proofs.YtkpoegnekeiieaaDoor
open Go.RowKit
open Go.Tree7
open S7
open S5 (nl nl_length nl_small at_nl nl_at Gives idx idx_at ix ix_no ix_yes)
set_option maxRecDepth 100000 in
set_option maxHeartbeats 4000000 in
theorem alt_in {k s0 s1 s2 s3 : Int} {p : Option Addr} {cap : Nat} {sk ag : Bool} {ks : List Pt} (ih : ∀ x ∈ ks, StepOf x) (w : World) (g j xo : Nat) (l : List Pt) (lo hi : Nat) (hj : j < l.length) (hx : xo = j * 10) (hl : l[j] = .mk k s0 s1 s2 s3 p cap sk ag false false ks)
    (hr : PRow w g l) (ho : POwn w lo hi (.mk k s0 s1 s2 s3 p cap sk ag false false ks)) (hg : g < lo ∨ hi ≤ g) (hh : hi ≤ w.heap.size) (c : Nat) (b : Bool) (hc : c < 256) :
    Calls Tryd.prog 63 #[.pointer (some ⟨g, xo, none⟩), .int .u8 c, .bool b] w (GivesStep w g j l lo hi (.mk k s0 s1 s2 s3 p cap sk ag (altF c ks b false false).2.2 (altF c ks b false false).2.1 (altF c ks b false false).1)) := by
  obtain ⟨-, -, -, -, -, x5, -⟩ := hr.ten hj hx hl
  have hset : l.set j (.mk k s0 s1 s2 s3 p cap sk ag false false ks) = l := by rw [← hl]; exact List.set_getElem_self hj
  obtain ⟨bd, g2, hcap, hmax, hlo, hhi, hbd, hown, hp, hrow2⟩ : ∃ (bd : Nat → Nat) (g2 : Nat), ks.length ≤ cap ∧ cap ≤ maxLen ∧ lo ≤ bd 0 ∧ bd ks.length ≤ hi ∧ (∀ i, i < ks.length → bd i ≤ bd (i + 1)) ∧ (∀ i (h : i < ks.length), POwn w (bd i) (bd (i + 1)) ks[i]) ∧ (0 < ks.length → p = some ⟨g2, 0, none⟩ ∧ lo ≤ g2 ∧ g2 < bd 0) ∧ PRow w g2 ks := by
    cases ho with
    | mk bd h2 h3 h4 h5 h6 h7 h8 =>
      by_cases h0 : 0 < ks.length
      · obtain ⟨g2, a1, a2, a3, a4⟩ := h4 h0
        exact ⟨bd, g2, h2, h3, h5, h6, h7, h8, fun _ => ⟨a1, a2, a3⟩, a4⟩
      · obtain rfl : ks = [] := List.eq_nil_of_length_eq_zero (by omega)
        obtain ⟨cur, h9, -⟩ := hr
        exact ⟨bd, g, h2, h3, h5, h6, h7, h8, fun h => by simp at h, cur, h9, fun i hi => by simp at hi⟩
  have hst0 : RSt w w g j l lo hi g2 bd k s0 s1 s2 s3 p cap sk ag ks (altF c) b 0 [] b false false := ⟨rfl, by simpa using hrow2, by rw [hset]; exact hr, fun m h => by simp at h, fun m h _ => hown m h, Fr.refl _ _, by simp⟩
  have hm := pbd_mono hbd
  have hmax2 : ks.length ≤ 9223372036854775807 := by unfold maxLen at hmax; omega
  replace hst0 := Lib.hid hst0
  replace hm := Lib.hid hm
  replace hbd := Lib.hid hbd
  replace ih := Lib.hid ih
  replace hp := Lib.hid hp
  have hcm := Lib.hid (And.intro hcap hmax)
  obtain ⟨G, hG⟩ : ∃ G, G = GivesStep w g j l lo hi (.mk k s0 s1 s2 s3 p cap sk ag (altF c ks b false false).2.2 (altF c ks b false false).2.1 (altF c ks b false false).1) := ⟨_, rfl⟩
  rw [← hG]
  replace hG := Lib.hid hG
  replace hl := Lib.hid hl
  replace hx := Lib.hid hx
  clear hr ho hown hrow2 hcap hmax hset
  go_enter Tryd.func63, Tryd.ntmps63
  go_wp2
  go_loopw [13] (fun i wr => ∃ (q : Nat) (ms : List Pt) (en lv : Bool), q ≤ ks.length ∧ i = .int .i64 q ∧ Hid (RSt w wr g j l lo hi g2 bd k s0 s1 s2 s3 p cap sk ag ks (altF c) b q ms b en lv)) (fun i _ => ks.length - (intOf i).toNat)
  case atStart => exact ⟨0, [], false, false, Nat.zero_le _, rfl, hst0⟩
  case round =>
    clear hst0 x5
    obtain ⟨q, ms, en, lv, hq, rfl, hst⟩ := hrel
    by_cases hlt : q < ks.length
    · obtain ⟨rfl, hg2, hg3⟩ := hp.out (by omega)
      have hl1 : (l.set j (.mk k s0 s1 s2 s3 (some ⟨g2, 0, none⟩) cap sk ag lv en ks))[j]'(by simpa using hj) = .mk k s0 s1 s2 s3 (some ⟨g2, 0, none⟩) cap sk ag lv en ks := by simp
      have hl2 : (ms ++ ks.drop q).length = ks.length := by simp [hst.out.len]; omega
      have hkq : (ms ++ ks.drop q)[q]'(by omega) = ks[q] := by
        rw [List.getElem_append_right (by rw [hst.out.len]; exact Nat.le_refl _)]
        simp [hst.out.len]
      obtain ⟨-, -, -, -, -, x5, x6, x7, x8, x9⟩ := hst.out.row1.ten (by simpa using hj) hx.out hl1
      have hwk := hst.out.owk q hlt (Nat.le_refl _)
      have hbq := hbd.out q hlt
      have hb1 : bd 0 ≤ bd q := hm.out q (by omega) 0 (Nat.zero_le _)
      have hb2 : bd (q + 1) ≤ bd ks.length := hm.out ks.length (Nat.le_refl _) (q + 1) (by omega)
      have cK := ih.out _ (List.getElem_mem hlt) wr g2 q (q * 10) (ms ++ ks.drop q) (bd q) (bd (q + 1)) (by omega) rfl hkq hst.out.row2 hwk (by omega) (by have := hst.out.fr.size; omega) c b hc
      replace cK := Lib.hid cK
      have hF : altF c (ks.drop q) b en lv = (stepP c ks[q] b :: (altF c (ks.drop (q + 1)) b (en || (stepP c ks[q] b).en) (lv || (stepP c ks[q] b).lv)).1, (altF c (ks.drop (q + 1)) b (en || (stepP c ks[q] b).en) (lv || (stepP c ks[q] b).lv)).2) := by
        rw [List.drop_eq_getElem_cons hlt, altF]
      generalize ks[q] = x at *
      obtain ⟨k', s0', s1', s2', s3', p', cap', sk', ag', lv', en', ks'⟩ := x
      obtain ⟨lv2, en2, ks2, hy⟩ := stepP_still c b k' s0' s1' s2' s3' p' cap' sk' ag' lv' en' ks'
      rw [hy] at cK hF
      simp only [Pt.en, Pt.lv] at hF
      obtain ⟨-, -, -, -, -, y5, y6, y7, y8, y9⟩ := hst.out.row2.ten (by omega) rfl hkq
      replace hF := Lib.hid hF
      clear hkq hwk
      replace cK := Lib.hid cK.out
      unfold GivesStep at cK
      replace hy := Lib.hid hy
      clear y5 y8
      have hgl : g < wr.heap.size := hst.out.row1.lt
      have hkeep : ∀ (w9 : World), Fr (fun k => k = g2 ∨ bd q ≤ k ∧ k < bd (q + 1)) wr w9 → PRow w9 g (l.set j (.mk k s0 s1 s2 s3 (some ⟨g2, 0, none⟩) cap sk ag lv en ks)) := fun w9 hf => hst.out.row1.keep (hf.block g hgl (by omega))
      have hkid : ∀ (w9 : World), PRow w9 g2 ((ms ++ List.drop q ks).set q (.mk k' s0' s1' s2' s3' p' cap' sk' ag' lv2 en2 ks2)) → (w9.cell? ⟨g2, q * 10 + 6, none⟩ = some (.bool sk') ∧ w9.cell? ⟨g2, q * 10 + 8, none⟩ = some (.bool lv2) ∧ w9.cell? ⟨g2, q * 10 + 9, none⟩ = some (.bool en2)) := fun w9 h => by
        obtain ⟨-, -, -, -, -, -, z6, -, z8, z9⟩ := h.ten (j := q) (by simp [hst.out.len]; omega) rfl (List.getElem_set_self _)
        exact ⟨z6, z8, z9⟩
      have hpar : ∀ (w9 : World), PRow w9 g (l.set j (.mk k s0 s1 s2 s3 (some ⟨g2, 0, none⟩) cap sk ag lv en ks)) → (w9.cell? ⟨g, xo + 8, none⟩ = some (.bool lv) ∧ w9.cell? ⟨g, xo + 9, none⟩ = some (.bool en)) := fun w9 h => by
        obtain ⟨-, -, -, -, -, -, -, -, z8, z9⟩ := h.ten (by simpa using hj) hx.out hl1
        exact ⟨z8, z9⟩
      replace hkeep := Lib.hid hkeep
      replace hkid := Lib.hid hkid
      replace hpar := Lib.hid hpar
      clear x6 x7 x8 x9 y6 y7 hl1 hl2
      go_wp2_with (go_at_call 37; ((with_reducible refine cK.out.mono ?_); rintro e w9 ⟨rfl, hr9, ho9, hf9⟩; have hr1 := hkeep.out w9 hf9; obtain ⟨z6, z8, z9⟩ := hkid.out w9 hr9; obtain ⟨v8, v9⟩ := hpar.out w9 hr1; have fr8 := hr1.frozen (xo + 8); have fr9 := hr1.frozen (xo + 9); replace hr9 := Lib.hid hr9; replace ho9 := Lib.hid ho9; replace hf9 := Lib.hid hf9; replace hr1 := Lib.hid hr1))
      all_goals
        exact ⟨⟨q + 1, _, _, _, by omega, by go_num, Lib.hid (hst.out.next hlt hj hx.out hg hg2 hg3 hhi hbd.out hh hF.out hr9.out ho9.out hf9.out (by simp [*]) (by simp [*]) (by simp [*]))⟩, by simp [intOf]; omega⟩
    · obtain rfl : q = ks.length := by omega
      go_wp2
      refine bodyPost_end (v := .tuple #[]) (by simp [results, Tryd.results63, go_sem]) rfl ?_
      rw [hG.out]
      exact hst.out.last rfl hcm.out hp.out hlo hhi hbd.out
end Go.Proofs.YtkpoegnekeiieaaDoor
