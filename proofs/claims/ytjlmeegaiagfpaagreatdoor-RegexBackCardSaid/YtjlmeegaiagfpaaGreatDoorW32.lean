/- The program's copied, once more: each node's kids lie in a row of their own, apart from all others. -/
import Derived.Test.YtjlmeegaiagfpaaGreatDoorW31
import Derived.Test.YtjlmeegaiagfpaaGreatDoorS7W41
namespace Go.Proofs.YtjlmeegaiagfpaaGreatDoor
open Go.RowKit
open Go.Tree7
open S7
open S5 (nl nl_length nl_small at_nl nl_at Gives idx idx_at ix ix_no ix_yes)
/-- A tree whose rows lie apart, between two blocks: a node's row first, then what is below each kid, one kid behind the other. -/
inductive Own (w : World) : Nat → Nat → T → Prop
  | mk {k u0 u1 u2 u3 : Int} {p : Option Addr} {cap : Nat} {mn mx : Int} {tx : ByteArray} {ks : List T} {lo hi : Nat} (bd : Nat → Nat) (hf : fits k u0 u1 u2 u3 mn mx tx) (hc : ks.length ≤ cap) (hm : cap ≤ maxLen)
      (hrow : 0 < ks.length → ∃ g, p = some ⟨g, 0, none⟩ ∧ lo ≤ g ∧ g < bd 0 ∧ NRowAt w g ks) (hlo : lo ≤ bd 0) (hhi : bd ks.length ≤ hi) (hbd : ∀ i, i < ks.length → bd i ≤ bd (i + 1)) (hk : ∀ i (h : i < ks.length), Own w (bd i) (bd (i + 1)) ks[i]) : Own w lo hi (.mk k u0 u1 u2 u3 p cap mn mx tx ks)
theorem bd_mono {bd : Nat → Nat} {n : Nat} (h : ∀ i, i < n → bd i ≤ bd (i + 1)) : ∀ j, j ≤ n → ∀ i, i ≤ j → bd i ≤ bd j := by
  intro j
  induction j with
  | zero => intro _ i hi; obtain rfl : i = 0 := by omega
            exact Nat.le_refl _
  | succ j ih =>
    intro hj i hi
    rcases Nat.lt_or_ge i (j + 1) with h1 | h1
    · exact Nat.le_trans (ih (by omega) i (by omega)) (h j (by omega))
    · obtain rfl : i = j + 1 := by omega
      exact Nat.le_refl _
theorem Own.low {w : World} {lo hi lo' hi' : Nat} {t : T} (h : Own w lo hi t) (hl : lo' ≤ lo) (hh : hi ≤ hi') : Own w lo' hi' t := by
  cases h with
  | mk bd h1 h2 h3 h4 h5 h6 h7 h8 => exact .mk bd h1 h2 h3 (fun h => by obtain ⟨g, e, a, b, c⟩ := h4 h; exact ⟨g, e, Nat.le_trans hl a, b, c⟩) (Nat.le_trans hl h5) (Nat.le_trans h6 hh) h7 h8
theorem Own.keep {w w' : World} : ∀ {t : T} {lo hi : Nat}, Own w lo hi t → (∀ b, lo ≤ b → b < hi → w'.heap[b]? = w.heap[b]?) → Own w' lo hi t := by
  intro t
  refine T.ind (P := fun t => ∀ {lo hi : Nat}, Own w lo hi t → (∀ b, lo ≤ b → b < hi → w'.heap[b]? = w.heap[b]?) → Own w' lo hi t) (fun k u0 u1 u2 u3 p cap mn mx tx ks ih => ?_) t
  intro lo hi h hk
  cases h with
  | mk bd h1 h2 h3 h4 h5 h6 h7 h8 =>
    have hm := bd_mono h7
    refine .mk bd h1 h2 h3 (fun h => ?_) h5 h6 h7 (fun i hi => ih _ (List.getElem_mem hi) (h8 i hi) fun b hb1 hb2 => hk b ?_ ?_)
    · obtain ⟨g, e, a, b, cur, c, d⟩ := h4 h
      have := hm _ (Nat.le_refl _) 0 (Nat.zero_le _)
      exact ⟨g, e, a, b, cur, (hk g a (by omega)).trans c, d⟩
    · have := hm i (by omega) 0 (Nat.zero_le _); omega
    · have := hm ks.length (Nat.le_refl _) (i + 1) (by omega); omega
theorem Own.inP {w : World} : ∀ {t : T} {lo hi : Nat}, Own w lo hi t → T.InP w (fun b => lo ≤ b ∧ b < hi) t := by
  intro t
  refine T.ind (P := fun t => ∀ {lo hi : Nat}, Own w lo hi t → T.InP w (fun b => lo ≤ b ∧ b < hi) t) (fun k u0 u1 u2 u3 p cap mn mx tx ks ih => ?_) t
  intro lo hi h
  cases h with
  | mk bd h1 h2 h3 h4 h5 h6 h7 h8 =>
    have hm := bd_mono h7
    refine .mk h2 h3 h1 (fun i hi2 => ?_) (fun t ht => ?_)
    · obtain ⟨g, e, a, b, c⟩ := h4 (by omega)
      have := hm _ (Nat.le_refl _) 0 (Nat.zero_le _)
      refine ⟨⟨g, 0, none⟩, e, ⟨a, by show g < hi; omega⟩, fun q hq => ?_⟩
      have e2 : (⟨g, 0, none⟩ : Addr).add (i * 9 + q) = ⟨g, i * 9 + q, none⟩ := by unfold Addr.add; split <;> simp_all
      rw [e2, c.cell hi2 hq]
    · obtain ⟨i, hi2, rfl⟩ := List.getElem_of_mem ht
      refine (ih _ (List.getElem_mem hi2) (h8 i hi2)).imp fun b hb => ⟨?_, ?_⟩
      · have := hm i (by omega) 0 (Nat.zero_le _); omega
      · have := hm ks.length (Nat.le_refl _) (i + 1) (by omega); omega
/-- Trees one behind the other. -/
def OwnL (w : World) (lo hi : Nat) (ms : List T) : Prop := ∃ bd : Nat → Nat, lo ≤ bd 0 ∧ (∀ i, i < ms.length → bd i ≤ bd (i + 1)) ∧ bd ms.length ≤ hi ∧ ∀ i (h : i < ms.length), Own w (bd i) (bd (i + 1)) ms[i]
theorem OwnL.nil (w : World) (lo hi : Nat) (h : lo ≤ hi) : OwnL w lo hi [] := ⟨fun _ => lo, Nat.le_refl _, fun i hi => by simp at hi, h, fun i hi => by simp at hi⟩
theorem OwnL.snoc {w w' : World} {lo hi lo2 hi2 : Nat} {ms : List T} {t : T} (h : OwnL w lo hi ms) (hk : ∀ b, lo ≤ b → b < hi → w'.heap[b]? = w.heap[b]?) (ht : Own w' lo2 hi2 t) (h1 : hi ≤ lo2) (h2 : lo2 ≤ hi2) : OwnL w' lo hi2 (ms ++ [t]) := by
  obtain ⟨bd, a1, a2, a3, a4⟩ := h
  have hm := bd_mono a2
  refine ⟨fun i => if i ≤ ms.length then bd i else hi2, by simpa using a1, fun i hi => ?_, by rw [List.length_append]; simp only [List.length_cons, List.length_nil]; rw [if_neg (by omega)]; exact Nat.le_refl _, fun i hi => ?_⟩
  · show (if i ≤ ms.length then bd i else hi2) ≤ (if i + 1 ≤ ms.length then bd (i + 1) else hi2)
    rw [List.length_append] at hi
    simp only [List.length_cons, List.length_nil] at hi
    rcases Nat.lt_or_ge i ms.length with h3 | h3
    · rw [if_pos (by omega), if_pos (by omega)]; exact a2 i h3
    · rw [if_pos (by omega), if_neg (by omega)]
      obtain rfl : i = ms.length := by omega
      omega
  · rw [List.length_append] at hi
    simp only [List.length_cons, List.length_nil] at hi
    rcases Nat.lt_or_ge i ms.length with h3 | h3
    · simp only [show i ≤ ms.length by omega, show i + 1 ≤ ms.length by omega, if_true, List.getElem_append_left h3]
      refine (a4 i h3).keep fun b hb1 hb2 => hk b ?_ ?_
      · have := hm i (by omega) 0 (Nat.zero_le _); omega
      · have := hm ms.length (Nat.le_refl _) (i + 1) (by omega); omega
    · obtain rfl : i = ms.length := by omega
      simp only [Nat.le_refl, if_true, show ¬ ms.length + 1 ≤ ms.length by omega, if_false, List.getElem_append_right (Nat.le_refl _), Nat.sub_self, List.getElem_cons_zero]
      exact ht.low (by omega) (Nat.le_refl _)
/-- What copied gives back. -/
def GivesCopy8 (w : World) (t : T) (e : Ending) (w' : World) : Prop :=
  ∃ m : T, e = .returned (.agg m.cells.toArray) ∧ Below w.heap.size w w' ∧ Own w' w.heap.size w'.heap.size m ∧ m.strip = t.strip
def CopyOf8 (w0 : World) (B0 : Nat) (t : T) : Prop := ∀ w', Below B0 w0 w' → Calls Tryz.prog 24 #[.agg t.cells.toArray] w' (GivesCopy8 w' t)
/-- The loop's state. -/
structure CSt8 (w0 wr : World) (b1 : Nat) (k u0 u1 u2 u3 mn mx : Int) (tx : ByteArray) (ks : List T) (pc : Option Addr) (capc : Nat) (ms : List T) (j : Nat) : Prop where
  len : ms.length = j
  box : wr.heap[b1]? = some (.cells #[.int .i64 k, .int .u64 u0, .int .u64 u1, .int .u64 u2, .int .u64 u3, .slice pc ks.length capc, .int .i64 mn, .int .i64 mx, .string tx] 27 (0, 0))
  res : wr.heap[b1 + 1]? = some (.cells #[.int .i64 0, .int .u64 0, .int .u64 0, .int .u64 0, .int .u64 0, .slice none 0 0, .int .i64 0, .int .i64 0, .string ⟨#[]⟩] 27 (0, 0))
  bel : Below b1 w0 wr
  siz : b1 + 1 < wr.heap.size
  row : 0 < ks.length → ∃ g, pc = some ⟨g, 0, none⟩ ∧ b1 + 2 ≤ g ∧ NRowAt wr g (ms ++ ks.drop j) ∧ OwnL wr (g + 1) wr.heap.size ms
  str : ms.map T.strip = (ks.take j).map T.strip
set_option maxRecDepth 100000 in
set_option maxHeartbeats 8000000 in
theorem copied_in8 {w0 : World} {B0 : Nat} (hn0 : B0 ≤ w0.heap.size) : ∀ t : T, T.In w0 B0 t → t.size ≤ 600 → CopyOf8 w0 B0 t := by
  refine T.ind fun k sw0 sw1 sw2 sw3 p cap mn mx tx ks ih => ?_
  intro hT hsz
  rw [T.size_mk] at hsz
  unfold CopyOf8
  intro w hB0
  have hlen : ks.length ≤ 1000 := by have := len_sum ks (Nat.le_refl _); rw [List.take_of_length_le (Nat.le_refl _)] at this; omega
  have hfit : Hid (fits k sw0 sw1 sw2 sw3 mn mx tx) := Lib.hid (by cases hT with | mk h1 h2 h3 => exact h3)
  have hih : ∀ t ∈ ks, CopyOf8 w0 B0 t := fun t ht => ih t ht (by cases hT with | mk h1 h2 h3 h4 h5 => exact h5 t ht) (by
    obtain ⟨i, hi, rfl⟩ := List.getElem_of_mem ht
    have h1 := sum_take ks hi
    have h2 := sum_le ks (i + 1)
    omega)
  have hBn : B0 ≤ w.heap.size := Nat.le_trans hn0 hB0.size
  have hb2 : Below w.heap.size w ((w.alloc (.cells #[.int .i64 k, .int .u64 sw0, .int .u64 sw1, .int .u64 sw2, .int .u64 sw3, .slice p ks.length cap, .int .i64 mn, .int .i64 mx, .string tx] 27)).alloc (.cells #[.int .i64 0, .int .u64 0, .int .u64 0, .int .u64 0, .int .u64 0, .slice none 0 0, .int .i64 0, .int .i64 0, .string ⟨#[]⟩] 27)) := ((Below.refl w.heap.size w).alloc (Nat.le_refl _) _).alloc (by simp) _
  have cL := Lib.hid (clone_in (hB0.trans (hb2.mono hBn)) hT hlen)
  have hstrip : Hid ((T.mk k sw0 sw1 sw2 sw3 p cap mn mx tx ks).strip = .mk k sw0 sw1 sw2 sw3 none 0 mn mx tx (ks.map T.strip)) := Lib.hid (T.strip_mk _ _ _ _ _ _ _ _ _ _ _)
  have hbx1 : Hid (((w.alloc (.cells #[.int .i64 k, .int .u64 sw0, .int .u64 sw1, .int .u64 sw2, .int .u64 sw3, .slice p ks.length cap, .int .i64 mn, .int .i64 mx, .string tx] 27)).alloc (.cells #[.int .i64 0, .int .u64 0, .int .u64 0, .int .u64 0, .int .u64 0, .slice none 0 0, .int .i64 0, .int .i64 0, .string ⟨#[]⟩] 27)).heap[w.heap.size]? = some (.cells #[.int .i64 k, .int .u64 sw0, .int .u64 sw1, .int .u64 sw2, .int .u64 sw3, .slice p ks.length cap, .int .i64 mn, .int .i64 mx, .string tx] 27 (0, 0))) := Lib.hid ((Below.heap_alloc _ _ _ (by simp)).trans (World.alloc_heap_new _ _))
  have hbx2 : Hid (((w.alloc (.cells #[.int .i64 k, .int .u64 sw0, .int .u64 sw1, .int .u64 sw2, .int .u64 sw3, .slice p ks.length cap, .int .i64 mn, .int .i64 mx, .string tx] 27)).alloc (.cells #[.int .i64 0, .int .u64 0, .int .u64 0, .int .u64 0, .int .u64 0, .slice none 0 0, .int .i64 0, .int .i64 0, .string ⟨#[]⟩] 27)).heap[w.heap.size + 1]? = some (.cells #[.int .i64 0, .int .u64 0, .int .u64 0, .int .u64 0, .int .u64 0, .slice none 0 0, .int .i64 0, .int .i64 0, .string ⟨#[]⟩] 27 (0, 0))) := Lib.hid (by have := World.alloc_heap_new (w.alloc (.cells #[.int .i64 k, .int .u64 sw0, .int .u64 sw1, .int .u64 sw2, .int .u64 sw3, .slice p ks.length cap, .int .i64 mn, .int .i64 mx, .string tx] 27)) (.cells #[.int .i64 0, .int .u64 0, .int .u64 0, .int .u64 0, .int .u64 0, .slice none 0 0, .int .i64 0, .int .i64 0, .string ⟨#[]⟩] 27); rw [World.size_alloc] at this; exact this)
  replace hB0 := Lib.hid hB0
  replace hb2 := Lib.hid hb2
  replace hih := Lib.hid hih
  have hG : ∃ G, G = GivesCopy8 w (T.mk k sw0 sw1 sw2 sw3 p cap mn mx tx ks) := ⟨_, rfl⟩
  obtain ⟨G, hG⟩ := hG
  rw [← hG]
  replace hG := Lib.hid hG
  simp only [T.cells]
  clear ih hsz hT
  go_enter Tryz.func24, Tryz.ntmps24
  go_wp2_with (go_at_call 43; (with_reducible refine cL.out.mono ?_); rintro e w1 ⟨pc, capc, rfl, hc1, hc2, hrow, hb⟩; have hk1 := cells_of ((hb.block w.heap.size (by simp; omega)).trans hbx1.out); have x5 := (hk1 5 _ rfl).1; have f5 := (hk1 5 _ rfl).2; clear hk1; have h1a := Lib.hid ((hb.block w.heap.size (by simp; omega)).trans hbx1.out); have h1b := Lib.hid ((hb.block (w.heap.size + 1) (by simp)).trans hbx2.out); have hw1 : w.heap.size + 1 < w1.heap.size := (Nat.lt_of_lt_of_le (by simp) hb.size); replace hrow := Lib.hid hrow; replace hb := Lib.hid hb)
  have hst0 : CSt8 w (w1.setCell ⟨w.heap.size, 5, none⟩ (.slice pc ks.length capc)) w.heap.size k sw0 sw1 sw2 sw3 mn mx tx ks pc capc [] 0 := by
    refine ⟨rfl, box_set h1a.out 5 _, (Below.heap_setCell _ _ _ _ (by show w.heap.size + 1 ≠ w.heap.size; omega)).trans h1b.out, (hb2.out.trans (hb.out.mono hb2.out.size)).setCell (p := ⟨w.heap.size, 5, none⟩) (Nat.le_refl _) _, by rw [size_set]; omega, fun h => ?_, rfl⟩
    obtain ⟨g, e, h1, h2⟩ := hrow.out h
    rw [World.size_alloc, World.size_alloc] at h1
    obtain ⟨cur, h3, h4⟩ := h2
    exact ⟨g, e, by omega, ⟨cur, (Below.heap_setCell _ _ _ _ (by show g ≠ w.heap.size; omega)).trans h3, by simpa using h4⟩, OwnL.nil _ _ _ (by rw [size_set]; have := (Array.getElem?_eq_some_iff.1 h3).1; omega)⟩
  replace hst0 := Lib.hid hst0
  go_loopw [12] (fun i wr => ∃ (j : Nat) (ms : List T), j ≤ ks.length ∧ i = .int .i64 j ∧ Hid (CSt8 w wr w.heap.size k sw0 sw1 sw2 sw3 mn mx tx ks pc capc ms j)) (fun i _ => ks.length - (intOf i).toNat)
  case atStart => exact ⟨0, [], Nat.zero_le _, rfl, hst0⟩
  case round =>
    clear hst0 x5 f5
    obtain ⟨j, ms, hj, rfl, hst⟩ := hrel
    by_cases hlt : j < ks.length
    · obtain ⟨g, hpc, hg2, hrw, hol⟩ := hst.out.row (by omega)
      replace hol := Lib.hid hol
      subst hpc
      have hl2 : (ms ++ ks.drop j).length = ks.length := by simp [hst.out.len]; omega
      have hjl := Lib.hid (show j < (ms ++ ks.drop j).length by omega)
      have hkj : (ms ++ ks.drop j)[j]'(by omega) = ks[j] := by
        rw [List.getElem_append_right (by rw [hst.out.len]; exact Nat.le_refl _)]
        simp [hst.out.len]
      have hcl : ∀ q, q < 9 → wr.cell? ⟨g, j * 9 + q, none⟩ = (ks[j].cells)[q]? := fun q hq => by rw [hrw.cell hjl.out hq, hkj]
      have hgw := hrw.lt
      have hi := hih.out _ (List.getElem_mem hlt)
      have htk : Hid ((ks.take (j + 1)).map T.strip = (ks.take j).map T.strip ++ [ks[j].strip]) := Lib.hid (by rw [List.take_succ_eq_append_getElem hlt, List.map_append]; rfl)
      unfold CopyOf8 at hi
      clear hkj hl2
      generalize ks[j] = kd at *
      obtain ⟨k', u0', u1', u2', u3', p', cap', mn', mx', tx', ks'⟩ := kd
      simp only [T.cells] at hcl hi
      obtain ⟨c0, c1, c2, c3, c4, c5, c6, c7, c8⟩ := nine_of hcl
      clear hcl
      have hk := cells_of hst.out.box
      have x5 := (hk 5 _ rfl).1
      clear hk
      have hsz1 : w.heap.size + 1 < wr.heap.size := hst.out.siz
      have hsz0 : w.heap.size < wr.heap.size := by omega
      have hneb : w.heap.size ≠ g := by omega
      have hne4 : wr.heap.size ≠ g := by omega
      have hbk := Lib.hid (World.alloc_heap_new wr (.cells #[.int .i64 k', .int .u64 u0', .int .u64 u1', .int .u64 u2', .int .u64 u3', .slice p' ks'.length cap', .int .i64 mn', .int .i64 mx', .string tx'] 27))
      have hbx : Hid ((wr.alloc (.cells #[.int .i64 k', .int .u64 u0', .int .u64 u1', .int .u64 u2', .int .u64 u3', .slice p' ks'.length cap', .int .i64 mn', .int .i64 mx', .string tx'] 27)).heap[w.heap.size]? = some (.cells #[.int .i64 k, .int .u64 sw0, .int .u64 sw1, .int .u64 sw2, .int .u64 sw3, .slice (some ⟨g, 0, none⟩) ks.length capc, .int .i64 mn, .int .i64 mx, .string tx] 27 (0, 0))) := Lib.hid ((Below.heap_alloc _ _ _ hsz0).trans hst.out.box)
      have hbx2k : Hid ((wr.alloc (.cells #[.int .i64 k', .int .u64 u0', .int .u64 u1', .int .u64 u2', .int .u64 u3', .slice p' ks'.length cap', .int .i64 mn', .int .i64 mx', .string tx'] 27)).heap[w.heap.size + 1]? = some (.cells #[.int .i64 0, .int .u64 0, .int .u64 0, .int .u64 0, .int .u64 0, .slice none 0 0, .int .i64 0, .int .i64 0, .string ⟨#[]⟩] 27 (0, 0))) := Lib.hid ((Below.heap_alloc _ _ _ hsz1).trans hst.out.res)
      have hgk : Hid (g < (wr.alloc (.cells #[.int .i64 k', .int .u64 u0', .int .u64 u1', .int .u64 u2', .int .u64 u3', .slice p' ks'.length cap', .int .i64 mn', .int .i64 mx', .string tx'] 27)).heap.size) := Lib.hid (by simp; omega)
      have hbelk : Hid (Below w.heap.size w (wr.alloc (.cells #[.int .i64 k', .int .u64 u0', .int .u64 u1', .int .u64 u2', .int .u64 u3', .slice p' ks'.length cap', .int .i64 mn', .int .i64 mx', .string tx'] 27)).drew) := Lib.hid ((hst.out.bel.alloc (by omega) _).drew)
      have hBk : Below wr.heap.size wr (wr.alloc (.cells #[.int .i64 k', .int .u64 u0', .int .u64 u1', .int .u64 u2', .int .u64 u3', .slice p' ks'.length cap', .int .i64 mn', .int .i64 mx', .string tx'] 27)).drew := ((Below.refl _ wr).alloc (Nat.le_refl _) _).drew
      have hrow8 := Lib.hid (hrw.bel hBk)
      have hBk8 := Lib.hid hBk
      have cC := Lib.hid (hi (wr.alloc (.cells #[.int .i64 k', .int .u64 u0', .int .u64 u1', .int .u64 u2', .int .u64 u3', .slice p' ks'.length cap', .int .i64 mn', .int .i64 mx', .string tx'] 27)).drew (hB0.out.trans (hbelk.out.mono hBn)))
      have hsk : wr.heap.size < (wr.alloc (.cells #[.int .i64 k', .int .u64 u0', .int .u64 u1', .int .u64 u2', .int .u64 u3', .slice p' ks'.length cap', .int .i64 mn', .int .i64 mx', .string tx'] 27)).heap.size := by simp
      clear hi hrw hBk
      go_wp2
      generalize wr.alloc (.cells #[.int .i64 k', .int .u64 u0', .int .u64 u1', .int .u64 u2', .int .u64 u3', .slice p' ks'.length cap', .int .i64 mn', .int .i64 mx', .string tx'] 27) = wk at *
      refine wp_region_held_drew (S := Sg g wk) (by kernel_rfl) (Sg.drew (Sg.refl g wk)) (fun hHeld => ?_)
      refine wpAnyH_take (i := 0) (v := ?v0u1) rfl (by kernel_rfl) (by kernel_rfl) (by kernel_rfl) (fun _ _ _ h => h) (Or.inl ⟨by rfl, ?h0u1⟩) hHeld ?r0u1
      case h0u1 => (intro wq hSw; go_simp <;> with_reducible rfl)
      try simp only [Act.put, List.setIfInBounds_toArray]
      refine wpAnyH_take (i := 1) (v := ?v1u2) rfl (by kernel_rfl) (by kernel_rfl) (by kernel_rfl) (fun _ _ _ h => h) (Or.inl ⟨by rfl, ?h1u2⟩) hHeld ?r1u2
      case h1u2 => (intro wq hSw; have y5 := (cells_of (Sg.block hSw hneb hbx.out) 5 _ rfl).1; go_simp <;> with_reducible rfl)
      try simp only [Act.put]
      refine wpAnyH_take (i := 2) (v := ?v2u3) rfl (by kernel_rfl) (by kernel_rfl) (by kernel_rfl) (fun _ _ _ h => h) (Or.inl ⟨by rfl, ?h2u3⟩) hHeld ?r2u3
      case h2u3 => (intro wq hSw; go_simp <;> with_reducible rfl)
      try simp only [Act.put]
      refine wpAnyH_take (i := 3) (v := ?v3u4) rfl (by kernel_rfl) (by kernel_rfl) (by kernel_rfl) (fun _ _ _ h => h) (Or.inl ⟨by rfl, ?h3u4⟩) hHeld ?r3u4
      case h3u4 => (intro wq hSw; have hk := cells_of (Sg.block hSw hne4 hbk.out); have y0 := (hk 0 _ rfl).1; have y1 := (hk 1 _ rfl).1; have y2 := (hk 2 _ rfl).1; have y3 := (hk 3 _ rfl).1; have y4 := (hk 4 _ rfl).1; have y5 := (hk 5 _ rfl).1; have y6 := (hk 6 _ rfl).1; have y7 := (hk 7 _ rfl).1; have y8 := (hk 8 _ rfl).1; clear hk; go_simp <;> with_reducible rfl)
      try simp only [Act.put]
      refine wpAnyH_ready (rs := [4]) (by kernel_rfl) (by simp) ?_
      refine AllReadyH.cons (o := _) rfl (fun K hK => ?_) AllReadyH.nil
      go_simp
      (go_at_call 24; (with_reducible refine cC.out.mono ?_); rintro e w9 ⟨⟨km, u0m, u1m, u2m, u3m, pm, capm, mnm, mxm, txm, ksm⟩, rfl, hb, hmi, hms⟩; simp only [T.cells]; have hS9 := Lib.hid (Sg.step hHeld hgk.out hb); have hrow9 := Lib.hid (hrow8.out.bel hb); have hmi9 := Lib.hid hmi; have hms9 := Lib.hid hms; have hw9 := Lib.hid hb; clear hmi hms hb; have f0 : w9.frozen? ⟨g, j * 9, none⟩ = false := hrow9.out.frozen (j * 9); obtain ⟨z0, hz0⟩ : ∃ z, w9.cell? ⟨g, j * 9, none⟩ = some z := row_some hrow9.out hjl.out (q := 0) (by decide); have f1 := hrow9.out.frozen (j * 9 + 1); obtain ⟨z1, hz1⟩ := row_some hrow9.out hjl.out (q := 1) (by decide); have f2 := hrow9.out.frozen (j * 9 + 2); obtain ⟨z2, hz2⟩ := row_some hrow9.out hjl.out (q := 2) (by decide); have f3 := hrow9.out.frozen (j * 9 + 3); obtain ⟨z3, hz3⟩ := row_some hrow9.out hjl.out (q := 3) (by decide); have f4 := hrow9.out.frozen (j * 9 + 4); obtain ⟨z4, hz4⟩ := row_some hrow9.out hjl.out (q := 4) (by decide); have f5 := hrow9.out.frozen (j * 9 + 5); obtain ⟨z5, hz5⟩ := row_some hrow9.out hjl.out (q := 5) (by decide); have f6 := hrow9.out.frozen (j * 9 + 6); obtain ⟨z6, hz6⟩ := row_some hrow9.out hjl.out (q := 6) (by decide); have f7 := hrow9.out.frozen (j * 9 + 7); obtain ⟨z7, hz7⟩ := row_some hrow9.out hjl.out (q := 7) (by decide); have f8 := hrow9.out.frozen (j * 9 + 8); obtain ⟨z8, hz8⟩ := row_some hrow9.out hjl.out (q := 8) (by decide))
      try dsimp only
      refine hK.out _ _ (hS9.out) (fun hHeld2 => ?_)
      clear hK K hHeld
      have hHeld := hHeld2
      clear hHeld2
      try simp only [Act.put, List.setIfInBounds_toArray, List.set_cons_zero, List.set_cons_succ]
      refine wpAnyH_take (i := 5) (v := ?v5u5) rfl (by kernel_rfl) (by kernel_rfl) (by kernel_rfl) (fun _ _ _ h => h) (Or.inl ⟨by rfl, ?h5u5⟩) hHeld ?r5u5
      case h5u5 => (intro wq hSw; go_simp <;> with_reducible rfl)
      try simp only [Act.put, List.setIfInBounds_toArray]
      refine wpAnyH_ready (rs := [6]) (by kernel_rfl) (by simp) ?_
      refine AllReadyH.cons (o := _) rfl (fun K hK => ?_) AllReadyH.nil
      go_simp
      try dsimp only
      refine hK.out _ _ ((Sg.set hHeld (hrow9.out.set hjl.out (T.mk km u0m u1m u2m u3m pm capm mnm mxm txm ksm) rfl _ rfl).2.2.1 (hrow9.out.set hjl.out (T.mk km u0m u1m u2m u3m pm capm mnm mxm txm ksm) rfl _ rfl).2.2.2)) (fun hHeld2 => ?_)
      clear hK K hHeld
      have hHeld := hHeld2
      clear hHeld2
      try simp only [Act.put, List.setIfInBounds_toArray, List.set_cons_zero, List.set_cons_succ]
      refine wpAnyH_done (by kernel_rfl) ?_ _
      obtain ⟨q1, q2, q3, q4⟩ := hrow9.out.set hjl.out (T.mk km u0m u1m u2m u3m pm capm mnm mxm txm ksm) rfl _ rfl
      generalize hW : World.setCell _ (⟨g, j * 9 + 8, none⟩ : Addr) _ = W9 at *
      clear hW
      go_wp2
      go_roundw
      case rel =>
        have hwkd : wk.drew.heap.size = wk.heap.size := rfl
        have hs9 := hw9.out.size
        have hwkr : wr.heap.size ≤ wk.heap.size := hBk8.out.size
        refine ⟨j + 1, ms ++ [T.mk km u0m u1m u2m u3m pm capm mnm mxm txm ksm], by omega, by go_num, Lib.hid ⟨by simp [hst.out.len], (q3 _ hneb).trans ((hw9.out.block _ (by omega)).trans hbx.out), (q3 _ (by omega)).trans ((hw9.out.block _ (by omega)).trans hbx2k.out), (hbelk.out.trans (hw9.out.mono (by have := hbelk.out.size; omega))).trans (q4 _ (by omega)), by rw [q2]; omega, fun _ => ⟨g, rfl, hg2, ?_, ?_⟩, ?_⟩⟩
        · rw [← set_drop hst.out.len hlt]
          exact q1
        · refine hol.out.snoc (lo2 := wk.heap.size) (fun b hb1 hb2 => (q3 b (by omega)).trans ((hw9.out.block b (by show b < wk.heap.size; omega)).trans (hBk8.out.block b hb2))) ((hmi9.out.keep fun b hb1 hb2 => q3 b (by have : wk.heap.size ≤ b := hb1; have := hgk.out; omega)).low (Nat.le_refl _) (by rw [q2]; exact Nat.le_refl _)) hwkr (by rw [q2]; exact hs9)
        · rw [List.map_append, hst.out.str, htk.out, List.map_cons, List.map_nil, hms9.out]
      case measure => simp [intOf]; omega

    · obtain rfl : j = ks.length := by omega
      have hk := cells_of hst.out.box
      have x0 := (hk 0 _ rfl).1; have x1 := (hk 1 _ rfl).1; have x2 := (hk 2 _ rfl).1; have x3 := (hk 3 _ rfl).1; have x4 := (hk 4 _ rfl).1; have x5 := (hk 5 _ rfl).1; have x6 := (hk 6 _ rfl).1; have x7 := (hk 7 _ rfl).1; have x8 := (hk 8 _ rfl).1
      clear hk
      have hk := cells_of hst.out.res
      have y0 := (hk 0 _ rfl).1; have y1 := (hk 1 _ rfl).1; have y2 := (hk 2 _ rfl).1; have y3 := (hk 3 _ rfl).1; have y4 := (hk 4 _ rfl).1; have y5 := (hk 5 _ rfl).1; have y6 := (hk 6 _ rfl).1; have y7 := (hk 7 _ rfl).1; have y8 := (hk 8 _ rfl).1
      have f0 := (hk 0 _ rfl).2; have f1 := (hk 1 _ rfl).2; have f2 := (hk 2 _ rfl).2; have f3 := (hk 3 _ rfl).2; have f4 := (hk 4 _ rfl).2; have f5 := (hk 5 _ rfl).2; have f6 := (hk 6 _ rfl).2; have f7 := (hk 7 _ rfl).2; have f8 := (hk 8 _ rfl).2
      clear hk
      have hsz1 : w.heap.size + 1 < wr.heap.size := hst.out.siz
      have hsz0 : w.heap.size < wr.heap.size := by omega
      go_wp2
      obtain ⟨q1, q2, q3, q4⟩ := set9 (w := wr) (b := w.heap.size + 1) (d0 := .int .i64 k) (d1 := .int .u64 sw0) (d2 := .int .u64 sw1) (d3 := .int .u64 sw2) (d4 := .int .u64 sw3) (d5 := .slice pc ks.length capc) (d6 := .int .i64 mn) (d7 := .int .i64 mx) (d8 := .string tx) hst.out.res _ rfl
      generalize hW : World.setCell _ (⟨w.heap.size + 1, 8, none⟩ : Addr) _ = W at *
      clear hW
      have hk := cells_of q1
      have z0 := (hk 0 _ rfl).1; have z1 := (hk 1 _ rfl).1; have z2 := (hk 2 _ rfl).1; have z3 := (hk 3 _ rfl).1; have z4 := (hk 4 _ rfl).1; have z5 := (hk 5 _ rfl).1; have z6 := (hk 6 _ rfl).1; have z7 := (hk 7 _ rfl).1; have z8 := (hk 8 _ rfl).1
      clear hk
      have hln := hst.out.len
      refine bodyPost_ret (v := .agg #[.int .i64 k, .int .u64 sw0, .int .u64 sw1, .int .u64 sw2, .int .u64 sw3, .slice pc ks.length capc, .int .i64 mn, .int .i64 mx, .string tx]) (by simp [results, Tryz.results24, go_sem, z0, z1, z2, z3, z4, z5, z6, z7, z8]) rfl ?_
      rw [hG.out]
      have hdr : ms ++ ks.drop ks.length = ms := by simp
      have hsz9 : W.heap.size = wr.heap.size := q2
      refine ⟨.mk k sw0 sw1 sw2 sw3 pc capc mn mx tx ms, by simp only [T.cells, hln], hst.out.bel.trans (q4 _ (by omega)), ?_, by rw [hstrip.out, T.strip_mk, hst.out.str, List.take_of_length_le (Nat.le_refl _)]⟩
      by_cases h0 : 0 < ks.length
      · obtain ⟨g, e, h1, h2, bd, b1, b2, b3, b4⟩ := hst.out.row h0
        rw [hdr] at h2
        obtain ⟨cur, h3, h4⟩ := h2
        have hm := bd_mono b2
        refine .mk bd hfit.out (by rw [hln]; exact hc1) hc2 (fun _ => ⟨g, e, by omega, by omega, cur, (q3 g (by omega)).trans h3, h4⟩) (by omega) (by omega) b2 (fun i hi => (b4 i hi).keep fun b hb1 hb2 => q3 b (by have := hm i (by omega) 0 (Nat.zero_le _); omega))
      · exact .mk (fun _ => W.heap.size) hfit.out (by rw [hln]; exact hc1) hc2 (fun h => by omega) (by omega) (Nat.le_refl _) (fun i hi => by omega) (fun i hi => by omega)
end Go.Proofs.YtjlmeegaiagfpaaGreatDoor
