/- Contracts of the reference's Key and of doffernum.SameInts. -/
import Derived.Test.YtkdjojmegohonaaDoorW10
namespace Go.Proofs.YtkdjojmegohonaaDoor
open Go.RowKit
theorem rowI_cell {w : World} {base n : Nat} {p : Option Addr} {cap : Nat} {l : List Nat} (h : w.ownsRow base 3 1 (.slice p n cap) n (l.map encI)) {k : Nat} (hk : k < l.length) :
    ∃ g, p = some ⟨g, 0, none⟩ ∧ base ≤ g ∧ g < w.heap.size ∧ l.length = n ∧ n ≤ cap ∧ w.cell? ⟨g, k, none⟩ = some (.int .i64 ((l[k] : Nat) : Int)) := by
  have hl : l.length = n := by have := h.1; simpa using this
  obtain ⟨p', cap', e, hc⟩ := row_form h
  simp only [Value.slice.injEq, true_and] at e
  obtain ⟨rfl, rfl⟩ := e
  obtain ⟨g, rfl, h1, h2, h3, h4⟩ := hc (by omega)
  refine ⟨g, rfl, h1, h2, hl, h3, ?_⟩
  rw [h4 k (by omega)]
  simp [hk, encI]
theorem four_eq' {j : Nat} (hj : j < 65536) : (b4 j).map encN = [.int .u8 ((j : Int) / 16777216), .int .u8 ((j : Int) / 65536 % 256), .int .u8 ((j : Int) / 256 % 256), .int .u8 ((j : Int) % 256)] := by
  simp only [b4, List.map_cons, List.map_nil, encN, List.cons.injEq, Value.int.injEq, true_and, and_true]
  omega
section
variable {w : World} {b g n : Nat} {f : Nat → Bool}
set_option maxHeartbeats 2000000 in
theorem rkey_in (h : Rf w b g n f) : Calls Tryd.prog 27 #[.pointer (some ⟨b, 0, none⟩)] w fun e w' => e = .returned (.string (strN (keyN (mem f n)))) ∧ Below w.heap.size w w' := by
  obtain ⟨i0, hi, hz0, hz1, hz2⟩ := info_parts info5
  have hle := h.le
  have hB : Below w.heap.size w (w.alloc (.cells #[] 5)) := (Below.refl _ _).alloc (Nat.le_refl _) _
  have L := rlist_in (h.bel hB (Nat.le_refl _))
  have hrow : (w.alloc (.cells #[] 5)).ownsRow w.heap.size 5 1 (.slice (some ⟨w.heap.size, 0, none⟩) 0 0) (4 * 0) ((keyN ((mem f n).take 0)).map encN) := by
    have := World.ownsRow_lit (base := w.heap.size) (e := 5) (size := 1) w #[] 0 (Nat.le_refl _) (by decide) rfl
    simpa [keyN] using this
  have hsm : ∀ x ∈ mem f n, x < 65536 := fun x hx => by have := (mem_mem.1 hx).1; omega
  have hlm := mem_le f n
  clear h
  generalize mem f n = l at *
  replace L := Lib.hid L
  replace hB := Lib.hid hB
  replace hrow := Lib.hid hrow
  replace hsm := Lib.hid hsm
  go_enter Tryd.func27, Tryd.ntmps27
  go_wp2_with (go_at_call 11; refine L.out.mono ?_; rintro e w1 ⟨lv, rfl, hlr, hb1⟩; have hs1 := hb1.size; replace hrow := Lib.hid (ownsRow_bel hrow.out hb1); replace hB := Lib.hid (hB.out.trans (hb1.mono hB.out.size)); clear hb1 L; obtain ⟨p, cap, rfl, -⟩ := row_form hlr; replace hlr := Lib.hid hlr; simp only [World.size_alloc] at hs1)
  go_loopw [3, 10] (fun v i wr => ∃ k : Nat, k ≤ l.length ∧ i = .int .i64 k ∧ wr.ownsRow w.heap.size 5 1 v (4 * k) ((keyN (l.take k)).map encN) ∧ wr.ownsRow (w.heap.size + 1) 3 1 (.slice p l.length cap) l.length (l.map encI) ∧ Below w.heap.size w wr) (fun _ i _ => l.length - (intOf i).toNat)
  case atStart => exact ⟨0, by omega, rfl, hrow.out, by have := hlr.out; simpa using this, hB.out⟩
  case round =>
    clear hrow hB hlr
    obtain ⟨k, hk, rfl, hrow, hlr, hB⟩ := hrel
    by_cases hlt : k < l.length
    · obtain ⟨gl, rfl, hg1, hg2, hg3, hg4, hck⟩ := rowI_cell hlr hlt
      have hx := hsm.out l[k] (List.getElem_mem hlt)
      have hts : Hid (l.take (k + 1) = l.take k ++ [l[k]]) := Lib.hid (List.take_succ_eq_append_getElem hlt)
      have h4 := Lib.hid (four_eq' hx)
      have hks := Lib.hid (keyN_snoc (l.take k) l[k])
      generalize l[k] = j at *
      generalize hxs : (keyN (l.take k)).map encN = xs at *
      replace hxs := Lib.hid hxs
      clear hg3
      generalize l.length = m at *
      replace hlr := Lib.hid hlr
      go_wp2_with (at_builtin; refine wpList_append_own _ rfl _ _ 52 rfl w.heap.size 5 i0 (.int .u8 0) 1 1 u52 hi hz0 hz1 hz2 rfl (by decide) _ _ _ rfl (hrow.alloc _) ⟨_, 0, none⟩ 4 4 [_, _, _, _] rfl rfl (cell_four_new _ _ _ _ _ _) (by simp [Value.oneCell']) (by simp [maxLen]; omega) (by omega) (by have := hB.size; simp; omega) ?_; intro v' w1 hown' hgrow _; replace hB := Lib.hid (below_grown hB hB.size hrow hgrow); replace hlr := Lib.hid (row_stays hlr.out hrow (by decide) hgrow); replace hrow := Lib.hid hown'; clear hown' hgrow)
      go_roundw
      case rel => exact ⟨k + 1, by omega, by go_num, by rw [hts.out, hks.out, List.map_append, hxs.out, h4.out]; exact hrow.out, hlr.out, hB.out⟩
      case measure => simp [intOf]; omega
    · have hkl : k = l.length := by omega
      have ht : l.take k = l := List.take_of_length_le (by omega)
      rw [ht] at hrow
      have hcv := conv_bytes (by rw [keyN_len, hkl]) hrow
      generalize hkk : strN (keyN l) = S at *
      replace hB := Lib.hid hB
      replace hkl := Lib.hid hkl
      clear hrow hlr ht hsm
      generalize l.length = m at *
      go_wp2
      go_ret
      exact ⟨by rw [hkk]; rfl, hB.out⟩

/-- Do the lists of two slices agree? -/
def Agree (l1 l2 : List Nat) (r : Bool) : Prop := r = true ↔ l1 = l2
theorem below_drewN {B : Nat} {a w : World} (h : Below B a w) (n : Nat) : Below B a (w.drewN n) := ⟨h.os, h.tape, h.output, h.size, h.block⟩
set_option maxHeartbeats 2000000 in
theorem sameints_in {w : World} {b1 b2 n1 n2 : Nat} {v1 v2 : Value} {l1 l2 : List Nat} {r : Bool} (h1 : w.ownsRow b1 3 1 v1 n1 (l1.map encI)) (h2 : w.ownsRow b2 3 1 v2 n2 (l2.map encI)) (hm1 : n1 ≤ 65536) (hm2 : n2 ≤ 65536) (hr : Agree l1 l2 r) :
    Calls Tryd.prog 18 #[v1, v2] w fun e w' => e = .returned (.bool r) ∧ Below w.heap.size w w' := by
  have e1 : l1.length = n1 := by have := h1.1; simpa using this
  have e2 : l2.length = n2 := by have := h2.1; simpa using this
  obtain ⟨p1, c1, rfl, -⟩ := row_form h1
  obtain ⟨p2, c2, rfl, -⟩ := row_form h2
  by_cases hn : n1 = n2
  · obtain rfl : n1 = n2 := hn
    replace e1 := Lib.hid e1
    replace e2 := Lib.hid e2
    replace hr := Lib.hid hr
    go_enter Tryd.func18, Tryd.ntmps18
    replace h1 := Lib.hid h1
    replace h2 := Lib.hid h2
    go_wp2
    go_loopw [13] (fun i wr => ∃ k : Nat, k ≤ n1 ∧ i = .int .i64 k ∧ Hid (l1.take k = l2.take k) ∧ Below w.heap.size w wr) (fun i _ => n1 - (intOf i).toNat)
    case atStart => exact ⟨0, by omega, rfl, Lib.hid rfl, Below.refl _ _⟩
    case round =>
      obtain ⟨k, hk, rfl, htk, hB⟩ := hrel
      by_cases hlt : k < n1
      · have hl1 : k < l1.length := by rw [e1.out]; exact hlt
        have hl2 : k < l2.length := by rw [e2.out]; exact hlt
        obtain ⟨g1, rfl, q1, q2, _, q3, hc1⟩ := rowI_cell h1.out hl1
        obtain ⟨g2, rfl, q4, q5, _, q6, hc2⟩ := rowI_cell h2.out hl2
        replace hc1 := (hB.cell (p := ⟨g1, k, none⟩) q2).trans hc1
        replace hc2 := (hB.cell (p := ⟨g2, k, none⟩) q5).trans hc2
        have ht1 : Hid (l1.take (k + 1) = l1.take k ++ [l1[k]]) := Lib.hid (List.take_succ_eq_append_getElem hl1)
        have ht2 : Hid (l2.take (k + 1) = l2.take k ++ [l2[k]]) := Lib.hid (List.take_succ_eq_append_getElem hl2)
        have hne : Hid (l1[k] ≠ l2[k] → r = false) := Lib.hid fun hne => by
          cases r with
          | false => rfl
          | true =>
            have := hr.out.1 rfl
            subst this
            exact absurd rfl hne
        generalize l1[k] = x at *
        generalize l2[k] = y at *
        clear hl1 hl2
        replace hB := Lib.hid hB
        have b1 : (0 : Int) ≤ k := by omega
        by_cases hxy : x = y
        · subst hxy
          go_wp2
          go_quiet (fail)
          go_wp2
          go_roundw
          case rel => exact ⟨k + 1, by omega, by go_num, Lib.hid (by rw [ht1.out, ht2.out, htk.out]), below_drewN hB.out _⟩
          case measure => simp [intOf]; omega
        · have hrf := hne.out hxy
          have hq : ((x : Int) == y) = false := by simp; omega
          have hq2 : ((x : Int) != y) = true := by simp; omega
          clear hr hne
          go_wp2
          go_quiet (fail)
          go_wp2
          go_ret
          exact ⟨by rw [hrf]; rfl, below_drewN hB.out _⟩
      · have hrt : r = true := hr.out.2 (by
          have := htk.out
          rw [List.take_of_length_le (by rw [e1.out]; omega), List.take_of_length_le (by rw [e2.out]; omega)] at this
          exact this)
        replace hB := Lib.hid hB
        clear hr htk
        go_wp2
        go_ret
        exact ⟨by rw [hrt]; rfl, hB.out⟩
  · have hrf : r = false := by
      cases r with
      | false => rfl
      | true => have := hr.1 rfl; subst this; omega
    have hq : ((n1 : Int) == n2) = false := by simp; omega
    have hq2 : ((n1 : Int) != n2) = true := by simp; omega
    clear hr h1 h2
    go_enter Tryd.func18, Tryd.ntmps18
    go_wp2
    go_ret
    exact ⟨by rw [hrf]; rfl, Below.refl _ _⟩
end
end Go.Proofs.YtkdjojmegohonaaDoor
