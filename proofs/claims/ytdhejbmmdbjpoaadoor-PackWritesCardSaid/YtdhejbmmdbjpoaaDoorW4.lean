/- The reader in memory. first: what number bytes begin with. -/
import Derived.Test.YtdhejbmmdbjpoaaDoorW2
import Derived.StillTailTactics
import Derived.OwnWalk
namespace Go.Proofs.YtdhejbmmdbjpoaaDoor
open Go.RowKit
/-- Bytes begin with the number that p is. -/
def IsNum (l p : List Nat) : Prop := (∃ s, l = p ++ s) ∧ Ends p ∧ p.length ≤ 5 ∧ ∀ hne : p ≠ [], p.length = 1 ∨ p.getLast hne ≠ 0
/-- The first k bytes are all 128 or above. -/
def High (l : List Nat) (k : Nat) : Prop := ∀ j (hj : j < l.length), j < k → 128 ≤ l[j]
theorem ends_pos {p : List Nat} (h : Ends p) : 0 < p.length := by
  cases p with
  | nil => exact h.elim
  | cons => simp
theorem no_num {l : List Nat} {k : Nat} (h : High l k) (hk : l.length ≤ k ∨ 5 ≤ k) : ¬ ∃ p, IsNum l p := by
  rintro ⟨p, ⟨s, rfl⟩, he, h5, -⟩
  have hp := ends_pos he
  have hl := (ends_get he (p.length - 1) (by omega)).2 (by omega)
  have hx := h (p.length - 1) (by simp; omega) (by simp at hk; omega)
  rw [List.getElem_append_left (by omega)] at hx
  omega
theorem the_num {l p : List Nat} {k : Nat} (hk : k < l.length) (h : High l k) (hc : l[k] < 128) (hp : IsNum l p) : p = l.take (k + 1) := by
  obtain ⟨⟨s, e⟩, he, -⟩ := hp
  exact (ends_unique p _ s (l.drop (k + 1)) he (ends_take hk hc h) (by rw [List.take_append_drop]; exact e.symm)).1
theorem is_num {l : List Nat} {k : Nat} (hk : k < l.length) (h5 : k < 5) (h : High l k) (hc : l[k] < 128) (hz : l[k] ≠ 0 ∨ k = 0) : IsNum l (l.take (k + 1)) := by
  refine ⟨⟨l.drop (k + 1), (List.take_append_drop _ _).symm⟩, ends_take hk hc h, by rw [List.length_take]; omega, fun hne => ?_⟩
  rcases hz with hz | hz
  · refine .inr ?_
    rw [List.getLast_eq_getElem]
    simp only [List.length_take, List.getElem_take]
    have : min (k + 1) l.length - 1 = k := by omega
    simpa [this] using hz
  · exact .inl (by rw [List.length_take]; omega)
theorem not_num {l : List Nat} {k : Nat} (hk : k < l.length) (h : High l k) (hc : l[k] = 0) (hz : 0 < k) : ¬ ∃ p, IsNum l p := by
  rintro ⟨p, hp⟩
  obtain rfl := the_num hk h (by omega) hp
  have hne : l.take (k + 1) ≠ [] := by intro e; have := congrArg List.length e; simp only [List.length_take, List.length_nil] at this; omega
  have hlen : (l.take (k + 1)).length = k + 1 := by rw [List.length_take]; omega
  rcases hp.2.2.2 hne with h1 | h1
  · omega
  · refine h1 ?_
    rw [List.getLast_eq_getElem]
    simp only [List.getElem_take, List.length_take]
    have : min (k + 1) l.length - 1 = k := by omega
    simpa [this] using hc
theorem high_snoc {l : List Nat} {k : Nat} (hk : k < l.length) (h : High l k) (hc : 128 ≤ l[k]) : High l (k + 1) := fun j hj hjk => by
  by_cases e : j = k
  · subst e; exact hc
  · exact h j hj (by omega)
theorem valL_snoc {l : List Nat} {k : Nat} (hk : k < l.length) : valL (l.take (k + 1)) = valL (l.take k) + l[k] % 128 * 128 ^ k := by
  rw [List.take_succ_eq_append_getElem hk, valL_append, List.length_take, Nat.min_eq_left (by omega), Nat.mul_comm]
  simp [valL]
theorem valL_5 {l : List Nat} {k : Nat} (hk : k ≤ 5) : valL (l.take k) < 34359738368 := by
  have h1 := valL_lt (l.take k)
  have h2 : (l.take k).length ≤ 5 := by rw [List.length_take]; omega
  exact Nat.lt_of_lt_of_le h1 (Nat.le_trans (Nat.pow_le_pow_right (by decide) h2) (by decide))
/-- The number behind one more byte, as the program reckons it. -/
theorem reckon {l : List Nat} {k : Nat} (hk : k < l.length) : ((valL (l.take (k + 1)) : Nat) : Int) = (valL (l.take k) : Nat) + ((l[k] : Nat) : Int) % 128 * 2 ^ (7 * k) := by
  rw [valL_snoc hk]
  have : (128 : Nat) ^ k = 2 ^ (7 * k) := by rw [Nat.pow_mul]
  rw [this]
  simp

/-- A reader without an error: the object in block b; l is left. -/
def Rd (w : World) (b : Nat) (l : List Nat) : Prop :=
  ∃ g off c, w.heap[b]? = some (.cells #[.slice (some ⟨g, off, none⟩) l.length c, .nilIface] 61 (0, 0)) ∧ Src w (some ⟨g, off, none⟩) l.length c l ∧ (g ≠ b ∧ ∃ cs, w.heap[g]? = some (.cells cs 5 (0, 0)))
theorem Rd.lt {w : World} {b : Nat} {l : List Nat} (h : Rd w b l) : b < w.heap.size := by
  obtain ⟨g, off, c, hb, -⟩ := h
  exact lt_of_block hb
theorem Rd.bel {w w' : World} {b : Nat} {l : List Nat} (h : Rd w b l) (hb : Bel w w') : Rd w' b l := by
  obtain ⟨g, off, c, h1, h2, h3⟩ := h
  exact ⟨g, off, c, (hb.block b (lt_of_block h1)).trans h1, h2.bel hb, h3.1, by obtain ⟨cs, hc⟩ := h3.2; exact ⟨cs, (hb.block g (lt_of_block hc)).trans hc⟩⟩
theorem Rd.small {w : World} {b : Nat} {l : List Nat} (h : Rd w b l) : ∀ x ∈ l, x ≤ 255 := by
  obtain ⟨g, off, c, -, h2, -⟩ := h
  exact h2.small

set_option maxRecDepth 10000 in
set_option maxHeartbeats 1000000 in
theorem first_in {w : World} {g off c : Nat} {l : List Nat} (hs : Src w (some ⟨g, off, none⟩) l.length c l) (hm : l.length ≤ 900000) {E1 E3 : Value}
    (h1 : w.cell? ⟨1, 0, none⟩ = some (.iface 78 E1)) (h3 : w.cell? ⟨3, 0, none⟩ = some (.iface 78 E3)) :
    Calls Tryd.prog 31 #[.slice (some ⟨g, off, none⟩) l.length c] w fun e w' =>
      ((∃ p, IsNum l p ∧ e = .returned (.tuple #[.int .i64 (valL p : Nat), .int .i64 p.length, .nilIface])) ∨ ((¬ ∃ p, IsNum l p) ∧ ∃ E, (E = E1 ∨ E = E3) ∧ e = .returned (.tuple #[.int .i64 0, .int .i64 0, .iface 78 E]))) ∧ Below w.heap.size w w' := by
  have hcap := hs.cap
  have hcell : ∀ k x, l[k]? = some x → w.cell? ⟨g, off + k, none⟩ = some (.int .u8 ((x : Nat) : Int)) := fun k x hx => by
    obtain ⟨hk, rfl⟩ := List.getElem?_eq_some_iff.1 hx
    obtain ⟨b2, off2, e, hc⟩ := hs.at (by omega)
    cases e
    exact hc k hk
  have hsm := hs.small
  generalize hn : l.length = n at *
  replace hcell := Lib.hid hcell
  replace hsm := Lib.hid hsm
  replace hn := Lib.hid hn
  clear hs
  have h0K : (0 : Int) ≤ n := by omega
  have hst : ∃ k : Nat, k ≤ n ∧ k ≤ 5 ∧ (.int .i64 0 : Value) = .int .i64 (valL (l.take k) : Nat) ∧ (.int .i64 0 : Value) = .int .i64 k ∧ Hid (High l k) := ⟨0, by omega, by omega, rfl, rfl, Lib.hid (fun _ _ h => by omega)⟩
  replace hst := Lib.hid hst
  by_cases h5 : n ≤ 5
  · have h5i : ((n : Nat) : Int) ≤ 5 := by omega
    have hci : ((n : Nat) : Int) ≤ c := by omega
    go_enter Tryd.func31, Tryd.ntmps31
    go_wp2
    go_loop [2, 13] (fun s2 s13 => ∃ k : Nat, k ≤ n ∧ k ≤ 5 ∧ s2 = .int .i64 (valL (l.take k) : Nat) ∧ s13 = .int .i64 k ∧ Hid (High l k)) (fun _ s13 => n - (intOf s13).toNat)
    case atStart => exact hst.out
    case round =>
      clear hst
      obtain ⟨k, hkn, hk5, rfl, rfl, hH⟩ := hrel
      by_cases hk : k < n
      · have hkl : k < l.length := by rw [hn.out]; omega
        obtain ⟨x, hx⟩ : ∃ x, l[k]? = some x := ⟨l[k], List.getElem?_eq_getElem hkl⟩
        have hc := hcell.out k x hx
        have hxe : l[k] = x := (List.getElem?_eq_some_iff.1 hx).2
        have hx255 : x ≤ 255 := hsm.out x (List.mem_of_getElem? hx)
        have hv := reckon hkl
        have hv5 := valL_5 (l := l) (k := k + 1) (by omega)
        rw [hxe] at hv
        generalize hV1 : valL (l.take (k + 1)) = V1 at *
        generalize hV : valL (l.take k) = V at *
        have hw : wrap64 ((V : Int) + wrap64 ((x : Int) % 128 * 2 ^ (7 * k))) = (V1 : Int) := by
          have h2 : (0 : Int) ≤ (x : Int) % 128 * 2 ^ (7 * k) := Int.mul_nonneg (by omega) (Int.le_of_lt (Int.pow_pos (by decide)))
          generalize (x : Int) % 128 * 2 ^ (7 * k) = y at *
          unfold wrap64
          omega
        replace hV1 := Lib.hid hV1
        replace hV := Lib.hid hV
        replace hv := Lib.hid hv
        replace hv5 := Lib.hid hv5
        replace hxe := Lib.hid hxe
        replace hx := Lib.hid hx
        replace hkl := Lib.hid hkl
        by_cases hA : 128 ≤ x
        · have hA1 : 128 ≤ (x : Int) := by omega
          go_wp2
          go_round
          case rel => exact ⟨k + 1, by omega, by omega, by rw [hV1.out, hw], by go_num, Lib.hid (high_snoc hkl.out hH.out (by rw [hxe.out]; exact hA))⟩
          case measure => simp [intOf]; omega
        · have hA1 : ¬ 128 ≤ (x : Int) := by omega
          have hnum : (x ≠ 0 ∨ k = 0) → IsNum l (l.take (k + 1)) := fun hz => is_num hkl.out (by omega) hH.out (by rw [hxe.out]; omega) (by rw [hxe.out]; exact hz)
          have htl : (l.take (k + 1)).length = k + 1 := by rw [List.length_take, hn.out]; omega
          replace htl := Lib.hid htl
          replace hnum := Lib.hid hnum
          have hD : (x ≠ 0 ∨ k = 0) → ∀ e : Ending, e = .returned (.tuple #[.int .i64 (V1 : Nat), .int .i64 ((k : Int) + 1), .nilIface]) → (∃ p, IsNum l p ∧ e = .returned (.tuple #[.int .i64 (valL p : Nat), .int .i64 p.length, .nilIface])) := by
            rintro hz e rfl
            refine ⟨_, hnum.out hz, ?_⟩
            rw [htl.out, hV1.out]
            rfl
          replace hD := Lib.hid hD
          rcases Nat.eq_zero_or_pos x with hx0 | hx0
          · rcases Nat.eq_zero_or_pos k with hk0 | hk0
            · have hk1 : ¬ (0 < (k : Int)) := by omega
              have hx1 : ((x : Int) == 0) = true := by simp [hx0]
              replace hx0 := Lib.hid hx0
              replace hk0 := Lib.hid hk0
              have hw0 : wrap64 ((V : Int) + wrap64 0) = (V1 : Int) := by
                have h1 := hv.out
                have h2 := hv5.out
                rw [hx0.out] at h1
                unfold wrap64
                simp at h1
                omega
              go_wp2
              go_ret3
              exact ⟨.inl (hD.out (.inr hk0.out) _ (by simp)), Bel.refl w⟩
            · have hk1 : (0 < (k : Int)) := by omega
              have hx1 : ((x : Int) == 0) = true := by simp [hx0]
              have hno := Lib.hid (not_num hkl.out hH.out (by rw [hxe.out]; exact hx0) hk0)
              replace hx0 := Lib.hid hx0
              go_wp2
              go_region
              all_goals
                go_wp2
                go_ret3
                exact ⟨.inr ⟨hno.out, E3, .inr rfl, rfl⟩, Bel.drew (Bel.refl w)⟩
          · have hx1 : ((x : Int) == 0) = false := by simp; omega
            go_wp2
            go_ret3
            exact ⟨.inl (hD.out (.inl (by omega)) _ (by simp)), Bel.refl w⟩
      · have hno := Lib.hid (no_num hH.out (by rw [hn.out]; omega))
        generalize valL (l.take k) = V at *
        by_cases hn5 : n < 5
        · have hn6 : (n : Int) < 5 := by omega
          go_wp2
          go_region
          all_goals
            go_wp2
            go_ret3
            exact ⟨.inr ⟨hno.out, E1, .inl rfl, rfl⟩, Bel.drew (Bel.refl w)⟩
        · have hn6 : ¬ (n : Int) < 5 := by omega
          go_wp2
          go_region
          all_goals
            go_wp2
            go_ret3
            exact ⟨.inr ⟨hno.out, E3, .inr rfl, rfl⟩, Bel.drew (Bel.refl w)⟩
  · have h5i : ¬ ((n : Nat) : Int) ≤ 5 := by omega
    have hci : ((5 : Nat) : Int) ≤ c := by omega
    go_enter Tryd.func31, Tryd.ntmps31
    go_wp2
    go_loop [2, 13] (fun s2 s13 => ∃ k : Nat, k ≤ n ∧ k ≤ 5 ∧ s2 = .int .i64 (valL (l.take k) : Nat) ∧ s13 = .int .i64 k ∧ Hid (High l k)) (fun _ s13 => 5 - (intOf s13).toNat)
    case atStart => exact hst.out
    case round =>
      clear hst
      obtain ⟨k, hkn, hk5, rfl, rfl, hH⟩ := hrel
      by_cases hk : k < 5
      · have hkl : k < l.length := by rw [hn.out]; omega
        obtain ⟨x, hx⟩ : ∃ x, l[k]? = some x := ⟨l[k], List.getElem?_eq_getElem hkl⟩
        have hc := hcell.out k x hx
        have hxe : l[k] = x := (List.getElem?_eq_some_iff.1 hx).2
        have hx255 : x ≤ 255 := hsm.out x (List.mem_of_getElem? hx)
        have hv := reckon hkl
        have hv5 := valL_5 (l := l) (k := k + 1) (by omega)
        rw [hxe] at hv
        generalize hV1 : valL (l.take (k + 1)) = V1 at *
        generalize hV : valL (l.take k) = V at *
        have hw : wrap64 ((V : Int) + wrap64 ((x : Int) % 128 * 2 ^ (7 * k))) = (V1 : Int) := by
          have h2 : (0 : Int) ≤ (x : Int) % 128 * 2 ^ (7 * k) := Int.mul_nonneg (by omega) (Int.le_of_lt (Int.pow_pos (by decide)))
          generalize (x : Int) % 128 * 2 ^ (7 * k) = y at *
          unfold wrap64
          omega
        replace hV1 := Lib.hid hV1
        replace hV := Lib.hid hV
        replace hv := Lib.hid hv
        replace hv5 := Lib.hid hv5
        replace hxe := Lib.hid hxe
        replace hx := Lib.hid hx
        replace hkl := Lib.hid hkl
        by_cases hA : 128 ≤ x
        · have hA1 : 128 ≤ (x : Int) := by omega
          go_wp2
          go_round
          case rel => exact ⟨k + 1, by omega, by omega, by rw [hV1.out, hw], by go_num, Lib.hid (high_snoc hkl.out hH.out (by rw [hxe.out]; exact hA))⟩
          case measure => simp [intOf]; omega
        · have hA1 : ¬ 128 ≤ (x : Int) := by omega
          have hnum : (x ≠ 0 ∨ k = 0) → IsNum l (l.take (k + 1)) := fun hz => is_num hkl.out (by omega) hH.out (by rw [hxe.out]; omega) (by rw [hxe.out]; exact hz)
          have htl : (l.take (k + 1)).length = k + 1 := by rw [List.length_take, hn.out]; omega
          replace htl := Lib.hid htl
          replace hnum := Lib.hid hnum
          have hD : (x ≠ 0 ∨ k = 0) → ∀ e : Ending, e = .returned (.tuple #[.int .i64 (V1 : Nat), .int .i64 ((k : Int) + 1), .nilIface]) → (∃ p, IsNum l p ∧ e = .returned (.tuple #[.int .i64 (valL p : Nat), .int .i64 p.length, .nilIface])) := by
            rintro hz e rfl
            refine ⟨_, hnum.out hz, ?_⟩
            rw [htl.out, hV1.out]
            rfl
          replace hD := Lib.hid hD
          rcases Nat.eq_zero_or_pos x with hx0 | hx0
          · rcases Nat.eq_zero_or_pos k with hk0 | hk0
            · have hk1 : ¬ (0 < (k : Int)) := by omega
              have hx1 : ((x : Int) == 0) = true := by simp [hx0]
              replace hx0 := Lib.hid hx0
              replace hk0 := Lib.hid hk0
              have hw0 : wrap64 ((V : Int) + wrap64 0) = (V1 : Int) := by
                have h1 := hv.out
                have h2 := hv5.out
                rw [hx0.out] at h1
                unfold wrap64
                simp at h1
                omega
              go_wp2
              go_ret3
              exact ⟨.inl (hD.out (.inr hk0.out) _ (by simp)), Bel.refl w⟩
            · have hk1 : (0 < (k : Int)) := by omega
              have hx1 : ((x : Int) == 0) = true := by simp [hx0]
              have hno := Lib.hid (not_num hkl.out hH.out (by rw [hxe.out]; exact hx0) hk0)
              replace hx0 := Lib.hid hx0
              go_wp2
              go_region
              all_goals
                go_wp2
                go_ret3
                exact ⟨.inr ⟨hno.out, E3, .inr rfl, rfl⟩, Bel.drew (Bel.refl w)⟩
          · have hx1 : ((x : Int) == 0) = false := by simp; omega
            go_wp2
            go_ret3
            exact ⟨.inl (hD.out (.inl (by omega)) _ (by simp)), Bel.refl w⟩
      · have hno := Lib.hid (no_num hH.out (by rw [hn.out]; omega))
        generalize valL (l.take k) = V at *
        have hn6 : ¬ (n : Int) < 5 := by omega
        go_wp2
        go_region
        all_goals
          go_wp2
          go_ret3
          exact ⟨.inr ⟨hno.out, E3, .inr rfl, rfl⟩, Bel.drew (Bel.refl w)⟩
end Go.Proofs.YtdhejbmmdbjpoaaDoor
