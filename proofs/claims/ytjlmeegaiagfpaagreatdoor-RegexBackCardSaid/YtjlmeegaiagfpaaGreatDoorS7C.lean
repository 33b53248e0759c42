/- Texts of earlier layers, merged: S7W10, S7W11, S7W12, S7W13, S7W14, S7W15, S7W16, S7W17, S7W18, S7W19, S7W21, S7W22a, S7W23. -/
import Derived.Test.YtjlmeegaiagfpaaGreatDoorS7B
import Derived.Test.YtjlmeegaiagfpaaGreatDoorS5A
import Derived.Test.YtjlmeegaiagfpaaGreatDoorS6B
import Derived.Test.YtjlmeegaiagfpaaGreatDoorS1E
import Derived.Deep.QuietTactic
import Derived.Test.YtjlmeegaiagfpaaGreatDoorS1C
import Derived.Deep.RegionWith
import Derived.Test.YtjlmeegaiagfpaaGreatDoorS7W9
import Derived.Deep.RegionHeld3
namespace Go.Proofs.YtjlmeegaiagfpaaGreatDoor.S7
open Go.RowKit
open Go.Tree7
open S5 (nl nl_length nl_small at_nl nl_at nl_strN)
/-- A small number's figures. -/
def figs (n : Nat) : List Nat := if n < 10 then [48 + n] else [48 + n / 10, 48 + n % 10]
set_option maxRecDepth 10000 in
set_option maxHeartbeats 2000000 in
theorem iSmall_in {n : Nat} (h : n ≤ 40) (w : World) : Calls Tryz.prog 90 #[.int .i64 n] w fun e w' => e = .returned (.string (strN (figs n))) ∧ w = w' := by
  by_cases h9 : n < 10
  · go_enter Tryz.func90, Tryz.ntmps90
    go_wp2
    go_ret
    refine ⟨?_, rfl⟩
    refine (congrArg (fun b => Ending.returned (Value.string b)) ?_ : Ending.returned (.string _) = Ending.returned (.string _))
    refine (show ∀ m, m < 10 → ByteArray.extract _ m (m + 1) = strN (figs m) from ?_) n h9
    decide +kernel
  · go_enter Tryz.func90, Tryz.ntmps90
    go_wp2
    go_ret
    refine ⟨?_, rfl⟩
    refine (congrArg (fun b => Ending.returned (Value.string b)) ?_ : Ending.returned (.string _) = Ending.returned (.string _))
    have h41 : n < 41 := by omega
    have h10 : 10 ≤ n := by omega
    refine (show ∀ m, m < 41 → 10 ≤ m → ByteArray.extract _ (m * 2) (m * 2 + 2) = strN (figs m) from ?_) n h41 h10
    decide +kernel
set_option maxHeartbeats 1000000 in
theorem itoa_in {n : Nat} (h : n ≤ 40) (w : World) : Calls Tryz.prog 54 #[.int .i64 n] w fun e w' => e = .returned (.string (strN (figs n))) ∧ w = w' := by
  have C := iSmall_in h
  generalize strN (figs n) = F at *
  replace C := Lib.hid C
  have D : ∀ w, Calls Tryz.prog 81 #[.int .i64 n, .int .i64 10] w fun e w' => e = .returned (.string F) ∧ w = w' := fun w => by
    go_enter Tryz.func81, Tryz.ntmps81
    go_wp2_with (go_at_call 90; (with_reducible refine (C.out _).mono ?_); rintro e w1 ⟨rfl, rfl⟩)
    go_ret
    exact ⟨rfl, rfl⟩
  replace D := Lib.hid D
  have E : ∀ w, Calls Tryz.prog 71 #[.int .i64 n] w fun e w' => e = .returned (.string F) ∧ w = w' := fun w => by
    go_enter Tryz.func71, Tryz.ntmps71
    go_wp2_with (go_at_call 81; (with_reducible refine (D.out _).mono ?_); rintro e w1 ⟨rfl, rfl⟩)
    go_ret
    exact ⟨rfl, rfl⟩
  replace E := Lib.hid E
  go_enter Tryz.func54, Tryz.ntmps54
  go_wp2_with (go_at_call 71; (with_reducible refine (E.out _).mono ?_); rintro e w1 ⟨rfl, rfl⟩)
  go_ret
  exact ⟨rfl, rfl⟩
end Go.Proofs.YtjlmeegaiagfpaaGreatDoor.S7

namespace Go.Proofs.YtjlmeegaiagfpaaGreatDoor.S7
open Go.RowKit
open Go.Tree7
open S5 (nl nl_length nl_small at_nl nl_at nl_strN)
open S1 (el eqB notS oneS wd)
theorem cells_of {W : World} {b : Nat} {cs : Array Value} {t : TypeId} (h : W.heap[b]? = some (.cells cs t (0, 0))) : ∀ q v, cs[q]? = some v → W.cell? ⟨b, q, none⟩ = some v ∧ W.frozen? ⟨b, q, none⟩ = false := fun q v hv => by
  refine ⟨?_, ?_⟩
  · rw [cell_of_row _ _ _ _ _ (0, 0) h]; exact hv
  · simp [World.frozen?, h]
/-- All bytes but 10. -/
def dotS : Nat → Bool := notS (oneS 10)
set_option maxRecDepth 10000 in
set_option maxHeartbeats 1000000 in
theorem dot_in (w : World) : Calls Tryz.prog 49 #[] w fun e w' => e = .returned (.agg #[.int .u64 (S1.wd (dotS) 0), .int .u64 (S1.wd (dotS) 1), .int .u64 (S1.wd (dotS) 2), .int .u64 (S1.wd (dotS) 3)]) ∧ Below w.heap.size w w' := by
  have C := fun w => S1.one_in 10 (by decide) w
  have D := fun w => S1.not_in (oneS 10) w
  unfold dotS
  have o0 := C
  clear o0
  generalize wd (oneS 10) 0 = a0 at *
  generalize wd (oneS 10) 1 = a1 at *
  generalize wd (oneS 10) 2 = a2 at *
  generalize wd (oneS 10) 3 = a3 at *
  generalize wd (notS (oneS 10)) 0 = b0 at *
  generalize wd (notS (oneS 10)) 1 = b1 at *
  generalize wd (notS (oneS 10)) 2 = b2 at *
  generalize wd (notS (oneS 10)) 3 = b3 at *
  replace C := Lib.hid C
  replace D := Lib.hid D
  go_enter Tryz.func49, Tryz.ntmps49
  go_wp2_with (first | (go_at_call 62; refine (C.out _).mono ?_; rintro e w1 ⟨rfl, hb1⟩; replace hb1 := Lib.hid hb1) | (go_at_call 66; (with_reducible refine (D.out _).mono ?_); rintro e w2 ⟨rfl, hb2⟩; have hk := cells_of (kept_row (kept_row (World.alloc_heap_new _ _) hb1.out) hb2); obtain ⟨c0, f0⟩ := hk 0 _ rfl; obtain ⟨c1, f1⟩ := hk 1 _ rfl; obtain ⟨c2, f2⟩ := hk 2 _ rfl; obtain ⟨c3, f3⟩ := hk 3 _ rfl; clear hk; have hl : w.heap.size < w2.heap.size := Nat.lt_of_lt_of_le (by have := hb1.out.size; simp at this; omega) hb2.size; replace hb2 := Lib.hid hb2))
  have hB : Below w.heap.size w w2 := ((Below.refl w.heap.size w).alloc (Nat.le_refl _) _).trans ((hb1.out.mono (by simp)).trans (hb2.out.mono (by have := hb1.out.size; simp at this; omega)))
  exact bodyPost_ret (v := (.agg #[.int .u64 b0, .int .u64 b1, .int .u64 b2, .int .u64 b3])) (by simp [results, Tryz.results49, go_sem, c0, c1, c2, c3]) rfl ⟨rfl, (((hB.setCell (p := ⟨w.heap.size, 0, none⟩) (Nat.le_refl _) _).setCell (p := ⟨w.heap.size, 1, none⟩) (Nat.le_refl _) _).setCell (p := ⟨w.heap.size, 2, none⟩) (Nat.le_refl _) _).setCell (p := ⟨w.heap.size, 3, none⟩) (Nat.le_refl _) _⟩
/-- How a byte is written. -/
noncomputable def po (c : Nat) : List Nat := if h : c ≤ 255 then Classical.choose (S5.sp_some (.inl rfl) c h : ∃ l, S5.Sp S5.out c l) else []
theorem po_sp {c : Nat} (h : c ≤ 255) : S5.Sp S5.out c (po c) := by
  unfold po
  rw [dif_pos h]
  exact Classical.choose_spec (S5.sp_some (.inl rfl) c h)
/-- How one byte of a set is written. -/
noncomputable def oneL (f : Nat → Bool) : List Nat := if (el f 256).length = 1 then po ((el f 256).headD 0) else if eqB f dotS = true then [46] else S6.txtB f
theorem oneL_len (f : Nat → Bool) : (oneL f).length ≤ 2400 := by
  unfold oneL
  split
  · by_cases h : (el f 256).headD 0 ≤ 255
    · have := (S5.sp_length (po_sp h)).2
      omega
    · unfold po; rw [dif_neg h]; simp
  · split
    · simp
    · exact S6.txtB_len f
theorem oneL_small (f : Nat → Bool) : ∀ x ∈ oneL f, x ≤ 255 := by
  unfold oneL
  split
  · by_cases h : (el f 256).headD 0 ≤ 255
    · exact S5.sp_small (po_sp h)
    · unfold po; rw [dif_neg h]; simp
  · split
    · simp
    · exact S6.txtB_small f
theorem dot_of (f : Nat → Bool) : eqB f dotS = true ↔ (el f 256).length = 255 ∧ f 10 = false := by
  have h1 : (el dotS 256).length = 255 := by kernel_rfl
  constructor
  · intro h
    have hs := S1.eqB_spec h
    refine ⟨?_, by rw [hs 10 (by decide)]; rfl⟩
    have : el f 256 = el dotS 256 := by
      have key : ∀ p, p ≤ 256 → el f p = el dotS p := by
        intro p
        induction p with
        | zero => intro _; rfl
        | succ p ih =>
          intro hp
          simp only [el]
          rw [ih (by omega), hs p (by omega)]
      exact key 256 (Nat.le_refl _)
    rw [this, h1]
  · rintro ⟨hl, h10⟩
    refine S1.eqB_true fun c hc => ?_
    -- a part of a row as long as the row
    have key : ∀ p, p ≤ 256 → (el f p).Sublist (el dotS p) := by
      intro p
      induction p with
      | zero => intro _; exact List.Sublist.refl _
      | succ p ih =>
        intro hp
        simp only [el]
        refine List.Sublist.append (ih (by omega)) ?_
        by_cases e : p = 10
        · subst e; rw [h10]; simp
        · have : dotS p = true := by simp [dotS, notS, oneS, e]
          rw [this]
          split <;> simp
    have he := (key 256 (Nat.le_refl _)).eq_of_length (by rw [hl, h1])
    have hm : c ∈ el f 256 ↔ c ∈ el dotS 256 := by rw [he]
    rw [S1.el_mem, S1.el_mem] at hm
    cases hf : f c <;> cases hd : dotS c <;> simp_all
end Go.Proofs.YtjlmeegaiagfpaaGreatDoor.S7

namespace Go.Proofs.YtjlmeegaiagfpaaGreatDoor.S7
open Go.RowKit
open Go.Tree7
open S5 (nl nl_length nl_small at_nl nl_at nl_strN)
open S1 (el eqB notS oneS wd)
theorem el_one {f : Nat → Bool} (h : (el f 256).length = 1) : ∃ c, el f 256 = [c] ∧ c ≤ 255 := by
  obtain ⟨c, hc⟩ := List.length_eq_one_iff.1 h
  refine ⟨c, hc, ?_⟩
  have : c ∈ el f 256 := by rw [hc]; simp
  have := S1.el_lt this
  omega
set_option maxRecDepth 10000 in
set_option maxHeartbeats 2000000 in
theorem oneOf_in (f : Nat → Bool) (w : World) (hT : S1.Tab w) : Calls Tryz.prog 31 #[.agg #[.int .u64 (S1.wd (f) 0), .int .u64 (S1.wd (f) 1), .int .u64 (S1.wd (f) 2), .int .u64 (S1.wd (f) 3)]] w fun e w' => e = .returned (.string (strN (oneL f))) ∧ Below w.heap.size w w' := by
  obtain ⟨n, hn⟩ : ∃ n, (el f 256).length = n := ⟨_, rfl⟩
  have L := fun w => S1.len_in f w
  rw [S1.szS_el, hn] at L
  replace L := Lib.hid L
  by_cases h1 : n = 1
  · subst h1
    obtain ⟨c, hc, hc5⟩ := el_one hn
    have G : Hid (∀ W, S1.Tab W → Calls Tryz.prog 48 #[.agg #[.int .u64 (S1.wd (f) 0), .int .u64 (S1.wd (f) 1), .int .u64 (S1.wd (f) 2), .int .u64 (S1.wd (f) 3)]] W fun e w' => e = .returned (.int .i64 c) ∧ Below W.heap.size W w') := Lib.hid fun W hW => (S1.least_in f W hW).mono fun e w' ⟨r, he, hr, hb⟩ => by
      rw [hc] at hr
      simp at hr
      subst hr
      exact ⟨he, hb⟩
    have P := Lib.hid (fun w => S5.plain_in (po_sp hc5) w)
    have hL : oneL f = po c := by unfold oneL; rw [if_pos hn, hc]; rfl
    rw [hL]
    have hwr : IntKind.u8.wrap (c : Int) = c := S5.wrap8 c (by omega)
    generalize strN (po c) = F at *
    clear hL hc hn
    replace hT := Lib.hid hT
    go_enter Tryz.func31, Tryz.ntmps31
    go_wp2_with (first | (go_at_call 46; (with_reducible refine (L.out _).mono ?_); rintro e w1 ⟨rfl, hb1⟩; have hk := cells_of (kept_row (World.alloc_heap_new _ _) hb1); obtain ⟨c0, f0⟩ := hk 0 _ rfl; obtain ⟨c1, f1⟩ := hk 1 _ rfl; obtain ⟨c2, f2⟩ := hk 2 _ rfl; obtain ⟨c3, f3⟩ := hk 3 _ rfl; have hk2 := Lib.hid (kept_row (World.alloc_heap_new _ _) hb1); clear hk f0 f1 f2 f3; have hB1 := Lib.hid (((Below.refl w.heap.size w).alloc (Nat.le_refl _) _).trans (hb1.mono (by simp))); have hT1 := Lib.hid (hT.out.below hB1.out hT.out.1); clear hb1) | (go_at_call 48; (with_reducible refine (G.out _ hT1.out).mono ?_); rintro e w2 ⟨rfl, hb2⟩; replace hb2 := Lib.hid hb2) | (go_at_call 47; (with_reducible refine (P.out _).mono ?_); rintro e w3 ⟨rfl, hb3⟩; replace hb3 := Lib.hid hb3))
    go_ret
    exact ⟨rfl, hB1.out.trans ((hb2.out.mono hB1.out.size).trans (hb3.out.mono (Nat.le_trans hB1.out.size hb2.out.size)))⟩
  · have hne : ((n : Int) == 1) = false := by simp; omega
    obtain ⟨E, hE⟩ : ∃ E, eqB f dotS = E := ⟨_, rfl⟩
    have D := Lib.hid (fun w => dot_in w)
    have X := Lib.hid (fun w hT => S6.text_in f w hT)
    have hL : oneL f = if E = true then [46] else S6.txtB f := by unfold oneL; rw [if_neg (by rw [hn]; exact h1), hE]
    rw [hL]
    have he : ∀ w, (Op.equalIn 10000 24 (.agg #[.int .u64 (S1.wd (f) 0), .int .u64 (S1.wd (f) 1), .int .u64 (S1.wd (f) 2), .int .u64 (S1.wd (f) 3)]) (.agg #[.int .u64 (S1.wd (dotS) 0), .int .u64 (S1.wd (dotS) 1), .int .u64 (S1.wd (dotS) 2), .int .u64 (S1.wd (dotS) 3)])).run Tryz.prog w = .ok E w := fun w => by
      rw [S1.eq28, ← hE]
      unfold eqB
      rfl
    have l46 : strN [46] = ⟨#[46]⟩ := by decide +kernel
    generalize S6.txtB f = Z at *
    clear hL hn hE
    replace hT := Lib.hid hT
    generalize wd dotS 0 = d0 at *
    generalize wd dotS 1 = d1 at *
    generalize wd dotS 2 = d2 at *
    generalize wd dotS 3 = d3 at *
    cases E with
    | true =>
      simp only [if_true] at *
      rw [l46]
      go_enter Tryz.func31, Tryz.ntmps31
      go_wp2_with ((go_at_call 46; (with_reducible refine (L.out _).mono ?_); rintro e w1 ⟨rfl, hb1⟩; have hk := cells_of (kept_row (World.alloc_heap_new _ _) hb1); obtain ⟨c0, f0⟩ := hk 0 _ rfl; obtain ⟨c1, f1⟩ := hk 1 _ rfl; obtain ⟨c2, f2⟩ := hk 2 _ rfl; obtain ⟨c3, f3⟩ := hk 3 _ rfl; have hk2 := Lib.hid (kept_row (World.alloc_heap_new _ _) hb1); clear hk f0 f1 f2 f3; have hB1 := Lib.hid (((Below.refl w.heap.size w).alloc (Nat.le_refl _) _).trans (hb1.mono (by simp))); have hT1 := Lib.hid (hT.out.below hB1.out hT.out.1); clear hb1))
      go_region_with (refine (D.out _).mono ?_; rintro e w2 ⟨rfl, hb2⟩; have hk := cells_of (kept_row (show w1.drew.heap[w.heap.size]? = _ from hk2.out) hb2); obtain ⟨x0, -⟩ := hk 0 _ rfl; obtain ⟨x1, -⟩ := hk 1 _ rfl; obtain ⟨x2, -⟩ := hk 2 _ rfl; obtain ⟨x3, -⟩ := hk 3 _ rfl; clear hk; have hB2 := Lib.hid (hB1.out.trans ((Below.refl w.heap.size w1).drew.trans (hb2.mono hB1.out.size))); clear hb2)
      all_goals
        go_wp2
        go_ret
        exact ⟨rfl, hB2.out⟩
    | false =>
      simp only [Bool.false_eq_true, if_false] at *
      generalize strN Z = F at *
      go_enter Tryz.func31, Tryz.ntmps31
      go_wp2_with ((go_at_call 46; (with_reducible refine (L.out _).mono ?_); rintro e w1 ⟨rfl, hb1⟩; have hk := cells_of (kept_row (World.alloc_heap_new _ _) hb1); obtain ⟨c0, f0⟩ := hk 0 _ rfl; obtain ⟨c1, f1⟩ := hk 1 _ rfl; obtain ⟨c2, f2⟩ := hk 2 _ rfl; obtain ⟨c3, f3⟩ := hk 3 _ rfl; have hk2 := Lib.hid (kept_row (World.alloc_heap_new _ _) hb1); clear hk f0 f1 f2 f3; have hB1 := Lib.hid (((Below.refl w.heap.size w).alloc (Nat.le_refl _) _).trans (hb1.mono (by simp))); have hT1 := Lib.hid (hT.out.below hB1.out hT.out.1); clear hb1))
      go_region_with (refine (D.out _).mono ?_; rintro e w2 ⟨rfl, hb2⟩; have hk := cells_of (kept_row (show w1.drew.heap[w.heap.size]? = _ from hk2.out) hb2); obtain ⟨x0, -⟩ := hk 0 _ rfl; obtain ⟨x1, -⟩ := hk 1 _ rfl; obtain ⟨x2, -⟩ := hk 2 _ rfl; obtain ⟨x3, -⟩ := hk 3 _ rfl; clear hk; have hB2 := Lib.hid (hB1.out.trans ((Below.refl w.heap.size w1).drew.trans (hb2.mono hB1.out.size))); clear hb2; have hT2 := Lib.hid (hT.out.below hB2.out hT.out.1))
      all_goals
        go_wp2_with (go_at_call 50; (with_reducible refine (X.out _ hT2.out).mono ?_); rintro e w3 ⟨rfl, hb3⟩; replace hb3 := Lib.hid hb3)
        go_ret
        exact ⟨rfl, hB2.out.trans (hb3.out.mono hB2.out.size)⟩
end Go.Proofs.YtjlmeegaiagfpaaGreatDoor.S7

namespace Go.Proofs.YtjlmeegaiagfpaaGreatDoor.S7
open Go.RowKit
open Go.Tree7
open S5 (nl nl_length nl_small at_nl nl_at nl_strN)
/-- How a repetition is written. -/
def timesL (mn mx : Int) : List Nat :=
  if mn = 0 ∧ mx = -1 then [42] else if mn = 1 ∧ mx = -1 then [43] else if mn = 0 ∧ mx = 1 then [63]
  else if mn = mx then [123] ++ figs mn.toNat ++ [125] else if mx = -1 then [123] ++ figs mn.toNat ++ [44, 125] else [123] ++ figs mn.toNat ++ [44] ++ figs mx.toNat ++ [125]
theorem figs_len (n : Nat) : (figs n).length ≤ 2 := by unfold figs; split <;> simp
theorem figs_small {n : Nat} (h : n ≤ 40) : ∀ x ∈ figs n, x ≤ 255 := by unfold figs; split <;> simp <;> omega
theorem timesL_len (mn mx : Int) : (timesL mn mx).length ≤ 10 := by
  have h1 := figs_len mn.toNat
  have h2 := figs_len mx.toNat
  unfold timesL
  split
  · simp
  · split
    · simp
    · split
      · simp
      · split
        · simp; omega
        · split
          · simp; omega
          · simp; omega
theorem lit42 : strN [42] = ⟨#[42]⟩ := by decide +kernel
theorem lit43 : strN [43] = ⟨#[43]⟩ := by decide +kernel
theorem lit63 : strN [63] = ⟨#[63]⟩ := by decide +kernel
theorem lit123 : strN [123] = ⟨#[123]⟩ := by decide +kernel
theorem lit125 : strN [125] = ⟨#[125]⟩ := by decide +kernel
theorem lit44 : strN [44] = ⟨#[44]⟩ := by decide +kernel
theorem lit44' : strN [44, 125] = ⟨#[44, 125]⟩ := by decide +kernel
theorem bounds_nat {mn mx : Int} (h : boundsB mn mx = true) : ∃ a : Nat, mn = a ∧ a ≤ 40 ∧ (mx = -1 ∨ ∃ b : Nat, mx = b ∧ a ≤ b ∧ 1 ≤ b ∧ b ≤ 40) := by
  unfold boundsB at h
  simp only [Bool.and_eq_true, Bool.or_eq_true, decide_eq_true_eq] at h
  obtain ⟨⟨h1, h2⟩, h3⟩ := h
  refine ⟨mn.toNat, by omega, by omega, ?_⟩
  rcases h3 with h3 | ⟨⟨h3, h4⟩, h5⟩
  · exact .inl h3
  · exact .inr ⟨mx.toNat, by omega, by omega, by omega, by omega⟩
theorem timesL_small {mn mx : Int} (h : boundsB mn mx = true) : ∀ x ∈ timesL mn mx, x ≤ 255 := by
  obtain ⟨a, rfl, ha, hx⟩ := bounds_nat h
  have h1 := figs_small ha
  rcases hx with rfl | ⟨b, rfl, hab, hb1, hb⟩
  · unfold timesL
    intro x hx
    rw [Int.toNat_natCast] at hx
    repeat' split at hx
    all_goals
      simp only [List.mem_append, List.mem_cons, List.not_mem_nil, or_false] at hx
      first
        | omega
        | (rcases hx with (rfl | hx) | hx
           · omega
           · exact h1 x hx
           · omega)
        | skip
  · have h2 := figs_small hb
    unfold timesL
    intro x hx
    rw [Int.toNat_natCast, Int.toNat_natCast] at hx
    repeat' split at hx
    all_goals
      simp only [List.mem_append, List.mem_cons, List.not_mem_nil, or_false] at hx
      first
        | omega
        | (rcases hx with (rfl | hx) | hx
           · omega
           · exact h1 x hx
           · omega)
        | (rcases hx with (((rfl | hx) | rfl) | hx) | rfl
           · omega
           · exact h1 x hx
           · omega
           · exact h2 x hx
           · omega)
set_option maxRecDepth 10000 in
set_option maxHeartbeats 2000000 in
theorem times_in {mn mx : Int} (h : boundsB mn mx = true) (w : World) : Calls Tryz.prog 33 #[.int .i64 mn, .int .i64 mx] w fun e w' => e = .returned (.string (strN (timesL mn mx))) ∧ w = w' := by
  obtain ⟨a, rfl, ha, hx⟩ := bounds_nat h
  have CA := fun w => itoa_in ha w
  have sA : (strN (figs a)).size ≤ 2 := by rw [strN_size]; exact figs_len a
  clear h
  rcases hx with rfl | ⟨b, rfl, hab, hb1, hb⟩
  · by_cases h0 : a = 0
    · have e : strN (timesL (a : Int) (-1)) = ⟨#[42]⟩ := by subst h0; exact lit42
      rw [e]
      clear e
      generalize strN (figs a) = A at *
      have q0 : ((a : Int) == 0) = true := by simp <;> omega
      clear h0
      replace CA := Lib.hid CA
      go_enter Tryz.func33, Tryz.ntmps33
      go_wp2_with (first | (go_at_call 54; (with_reducible refine (CA.out _).mono ?_); rintro e w1 ⟨rfl, rfl⟩))
      go_ret
      exact ⟨rfl, rfl⟩
    by_cases h1 : a = 1
    · have e : strN (timesL (a : Int) (-1)) = ⟨#[43]⟩ := by subst h1; exact lit43
      rw [e]
      clear e
      generalize strN (figs a) = A at *
      have q0 : ((a : Int) == 0) = false := by simp <;> omega
      have q1 : ((a : Int) == 1) = true := by simp <;> omega
      clear h0 h1
      replace CA := Lib.hid CA
      go_enter Tryz.func33, Tryz.ntmps33
      go_wp2_with (first | (go_at_call 54; (with_reducible refine (CA.out _).mono ?_); rintro e w1 ⟨rfl, rfl⟩))
      go_ret
      exact ⟨rfl, rfl⟩
    have e : strN (timesL (a : Int) (-1)) = ⟨#[123]⟩ ++ strN (figs a) ++ ⟨#[44, 125]⟩ := by
      unfold timesL
      rw [if_neg (by omega), if_neg (by omega), if_neg (by omega), if_neg (by omega), if_pos rfl, S6.strN_app, S6.strN_app, lit123, lit44', Int.toNat_natCast]
    rw [e]
    generalize strN (figs a) = A at *
    clear e
    replace CA := Lib.hid CA
    have q0 : ((a : Int) == 0) = false := by simp <;> omega
    have q1 : ((a : Int) == 1) = false := by simp <;> omega
    have q2 : ((a : Int) == -1) = false := by simp <;> omega
    go_enter Tryz.func33, Tryz.ntmps33
    go_wp2_with (first | (go_at_call 54; (with_reducible refine (CA.out _).mono ?_); rintro e w1 ⟨rfl, rfl⟩))
    go_ret
    exact ⟨rfl, rfl⟩
  · have CB := fun w => itoa_in hb w
    have sB : (strN (figs b)).size ≤ 2 := by rw [strN_size]; exact figs_len b
    have r2 : ((b : Int) == -1) = false := by simp <;> omega
    by_cases h0 : a = 0 ∧ b = 1
    · have e : strN (timesL (a : Int) (b : Int)) = ⟨#[63]⟩ := by obtain ⟨rfl, rfl⟩ := h0; exact lit63
      rw [e]
      clear e
      generalize strN (figs a) = A at *
      have q0 : ((a : Int) == 0) = true := by simp <;> omega
      have q1 : ((b : Int) == 1) = true := by simp <;> omega
      clear h0
      replace CA := Lib.hid CA
      clear CB
      go_enter Tryz.func33, Tryz.ntmps33
      go_wp2_with (first | (go_at_call 54; (with_reducible refine (CA.out _).mono ?_); rintro e w1 ⟨rfl, rfl⟩))
      go_ret
      exact ⟨rfl, rfl⟩
    by_cases h1 : a = b
    · subst h1
      have e : strN (timesL (a : Int) (a : Int)) = ⟨#[123]⟩ ++ strN (figs a) ++ ⟨#[125]⟩ := by
        unfold timesL
        rw [if_neg (by omega), if_neg (by omega), if_neg (by omega), if_pos rfl, S6.strN_app, S6.strN_app, lit123, lit125, Int.toNat_natCast]
      rw [e]
      generalize strN (figs a) = A at *
      clear e CB
      replace CA := Lib.hid CA
      by_cases q : a = 1
      · have q1 : ((a : Int) == 1) = true := by simp <;> omega
        have q0 : ((a : Int) == 0) = false := by simp <;> omega
        clear q h0
        go_enter Tryz.func33, Tryz.ntmps33
        go_wp2_with (first | (go_at_call 54; (with_reducible refine (CA.out _).mono ?_); rintro e w1 ⟨rfl, rfl⟩))
        go_ret
        exact ⟨rfl, rfl⟩
      · have q1 : ((a : Int) == 1) = false := by simp <;> omega
        have q0 : ((a : Int) == 0) = false := by simp <;> omega
        go_enter Tryz.func33, Tryz.ntmps33
        go_wp2_with (first | (go_at_call 54; (with_reducible refine (CA.out _).mono ?_); rintro e w1 ⟨rfl, rfl⟩))
        go_ret
        exact ⟨rfl, rfl⟩
    have e : strN (timesL (a : Int) (b : Int)) = ⟨#[123]⟩ ++ strN (figs a) ++ ⟨#[44]⟩ ++ strN (figs b) ++ ⟨#[125]⟩ := by
      unfold timesL
      rw [if_neg (by omega), if_neg (by omega), if_neg (by omega), if_neg (by omega), if_neg (by omega), S6.strN_app, S6.strN_app, S6.strN_app, S6.strN_app, lit123, lit44, lit125, Int.toNat_natCast, Int.toNat_natCast]
    rw [e]
    have q3 : ((a : Int) == (b : Int)) = false := by simp <;> omega
    generalize strN (figs a) = A at *
    generalize strN (figs b) = B at *
    clear e
    replace CA := Lib.hid CA
    replace CB := Lib.hid CB
    by_cases z : a = 0
    · have q0 : ((a : Int) == 0) = true := by simp <;> omega
      have r1 : ((b : Int) == 1) = false := by simp <;> omega
      clear z h0 h1
      go_enter Tryz.func33, Tryz.ntmps33
      go_wp2_with (first | (go_at_call 54; (with_reducible refine (CA.out _).mono ?_); rintro e w1 ⟨rfl, rfl⟩) | (go_at_call 54; (with_reducible refine (CB.out _).mono ?_); rintro e w2 ⟨rfl, rfl⟩))
      go_ret
      exact ⟨rfl, rfl⟩
    · have q0 : ((a : Int) == 0) = false := by simp <;> omega
      by_cases o : a = 1
      · have q1 : ((a : Int) == 1) = true := by simp <;> omega
        clear o z h0 h1
        go_enter Tryz.func33, Tryz.ntmps33
        go_wp2_with (first | (go_at_call 54; (with_reducible refine (CA.out _).mono ?_); rintro e w1 ⟨rfl, rfl⟩) | (go_at_call 54; (with_reducible refine (CB.out _).mono ?_); rintro e w2 ⟨rfl, rfl⟩))
        go_ret
        exact ⟨rfl, rfl⟩
      · have q1 : ((a : Int) == 1) = false := by simp <;> omega
        go_enter Tryz.func33, Tryz.ntmps33
        go_wp2_with (first | (go_at_call 54; (with_reducible refine (CA.out _).mono ?_); rintro e w1 ⟨rfl, rfl⟩) | (go_at_call 54; (with_reducible refine (CB.out _).mono ?_); rintro e w2 ⟨rfl, rfl⟩))
        go_ret
        exact ⟨rfl, rfl⟩
end Go.Proofs.YtjlmeegaiagfpaaGreatDoor.S7

namespace Go.Proofs.YtjlmeegaiagfpaaGreatDoor.S7
open Go.RowKit
open Go.Tree7
open S5 (nl nl_length nl_small at_nl nl_at nl_strN)
/-- Every node of a tree. -/
inductive T.All (P : T → Prop) : T → Prop
  | mk {k u0 u1 u2 u3 : Int} {p : Option Addr} {cap : Nat} {mn mx : Int} {tx : ByteArray} {ks : List T} (h : P (.mk k u0 u1 u2 u3 p cap mn mx tx ks)) (hk : ∀ t ∈ ks, T.All P t) : T.All P (.mk k u0 u1 u2 u3 p cap mn mx tx ks)
theorem T.All.imp {P Q : T → Prop} (h : ∀ t, P t → Q t) {t : T} (a : T.All P t) : T.All Q t := by
  induction a with
  | mk h' _ ih => exact .mk (h _ h') ih
theorem all_pre {P : T → Prop} : ∀ (d lv : Nat) (t : T), lv + d = 25 → (∀ x ∈ preT d lv t, x.1 ≤ 24 ∧ P x.2) → T.All P t ∧ (preT d lv t).length = t.size := by
  intro d
  induction d with
  | zero =>
    intro lv t hd h
    have := (h (lv, t) (by simp [preT])).1
    simp at this
    omega
  | succ d ih =>
    intro lv t hd h
    cases t with
    | mk k u0 u1 u2 u3 p cap mn mx tx ks =>
      have each : ∀ t ∈ ks, T.All P t ∧ (preT d (lv + 1) t).length = t.size := fun t ht => ih (lv + 1) t (by omega) fun x hx => h x (by
        simp only [preT, T.kids, List.mem_cons, List.mem_flatMap]
        exact .inr ⟨t, ht, hx⟩)
      refine ⟨.mk (h (lv, .mk k u0 u1 u2 u3 p cap mn mx tx ks) (by simp [preT])).2 (fun t ht => (each t ht).1), ?_⟩
      rw [T.size_mk]
      simp only [preT, T.kids, List.length_cons, List.length_flatMap]
      have e : (ks.map fun t => (preT d (lv + 1) t).length) = ks.map T.size := List.map_congr_left fun t ht => (each t ht).2
      rw [e]
      omega
theorem right_all {t : T} (h : RightP t) : T.All (fun t => T.ok t = true) t ∧ t.size ≤ 600 := by
  obtain ⟨h1, h2⟩ := h
  have hl : (preT 24 1 t).length ≤ 600 := by
    unfold allT at h2
    simp at h2
    omega
  have e : allT t = preT 24 1 t := by unfold allT; exact List.take_of_length_le (by omega)
  rw [e] at h1
  obtain ⟨a, b⟩ := all_pre (P := fun t => T.ok t = true) 24 1 t rfl h1
  exact ⟨a, by omega⟩
/-- A kid's text, in parentheses where its kind is among cl. -/
def itm (cl : List Int) (k : Int) (l : List Nat) : List Nat := if k ∈ cl then [40] ++ l ++ [41] else l
def joinS (sep : List Nat) : List (List Nat) → List Nat
  | [] => []
  | x :: xs => x ++ xs.flatMap fun y => sep ++ y
theorem joinS_snoc (sep : List Nat) (l : List (List Nat)) (x : List Nat) : joinS sep (l ++ [x]) = joinS sep l ++ (if l.length = 0 then [] else sep) ++ x := by
  cases l <;> simp [joinS]
theorem joinS_len (sep : List Nat) (l : List (List Nat)) : (joinS sep l).length ≤ (l.map fun x => x.length + sep.length).sum := by
  cases l with
  | nil => simp [joinS]
  | cons x xs =>
    simp only [joinS, List.length_append, List.length_flatMap, List.map_cons, List.sum_cons]
    have : (xs.map fun y => sep.length + y.length).sum = (xs.map fun x => x.length + sep.length).sum := by
      congr 1
      refine List.map_congr_left fun y _ => by omega
    omega
theorem joinS_small {sep : List Nat} {l : List (List Nat)} (hs : ∀ x ∈ sep, x ≤ 255) (hl : ∀ y ∈ l, ∀ x ∈ y, x ≤ 255) : ∀ x ∈ joinS sep l, x ≤ 255 := by
  cases l with
  | nil => simp [joinS]
  | cons y ys =>
    intro x hx
    simp only [joinS, List.mem_append, List.mem_flatMap] at hx
    rcases hx with hx | ⟨z, hz, hx | hx⟩
    · exact hl y (by simp) x hx
    · exact hs x hx
    · exact hl z (by simp [hz]) x hx
def T.k : T → Int
  | .mk k _ _ _ _ _ _ _ _ _ _ => k
/-- The text of a tree. -/
noncomputable def T.txt : T → List Nat
  | .mk k u0 u1 u2 u3 _ _ mn mx tx ks =>
    if k = 1 then oneL (S1.mem4 u0.toNat u1.toNat u2.toNat u3.toNat)
    else if k = 2 then (if ks.length = 0 then [40, 41] else joinS [] (ks.attach.map fun ⟨t, _⟩ => itm [2, 3] (T.k t) (T.txt t)))
    else if k = 3 then joinS [124] (ks.attach.map fun ⟨t, _⟩ => itm [3] (T.k t) (T.txt t))
    else if k = 4 then joinS [] (ks.attach.map fun ⟨t, _⟩ => itm [2, 3, 4] (T.k t) (T.txt t)) ++ timesL mn mx
    else [123] ++ nl tx ++ [125]
/-- The texts of the kids. -/
noncomputable def its (cl : List Int) (ks : List T) : List (List Nat) := ks.map fun t => itm cl (T.k t) (T.txt t)
theorem txt_mk (k u0 u1 u2 u3 : Int) (p : Option Addr) (cap : Nat) (mn mx : Int) (tx : ByteArray) (ks : List T) : T.txt (.mk k u0 u1 u2 u3 p cap mn mx tx ks) =
    if k = 1 then oneL (S1.mem4 u0.toNat u1.toNat u2.toNat u3.toNat)
    else if k = 2 then (if ks.length = 0 then [40, 41] else joinS [] (its [2, 3] ks))
    else if k = 3 then joinS [124] (its [3] ks)
    else if k = 4 then joinS [] (its [2, 3, 4] ks) ++ timesL mn mx
    else [123] ++ nl tx ++ [125] := by
  rw [T.txt]
  unfold its
  simp
theorem itm_len (cl : List Int) (k : Int) (l : List Nat) : (itm cl k l).length ≤ l.length + 2 := by unfold itm; split <;> simp
theorem its_sum {cl : List Int} {sep : List Nat} {ks : List T} (hs : sep.length ≤ 1) (h : ∀ t ∈ ks, (T.txt t).length + 3 ≤ 2413 * t.size) : (joinS sep (its cl ks)).length ≤ 2413 * (ks.map T.size).sum := by
  refine Nat.le_trans (joinS_len _ _) ?_
  unfold its
  rw [List.map_map]
  have key : ∀ l : List T, (∀ t ∈ l, (T.txt t).length + 3 ≤ 2413 * t.size) → (l.map (fun t => (itm cl (T.k t) (T.txt t)).length + sep.length)).sum ≤ 2413 * (l.map T.size).sum := by
    intro l
    induction l with
    | nil => intro _; simp
    | cons t l ih =>
      intro h
      simp only [List.map_cons, List.sum_cons]
      have h1 := h t (by simp)
      have h2 := itm_len cl (T.k t) (T.txt t)
      have h3 := ih (fun t ht => h t (by simp [ht]))
      omega
  exact key ks h
theorem ok5 {k u0 u1 u2 u3 : Int} {p : Option Addr} {cap : Nat} {mn mx : Int} {tx : ByteArray} {ks : List T} (h : T.ok (.mk k u0 u1 u2 u3 p cap mn mx tx ks) = true) :
    k = 1 ∨ k = 2 ∨ (k = 3 ∧ 2 ≤ ks.length) ∨ (k = 4 ∧ ks.length = 1 ∧ boundsB mn mx = true) ∨ (k = 5 ∧ NameOk (nl tx)) := by
  replace h : okB _ k ks.length mn mx tx = true := h
  unfold okB at h
  split at h
  · exact .inl (by assumption)
  · split at h
    · exact .inr (.inl (by assumption))
    · split at h
      · simp only [Bool.and_eq_true, decide_eq_true_eq] at h
        exact .inr (.inr (.inl ⟨by assumption, h.1⟩))
      · split at h
        · simp only [Bool.and_eq_true, decide_eq_true_eq] at h
          exact .inr (.inr (.inr (.inl ⟨by assumption, h.1.1, h.1.2⟩)))
        · split at h
          · simp only [Bool.and_eq_true, decide_eq_true_eq] at h
            exact .inr (.inr (.inr (.inr ⟨by assumption, (nameB_iff _).1 h.1.2⟩)))
          · cases h
theorem txt_len {t : T} (h : T.All (fun t => T.ok t = true) t) : (T.txt t).length + 3 ≤ 2413 * t.size := by
  induction h with
  | @mk k u0 u1 u2 u3 p cap mn mx tx ks h _ ih =>
    rw [txt_mk, T.size_mk]
    have j2 := its_sum (cl := [2, 3]) (sep := []) (by simp) ih
    have j3 := its_sum (cl := [3]) (sep := [124]) (by simp) ih
    have j4 := its_sum (cl := [2, 3, 4]) (sep := []) (by simp) ih
    have ht := timesL_len mn mx
    have h1 := oneL_len (S1.mem4 u0.toNat u1.toNat u2.toNat u3.toNat)
    rcases ok5 h with rfl | rfl | ⟨rfl, -⟩ | ⟨rfl, -, -⟩ | ⟨rfl, hn⟩
    · simp only [if_true]; omega
    · simp only [show ¬ (2 : Int) = 1 by decide, if_false, if_true]
      split
      · simp; omega
      · omega
    · simp only [show ¬ (3 : Int) = 1 by decide, show ¬ (3 : Int) = 2 by decide, if_false, if_true]; omega
    · simp only [show ¬ (4 : Int) = 1 by decide, show ¬ (4 : Int) = 2 by decide, show ¬ (4 : Int) = 3 by decide, if_false, if_true, List.length_append]; omega
    · simp only [show ¬ (5 : Int) = 1 by decide, show ¬ (5 : Int) = 2 by decide, show ¬ (5 : Int) = 3 by decide, show ¬ (5 : Int) = 4 by decide, if_false, List.length_append, List.length_cons, List.length_nil]
      have := hn.2.1
      omega
theorem txt_small {t : T} (h : T.All (fun t => T.ok t = true) t) : ∀ x ∈ T.txt t, x ≤ 255 := by
  induction h with
  | @mk k u0 u1 u2 u3 p cap mn mx tx ks h _ ih =>
    rw [txt_mk]
    have hi : ∀ cl, ∀ y ∈ its cl ks, ∀ x ∈ y, x ≤ 255 := fun cl y hy x hx => by
      unfold its at hy
      obtain ⟨t, ht, rfl⟩ := List.mem_map.1 hy
      unfold itm at hx
      split at hx
      · simp only [List.mem_append, List.mem_cons, List.not_mem_nil, or_false] at hx
        rcases hx with (rfl | hx) | rfl
        · decide
        · exact ih t ht x hx
        · decide
      · exact ih t ht x hx
    rcases ok5 h with rfl | rfl | ⟨rfl, -⟩ | ⟨rfl, -, hb⟩ | ⟨rfl, hn⟩
    · simp only [if_true]; exact oneL_small _
    · simp only [show ¬ (2 : Int) = 1 by decide, if_false, if_true]
      split
      · simp
      · exact joinS_small (by simp) (hi _)
    · simp only [show ¬ (3 : Int) = 1 by decide, show ¬ (3 : Int) = 2 by decide, if_false, if_true]; exact joinS_small (by simp) (hi _)
    · simp only [show ¬ (4 : Int) = 1 by decide, show ¬ (4 : Int) = 2 by decide, show ¬ (4 : Int) = 3 by decide, if_false, if_true]
      intro x hx
      rcases List.mem_append.1 hx with hx | hx
      · exact joinS_small (by simp) (hi _) x hx
      · exact timesL_small hb x hx
    · simp only [show ¬ (5 : Int) = 1 by decide, show ¬ (5 : Int) = 2 by decide, show ¬ (5 : Int) = 3 by decide, show ¬ (5 : Int) = 4 by decide, if_false]
      intro x hx
      simp only [List.mem_append, List.mem_cons, List.not_mem_nil, or_false] at hx
      rcases hx with (rfl | hx) | rfl
      · decide
      · exact nl_small _ x hx
      · decide
end Go.Proofs.YtjlmeegaiagfpaaGreatDoor.S7

namespace Go.Proofs.YtjlmeegaiagfpaaGreatDoor.S7
open Go.RowKit
open Go.Tree7
set_option maxRecDepth 10000 in
set_option maxHeartbeats 2000000 in
theorem xInts_in {cs : List Int} {g m : Nat} {x : Int} (w : World) (hm : cs.length = m) (hl : m ≤ 3) (hrow : w.heap[g]? = some (.cells (cs.map fun c => Value.int .i64 c).toArray 3 (0, 0))) :
    Calls Tryz.prog 70 #[.slice (some ⟨g, 0, none⟩) m m, .int .i64 x] w fun e w' => ∃ r : Int, e = .returned (.int .i64 r) ∧ (0 ≤ r ↔ x ∈ cs) ∧ w = w' := by
  have hc := Lib.hid (fun k (hk : k < m) => (cells_of hrow k (.int .i64 (cs[k]'(by omega))) (by simp [hm, hk])).1)
  have hno : Hid ((∀ j (hj : j < cs.length), cs[j] ≠ x) → x ∉ cs) := Lib.hid fun h hx => by
    obtain ⟨j, hj, e⟩ := List.getElem_of_mem hx
    exact h j hj e
  have hyes : Hid (∀ j (hj : j < cs.length), cs[j] = x → x ∈ cs) := Lib.hid fun j hj e => by rw [← e]; exact List.getElem_mem hj
  clear hrow
  go_enter Tryz.func70, Tryz.ntmps70
  go_wp2
  go_loop [8] (fun i => ∃ k : Nat, k ≤ m ∧ i = .int .i64 k ∧ Hid (∀ j (hj : j < cs.length), j < k → cs[j] ≠ x)) (fun i => m - (intOf i).toNat)
  case atStart => exact ⟨0, Nat.zero_le _, rfl, Lib.hid fun j hj h => by omega⟩
  case round =>
    obtain ⟨k, hk, rfl, hn⟩ := hrel
    by_cases hlt : k < m
    · have h1 := hc.out k hlt
      by_cases e : cs[k]'(by omega) = x
      · have hy := Lib.hid (hyes.out k (by omega) e)
        rw [e] at h1
        clear e
        go_wp2
        go_ret
        exact ⟨(k : Int), rfl, ⟨fun _ => hy.out, fun _ => by omega⟩, rfl⟩
      · obtain ⟨c, hcc⟩ : ∃ c, cs[k]'(by omega) = c := ⟨_, rfl⟩
        rw [hcc] at h1
        have hq : (x == c) = false := by simp; intro e'; exact e (by rw [hcc, e'])
        have hn2 : Hid (∀ j (hj : j < cs.length), j < k + 1 → cs[j] ≠ x) := Lib.hid fun j hj h => by
          by_cases e2 : j = k
          · subst e2; exact e
          · exact hn.out j hj (by omega)
        clear e hcc
        go_wp2
        go_round
        case rel => exact ⟨k + 1, by omega, by go_num, hn2⟩
        case measure => simp [intOf]; omega
    · have hx := Lib.hid (hno.out fun j hj => hn.out j hj (by omega))
      go_wp2
      go_ret
      exact ⟨-1, rfl, ⟨fun h => by omega, fun h => absurd h hx.out⟩, rfl⟩
set_option maxHeartbeats 1000000 in
theorem cInts_in {cs : List Int} {g m : Nat} {x : Int} (w : World) (hm : cs.length = m) (hl : m ≤ 3) (hrow : w.heap[g]? = some (.cells (cs.map fun c => Value.int .i64 c).toArray 3 (0, 0))) :
    Calls Tryz.prog 52 #[.slice (some ⟨g, 0, none⟩) m m, .int .i64 x] w fun e w' => e = .returned (.bool (decide (x ∈ cs))) ∧ w = w' := by
  have C := Lib.hid (xInts_in (x := x) w hm hl hrow)
  clear hrow
  obtain ⟨q, hq⟩ : ∃ q, decide (x ∈ cs) = q := ⟨_, rfl⟩
  have hq' : Hid (x ∈ cs ↔ q = true) := Lib.hid (by rw [← hq]; simp)
  rw [hq]
  clear hq
  go_enter Tryz.func52, Tryz.ntmps52
  go_wp2_with (go_at_call 70; (with_reducible refine C.out.mono ?_); rintro e w1 ⟨r, rfl, hr, rfl⟩; replace hr := Lib.hid hr)
  go_ret
  refine ⟨ret_bool ?_, rfl⟩
  have := hr.out.trans hq'.out
  cases q <;> simp_all
end Go.Proofs.YtjlmeegaiagfpaaGreatDoor.S7

namespace Go.Proofs.YtjlmeegaiagfpaaGreatDoor.S7
open Go.RowKit
open Go.Tree7
open S5 (nl nl_length nl_small at_nl nl_at nl_strN Bld)
theorem Bld.al {B b : Nat} {l : List Nat} {w : World} (h : Bld B b l w) (o : Obj) : Bld B b l (w.alloc o) := h.bel ((Below.refl _ _).alloc (Nat.le_refl _) _)
theorem lit40 : strN [40] = ⟨#[40]⟩ := by decide +kernel
theorem lit41 : strN [41] = ⟨#[41]⟩ := by decide +kernel
theorem bld_new (w : World) : Bld w.heap.size w.heap.size [] (w.alloc (.cells #[.pointer none, .slice none 0 0] 84)) :=
  ⟨.pointer none, .inl rfl, Nat.le_refl _, .slice none 0 0, World.alloc_heap_new w _, World.ownsRow_nil _ _ _ _, by simp [Value.ownBlock]⟩
theorem joinS_take {sep : List Nat} {l : List (List Nat)} {k : Nat} (hk : k < l.length) : joinS sep (l.take (k + 1)) = joinS sep (l.take k) ++ (if k = 0 then [] else sep) ++ l[k] := by
  rw [List.take_succ_eq_append_getElem hk, joinS_snoc]
  congr 2
  have : (l.take k).length = k := by simp; omega
  rw [this]
theorem joinS_mono {sep : List Nat} {l : List (List Nat)} (k : Nat) : (joinS sep (l.take k)).length ≤ (joinS sep l).length := by
  rcases l with _ | ⟨x, xs⟩
  · simp
  · rcases k with _ | k
    · simp [joinS]
    · simp only [List.take_succ_cons, joinS, List.length_append, List.length_flatMap]
      have e : xs.flatMap (fun y => sep ++ y) = (xs.take k).flatMap (fun y => sep ++ y) ++ (xs.drop k).flatMap (fun y => sep ++ y) := by
        rw [← List.flatMap_append, List.take_append_drop]
      have := congrArg List.length e
      simp only [List.length_append, List.length_flatMap] at this
      omega
theorem oneL_ne (f : Nat → Bool) : oneL f ≠ [] := by
  unfold oneL
  split
  · intro h
    rename_i h1
    obtain ⟨c, hc, hc5⟩ := el_one h1
    rw [hc] at h
    have := (S5.sp_length (po_sp hc5)).1
    simp only [List.headD_cons] at h
    rw [h] at this
    simp at this
  · split
    · simp
    · unfold S6.txtB
      split <;> simp
theorem joinS_ne {sep : List Nat} {l : List (List Nat)} (hl : l ≠ []) (h : ∀ y ∈ l, y ≠ []) : joinS sep l ≠ [] := by
  cases l with
  | nil => exact absurd rfl hl
  | cons x xs =>
    intro e
    simp only [joinS, List.append_eq_nil_iff] at e
    exact h x (by simp) e.1
theorem its_ne {cl : List Int} {ks : List T} (h : ∀ t ∈ ks, T.txt t ≠ []) : ∀ y ∈ its cl ks, y ≠ [] := fun y hy => by
  unfold its at hy
  obtain ⟨t, ht, rfl⟩ := List.mem_map.1 hy
  unfold itm
  split
  · simp
  · exact h t ht
theorem txt_ne {t : T} (h : T.All (fun t => T.ok t = true) t) : T.txt t ≠ [] := by
  induction h with
  | @mk k u0 u1 u2 u3 p cap mn mx tx ks h _ ih =>
    rw [txt_mk]
    rcases ok5 h with rfl | rfl | ⟨rfl, h2⟩ | ⟨rfl, h2, hb⟩ | ⟨rfl, hn⟩
    · simp only [if_true]; exact oneL_ne _
    · simp only [show ¬ (2 : Int) = 1 by decide, if_false, if_true]
      split
      · simp
      · rename_i hz
        exact joinS_ne (fun e => hz (by have := congrArg List.length e; simpa [its] using this)) (its_ne ih)
    · simp only [show ¬ (3 : Int) = 1 by decide, show ¬ (3 : Int) = 2 by decide, if_false, if_true]
      exact joinS_ne (fun e => by have := congrArg List.length e; simp [its] at this; subst this; simp at h2) (its_ne ih)
    · simp only [show ¬ (4 : Int) = 1 by decide, show ¬ (4 : Int) = 2 by decide, show ¬ (4 : Int) = 3 by decide, if_false, if_true]
      intro e
      exact joinS_ne (fun e => by have := congrArg List.length e; simp [its] at this; subst this; simp at h2) (its_ne ih) (List.append_eq_nil_iff.1 e).1
    · simp only [show ¬ (5 : Int) = 1 by decide, show ¬ (5 : Int) = 2 by decide, show ¬ (5 : Int) = 3 by decide, show ¬ (5 : Int) = 4 by decide, if_false]
      simp
/-- What text is asked of the kids. -/
def TextOf (w0 : World) (B0 : Nat) (t : T) : Prop := ∀ w', Below B0 w0 w' → S1.Tab w' → Calls Tryz.prog 17 #[.agg t.cells.toArray] w' fun e w'' => e = .returned (.string (strN (T.txt t))) ∧ Below w'.heap.size w' w''
set_option maxRecDepth 10000 in
set_option maxHeartbeats 4000000 in
theorem joined_in {w0 w : World} {B0 : Nat} {k u0 u1 u2 u3 : Int} {p : Option Addr} {cap : Nat} {mn mx : Int} {tx : ByteArray} {ks : List T} (hT : T.In w0 B0 (.mk k u0 u1 u2 u3 p cap mn mx tx ks))
    (hB0 : Below B0 w0 w) (hn0 : B0 ≤ w0.heap.size) (hTab : S1.Tab w) (ih : ∀ t ∈ ks, TextOf w0 B0 t) (hne : ks.length ≠ 0)
    {cl : List Int} {g m : Nat} (hm : cl.length = m) (hml : m ≤ 3) (hrow : w.heap[g]? = some (.cells (cl.map fun c => Value.int .i64 c).toArray 3 (0, 0)))
    {s : ByteArray} {sep : List Nat} (hs : nl s = sep) (hsl : sep.length ≤ 1) (hss : ∀ x ∈ sep, x ≤ 255) (hne2 : ∀ t ∈ ks, T.txt t ≠ []) (hsmall : ∀ t ∈ ks, ∀ x ∈ T.txt t, x ≤ 255) (hlen : ∀ t ∈ ks, (T.txt t).length ≤ 2000000) (hall : (joinS sep (its cl ks)).length ≤ 2000000) :
    Calls Tryz.prog 32 #[.slice p ks.length cap, .string s, .slice (some ⟨g, 0, none⟩) m m] w fun e w' => e = .returned (.string (strN (joinS sep (its cl ks)))) ∧ Below w.heap.size w w' := by
  have hks : ks.length ≤ 9223372036854775807 := by cases hT with | mk h1 h2 => unfold maxLen at h2; omega
  have hlen' : (its cl ks).length = ks.length := by simp [its]
  have hsz : s.size ≤ 1 := by rw [← nl_length, hs]; exact hsl
  have hsm2 : ∀ y ∈ its cl ks, ∀ x ∈ y, x ≤ 255 := fun y hy x hx => by
    unfold its at hy
    obtain ⟨t, ht, rfl⟩ := List.mem_map.1 hy
    unfold itm at hx
    split at hx
    · simp only [List.mem_append, List.mem_cons, List.not_mem_nil, or_false] at hx
      rcases hx with (rfl | hx) | rfl
      · decide
      · exact hsmall t ht x hx
      · decide
    · exact hsmall t ht x hx
  have hres := Lib.hid (joinS_small hss hsm2)
  have hget : ∀ j (hj : j < ks.length), (its cl ks)[j]'(by omega) = itm cl (T.k ks[j]) (T.txt ks[j]) := fun j hj => by simp [its]
  obtain ⟨J, hJ⟩ : ∃ J : Nat → List Nat, ∀ j, J j = joinS sep ((its cl ks).take j) := ⟨_, fun _ => rfl⟩
  have hJ0 : J 0 = [] := by rw [hJ]; rfl
  have hJs : ∀ j (hj : j < ks.length), J (j + 1) = J j ++ (if j = 0 then [] else sep) ++ itm cl (T.k ks[j]) (T.txt ks[j]) := fun j hj => by
    rw [hJ, hJ, joinS_take (by omega), hget j hj]
  have hJl : ∀ j, (J j).length ≤ 2000000 := fun j => by rw [hJ]; exact Nat.le_trans (joinS_mono j) hall
  have hJe : J ks.length = joinS sep (its cl ks) := by rw [hJ, List.take_of_length_le (by omega)]
  have hJsm : ∀ x ∈ J ks.length, x ≤ 255 := by rw [hJe]; exact hres.out
  have hJne : J ks.length ≠ [] := by rw [hJe]; exact joinS_ne (fun e => hne (by have := congrArg List.length e; simpa [its] using this)) (its_ne hne2)
  rw [← hJe]
  have hT' := Lib.hid hT
  have hB0' := Lib.hid hB0
  have hTab' := Lib.hid hTab
  have hrow' := Lib.hid hrow
  replace hJs := Lib.hid hJs
  replace hJl := Lib.hid hJl
  replace hlen := Lib.hid hlen
  replace hsmall := Lib.hid hsmall
  replace ih := Lib.hid ih
  have hg : g < w.heap.size := (Array.getElem?_eq_some_iff.1 hrow).1
  have hBn : B0 ≤ w.heap.size := Nat.le_trans hn0 hB0.size
  have hBl0 : Hid (Bld w.heap.size w.heap.size (J 0) (w.alloc (.cells #[.pointer none, .slice none 0 0] 84))) := Lib.hid (by rw [hJ0]; exact bld_new w)
  have hBB0 := Lib.hid ((Below.refl w.heap.size w).alloc (Nat.le_refl _) (.cells #[.pointer none, .slice none 0 0] 84))
  replace hs := Lib.hid hs
  replace hJne := Lib.hid hJne
  replace hJsm := Lib.hid hJsm
  clear hT hB0 hTab hrow hsm2 hres hget hJ hJ0 hJe hne2 hall hss hlen' 
  go_enter Tryz.func32, Tryz.ntmps32
  go_wp2
  go_loopw [12] (fun i wr => ∃ j : Nat, j ≤ ks.length ∧ i = .int .i64 j ∧ Hid (Bld w.heap.size w.heap.size (J j) wr) ∧ Hid (Below w.heap.size w wr)) (fun i _ => ks.length - (intOf i).toNat)
  case atStart => exact ⟨0, Nat.zero_le _, rfl, hBl0, hBB0⟩
  case round =>
    clear hBl0 hBB0
    obtain ⟨j, hj, rfl, hBl, hB⟩ := hrel
    by_cases hlt : j < ks.length
    · obtain ⟨b, o, hkid, hp, hb, hc⟩ := T.kid hT'.out hlt
      have hwB : Below B0 w0 wr := hB0'.out.trans (hB.out.mono hBn)
      have hcl : ∀ q, q < 9 → wr.cell? ⟨b, o + j * 9 + q, none⟩ = (ks[j].cells)[q]? := fun q hq => by
        rw [← hc q hq]
        exact hwB.cell (p := ⟨b, o + j * 9 + q, none⟩) hb
      have hnext := hJs.out j hlt
      have hi := ih.out _ (List.getElem_mem hlt)
      unfold TextOf at hi
      have hl1 := hlen.out _ (List.getElem_mem hlt)
      have hsm1 := hsmall.out _ (List.getElem_mem hlt)
      clear hkid hc
      obtain ⟨r, hr⟩ : ∃ r, decide (T.k ks[j] ∈ cl) = r := ⟨_, rfl⟩
      have hitm : itm cl (T.k ks[j]) (T.txt ks[j]) = if r = true then [40] ++ T.txt ks[j] ++ [41] else T.txt ks[j] := by unfold itm; rw [← hr]; simp
      rw [hitm] at hnext
      clear hitm
      have cC : ∀ wr', wr'.heap[g]? = some (.cells (cl.map fun c => Value.int .i64 c).toArray 3 (0, 0)) → Calls Tryz.prog 52 #[.slice (some ⟨g, 0, none⟩) m m, .int .i64 (T.k ks[j])] wr' fun e w' => e = .returned (.bool r) ∧ wr' = w' := fun wr' h => by rw [← hr]; exact cInts_in wr' hm hml h
      clear hr
      generalize ks[j] = kd at *
      generalize T.txt kd = F at *
      have rowAt : Hid (∀ X, Below w.heap.size w X → X.heap[g]? = some (.cells (cl.map fun c => Value.int .i64 c).toArray 3 (0, 0))) := Lib.hid fun X hX => (hX.block g hg).trans hrow'.out
      have textAt : Hid (∀ X, Below w.heap.size w X → Calls Tryz.prog 17 #[.agg kd.cells.toArray] X fun e w'' => e = .returned (.string (strN F)) ∧ Below X.heap.size X w'') := Lib.hid fun X hX => hi X (hB0'.out.trans (hX.mono hBn)) (hTab'.out.below hX hTab'.out.1)
      have sF : (strN F).size ≤ 2000000 := by rw [strN_size]; exact hl1
      have hjl := hJl.out j
      clear hi hwB
      cases kd with
      | mk k' u0' u1' u2' u3' p' cap' mn' mx' tx' ks' =>
        simp only [T.cells, T.k] at *
        obtain ⟨c0, c1, c2, c3, c4, c5, c6, c7, c8⟩ := nine_of hcl
        subst hp
        clear hcl
        replace cC := Lib.hid cC
        have hBl1 := Lib.hid (Bld.al hBl.out (.cells #[.int .i64 k', .int .u64 u0', .int .u64 u1', .int .u64 u2', .int .u64 u3', .slice p' ks'.length cap', .int .i64 mn', .int .i64 mx', .string tx'] 27))
        have hB1 := Lib.hid (hB.out.alloc hB.out.size (.cells #[.int .i64 k', .int .u64 u0', .int .u64 u1', .int .u64 u2', .int .u64 u3', .slice p' ks'.length cap', .int .i64 mn', .int .i64 mx', .string tx'] 27))
        have nlP : nl (⟨#[40]⟩ ++ strN F ++ ⟨#[41]⟩) = [40] ++ F ++ [41] := by
          rw [show (⟨#[40]⟩ ++ strN F ++ ⟨#[41]⟩ : ByteArray) = strN ([40] ++ F ++ [41]) by rw [S6.strN_app, S6.strN_app, lit40, lit41]]
          exact nl_strN (by intro x hx; simp only [List.mem_append, List.mem_cons, List.not_mem_nil, or_false] at hx; rcases hx with (rfl | hx) | rfl <;> first | decide | exact hsm1 x hx)
        have szP : (⟨#[40]⟩ ++ strN F ++ ⟨#[41]⟩ : ByteArray).size ≤ 100000000 := by
          rw [← nl_length, nlP]; simp; omega
        by_cases h0 : j = 0
        · have d0 : decide (0 < j) = false := by simp; omega
          rw [if_pos h0, List.append_nil] at hnext
          clear h0
          cases r with
          | true =>
            rw [if_pos rfl] at hnext
            have k2 := Lib.hid (fun wr' (h : Bld w.heap.size w.heap.size (J j) wr') (hb : w.heap.size ≤ wr'.heap.size) => S6.write_keep wr' h nlP (by omega) szP hb)
            replace hnext := Lib.hid hnext
            clear nlP szP
            go_wp2_with (first | (go_at_call 52; (with_reducible refine (cC.out _ (rowAt.out _ hB1.out)).mono ?_); rintro e w7 ⟨rfl, rfl⟩) | (go_at_call 17; (with_reducible refine (textAt.out _ hB1.out).mono ?_); rintro e w2 ⟨rfl, h4⟩; replace hBl1 := Lib.hid (hBl1.out.bel h4); replace hB1 := Lib.hid (hB1.out.trans (h4.mono hB1.out.size)); clear h4) | (go_at_call 51; (with_reducible refine (k2.out _ hBl1.out hB1.out.size).mono ?_); rintro e w3 ⟨rfl, h1, h2, -⟩; replace hBl1 := Lib.hid h1; replace hB1 := Lib.hid (hB1.out.trans h2); clear h1 h2))
            go_roundw
            case rel => exact ⟨j + 1, by omega, by go_num, Lib.hid (by rw [hnext.out]; exact hBl1.out), hB1⟩
            case measure => simp [intOf]; omega
          | false =>
            rw [if_neg (by simp)] at hnext
            have k2 := Lib.hid (fun wr' (h : Bld w.heap.size w.heap.size (J j) wr') (hb : w.heap.size ≤ wr'.heap.size) => S6.write_keep wr' h (nl_strN hsm1) (by omega) (Nat.le_trans sF (by decide)) hb)
            replace hnext := Lib.hid hnext
            clear nlP szP
            go_wp2_with (first | (go_at_call 52; (with_reducible refine (cC.out _ (rowAt.out _ hB1.out)).mono ?_); rintro e w7 ⟨rfl, rfl⟩) | (go_at_call 17; (with_reducible refine (textAt.out _ hB1.out).mono ?_); rintro e w2 ⟨rfl, h4⟩; replace hBl1 := Lib.hid (hBl1.out.bel h4); replace hB1 := Lib.hid (hB1.out.trans (h4.mono hB1.out.size)); clear h4) | (go_at_call 51; (with_reducible refine (k2.out _ hBl1.out hB1.out.size).mono ?_); rintro e w3 ⟨rfl, h1, h2, -⟩; replace hBl1 := Lib.hid h1; replace hB1 := Lib.hid (hB1.out.trans h2); clear h1 h2))
            go_roundw
            case rel => exact ⟨j + 1, by omega, by go_num, Lib.hid (by rw [hnext.out]; exact hBl1.out), hB1⟩
            case measure => simp [intOf]; omega
        · have d0 : decide (0 < j) = true := by simp; omega
          rw [if_neg h0] at hnext
          clear h0
          have k1 := Lib.hid (fun wr' (h : Bld w.heap.size w.heap.size (J j) wr') (hb : w.heap.size ≤ wr'.heap.size) => S6.write_keep wr' h hs.out (by omega) (by omega) hb)
          have hjl2 : (J j ++ sep).length ≤ 100000000 := by simp; omega
          cases r with
          | true =>
            rw [if_pos rfl] at hnext
            have k2 := Lib.hid (fun wr' (h : Bld w.heap.size w.heap.size (J j ++ sep) wr') (hb : w.heap.size ≤ wr'.heap.size) => S6.write_keep wr' h nlP hjl2 szP hb)
            replace hnext := Lib.hid hnext
            clear nlP szP
            go_wp2_with (first | (go_at_call 51; (with_reducible refine (k1.out _ hBl1.out (Nat.le_trans hB1.out.size (Nat.le_refl _))).mono ?_); rintro e w1 ⟨rfl, h1, h2, h3⟩; have hk := cells_of (h3 wr.heap.size _ _ (by decide) (by have := hBl.out.lt; omega) (World.alloc_heap_new wr _)); have x0 := (hk 0 _ rfl).1; have x1 := (hk 1 _ rfl).1; have x2 := (hk 2 _ rfl).1; have x3 := (hk 3 _ rfl).1; have x4 := (hk 4 _ rfl).1; have x5 := (hk 5 _ rfl).1; have x6 := (hk 6 _ rfl).1; have x7 := (hk 7 _ rfl).1; have x8 := (hk 8 _ rfl).1; clear hk h3; replace hBl1 := Lib.hid h1; replace hB1 := Lib.hid (hB1.out.trans h2); clear h1 h2) | (go_at_call 52; (with_reducible refine (cC.out _ (rowAt.out _ hB1.out)).mono ?_); rintro e w7 ⟨rfl, rfl⟩) | (go_at_call 17; (with_reducible refine (textAt.out _ hB1.out).mono ?_); rintro e w2 ⟨rfl, h4⟩; replace hBl1 := Lib.hid (hBl1.out.bel h4); replace hB1 := Lib.hid (hB1.out.trans (h4.mono hB1.out.size)); clear h4) | (go_at_call 51; (with_reducible refine (k2.out _ hBl1.out hB1.out.size).mono ?_); rintro e w3 ⟨rfl, h1, h2, -⟩; replace hBl1 := Lib.hid h1; replace hB1 := Lib.hid (hB1.out.trans h2); clear h1 h2))
            go_roundw
            case rel => exact ⟨j + 1, by omega, by go_num, Lib.hid (by rw [hnext.out]; exact hBl1.out), hB1⟩
            case measure => simp [intOf]; omega
          | false =>
            rw [if_neg (by simp)] at hnext
            have k2 := Lib.hid (fun wr' (h : Bld w.heap.size w.heap.size (J j ++ sep) wr') (hb : w.heap.size ≤ wr'.heap.size) => S6.write_keep wr' h (nl_strN hsm1) hjl2 (Nat.le_trans sF (by decide)) hb)
            replace hnext := Lib.hid hnext
            clear nlP szP
            go_wp2_with (first | (go_at_call 51; (with_reducible refine (k1.out _ hBl1.out (Nat.le_trans hB1.out.size (Nat.le_refl _))).mono ?_); rintro e w1 ⟨rfl, h1, h2, h3⟩; have hk := cells_of (h3 wr.heap.size _ _ (by decide) (by have := hBl.out.lt; omega) (World.alloc_heap_new wr _)); have x0 := (hk 0 _ rfl).1; have x1 := (hk 1 _ rfl).1; have x2 := (hk 2 _ rfl).1; have x3 := (hk 3 _ rfl).1; have x4 := (hk 4 _ rfl).1; have x5 := (hk 5 _ rfl).1; have x6 := (hk 6 _ rfl).1; have x7 := (hk 7 _ rfl).1; have x8 := (hk 8 _ rfl).1; clear hk h3; replace hBl1 := Lib.hid h1; replace hB1 := Lib.hid (hB1.out.trans h2); clear h1 h2) | (go_at_call 52; (with_reducible refine (cC.out _ (rowAt.out _ hB1.out)).mono ?_); rintro e w7 ⟨rfl, rfl⟩) | (go_at_call 17; (with_reducible refine (textAt.out _ hB1.out).mono ?_); rintro e w2 ⟨rfl, h4⟩; replace hBl1 := Lib.hid (hBl1.out.bel h4); replace hB1 := Lib.hid (hB1.out.trans (h4.mono hB1.out.size)); clear h4) | (go_at_call 51; (with_reducible refine (k2.out _ hBl1.out hB1.out.size).mono ?_); rintro e w3 ⟨rfl, h1, h2, -⟩; replace hBl1 := Lib.hid h1; replace hB1 := Lib.hid (hB1.out.trans h2); clear h1 h2))
            go_roundw
            case rel => exact ⟨j + 1, by omega, by go_num, Lib.hid (by rw [hnext.out]; exact hBl1.out), hB1⟩
            case measure => simp [intOf]; omega
    · obtain rfl : j = ks.length := by omega
      have cS := Lib.hid (fun wr (h : Bld w.heap.size w.heap.size (J ks.length) wr) => S5.string_in wr h hJne.out hJsm.out)
      go_wp2_with (go_at_call 53; (with_reducible refine (cS.out _ hBl.out).mono ?_); rintro e w9 ⟨rfl, h1⟩; replace h1 := Lib.hid h1)
      go_ret
      exact ⟨rfl, hB.out.trans h1.out⟩
end Go.Proofs.YtjlmeegaiagfpaaGreatDoor.S7

namespace Go.Proofs.YtjlmeegaiagfpaaGreatDoor.S7
open Go.RowKit
open Go.Tree7
open S5 (nl nl_length nl_small at_nl nl_at nl_strN nl_inj Bld)
theorem strN_nl (s : ByteArray) : strN (nl s) = s := nl_inj (nl_strN (nl_small s))
theorem litP : strN [40, 41] = ⟨#[40, 41]⟩ := by decide +kernel
theorem size_kid {ks : List T} {t : T} (h : t ∈ ks) : t.size ≤ (ks.map T.size).sum := by
  induction ks with
  | nil => cases h
  | cons x xs ih =>
    simp only [List.map_cons, List.sum_cons]
    rcases List.mem_cons.1 h with rfl | h
    · omega
    · have := ih h; omega
/-- joined, for a tree that text has in its hands. -/
theorem joined_of {w0 : World} {B0 : Nat} (hn0 : B0 ≤ w0.heap.size) {k u0 u1 u2 u3 : Int} {p : Option Addr} {cap : Nat} {mn mx : Int} {tx : ByteArray} {ks : List T} (hT : T.In w0 B0 (.mk k u0 u1 u2 u3 p cap mn mx tx ks))
    (hk : ∀ t ∈ ks, T.All (fun t => T.ok t = true) t) (ih : ∀ t ∈ ks, TextOf w0 B0 t) (hsz : 1 + (ks.map T.size).sum ≤ 600) (hne : ks.length ≠ 0)
    {cl : List Int} {m : Nat} (hm : cl.length = m) (hml : m ≤ 3) {s : ByteArray} {sep : List Nat} (hs : nl s = sep) (hsl : sep.length ≤ 1) (hss : ∀ x ∈ sep, x ≤ 255) :
    ∀ (X : World) (g : Nat), Below B0 w0 X → S1.Tab X → X.heap[g]? = some (.cells (cl.map fun c => Value.int .i64 c).toArray 3 (0, 0)) →
      Calls Tryz.prog 32 #[.slice p ks.length cap, .string s, .slice (some ⟨g, 0, none⟩) m m] X fun e w' => e = .returned (.string (strN (joinS sep (its cl ks)))) ∧ Below X.heap.size X w' := fun X g hB hTab hrow => by
  have hl : ∀ t ∈ ks, (T.txt t).length + 3 ≤ 2413 * t.size := fun t ht => txt_len (hk t ht)
  refine joined_in hT hB hn0 hTab ih hne hm hml hrow hs hsl hss (fun t ht => txt_ne (hk t ht)) (fun t ht => txt_small (hk t ht)) (fun t ht => ?_) ?_
  · have h1 := hl t ht
    have h2 := size_kid ht
    omega
  · have := its_sum (cl := cl) hsl hl
    omega
set_option maxRecDepth 10000 in
set_option maxHeartbeats 4000000 in
theorem text_all {w0 : World} {B0 : Nat} (hn0 : B0 ≤ w0.heap.size) {t : T} (h : T.All (fun t => T.ok t = true) t) : T.In w0 B0 t → t.size ≤ 600 → TextOf w0 B0 t := by
  induction h with
  | @mk k u0 u1 u2 u3 p cap mn mx tx ks h hk ih =>
    intro hT hsz
    rw [T.size_mk] at hsz
    have hks : ks.length ≤ 9223372036854775807 := by cases hT with | mk h1 h2 => unfold maxLen at h2; omega
    have hfit : fits k u0 u1 u2 u3 mn mx tx := by cases hT with | mk h1 h2 h3 => exact h3
    have ihT : ∀ t ∈ ks, TextOf w0 B0 t := fun t ht => ih t ht (by cases hT with | mk h1 h2 h3 h4 h5 => exact h5 t ht) (by have := size_kid ht; omega)
    unfold TextOf
    intro w hB hTab
    rw [txt_mk]
    have JO := fun (hne : ks.length ≠ 0) {cl : List Int} {m : Nat} (hm : cl.length = m) (hml : m ≤ 3) {s : ByteArray} {sep : List Nat} (hs : nl s = sep) (hsl : sep.length ≤ 1) (hss : ∀ x ∈ sep, x ≤ 255) => joined_of hn0 hT hk ihT hsz hne hm hml hs hsl hss
    have hBn : B0 ≤ w.heap.size := Nat.le_trans hn0 hB.size
    rcases ok5 h with rfl | rfl | ⟨rfl, h2⟩ | ⟨rfl, h2, hb⟩ | ⟨rfl, hn⟩
    · simp only [if_true]
      have C := fun w hT => oneOf_in (S1.mem4 u0.toNat u1.toNat u2.toNat u3.toNat) w hT
      obtain ⟨e0, e1, e2, e3⟩ := wd_f hfit.2.1
      rw [e0, e1, e2, e3] at C
      clear e0 e1 e2 e3
      generalize strN (oneL (S1.mem4 u0.toNat u1.toNat u2.toNat u3.toNat)) = F at *
      have C2 := Lib.hid (C (w.alloc (.cells #[.int .i64 1, .int .u64 u0, .int .u64 u1, .int .u64 u2, .int .u64 u3, .slice p ks.length cap, .int .i64 mn, .int .i64 mx, .string tx] 27)) (hTab.below ((Below.refl w.heap.size w).alloc (Nat.le_refl _) _) hTab.1))
      simp only [T.cells]
      clear C JO ihT ih hk h hsz hT hfit hB hTab
      go_enter Tryz.func17, Tryz.ntmps17
      go_wp2_with (go_at_call 31; (with_reducible refine C2.out.mono ?_); rintro e w1 ⟨rfl, hb⟩; replace hb := Lib.hid hb)
      go_ret
      exact ⟨rfl, ((Below.refl w.heap.size w).alloc (Nat.le_refl _) _).trans (hb.out.mono (by simp))⟩
    · simp only [show ¬ (2 : Int) = 1 by decide, if_false, if_true]
      by_cases hz : ks.length = 0
      · rw [if_pos hz, litP]
        have hz' : ((ks.length : Int) == 0) = true := by simp [hz]
        simp only [T.cells]
        clear JO ihT ih hk h hsz hT hfit hB hTab hz
        go_enter Tryz.func17, Tryz.ntmps17
        go_wp2
        go_ret
        exact ⟨rfl, (Below.refl w.heap.size w).alloc (Nat.le_refl _) _⟩
      · rw [if_neg hz]
        have hz' : ((ks.length : Int) == 0) = false := by rw [beq_eq_false_iff_ne]; omega
        have J2 := JO hz (cl := [2, 3]) (m := 2) rfl (by decide) (s := ⟨#[]⟩) (sep := []) (by rfl) (by simp) (by simp) ((w.alloc (.cells #[.int .i64 2, .int .u64 u0, .int .u64 u1, .int .u64 u2, .int .u64 u3, .slice p ks.length cap, .int .i64 mn, .int .i64 mx, .string tx] 27)).alloc (.cells #[.int .i64 2, .int .i64 3] 3)) (w.heap.size + 1)
          ((hB.alloc hBn _).alloc (Nat.le_trans hBn (by simp)) _) (hTab.below (((Below.refl w.heap.size w).alloc (Nat.le_refl _) _).alloc (by simp) _) hTab.1) (by have := World.alloc_heap_new (w.alloc (.cells #[.int .i64 2, .int .u64 u0, .int .u64 u1, .int .u64 u2, .int .u64 u3, .slice p ks.length cap, .int .i64 mn, .int .i64 mx, .string tx] 27)) (.cells #[.int .i64 2, .int .i64 3] 3); rw [World.size_alloc] at this; exact this)
        generalize strN (joinS [] (its [2, 3] ks)) = F at *
        replace J2 := Lib.hid J2
        simp only [T.cells]
        clear JO ihT ih hk h hsz hT hfit hB hTab hz
        go_enter Tryz.func17, Tryz.ntmps17
        go_wp2_with (go_at_call 32; (with_reducible refine J2.out.mono ?_); rintro e w1 ⟨rfl, hb⟩; replace hb := Lib.hid hb)
        go_ret
        exact ⟨rfl, (((Below.refl w.heap.size w).alloc (Nat.le_refl _) _).alloc (by simp) _).trans (hb.out.mono (by simp; omega))⟩
    · simp only [show ¬ (3 : Int) = 1 by decide, show ¬ (3 : Int) = 2 by decide, if_false, if_true]
      have J3 := JO (by omega) (cl := [3]) (m := 1) rfl (by decide) (s := ⟨#[124]⟩) (sep := [124]) (by rfl) (by simp) (by simp) ((w.alloc (.cells #[.int .i64 3, .int .u64 u0, .int .u64 u1, .int .u64 u2, .int .u64 u3, .slice p ks.length cap, .int .i64 mn, .int .i64 mx, .string tx] 27)).alloc (.cells #[.int .i64 3] 3)) (w.heap.size + 1)
          ((hB.alloc hBn _).alloc (Nat.le_trans hBn (by simp)) _) (hTab.below (((Below.refl w.heap.size w).alloc (Nat.le_refl _) _).alloc (by simp) _) hTab.1) (by have := World.alloc_heap_new (w.alloc (.cells #[.int .i64 3, .int .u64 u0, .int .u64 u1, .int .u64 u2, .int .u64 u3, .slice p ks.length cap, .int .i64 mn, .int .i64 mx, .string tx] 27)) (.cells #[.int .i64 3] 3); rw [World.size_alloc] at this; exact this)
      generalize strN (joinS [124] (its [3] ks)) = F at *
      replace J3 := Lib.hid J3
      simp only [T.cells]
      clear JO ihT ih hk h hsz hT hfit hB hTab
      go_enter Tryz.func17, Tryz.ntmps17
      go_wp2_with (go_at_call 32; (with_reducible refine J3.out.mono ?_); rintro e w1 ⟨rfl, hb⟩; replace hb := Lib.hid hb)
      go_ret
      exact ⟨rfl, (((Below.refl w.heap.size w).alloc (Nat.le_refl _) _).alloc (by simp) _).trans (hb.out.mono (by simp; omega))⟩
    · simp only [show ¬ (4 : Int) = 1 by decide, show ¬ (4 : Int) = 2 by decide, show ¬ (4 : Int) = 3 by decide, if_false, if_true]
      rw [S6.strN_app]
      have J4 := JO (by omega) (cl := [2, 3, 4]) (m := 3) rfl (by decide) (s := ⟨#[]⟩) (sep := []) (by rfl) (by simp) (by simp)
      have T4 := fun w => times_in hb w
      have sT : (strN (timesL mn mx)).size ≤ 10 := by rw [strN_size]; exact timesL_len mn mx
      have sF : (strN (joinS [] (its [2, 3, 4] ks))).size ≤ 2000000 := by
        rw [strN_size]
        have := its_sum (cl := [2, 3, 4]) (sep := []) (by simp) (fun t ht => txt_len (hk t ht))
        omega
      generalize strN (joinS [] (its [2, 3, 4] ks)) = F at *
      generalize strN (timesL mn mx) = G at *
      have hFG : Hid (¬ (9223372036854775807 < F.size + G.size)) := Lib.hid (by omega)
      replace J4 := Lib.hid J4
      replace T4 := Lib.hid T4
      have hB1 := Lib.hid ((Below.refl w.heap.size w).alloc (Nat.le_refl _) (.cells #[.int .i64 4, .int .u64 u0, .int .u64 u1, .int .u64 u2, .int .u64 u3, .slice p ks.length cap, .int .i64 mn, .int .i64 mx, .string tx] 27))
      have hB' := Lib.hid hB
      have hTab' := Lib.hid hTab
      have hbox : (w.alloc (.cells #[.int .i64 4, .int .u64 u0, .int .u64 u1, .int .u64 u2, .int .u64 u3, .slice p ks.length cap, .int .i64 mn, .int .i64 mx, .string tx] 27)).heap[w.heap.size]? = some (.cells #[.int .i64 4, .int .u64 u0, .int .u64 u1, .int .u64 u2, .int .u64 u3, .slice p ks.length cap, .int .i64 mn, .int .i64 mx, .string tx] 27 (0, 0)) := World.alloc_heap_new _ _
      simp only [T.cells]
      clear JO ihT ih hk h hsz hT hfit hB hTab
      have hlt1 : w.heap.size < (w.alloc (.cells #[.int .i64 4, .int .u64 u0, .int .u64 u1, .int .u64 u2, .int .u64 u3, .slice p ks.length cap, .int .i64 mn, .int .i64 mx, .string tx] 27)).heap.size := by simp
      have hTab1 := Lib.hid (hTab'.out.below hB1.out hTab'.out.1)
      have hB2 := Lib.hid (hB'.out.trans (hB1.out.mono hBn))
      generalize hw1 : w.alloc (.cells #[.int .i64 4, .int .u64 u0, .int .u64 u1, .int .u64 u2, .int .u64 u3, .slice p ks.length cap, .int .i64 mn, .int .i64 mx, .string tx] 27) = w1 at *
      have hR : Hid (Below w1.heap.size w1 (w1.alloc (.cells #[.int .i64 2, .int .i64 3, .int .i64 4] 3)).drew) := Lib.hid ((Below.refl w1.heap.size w1).alloc (Nat.le_refl _) _).drew
      have J5 := Lib.hid (J4.out (w1.alloc (.cells #[.int .i64 2, .int .i64 3, .int .i64 4] 3)).drew w1.heap.size (hB2.out.trans (hR.out.mono (Nat.le_trans hBn hB1.out.size))) (hTab1.out.below hR.out hTab1.out.1) (World.alloc_heap_new w1 _))
      clear J4 h2 hb
      replace hw1 := Lib.hid hw1
      go_enter Tryz.func17, Tryz.ntmps17
      go_wp2
      rw [hw1.out]
      refine wp_region_held_drew (S := Bel w1) (by kernel_rfl) (Bel.drew (Bel.refl _)) (fun hHeld => ?_)
      refine wpAnyH_take (i := 0) (v := ?v0u1) rfl (by kernel_rfl) (by kernel_rfl) (by kernel_rfl) (fun _ _ _ h => h) (Or.inl ⟨by rfl, ?h0u1⟩) hHeld ?r0u1
      case h0u1 => (intro wq hSw; go_simp <;> with_reducible rfl)
      try simp only [Act.put, List.setIfInBounds_toArray]
      refine wpAnyH_take (i := 1) (v := ?v1u2) rfl (by kernel_rfl) (by kernel_rfl) (by kernel_rfl) (fun _ _ _ h => h) (Or.inl ⟨by rfl, ?h1u2⟩) hHeld ?r1u2
      case h1u2 => (intro wq hSw; have hk := cells_of ((Below.block hSw _ hlt1).trans hbox); have c5 := (hk 5 _ rfl).1; have c6 := (hk 6 _ rfl).1; have c7 := (hk 7 _ rfl).1; clear hk; go_simp <;> with_reducible rfl)
      try simp only [Act.put]
      refine wpAnyH_take (i := 4) (v := ?v4u3) rfl (by kernel_rfl) (by kernel_rfl) (by kernel_rfl) (fun _ _ _ h => h) (Or.inl ⟨by rfl, ?h4u3⟩) hHeld ?r4u3
      case h4u3 => (intro wq hSw; go_simp <;> with_reducible rfl)
      try simp only [Act.put]
      refine wpAnyH_take (i := 5) (v := ?v5u4) rfl (by kernel_rfl) (by kernel_rfl) (by kernel_rfl) (fun _ _ _ h => h) (Or.inl ⟨by rfl, ?h5u4⟩) hHeld ?r5u4
      case h5u4 => (intro wq hSw; have hk := cells_of ((Below.block hSw _ hlt1).trans hbox); have c5 := (hk 5 _ rfl).1; have c6 := (hk 6 _ rfl).1; have c7 := (hk 7 _ rfl).1; clear hk; go_simp <;> with_reducible rfl)
      try simp only [Act.put]
      refine wpAnyH_take (i := 6) (v := ?v6u5) rfl (by kernel_rfl) (by kernel_rfl) (by kernel_rfl) (fun _ _ _ h => h) (Or.inl ⟨by rfl, ?h6u5⟩) hHeld ?r6u5
      case h6u5 => (intro wq hSw; go_simp <;> with_reducible rfl)
      try simp only [Act.put]
      refine wpAnyH_take (i := 7) (v := ?v7u6) rfl (by kernel_rfl) (by kernel_rfl) (by kernel_rfl) (fun _ _ _ h => h) (Or.inl ⟨by rfl, ?h7u6⟩) hHeld ?r7u6
      case h7u6 => (intro wq hSw; have hk := cells_of ((Below.block hSw _ hlt1).trans hbox); have c5 := (hk 5 _ rfl).1; have c6 := (hk 6 _ rfl).1; have c7 := (hk 7 _ rfl).1; clear hk; go_simp <;> with_reducible rfl)
      try simp only [Act.put]
      refine wpAnyH_ready (rs := [2]) (by kernel_rfl) (by simp) ?_
      refine AllReadyH.cons (o := _) rfl (fun K hK => ?_) AllReadyH.nil
      go_simp
      try dsimp only
      refine hK.out _ _ (by first | assumption | exact hHeld | exact Below.alloc hHeld (Below.size hHeld) _ | exact hB6.out) (fun hHeld2 => ?_)
      clear hK K hHeld
      have hHeld := hHeld2
      clear hHeld2
      try simp only [Act.put, List.setIfInBounds_toArray, List.set_cons_zero, List.set_cons_succ]
      refine wpAnyH_ready (rs := [3]) (by kernel_rfl) (by simp) ?_
      refine AllReadyH.cons (o := _) rfl (fun K hK => ?_) AllReadyH.nil
      go_simp
      (go_at_call 32; (with_reducible refine J5.out.mono ?_); rintro e w6 ⟨rfl, hb6⟩; have hB6 := Lib.hid (hR.out.trans (hb6.mono hR.out.size)); clear hb6)
      try dsimp only
      refine hK.out _ _ (by first | assumption | exact hHeld | exact Below.alloc hHeld (Below.size hHeld) _ | exact hB6.out) (fun hHeld2 => ?_)
      clear hK K hHeld
      have hHeld := hHeld2
      clear hHeld2
      try simp only [Act.put, List.setIfInBounds_toArray, List.set_cons_zero, List.set_cons_succ]
      refine wpAnyH_ready (rs := [8]) (by kernel_rfl) (by simp) ?_
      refine AllReadyH.cons (o := _) rfl (fun K hK => ?_) AllReadyH.nil
      go_simp
      (go_at_call 33; (with_reducible refine (T4.out _).mono ?_); rintro e w5 ⟨rfl, rfl⟩)
      try dsimp only
      refine hK.out _ _ (by first | assumption | exact hHeld | exact Below.alloc hHeld (Below.size hHeld) _ | exact hB6.out) (fun hHeld2 => ?_)
      clear hK K hHeld
      have hHeld := hHeld2
      clear hHeld2
      try simp only [Act.put, List.setIfInBounds_toArray, List.set_cons_zero, List.set_cons_succ]
      refine wpAnyH_ready (rs := [9]) (by kernel_rfl) (by simp) ?_
      refine AllReadyH.cons (o := _) rfl (fun K hK => ?_) AllReadyH.nil
      go_simp
      rw [if_neg hFG.out]
      go_simp
      try dsimp only
      refine hK.out _ _ (by first | assumption | exact hHeld | exact Below.alloc hHeld (Below.size hHeld) _ | exact hB6.out) (fun hHeld2 => ?_)
      clear hK K hHeld
      have hHeld := hHeld2
      clear hHeld2
      try simp only [Act.put, List.setIfInBounds_toArray, List.set_cons_zero, List.set_cons_succ]
      refine wpAnyH_ready (rs := [10]) (by kernel_rfl) (by simp) ?_
      refine AllReadyH.cons (o := _) rfl (fun K hK => ?_) AllReadyH.nil
      go_simp
      try dsimp only
      refine hK.out _ _ (by first | assumption | exact hHeld | exact Below.alloc hHeld (Below.size hHeld) _ | exact hB6.out) (fun hHeld2 => ?_)
      clear hK K hHeld
      have hHeld := hHeld2
      clear hHeld2
      try simp only [Act.put, List.setIfInBounds_toArray, List.set_cons_zero, List.set_cons_succ]
      refine wpAnyH_done (by kernel_rfl) ?_ _
      go_wp2
      go_ret
      exact ⟨rfl, hB1.out.trans (hB6.out.mono hB1.out.size)⟩

    · simp only [show ¬ (5 : Int) = 1 by decide, show ¬ (5 : Int) = 2 by decide, show ¬ (5 : Int) = 3 by decide, show ¬ (5 : Int) = 4 by decide, if_false]
      have htx : tx.size ≤ 12 := by rw [← nl_length]; exact hn.2.1
      have e : strN ([123] ++ nl tx ++ [125]) = ⟨#[123]⟩ ++ tx ++ ⟨#[125]⟩ := by rw [S6.strN_app, S6.strN_app, lit123, lit125, strN_nl]
      rw [e]
      simp only [T.cells]
      clear JO ihT ih hk h hsz hT hfit hB hTab e hn
      go_enter Tryz.func17, Tryz.ntmps17
      go_wp2
      go_ret
      exact ⟨rfl, (Below.refl w.heap.size w).alloc (Nat.le_refl _) _⟩
end Go.Proofs.YtjlmeegaiagfpaaGreatDoor.S7

namespace Go.Proofs.YtjlmeegaiagfpaaGreatDoor.S7
open Go.RowKit
open Go.Tree7
open S5 (nl nl_length nl_small at_nl nl_at nl_strN nl_inj Bld)
/-- What Text hands back. -/
noncomputable def textS (t : T) : ByteArray := if rightB t = true then strN (T.txt t) else ⟨#[]⟩
set_option maxRecDepth 10000 in
set_option maxHeartbeats 2000000 in
theorem text_in {t : T} {w : World} (hT : T.In w w.heap.size t) (hTab : S1.Tab w) :
    Calls Tryz.prog 9 #[.agg t.cells.toArray] w fun e w' => e = .returned (.string (textS t)) ∧ Below w.heap.size w w' := by
  have hB1 : Below w.heap.size w (w.alloc (.cells t.cells.toArray 27)) := (Below.refl w.heap.size w).alloc (Nat.le_refl _) _
  have R := Lib.hid (right_in ((hT.keep hB1).mono hB1.size))
  unfold textS
  by_cases hr : rightB t = true
  · rw [hr] at R
    rw [if_pos hr]
    obtain ⟨ha, hs⟩ := right_all ((rightB_iff t).1 hr)
    have X := text_all (Nat.le_refl _) ha hT hs
    unfold TextOf at X
    generalize strN (T.txt t) = F at *
    have X2 := Lib.hid (fun w' (h : Below w.heap.size w w') => X w' h (hTab.below h hTab.1))
    replace hB1 := Lib.hid hB1
    clear X hTab hT ha hs hr
    cases t with
    | mk k u0 u1 u2 u3 p cap mn mx tx ks =>
      simp only [T.cells] at *
      go_enter Tryz.func9, Tryz.ntmps9
      go_wp2_with (first
        | (go_at_call 7; (with_reducible refine R.out.mono ?_); rintro e w1 ⟨rfl, hb⟩; have hk := cells_of (kept_row (World.alloc_heap_new _ _) hb); have x0 := (hk 0 _ rfl).1; have x1 := (hk 1 _ rfl).1; have x2 := (hk 2 _ rfl).1; have x3 := (hk 3 _ rfl).1; have x4 := (hk 4 _ rfl).1; have x5 := (hk 5 _ rfl).1; have x6 := (hk 6 _ rfl).1; have x7 := (hk 7 _ rfl).1; have x8 := (hk 8 _ rfl).1; clear hk; have hB2 := Lib.hid (hB1.out.trans (hb.mono hB1.out.size)); clear hb)
        | (go_at_call 17; (with_reducible refine (X2.out _ hB2.out).mono ?_); rintro e w2 ⟨rfl, hb⟩; replace hb := Lib.hid hb))
      go_ret
      exact ⟨rfl, hB2.out.trans (hb.out.mono hB2.out.size)⟩
  · have hr' : rightB t = false := by cases h : rightB t; rfl; exact absurd h hr
    rw [hr'] at R
    rw [if_neg hr]
    replace hB1 := Lib.hid hB1
    clear hTab hT hr hr'
    cases t with
    | mk k u0 u1 u2 u3 p cap mn mx tx ks =>
      simp only [T.cells] at *
      go_enter Tryz.func9, Tryz.ntmps9
      go_wp2_with (go_at_call 7; (with_reducible refine R.out.mono ?_); rintro e w1 ⟨rfl, hb⟩; replace hb := Lib.hid hb)
      go_ret
      exact ⟨rfl, hB1.out.trans (hb.out.mono hB1.out.size)⟩
theorem el_congr {f g : Nat → Bool} (h : ∀ c, c < 256 → f c = g c) : S1.el f 256 = S1.el g 256 := by
  have key : ∀ p, p ≤ 256 → S1.el f p = S1.el g p := by
    intro p
    induction p with
    | zero => intro _; rfl
    | succ p ih =>
      intro hp
      simp only [S1.el]
      rw [ih (by omega), h p (by omega)]
  exact key 256 (Nat.le_refl _)
theorem mem4_wd (f : Nat → Bool) {c : Nat} (hc : c < 256) : S1.mem4 (S1.wd f 0) (S1.wd f 1) (S1.wd f 2) (S1.wd f 3) c = f c := by
  obtain ⟨q0, q1, q2, q3⟩ := S1.wd_mem4 (S1.wd_lt f 0) (S1.wd_lt f 1) (S1.wd_lt f 2) (S1.wd_lt f 3)
  have hk : c / 64 = 0 ∨ c / 64 = 1 ∨ c / 64 = 2 ∨ c / 64 = 3 := by omega
  rcases hk with hk | hk | hk | hk
  · have := S1.wd_inj q0 (c % 64) (by omega)
    rwa [show 64 * 0 + c % 64 = c by omega] at this
  · have := S1.wd_inj q1 (c % 64) (by omega)
    rwa [show 64 * 1 + c % 64 = c by omega] at this
  · have := S1.wd_inj q2 (c % 64) (by omega)
    rwa [show 64 * 2 + c % 64 = c by omega] at this
  · have := S1.wd_inj q3 (c % 64) (by omega)
    rwa [show 64 * 3 + c % 64 = c by omega] at this
theorem po_a : po 97 = [97] := by
  have h := po_sp (c := 97) (by decide)
  generalize po 97 = l at h
  cases h <;> simp_all [S5.out]
end Go.Proofs.YtjlmeegaiagfpaaGreatDoor.S7

namespace Go.Proofs.YtjlmeegaiagfpaaGreatDoor.S7
open Go.RowKit
open Go.Tree7
open S5 (nl nl_length nl_small at_nl nl_at nl_strN nl_inj Bld)
/-- A leaf: one byte of a set. -/
def leafT (f : Nat → Bool) : T := .mk 1 (S1.wd f 0 : Nat) (S1.wd f 1 : Nat) (S1.wd f 2 : Nat) (S1.wd f 3 : Nat) none 0 0 0 ⟨#[]⟩ []
theorem wf_nat {n : Nat} (h : n < 18446744073709551616) : (Lit.int .u64 n).wf = true := WalkArith.wf_u64 (by omega)
theorem leaf_in (f : Nat → Bool) (w : World) (B : Nat) : T.In w B (leafT f) :=
  .mk (Nat.le_refl _) (Nat.zero_le _) ⟨by decide, ⟨wf_nat (S1.wd_lt f 0), wf_nat (S1.wd_lt f 1), wf_nat (S1.wd_lt f 2), wf_nat (S1.wd_lt f 3)⟩, by decide, by decide, by decide⟩ (fun i hi => by simp at hi) (fun t ht => by simp at ht)
theorem plain0 : plainB S1.noS 0 0 ⟨#[]⟩ = true := by
  have e : (⟨#[]⟩ : ByteArray).toList.isEmpty = true := by rw [ByteArray.toList_eq]; rfl
  unfold plainB
  rw [empty_noS, e]
  rfl
theorem leaf_ok (f : Nat → Bool) : T.ok (leafT f) = true := by
  show okB _ 1 0 0 0 ⟨#[]⟩ = true
  unfold okB
  rw [if_pos rfl, plain0]
  rfl
theorem el_a : S1.el (S1.oneS 97) 256 = [97] := by kernel_rfl
theorem leaf_txt : T.txt (leafT (S1.oneS 97)) = [97] := by
  unfold leafT
  rw [txt_mk, if_pos rfl]
  have h : S1.el (S1.mem4 (((S1.wd (S1.oneS 97) 0 : Nat) : Int)).toNat (((S1.wd (S1.oneS 97) 1 : Nat) : Int)).toNat (((S1.wd (S1.oneS 97) 2 : Nat) : Int)).toNat (((S1.wd (S1.oneS 97) 3 : Nat) : Int)).toNat) 256 = [97] := by
    rw [← el_a]
    refine el_congr fun c hc => ?_
    simp only [Int.toNat_natCast]
    exact mem4_wd _ hc
  unfold oneL
  rw [h]
  exact po_a
/-- The tree of the example. -/
def starT (g : Nat) : T := .mk 4 0 0 0 0 (some ⟨g, 0, none⟩) 1 0 (-1) ⟨#[]⟩ [leafT (S1.oneS 97)]
theorem star_ok (g : Nat) : T.ok (starT g) = true := by
  show okB _ 4 1 0 (-1) ⟨#[]⟩ = true
  have h0 : S1.eqB (S1.mem4 0 0 0 0) S1.noS = true := S1.eqB_true fun c _ => by simp [S1.mem4, S1.noS]
  have e : (⟨#[]⟩ : ByteArray).toList.isEmpty = true := by rw [ByteArray.toList_eq]; rfl
  unfold okB
  rw [if_neg (by decide), if_neg (by decide), if_neg (by decide), if_pos rfl]
  unfold plainB T.f starT
  simp only [Int.toNat_zero]
  rw [h0, e]
  rfl
theorem star_right (g : Nat) : rightB (starT g) = true := by
  refine (rightB_iff _).2 ?_
  have e : allT (starT g) = [(1, starT g), (2, leafT (S1.oneS 97))] := rfl
  refine ⟨fun x hx => ?_, by rw [e]; simp⟩
  rw [e] at hx
  simp only [List.mem_cons, List.not_mem_nil, or_false] at hx
  rcases hx with rfl | rfl
  · exact ⟨by simp, star_ok g⟩
  · exact ⟨by simp, leaf_ok _⟩
theorem star_txt (g : Nat) : T.txt (starT g) = [97, 42] := by
  unfold starT
  rw [txt_mk, if_neg (by decide), if_neg (by decide), if_neg (by decide), if_pos rfl]
  have e : its [2, 3, 4] [leafT (S1.oneS 97)] = [[97]] := by
    unfold its
    simp only [List.map_cons, List.map_nil]
    rw [leaf_txt]
    rfl
  rw [e]
  rfl
theorem star_in {g : Nat} {w : World} {B : Nat} {u0 u1 u2 u3 : Nat} (h0 : S1.wd (S1.oneS 97) 0 = u0) (h1 : S1.wd (S1.oneS 97) 1 = u1) (h2 : S1.wd (S1.oneS 97) 2 = u2) (h3 : S1.wd (S1.oneS 97) 3 = u3) (hB : g < B) (h : w.heap[g]? = some (.cells #[.int .i64 1, .int .u64 u0, .int .u64 u1, .int .u64 u2, .int .u64 u3, .slice none 0 0, .int .i64 0, .int .i64 0, .string ⟨#[]⟩] 27 (0, 0))) : T.In w B (starT g) := by
  refine .mk (Nat.le_refl _) (by decide) ⟨by decide, ⟨by decide, by decide, by decide, by decide⟩, by decide, by decide, by decide⟩ (fun i hi => ⟨⟨g, 0, none⟩, rfl, hB, fun j hj => ?_⟩) (fun t ht => ?_)
  · simp only [List.length_cons, List.length_nil] at hi
    obtain rfl : i = 0 := by omega
    have e : (⟨g, 0, none⟩ : Addr).add (0 * 9 + j) = ⟨g, j, none⟩ := by unfold Addr.add; split <;> simp_all
    rw [e, cell_of_row _ _ _ _ _ (0, 0) h]
    simp [leafT, T.cells, h0, h1, h2, h3]
  · simp only [List.mem_cons, List.not_mem_nil, or_false] at ht
    subst ht
    exact leaf_in _ _ _
theorem litA : strN [97, 42] = ⟨#[97, 42]⟩ := by decide +kernel
end Go.Proofs.YtjlmeegaiagfpaaGreatDoor.S7

namespace Go.Tree7
open Go.RowKit
/-- Its nodes lie in w, in blocks of S. -/
inductive T.InP (w : World) (S : Nat → Prop) : T → Prop
  | mk {k u0 u1 u2 u3 : Int} {p : Option Addr} {cap : Nat} {mn mx : Int} {tx : ByteArray} {kids : List T} (hb : kids.length ≤ cap) (hm : cap ≤ maxLen) (hf : fits k u0 u1 u2 u3 mn mx tx)
      (h : ∀ i (_ : i < kids.length), ∃ a, p = some a ∧ S a.block ∧ ∀ j, j < 9 → w.cell? (a.add (i * 9 + j)) = (kids[i].cells)[j]?) (hk : ∀ t ∈ kids, T.InP w S t) : T.InP w S (.mk k u0 u1 u2 u3 p cap mn mx tx kids)
theorem T.InP.keep {w w' : World} {S : Nat → Prop} (hk : ∀ b, S b → w'.heap[b]? = w.heap[b]?) {t : T} (h : T.InP w S t) : T.InP w' S t := by
  induction h with
  | mk hl hm hf h _ ih =>
    refine .mk hl hm hf (fun i hi => ?_) ih
    obtain ⟨a, rfl, ha, hc⟩ := h i hi
    refine ⟨a, rfl, ha, fun j hj => ?_⟩
    rw [← hc j hj]
    refine World.cell?_of_block ?_
    have e : (a.add (i * 9 + j)).block = a.block := by unfold Addr.add; split <;> rfl
    rw [e]
    exact hk _ ha
theorem T.InP.imp {w : World} {S S' : Nat → Prop} (hS : ∀ b, S b → S' b) {t : T} (h : T.InP w S t) : T.InP w S' t := by
  induction h with
  | mk hl hm hf h _ ih =>
    refine .mk hl hm hf (fun i hi => ?_) ih
    obtain ⟨a, rfl, ha, hc⟩ := h i hi
    exact ⟨a, rfl, hS _ ha, hc⟩
theorem T.InP.toIn {w : World} {S : Nat → Prop} {B : Nat} (hS : ∀ b, S b → b < B) {t : T} (h : T.InP w S t) : T.In w B t := by
  induction h with
  | mk hl hm hf h _ ih =>
    refine .mk hl hm hf (fun i hi => ?_) ih
    obtain ⟨a, rfl, ha, hc⟩ := h i hi
    exact ⟨a, rfl, hS _ ha, hc⟩
theorem T.In.toP {w : World} {B : Nat} {t : T} (h : T.In w B t) : T.InP w (fun b => b < B) t := by
  induction h with
  | mk hl hm hf h _ ih =>
    refine .mk hl hm hf (fun i hi => ?_) ih
    obtain ⟨a, rfl, ha, hc⟩ := h i hi
    exact ⟨a, rfl, ha, hc⟩
end Go.Tree7
namespace Go.Proofs.YtjlmeegaiagfpaaGreatDoor.S7
open Go.RowKit
open Go.Tree7
/-- A chain: a leaf, so many levels above it. -/
inductive IsChain (l : T) : Nat → T → Prop
  | zero : IsChain l 0 l
  | succ {j : Nat} {t : T} (g : Nat) (h : IsChain l j t) : IsChain l (j + 1) (.mk 2 0 0 0 0 (some ⟨g, 0, none⟩) 1 0 0 ⟨#[]⟩ [t])
theorem cat_ok (p : Option Addr) (cap : Nat) (ks : List T) : T.ok (.mk 2 0 0 0 0 p cap 0 0 ⟨#[]⟩ ks) = true := by
  show okB _ 2 _ 0 0 ⟨#[]⟩ = true
  have h0 : S1.eqB (S1.mem4 0 0 0 0) S1.noS = true := S1.eqB_true fun c _ => by simp [S1.mem4, S1.noS]
  have e : (⟨#[]⟩ : ByteArray).toList.isEmpty = true := by rw [ByteArray.toList_eq]; rfl
  unfold okB
  rw [if_neg (by decide), if_pos rfl]
  unfold plainB T.f
  simp only [Int.toNat_zero]
  rw [h0, e]
  rfl
theorem leaf_pre (f : Nat → Bool) (d lv : Nat) : preT d lv (leafT f) = [(lv, leafT f)] := by cases d <;> simp [preT, leafT, T.kids]
theorem chain_pre {f : Nat → Bool} {j : Nat} {t : T} (h : IsChain (leafT f) j t) : ∀ d lv, (∀ x ∈ preT d lv t, T.ok x.2 = true) ∧ (preT d lv t).map Prod.fst = (List.range (min j d + 1)).map (lv + ·) := by
  induction h with
  | zero =>
    intro d lv
    rw [leaf_pre]
    exact ⟨fun x hx => by simp at hx; subst hx; exact leaf_ok f, by simp⟩
  | @succ j t g h ih =>
    intro d lv
    cases d with
    | zero => exact ⟨fun x hx => by simp only [preT, List.mem_cons, List.not_mem_nil, or_false] at hx; subst hx; exact cat_ok _ _ _, by simp [preT]⟩
    | succ d =>
      obtain ⟨h1, h2⟩ := ih d (lv + 1)
      simp only [preT, T.kids, List.flatMap_cons, List.flatMap_nil, List.append_nil]
      refine ⟨fun x hx => ?_, ?_⟩
      · rcases List.mem_cons.1 hx with rfl | hx
        · exact cat_ok _ _ _
        · exact h1 x hx
      · rw [List.map_cons, h2, show min (j + 1) (d + 1) + 1 = (min j d + 1) + 1 by omega, List.range_succ_eq_map (n := min j d + 1), List.map_cons, List.map_map]
        congr 1
        refine List.map_congr_left fun x _ => ?_
        simp only [Function.comp_apply]
        omega
theorem chain_all {f : Nat → Bool} {j : Nat} {t : T} (h : IsChain (leafT f) j t) : allT t = preT 24 1 t ∧ (allT t).length = min j 24 + 1 := by
  have h2 := (chain_pre h 24 1).2
  have hl : (preT 24 1 t).length = min j 24 + 1 := by have := congrArg List.length h2; simpa using this
  have e : allT t = preT 24 1 t := by unfold allT; exact List.take_of_length_le (by omega)
  exact ⟨e, by rw [e, hl]⟩
theorem chain_right {f : Nat → Bool} {j : Nat} {t : T} (h : IsChain (leafT f) j t) : rightB t = decide (j < 24) := by
  obtain ⟨h1, h2⟩ := chain_pre h 24 1
  obtain ⟨h3, h4⟩ := chain_all h
  rw [Bool.eq_iff_iff, rightB_iff, decide_eq_true_eq]
  unfold RightP
  rw [h4, h3]
  constructor
  · rintro ⟨h5, -⟩
    rcases Nat.lt_or_ge j 24 with h6 | h6
    · exact h6
    · exfalso
      have hm : (25 : Nat) ∈ (preT 24 1 t).map Prod.fst := by
        rw [h2]
        exact List.mem_map.2 ⟨24, List.mem_range.2 (by omega), rfl⟩
      obtain ⟨x, hx, e⟩ := List.mem_map.1 hm
      have := (h5 x hx).1
      omega
  · intro h6
    refine ⟨fun x hx => ⟨?_, h1 x hx⟩, by omega⟩
    have hm : x.1 ∈ (preT 24 1 t).map Prod.fst := List.mem_map.2 ⟨x, hx, rfl⟩
    rw [h2] at hm
    obtain ⟨y, hy, e⟩ := List.mem_map.1 hm
    have := List.mem_range.1 hy
    omega
theorem fold_range (n : Nat) : ((List.range (n + 1)).map (1 + ·)).foldl max 0 = n + 1 := by
  induction n with
  | zero => rfl
  | succ n ih =>
    rw [List.range_succ, List.map_append, List.foldl_append, ih]
    simp
    omega
theorem chain_deep {f : Nat → Bool} {j : Nat} {t : T} (h : IsChain (leafT f) j t) : deepOf (allT t) = min (j + 1) 25 := by
  unfold deepOf
  rw [(chain_all h).1, (chain_pre h 24 1).2, fold_range]
  omega
/-- A wide tree: so many leaves. -/
def wideT (f : Nat → Bool) (m : Nat) (p : Option Addr) (cap : Nat) : T := .mk 2 0 0 0 0 p cap 0 0 ⟨#[]⟩ (List.replicate m (leafT f))
theorem wide_all (f : Nat → Bool) (m : Nat) (p : Option Addr) (cap : Nat) : allT (wideT f m p cap) = ((1, wideT f m p cap) :: List.replicate m (2, leafT f)).take 601 := by
  unfold allT
  congr 1
  rw [show (24 : Nat) = 23 + 1 by rfl, preT]
  congr 1
  simp only [wideT, T.kids]
  have : ∀ m : Nat, (List.replicate m (leafT f)).flatMap (preT 23 (1 + 1)) = List.replicate m (2, leafT f) := by
    intro m
    induction m with
    | zero => rfl
    | succ m ih => rw [List.replicate_succ, List.flatMap_cons, ih, leaf_pre, List.replicate_succ]; rfl
  exact this m
theorem wide_len (f : Nat → Bool) (m : Nat) (p : Option Addr) (cap : Nat) : (allT (wideT f m p cap)).length = min (m + 1) 601 := by
  rw [wide_all]
  simp
  omega
theorem wide_right (f : Nat → Bool) (m : Nat) (p : Option Addr) (cap : Nat) : rightB (wideT f m p cap) = decide (m < 600) := by
  rw [Bool.eq_iff_iff, rightB_iff, decide_eq_true_eq]
  unfold RightP
  rw [wide_len]
  constructor
  · rintro ⟨-, h⟩; omega
  · intro h
    refine ⟨fun x hx => ?_, by omega⟩
    rw [wide_all] at hx
    have := List.mem_of_mem_take hx
    rcases List.mem_cons.1 this with rfl | h1
    · exact ⟨by simp, cat_ok _ _ _⟩
    · obtain ⟨-, rfl⟩ := List.mem_replicate.1 h1
      exact ⟨by simp, leaf_ok f⟩
/-- A wide tree's kids lie in a row of one's own. -/
theorem wide_in {w : World} {base m : Nat} {f : Nat → Bool} {v : Value} (h : w.ownsRow base 27 9 v m (List.replicate m (leafT f).cells).flatten) : ∃ p cap, v = .slice p m cap ∧ T.In w w.heap.size (wideT f m p cap) := by
  have h9 : ∀ m : Nat, ∀ i j : Nat, i < m → j < 9 → (List.replicate m (leafT f).cells).flatten[i * 9 + j]? = (leafT f).cells[j]? := by
    intro m
    induction m with
    | zero => intro i j h1; omega
    | succ m ih =>
      intro i j h1 h2
      rw [List.replicate_succ, List.flatten_cons]
      cases i with
      | zero => rw [List.getElem?_append_left (by rw [T.cells_length]; omega)]; simp
      | succ i =>
        rw [List.getElem?_append_right (by rw [T.cells_length]; omega), T.cells_length, show (i + 1) * 9 + j - 9 = i * 9 + j by omega]
        exact ih i j (by omega) h2
  obtain ⟨p, cap, rfl, hcap, hnil, hc⟩ := row_form h
  have hmax : cap ≤ maxLen := by
    rcases h.2 with ⟨e, -⟩ | ⟨g, cap', cur, e, -, -, -, hm, -⟩
    · cases e; exact Nat.zero_le _
    · cases e; exact hm
  refine ⟨p, cap, rfl, .mk (by simpa using hcap) hmax ⟨by decide, ⟨by decide, by decide, by decide, by decide⟩, by decide, by decide, by decide⟩ (fun i hi => ?_) (fun t ht => ?_)⟩
  · have hi' : i < m := by simpa using hi
    obtain ⟨g, rfl, hb, hg, hcell⟩ := hc (by omega)
    refine ⟨⟨g, 0, none⟩, rfl, hg, fun j hj => ?_⟩
    have e : (⟨g, 0, none⟩ : Addr).add (i * 9 + j) = ⟨g, i * 9 + j, none⟩ := by unfold Addr.add; split <;> simp_all
    rw [e, hcell _ (by omega), h9 m i j hi' hj]
    simp
  · obtain ⟨-, rfl⟩ := List.mem_replicate.1 ht
    exact leaf_in f _ _
end Go.Proofs.YtjlmeegaiagfpaaGreatDoor.S7

namespace Go.Proofs.YtjlmeegaiagfpaaGreatDoor.S7
open Go.RowKit
open Go.Tree7
theorem box_set {w : World} {b : Nat} {cs : Array Value} {t : TypeId} (h : w.heap[b]? = some (.cells cs t (0, 0))) (q : Nat) (v : Value) : (w.setCell ⟨b, q, none⟩ v).heap[b]? = some (.cells (cs.setIfInBounds q v) t (0, 0)) := by
  simp [World.setCell, Array.getElem?_modify, h]
theorem size_set (w : World) (a : Addr) (v : Value) : (w.setCell a v).heap.size = w.heap.size := by simp [World.setCell]
/-- A node's nine cells, all set. -/
theorem arr9 {c0 c1 c2 c3 c4 c5 c6 c7 c8 d0 d1 d2 d3 d4 d5 d6 d7 d8 : Value} : ((((((((((#[c0, c1, c2, c3, c4, c5, c6, c7, c8] : Array Value).setIfInBounds 0 d0).setIfInBounds 1 d1).setIfInBounds 2 d2).setIfInBounds 3 d3).setIfInBounds 4 d4).setIfInBounds 5 d5).setIfInBounds 6 d6).setIfInBounds 7 d7).setIfInBounds 8 d8) = #[d0, d1, d2, d3, d4, d5, d6, d7, d8] := by
  simp
theorem set9 {w : World} {b : Nat} {c0 c1 c2 c3 c4 c5 c6 c7 c8 d0 d1 d2 d3 d4 d5 d6 d7 d8 : Value} {t : TypeId} (h : w.heap[b]? = some (.cells #[c0, c1, c2, c3, c4, c5, c6, c7, c8] t (0, 0))) (W : World) (hW : W = (((((((((w.setCell ⟨b, 0, none⟩ d0).setCell ⟨b, 1, none⟩ d1).setCell ⟨b, 2, none⟩ d2).setCell ⟨b, 3, none⟩ d3).setCell ⟨b, 4, none⟩ d4).setCell ⟨b, 5, none⟩ d5).setCell ⟨b, 6, none⟩ d6).setCell ⟨b, 7, none⟩ d7).setCell ⟨b, 8, none⟩ d8)) :
    W.heap[b]? = some (.cells #[d0, d1, d2, d3, d4, d5, d6, d7, d8] t (0, 0)) ∧ W.heap.size = w.heap.size ∧ (∀ k, k ≠ b → W.heap[k]? = w.heap[k]?) ∧ ∀ n, n ≤ b → Below n w W := by
  have a0 := box_set h 0 d0
  have a1 := box_set a0 1 d1
  have a2 := box_set a1 2 d2
  have a3 := box_set a2 3 d3
  have a4 := box_set a3 4 d4
  have a5 := box_set a4 5 d5
  have a6 := box_set a5 6 d6
  have a7 := box_set a6 7 d7
  have a8 := box_set a7 8 d8
  rw [arr9, ← hW] at a8
  refine ⟨a8, by rw [hW]; simp only [size_set], fun k hk => ?_, fun n hn => ?_⟩
  · rw [hW]
    iterate 9 rw [Below.heap_setCell _ _ _ _ hk]
  · rw [hW]
    have s0 := (Below.refl n w).setCell (p := ⟨b, 0, none⟩) hn d0
    have s1 := s0.setCell (p := ⟨b, 1, none⟩) hn d1
    have s2 := s1.setCell (p := ⟨b, 2, none⟩) hn d2
    have s3 := s2.setCell (p := ⟨b, 3, none⟩) hn d3
    have s4 := s3.setCell (p := ⟨b, 4, none⟩) hn d4
    have s5 := s4.setCell (p := ⟨b, 5, none⟩) hn d5
    have s6 := s5.setCell (p := ⟨b, 6, none⟩) hn d6
    have s7 := s6.setCell (p := ⟨b, 7, none⟩) hn d7
    exact s7.setCell (p := ⟨b, 8, none⟩) hn d8
end Go.Proofs.YtjlmeegaiagfpaaGreatDoor.S7

namespace Go.Tree7
open Go.RowKit
/-- A tree without its places. -/
def T.strip : T → T
  | .mk k u0 u1 u2 u3 _ _ mn mx tx ks => .mk k u0 u1 u2 u3 none 0 mn mx tx (ks.attach.map fun ⟨t, _⟩ => t.strip)
theorem T.strip_mk (k u0 u1 u2 u3 : Int) (p : Option Addr) (cap : Nat) (mn mx : Int) (tx : ByteArray) (ks : List T) : (T.mk k u0 u1 u2 u3 p cap mn mx tx ks).strip = .mk k u0 u1 u2 u3 none 0 mn mx tx (ks.map T.strip) := by
  rw [T.strip]
  simp
/-- A proof over the kids first. -/
theorem T.ind {P : T → Prop} (h : ∀ k u0 u1 u2 u3 p cap mn mx tx ks, (∀ t ∈ ks, P t) → P (.mk k u0 u1 u2 u3 p cap mn mx tx ks)) : ∀ t, P t
  | .mk k u0 u1 u2 u3 p cap mn mx tx ks => h k u0 u1 u2 u3 p cap mn mx tx ks fun t _ => T.ind h t
theorem T.size_pos (t : T) : 1 ≤ t.size := by
  cases t
  rw [T.size_mk]
  omega
theorem strip_parts {k u0 u1 u2 u3 k' u0' u1' u2' u3' : Int} {p p' : Option Addr} {cap cap' : Nat} {mn mx mn' mx' : Int} {tx tx' : ByteArray} {ks ks' : List T} (h : (T.mk k u0 u1 u2 u3 p cap mn mx tx ks).strip = (T.mk k' u0' u1' u2' u3' p' cap' mn' mx' tx' ks').strip) :
    k = k' ∧ u0 = u0' ∧ u1 = u1' ∧ u2 = u2' ∧ u3 = u3' ∧ mn = mn' ∧ mx = mx' ∧ tx = tx' ∧ ks.map T.strip = ks'.map T.strip := by
  rw [T.strip_mk, T.strip_mk] at h
  injection h with h1 h2 h3 h4 h5 h6 h7 h8 h9 h10 h11
  exact ⟨h1, h2, h3, h4, h5, h8, h9, h10, h11⟩
theorem map_of_strip {α : Type} {F : T → α} (hF : ∀ t, F t.strip = F t) {ks ks' : List T} (h : ks.map T.strip = ks'.map T.strip) : ks.map F = ks'.map F := by
  have e : ∀ l : List T, l.map F = (l.map T.strip).map F := fun l => by
    rw [List.map_map]
    exact List.map_congr_left fun t _ => (hF t).symm
  rw [e ks, e ks', h]
theorem size_strip : ∀ t : T, t.strip.size = t.size := by
  refine T.ind fun k u0 u1 u2 u3 p cap mn mx tx ks ih => ?_
  rw [T.strip_mk, T.size_mk, T.size_mk, List.map_map]
  congr 2
  exact List.map_congr_left fun t ht => ih t ht
theorem pre_strip : ∀ (d lv : Nat) (t : T), pre d lv t.strip = pre d lv t := by
  intro d
  induction d with
  | zero => intro lv t; cases t; rw [T.strip_mk]; simp [pre, T.step]
  | succ d ih =>
    intro lv t
    cases t
    rw [T.strip_mk]
    simp only [pre, T.kids, T.step, List.length_map, List.flatMap_map]
    congr 1
    congr 1
    funext t
    exact ih _ _
theorem pre_of_strip {t t' : T} (h : t.strip = t'.strip) (d lv : Nat) : pre d lv t = pre d lv t' := by rw [← pre_strip d lv t, h, pre_strip]
theorem size_of_strip {t t' : T} (h : t.strip = t'.strip) : t.size = t'.size := by rw [← size_strip t, h, size_strip]
theorem T.InP.length {w : World} {S : Nat → Prop} {k u0 u1 u2 u3 : Int} {p : Option Addr} {cap : Nat} {mn mx : Int} {tx : ByteArray} {ks : List T} (h : T.InP w S (.mk k u0 u1 u2 u3 p cap mn mx tx ks)) : ks.length ≤ maxLen := by
  cases h with | mk h1 h2 => omega
end Go.Tree7
namespace Go.Proofs.YtjlmeegaiagfpaaGreatDoor.S7
open Go.RowKit
open Go.Tree7
theorem k_strip (t : T) : T.k t.strip = T.k t := by cases t; rw [T.strip_mk]; rfl
theorem ok_strip (t : T) : T.ok t.strip = T.ok t := by cases t; rw [T.strip_mk]; simp only [T.ok, T.f, List.length_map]
theorem its_of {cl : List Int} {ks : List T} (h : ∀ t ∈ ks, T.txt t.strip = T.txt t) : its cl (ks.map T.strip) = its cl ks := by
  unfold its
  rw [List.map_map]
  exact List.map_congr_left fun t ht => by simp only [Function.comp_apply]; rw [k_strip, h t ht]
theorem txt_strip : ∀ t : T, T.txt t.strip = T.txt t := by
  refine T.ind fun k u0 u1 u2 u3 p cap mn mx tx ks ih => ?_
  rw [T.strip_mk, txt_mk, txt_mk, its_of ih, its_of ih, its_of ih, List.length_map]
theorem txt_of_strip {t t' : T} (h : t.strip = t'.strip) : T.txt t = T.txt t' := by rw [← txt_strip t, h, txt_strip]
theorem preT_strip : ∀ (d lv : Nat) (t : T), preT d lv t.strip = (preT d lv t).map fun x => (x.1, x.2.strip) := by
  intro d
  induction d with
  | zero => intro lv t; simp [preT]
  | succ d ih =>
    intro lv t
    cases t
    simp only [preT, List.map_cons, List.map_flatMap]
    rw [T.strip_mk]
    simp only [T.kids, List.flatMap_map]
    congr 1
    congr 1
    funext t
    exact ih _ _
theorem allT_strip (t : T) : allT t.strip = (allT t).map fun x => (x.1, x.2.strip) := by
  unfold allT
  rw [preT_strip, List.map_take]
theorem right_strip (t : T) : rightB t.strip = rightB t := by
  rw [Bool.eq_iff_iff, rightB_iff, rightB_iff]
  unfold RightP
  rw [allT_strip]
  simp only [List.length_map, List.mem_map]
  constructor
  · rintro ⟨h1, h2⟩
    refine ⟨fun x hx => ?_, h2⟩
    have := h1 _ ⟨x, hx, rfl⟩
    rw [ok_strip] at this
    exact this
  · rintro ⟨h1, h2⟩
    refine ⟨fun x hx => ?_, h2⟩
    obtain ⟨y, hy, rfl⟩ := hx
    have := h1 _ hy
    rw [← ok_strip] at this
    exact this
theorem right_of_strip {t t' : T} (h : t.strip = t'.strip) : rightB t = rightB t' := by rw [← right_strip t, h, right_strip]
end Go.Proofs.YtjlmeegaiagfpaaGreatDoor.S7
