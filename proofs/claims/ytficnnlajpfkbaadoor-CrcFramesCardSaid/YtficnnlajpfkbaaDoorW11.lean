/- CrcTurned returns true at every list of bytes, every number and every byte; it asks that the list lie in memory, that the table of halves lie in block 0 and that the error values lie in their variables. -/
import Derived.Test.YtficnnlajpfkbaaDoorW8
import Derived.Laws.OwnMore
namespace Go.Proofs.YtficnnlajpfkbaaDoor
open Go.RowKit
theorem set_at {l : List Nat} {i v : Nat} (hi : i < l.length) : ∃ a b, l = a ++ l[i] :: b ∧ l.set i v = a ++ v :: b :=
  ⟨l.take i, l.drop (i + 1), by simp, by rw [List.set_eq_take_append_cons_drop, if_pos hi]⟩
theorem four_form (n : Nat) : ∃ y0 y1 y2 y3, fourL n = [y0, y1, y2, y3] := ⟨_, _, _, _, rfl⟩
/-- A frame of which one byte was turned does not fit. -/
theorem turned {l : List Nat} (hl : ∀ x ∈ l, x ≤ 255) {i v : Nat} (hi : i < (l ++ fourL (crcN 0 l)).length) (hv : v ≤ 255) (hne : (l ++ fourL (crcN 0 l))[i] ≠ v) :
    ∃ x y0 y1 y2 y3, (l ++ fourL (crcN 0 l)).set i v = x ++ [y0, y1, y2, y3] ∧ x.length = l.length ∧ fits x [y0, y1, y2, y3] = false := by
  rcases Nat.lt_or_ge i l.length with h | h
  · obtain ⟨y0, y1, y2, y3, hy⟩ := four_form (crcN 0 l)
    refine ⟨l.set i v, y0, y1, y2, y3, by rw [List.set_append_left _ _ h, hy], by simp, ?_⟩
    rw [← hy]
    unfold fits
    rw [decide_eq_false_iff_not]
    intro e
    have e2 := fourL_inj e
    obtain ⟨a, b, h1, h2⟩ := set_at (v := v) h
    have hc : l[i] ≠ v := by rw [List.getElem_append_left h] at hne; exact hne
    have hx : (4294967295 - 0) < 2 ^ 32 := by decide
    have sm : ∀ q ∈ l, q < 256 := fun q hq => by have := hl q hq; omega
    have h3 := rall_turned (x := 4294967295 - 0) (a := a) (b := b) (c := l[i]) (d := v) hx (fun q hq => sm q (by rw [h1]; simp [hq])) (fun q hq => sm q (by rw [h1]; simp [hq])) (sm _ (List.getElem_mem h)) (by omega) hc
    rw [← h1, ← h2] at h3
    have a1 := rall_lt hx sm
    have a2 : rall (4294967295 - 0) (l.set i v) < 2 ^ 32 := rall_lt hx fun q hq => by
      rcases List.mem_or_eq_of_mem_set hq with h | h
      · exact sm q h
      · omega
    unfold crcN at e2
    omega
  · have hi4 : i - l.length < 4 := by rw [List.length_append] at hi; have : (fourL (crcN 0 l)).length = 4 := rfl; omega
    obtain ⟨y0, y1, y2, y3, hy⟩ : ∃ y0 y1 y2 y3, (fourL (crcN 0 l)).set (i - l.length) v = [y0, y1, y2, y3] := by
      have : ((fourL (crcN 0 l)).set (i - l.length) v).length = 4 := by rw [List.length_set]; rfl
      match (fourL (crcN 0 l)).set (i - l.length) v, this with
      | [y0, y1, y2, y3], _ => exact ⟨y0, y1, y2, y3, rfl⟩
    refine ⟨l, y0, y1, y2, y3, by rw [List.set_append_right _ _ h, hy], rfl, ?_⟩
    rw [← hy]
    unfold fits
    rw [decide_eq_false_iff_not]
    intro e
    have h1 : ((fourL (crcN 0 l)).set (i - l.length) v)[i - l.length]? = some v := by
      rw [List.getElem?_set_self]; exact hi4
    rw [e] at h1
    rw [List.getElem_append_right h] at hne
    exact hne (List.getElem?_eq_some_iff.1 h1).2
theorem row_set (l : List Nat) (j v : Nat) : (row l).setIfInBounds j (encN v) = row (l.set j v) := by
  unfold row
  rw [List.setIfInBounds_toArray, List.map_set]
theorem Row.set {w : World} {g : Nat} {l : List Nat} (h : Row w g l) (j v : Nat) : Row (w.setCell ⟨g, j, none⟩ (.int .u8 (v : Int))) g (l.set j v) := by
  unfold Row
  rw [heap_setCell_same w g j _ _ _ h]
  rw [show (Value.int .u8 (v : Int)) = encN v from rfl, row_set]
theorem Row.cell {w : World} {g : Nat} {l : List Nat} (h : Row w g l) {j : Nat} (hj : j < l.length) : w.cell? ⟨g, j, none⟩ = some (.int .u8 (l[j] : Nat)) := by
  rw [cell_of_row w g j _ _ _ h, row_get j hj]; rfl
set_option maxRecDepth 100000 in
set_option maxHeartbeats 4000000 in
theorem turnlaw_in (a : Option Addr) (c : Nat) (l : List Nat) (at_ : Int) (by_ : Nat) (hby : by_ ≤ 255) (A : Nat → Addr) (w : World) (hs : Src w a l.length c l) (hT : Tab w) (hE : Errs w A) (hn : l.length ≤ 9223372036854775807) :
    Calls Tryd.prog 5 #[.slice a l.length c, .int .i64 at_, .int .u8 by_] w fun e w' => e = .returned (.bool true) ∧ Below w.heap.size w w' := by
  have hA := alive_in w hT
  replace hA := Lib.hid hA
  by_cases hm : l.length ≤ 2000 ∧ by_ ≠ 0
  · obtain ⟨hm, h0⟩ := hm
    have hm' : ¬ (2000 < (l.length : Int)) := by omega
    have h0' : ((by_ : Int) == 0) = false := by simpa using (by omega : (by_ : Int) ≠ 0)
    have hFr : ∀ w', Bel w w' → Calls Tryd.prog 12 #[.slice a l.length c] w' (GivesFrame w' l) := fun w' hb => framed_in a c l w' (hs.bel hb) (hT.bel hb) (by omega)
    have hsm := hs.small
    obtain ⟨u, hu⟩ : ∃ u : Nat, IntKind.u64.wrap at_ = (u : Int) := ⟨(IntKind.u64.wrap at_).toNat, by rw [IntKind.wrap_u64]; omega⟩
    obtain ⟨i, hi4, hi⟩ : ∃ i : Nat, i < l.length + 4 ∧ (u : Int).tmod ((l.length : Int) + 4) = (i : Int) := ⟨u % (l.length + 4), Nat.mod_lt _ (by omega), by rw [Int.tmod_eq_emod_of_nonneg (by omega)]; simp⟩
    replace hu := Lib.hid hu
    replace hi := Lib.hid hi
    have hiw : wrap64 (i : Int) = (i : Int) := by unfold wrap64; omega
    have hiF : (i : Int) < (l.length : Int) + 4 := by omega
    have huw : IntKind.u64.wrap ((l.length : Int) + 4) = (l.length : Int) + 4 := by rw [IntKind.wrap_u64]; omega
    have hz : ¬ ((l.length : Int) + 4 = 0) := by omega
    replace hiw := Lib.hid hiw
    replace huw := Lib.hid huw
    have hi' : i < (l ++ fourL (crcN 0 l)).length := by rw [List.length_append]; exact hi4
    have hgs : (l ++ fourL (crcN 0 l))[i] ≤ 255 := by
      have hmem := List.getElem_mem hi'
      rcases List.mem_append.1 hmem with h | h
      · exact hsm _ h
      · exact fourL_small (crcN_lt _) _ h
    have hx8 := u8_xor_nat (l ++ fourL (crcN 0 l))[i] by_ (by omega) (by omega)
    replace hx8 := Lib.hid hx8
    have hv : (l ++ fourL (crcN 0 l))[i] ^^^ by_ ≤ 255 := by
      have := Nat.xor_lt_two_pow (n := 8) (x := (l ++ fourL (crcN 0 l))[i]) (y := by_) (by omega) (by omega)
      omega
    have hne : (l ++ fourL (crcN 0 l))[i] ≠ (l ++ fourL (crcN 0 l))[i] ^^^ by_ := by
      intro e
      have : by_ = 0 := by
        have h2 := congrArg ((l ++ fourL (crcN 0 l))[i] ^^^ ·) e
        simp only [← Nat.xor_assoc, Nat.xor_self, Nat.zero_xor] at h2
        exact h2.symm
      exact h0 this
    obtain ⟨x, y0, y1, y2, y3, hset, hxl, hfit⟩ := turned hsm hi' hv hne
    have hsmF : ∀ q ∈ l ++ fourL (crcN 0 l), q ≤ 255 := by
      intro q hq
      rcases List.mem_append.1 hq with h | h
      · exact hsm _ h
      · exact fourL_small (crcN_lt _) _ h
    have hsmX : ∀ q ∈ x ++ [y0, y1, y2, y3], q ≤ 255 := by
      rw [← hset]
      intro q hq
      rcases List.mem_or_eq_of_mem_set hq with h | h
      · exact hsmF q h
      · rw [h]; exact hv
    have hfl : (l ++ fourL (crcN 0 l)).length = l.length + 4 := by simp [fourL]
    unfold GivesFrame at hFr
    have hcell : ∀ w' g, Row w' g (l ++ fourL (crcN 0 l)) → w'.cell? ⟨g, i, none⟩ = some (.int .u8 ((l ++ fourL (crcN 0 l))[i] : Nat)) := fun w' g h => h.cell hi'
    have hop : ∀ w' g, Bel w w' → Row w' g (l ++ fourL (crcN 0 l)) → w.heap.size ≤ g → Calls Tryd.prog 14 #[.slice (some ⟨g, 0, none⟩) (l.length + 4) (l.length + 4)] (w'.setCell ⟨g, i, none⟩ (.int .u8 (((l ++ fourL (crcN 0 l))[i] ^^^ by_ : Nat) : Int)))
        fun e w'' => e = .returned (.tuple #[.slice none 0 0, .iface 60 (.pointer (some (A 9)))]) ∧ Below w.heap.size w w'' := by
      intro w' g hb hr hg
      have hb2 : Bel w (w'.setCell ⟨g, i, none⟩ (.int .u8 (((l ++ fourL (crcN 0 l))[i] ^^^ by_ : Nat) : Int))) := Below.setCell (p := ⟨g, i, none⟩) hb hg _
      have hr2 := hr.set i ((l ++ fourL (crcN 0 l))[i] ^^^ by_)
      rw [hset] at hr2
      have hsrc := hr2.src hsmX
      have hl4 : (x ++ [y0, y1, y2, y3]).length = x.length + 4 := by simp
      rw [hl4] at hsrc
      rw [← hxl]
      exact (opened_no g 0 (x.length + 4) x y0 y1 y2 y3 _ hsrc (hT.bel hb2) (by omega) _ ((hE.bel hb2).var 9 (by decide)) hfit).mono fun e w'' ⟨h1, h2⟩ => ⟨h1, hb2.trans (h2.mono hb2.size)⟩
    have hnum : ∀ w', Bel w w' → Calls Tryd.prog 15 #[.iface 60 (.pointer (some (A 9)))] w' fun e w'' => e = .returned (.int .i64 10) ∧ Below w'.heap.size w' w'' := fun w' hb => (num_in A 9 (by decide) w' (hE.bel hb)).mono fun e w'' ⟨h1, h2⟩ => ⟨by rw [h1]; rfl, h2⟩
    clear hset hxl hfit hsmX hsmF hne hv hgs hsm hs hT hE hfl
    generalize (l ++ fourL (crcN 0 l))[i] = z at *
    clear hi'
    generalize l ++ fourL (crcN 0 l) = F at *
    generalize z ^^^ by_ = v at *
    replace hFr := Lib.hid hFr
    replace hu := hu.out
    replace hi := hi.out
    replace hiw := hiw.out
    replace huw := huw.out
    replace hx8 := hx8.out
    replace hcell := Lib.hid hcell
    replace hop := Lib.hid hop
    replace hnum := Lib.hid hnum
    go_enter Tryd.func5, Tryd.ntmps5
    go_wp2_with (first
      | (go_at_call 6; refine hA.out.mono ?_; rintro e w1 ⟨rfl, hb1⟩; replace hb1 := Lib.hid hb1)
      | (go_at_call 12; refine (hFr.out _ hb1.out).mono ?_; rintro e w2 ⟨g, rfl, hg, hr, hb2⟩; have hc2 := hcell.out w2 g hr; have hfz := frozen_of_row w2 g i _ _ hr; replace hb2 := Lib.hid (hb1.out.trans (hb2.mono hb1.out.size)); have hop2 := Lib.hid (hop.out w2 g hb2.out hr (Nat.le_trans hb1.out.size hg)))
      | (go_at_call 14; refine hop2.out.mono ?_; rintro e w4 ⟨rfl, hb4⟩; replace hb4 := Lib.hid hb4)
      | (go_at_call 15; refine (hnum.out _ hb4.out).mono ?_; rintro e w5 ⟨rfl, hb5⟩; replace hb5 := Lib.hid (hb4.out.trans (hb5.mono hb4.out.size))))
    go_ret
    exact ⟨rfl, hb5.out⟩
  · have hd : (decide (2000 < (l.length : Int)) || ((by_ : Int) == 0)) = true := by
      rw [Bool.or_eq_true, decide_eq_true_eq, beq_iff_eq]
      omega
    by_cases h2 : l.length ≤ 2000
    · have h0 : by_ = 0 := by omega
      subst h0
      have h2' : ¬ (2000 < (l.length : Int)) := by omega
      go_enter Tryd.func5, Tryd.ntmps5
      go_wp2_with (go_at_call 6; refine hA.out.mono ?_; rintro e w1 ⟨rfl, hb1⟩; replace hb1 := Lib.hid hb1)
      go_ret
      exact ⟨rfl, hb1.out⟩
    · have h2' : (2000 < (l.length : Int)) := by omega
      go_enter Tryd.func5, Tryd.ntmps5
      go_wp2_with (go_at_call 6; refine hA.out.mono ?_; rintro e w1 ⟨rfl, hb1⟩; replace hb1 := Lib.hid hb1)
      go_ret
      exact ⟨rfl, hb1.out⟩
end Go.Proofs.YtficnnlajpfkbaaDoor
