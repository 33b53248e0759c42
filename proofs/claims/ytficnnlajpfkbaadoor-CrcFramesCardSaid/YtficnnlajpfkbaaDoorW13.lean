/- CrcFrames, where fewer than four bytes came in. -/
import Derived.Test.YtficnnlajpfkbaaDoorW12
namespace Go.Proofs.YtficnnlajpfkbaaDoor
open Go.RowKit
set_option maxRecDepth 100000 in
set_option maxHeartbeats 4000000 in
theorem frames_short (a : Option Addr) (n c : Nat) (l : List Nat) (A : Nat → Addr) (w : World) (hln : l.length = n) (hs : Src w a n c l) (hT : Tab w) (hE : Errs w A) (hm : n < 4) :
    Calls Tryd.prog 4 #[.slice a n c] w fun e w' => e = .returned (.bool true) ∧ Below w.heap.size w w' := by
  have hE1 := hE.var 1 (by decide)
  have hOb0 : ∀ w', Bel w w' → Calls Tryd.prog 14 #[.slice a n c] w' fun e w'' => e = .returned (.tuple #[.slice none 0 0, .iface 60 (.pointer (some (A 1)))]) ∧ Below w'.heap.size w' w'' := fun w' hb =>
    opened_short a n c hm w' _ (hb.cell (World.block_lt_of_cell? _ _ hE1) hE1)
  have hNum : ∀ w', Bel w w' → Calls Tryd.prog 15 #[.iface 60 (.pointer (some (A 1)))] w' fun e w'' => e = .returned (.int .i64 2) ∧ Below w'.heap.size w' w'' := fun w' hb => (num_in A 1 (by decide) w' (hE.bel hb)).mono fun e w'' ⟨h1, h2⟩ => ⟨by rw [h1]; rfl, h2⟩
  replace hNum := Lib.hid hNum
  clear hE1 hE
  have hA := alive_in w hT
  replace hA := Lib.hid hA
  have hm' : ¬ (2000 < (n : Int)) := by omega
  obtain ⟨i0, hi, hz0, hz1, hz2⟩ := info_parts info5
  have hs0 : Src w a l.length c l := by rw [hln]; exact hs
  have hFr : ∀ w', Bel w w' → Calls Tryd.prog 12 #[.slice a n c] w' fun e w'' => ∃ g, e = .returned (.slice (some ⟨g, 0, none⟩) (n + 4) (n + 4)) ∧ w'.heap.size ≤ g ∧ Row w'' g (l ++ fourL (crcN 0 l)) ∧ Below w'.heap.size w' w'' := by
    rw [← hln]
    exact fun w' hb => framed_in a c l w' (hs0.bel hb) (hT.bel hb) (by omega)
  have hsm := hs.small
  have hnl := hs.nil
  have hcs : ∀ w', Bel w w' → ∀ ad, a = some ad → ∀ j u, (l.map encN)[j]? = some u → w'.cell? (ad.add j) = some u := fun w' hb => (hs.bel hb).cells
  have hone : ∀ u ∈ l.map encN, u.oneCell' = true := by intro u hu; obtain ⟨x, _, rfl⟩ := List.mem_map.1 hu; rfl
  have hlc : (l.map encN).length = n * 1 := by simp [hln]
  have hR0 : ∀ w', Bel w w' → Calls Tryd.prog 9 #[.int .u32 0, .slice a n c] w' fun e w'' => e = .returned (.int .u32 (crcN 0 l : Nat)) ∧ w' = w'' := by
    rw [← hln]
    exact fun w' hb => rsum_in 0 (by decide) a c l w' (hs0.bel hb) (by omega)
  have hF4 : ∀ w', Calls Tryd.prog 13 #[.int .u32 (crcN 0 l : Nat)] w' fun e w'' => ∃ g, e = .returned (.slice (some ⟨g, 0, none⟩) 4 4) ∧ w'.heap.size ≤ g ∧ w''.heap[g]? = some (.cells (row (fourL (crcN 0 l))) 5 (0, 0)) ∧ Below w'.heap.size w' w'' := fun w' => four_in (crcN 0 l) (crcN_lt _) w'
  have hf4 : (fourL (crcN 0 l)).length = 4 := rfl
  have hfs := fourL_small (crcN_lt (s := 0) l)
  have hfls : ∀ x ∈ l ++ fourL (crcN 0 l), x ≤ 255 := fun x hx => by
    rcases List.mem_append.1 hx with h | h
    · exact hsm x h
    · exact hfs x h
  have hCv : ∀ B v w', w'.ownsRow B 5 1 v (n + 4) (l.map encN ++ (fourL (crcN 0 l)).map encN) → (convert 24 9 v).run Tryd.prog w' = .ok (.string (strN (l ++ fourL (crcN 0 l)))) w' := fun B v w' h => by
    rw [← List.map_append] at h
    exact conv_own (by simp [hf4, hln]) hfls h
  have hCf : ∀ w' g, Row w' g (l ++ fourL (crcN 0 l)) → (convert 24 9 (.slice (some ⟨g, 0, none⟩) (n + 4) (n + 4))).run Tryd.prog w' = .ok (.string (strN (l ++ fourL (crcN 0 l)))) w' := fun w' g h => by
    have := (h.src hfls).conv
    have e : (l ++ fourL (crcN 0 l)).length = n + 4 := by simp [hf4, hln]
    rw [e] at this
    exact this
  have hCb : ∀ w', Bel w w' → (convert 24 9 (.slice a n c)).run Tryd.prog w' = .ok (.string (strN l)) w' := fun w' hb => (hs.bel hb).conv
  have hCx : ∀ B v w', w'.ownsRow B 5 1 v n (l.map encN) → (convert 24 9 v).run Tryd.prog w' = .ok (.string (strN l)) w' := fun B v w' h => conv_own hln hsm h
  have hOf : ∀ w' g, Bel w w' → Row w' g (l ++ fourL (crcN 0 l)) → Calls Tryd.prog 14 #[.slice (some ⟨g, 0, none⟩) (n + 4) (n + 4)] w' fun e w'' => ∃ v, e = .returned (.tuple #[v, .nilIface]) ∧ w''.ownsRow w'.heap.size 5 1 v n (l.map encN) ∧ Below w'.heap.size w' w'' := fun w' g hb h => by
    obtain ⟨q0, q1, q2, q3, hq⟩ := four_form (crcN 0 l)
    have hsr := h.src hfls
    have e : (l ++ fourL (crcN 0 l)).length = l.length + 4 := by simp [hf4]
    rw [e, hq] at hsr
    have := opened_yes g 0 (l.length + 4) l q0 q1 q2 q3 w' hsr (hT.bel hb) (by omega) (by unfold fits; rw [hq]; simp)
    unfold GivesBytes at this
    rw [hln] at this
    exact this
  have hOb := hOb0
  clear hs0
  replace hFr := Lib.hid hFr
  replace hcs := Lib.hid hcs
  replace hR0 := Lib.hid hR0
  replace hF4 := Lib.hid hF4
  replace hnl := Lib.hid hnl
  replace hone := Lib.hid hone
  replace hlc := Lib.hid hlc
  replace hCv := Lib.hid hCv
  replace hCf := Lib.hid hCf
  replace hCb := Lib.hid hCb
  replace hCx := Lib.hid hCx
  replace hOf := Lib.hid hOf
  replace hOb := Lib.hid hOb
  replace hfs := Lib.hid hfs
  clear hs hT hsm hfls hln hOb0
  generalize crcN 0 l = cr at *
  generalize fourL cr = fl at *
  have hl4 : Hid ((fl.map encN).length = 4 * 1) := Lib.hid (by rw [List.length_map, hf4])
  have hone4 : Hid (∀ u ∈ fl.map encN, u.oneCell' = true) := Lib.hid (by intro u hu; obtain ⟨x, _, rfl⟩ := List.mem_map.1 hu; rfl)
  clear hf4
  go_enter Tryd.func4, Tryd.ntmps4
  go_wp2_with (first
    | (go_at_call 6; refine hA.out.mono ?_; rintro e w1 ⟨rfl, hb1⟩; replace hb1 := Lib.hid hb1)
    | (go_at_call 12; refine (hFr.out _ hb1.out).mono ?_; rintro e w2 ⟨g, rfl, hg, hr, hb2⟩; replace hr := Lib.hid hr; replace hb2 := Lib.hid (hb1.out.trans (hb2.mono hb1.out.size))))
  have hq00 : Bel w2 w2 := Bel.refl w2
  have hq0 : Bel w2 w2.drew := Bel.drew hq00
  have hown0 : (w2.alloc (.cells #[] 5)).drew.ownsRow w2.heap.size 5 1 (.slice (some ⟨w2.heap.size, 0, none⟩) 0 0) 0 [] := own_empty (World.alloc_heap_new w2 _) (Nat.le_refl _)
  have hcf : ∀ w', Bel w2 w' → (convert 24 9 (.slice (some ⟨g, 0, none⟩) (n + 4) (n + 4))).run Tryd.prog w' = .ok (.string (strN (l ++ fl))) w' := fun w' hb => hCf.out w' g (hr.out.bel hb)
  have hfr : ∀ w', Bel w2 w' → Bel w w' := fun w' hb => hb2.out.trans (hb.mono hb2.out.size)
  replace hfr := Lib.hid hfr
  clear hFr hCf hb1 hA
  refine wp_region_held_drew (S := Bel w2) (by kernel_rfl) (by assumption) (fun hHeld => ?_)
  refine wpAnyH_take (i := 0) (oi := _) (v := ?v0) rfl (by kernel_rfl) (by kernel_rfl) (by kernel_rfl) (fun _ _ _ h => h) (Or.inl ⟨by rfl, ?h0⟩) (by assumption) ?r0
  case h0 => (intro w hSw; go_simp <;> with_reducible rfl)
  try simp only [Act.put, List.setIfInBounds_toArray, List.set_cons_zero, List.set_cons_succ]
  refine wpAnyH_take (i := 1) (oi := _) (v := ?v1) rfl (by kernel_rfl) (by kernel_rfl) (by kernel_rfl) (fun _ _ _ h => h) (Or.inl ⟨by rfl, ?h1⟩) (by assumption) ?r1
  case h1 => (intro w hSw; go_simp <;> with_reducible rfl)
  try simp only [Act.put, List.setIfInBounds_toArray, List.set_cons_zero, List.set_cons_succ]
  refine wpAnyH_take (i := 3) (oi := _) (v := ?v3) rfl (by kernel_rfl) (by kernel_rfl) (by kernel_rfl) (fun _ _ _ h => h) (Or.inl ⟨by rfl, ?h3⟩) (by assumption) ?r3
  case h3 => (intro w hSw; go_simp <;> with_reducible rfl)
  try simp only [Act.put, List.setIfInBounds_toArray, List.set_cons_zero, List.set_cons_succ]
  refine wpAnyH_take (i := 5) (oi := _) (v := ?v5) rfl (by kernel_rfl) (by kernel_rfl) (by kernel_rfl) (fun _ _ _ h => h) (Or.inl ⟨by rfl, ?h5⟩) (by assumption) ?r5
  case h5 => (intro w hSw; go_simp <;> with_reducible rfl)
  try simp only [Act.put, List.setIfInBounds_toArray, List.set_cons_zero, List.set_cons_succ]
  refine wpAnyH_ready (rs := [2]) (by kernel_rfl) (by simp) ?_
  refine AllReadyH.cons (o := _) rfl (fun K hK => ?_) AllReadyH.nil
  go_simp
  try dsimp only
  refine hK.out _ _ (by first | assumption | exact Bel.drew ‹_› | (refine Bel.drew (Bel.alloc ?_ _); assumption) | (refine Bel.alloc ?_ _; assumption)) (fun hHeld2 => ?_)
  clear hK K
  try simp only [Act.put, List.setIfInBounds_toArray, List.set_cons_zero, List.set_cons_succ]
  refine wpAnyH_ready (rs := [4]) (by kernel_rfl) (by simp) ?_
  refine AllReadyH.cons (o := _) rfl (fun K hK => ?_) AllReadyH.nil
  refine step_append_src rfl _ _ 24 rfl w2.heap.size 5 i0 (.int .u8 0) 1 1 Tryd.underlying24 hi hz0 hz1 hz2 rfl (by decide) _ 0 [] rfl hown0 a n c (l.map encN) rfl hlc.out hnl.out (hcs.out _ (hfr.out _ ‹Bel w2 _›)) hone.out (by simp [maxLen]; omega) (by omega) (‹Bel w2 _› : Below _ _ _).size ?_; intro v1 w5 R hg5; simp only [Nat.zero_add, List.nil_append] at R; replace R := Lib.hid R; have hb5 : Bel w2 w5 := Below.grown ‹Bel w2 _› hg5 (‹Bel w2 _› : Below _ _ _).size (fun k ek => by cases ek; exact Nat.le_refl _); clear hg5 hown0
  try dsimp only
  refine hK.out _ _ (by first | assumption | exact Bel.drew ‹_› | (refine Bel.drew (Bel.alloc ?_ _); assumption) | (refine Bel.alloc ?_ _; assumption)) (fun hHeld2 => ?_)
  clear hK K
  try simp only [Act.put, List.setIfInBounds_toArray, List.set_cons_zero, List.set_cons_succ]
  refine wpAnyH_ready (rs := [6]) (by kernel_rfl) (by simp) ?_
  refine AllReadyH.cons (o := _) rfl (fun K hK => ?_) AllReadyH.nil
  go_simp
  go_at_call 9; (with_reducible refine (hR0.out _ (hfr.out _ ‹Bel w2 _›)).mono ?_); rintro e w' ⟨rfl, rfl⟩
  try dsimp only
  refine hK.out _ _ (by first | assumption | exact Bel.drew ‹_› | (refine Bel.drew (Bel.alloc ?_ _); assumption) | (refine Bel.alloc ?_ _; assumption)) (fun hHeld2 => ?_)
  clear hK K
  try simp only [Act.put, List.setIfInBounds_toArray, List.set_cons_zero, List.set_cons_succ]
  refine wpAnyH_ready (rs := [7]) (by kernel_rfl) (by simp) ?_
  refine AllReadyH.cons (o := _) rfl (fun K hK => ?_) AllReadyH.nil
  go_simp
  go_at_call 13; refine (hF4.out _).mono ?_; rintro e w6 ⟨g4, rfl, hg4, h4, hb6⟩; replace R := Lib.hid (ownsRow_bel R.out hb6); have h4' : Row w6 g4 fl := h4; replace h4' := Lib.hid h4'; clear h4; replace hb6 := Bel.step ‹Bel w2 _› hb6
  try dsimp only
  refine hK.out _ _ (by first | assumption | exact Bel.drew ‹_› | (refine Bel.drew (Bel.alloc ?_ _); assumption) | (refine Bel.alloc ?_ _; assumption)) (fun hHeld2 => ?_)
  clear hK K
  try simp only [Act.put, List.setIfInBounds_toArray, List.set_cons_zero, List.set_cons_succ]
  refine wpAnyH_ready (rs := [8]) (by kernel_rfl) (by simp) ?_
  refine AllReadyH.cons (o := _) rfl (fun K hK => ?_) AllReadyH.nil
  refine step_append_src rfl _ _ 24 rfl w2.heap.size 5 i0 (.int .u8 0) 1 1 Tryd.underlying24 hi hz0 hz1 hz2 rfl (by decide) v1 n (l.map encN) rfl R.out (some ⟨g4, 0, none⟩) 4 4 (fl.map encN) rfl hl4.out (fun e => by cases e) (h4'.out.src hfs.out).cells hone4.out (by simp [maxLen]; omega) (by omega) (‹Bel w2 w6› : Below _ _ _).size ?_; intro v2 w7 R2 hg7; have hcv := hCv.out _ _ _ R2; have hb7 : Bel w2 w7 := Below.grown ‹Bel w2 w6› hg7 (‹Bel w2 w6› : Below _ _ _).size (fun k ek => (R.out.lt k ek).1); clear hg7
  try dsimp only
  refine hK.out _ _ (by first | assumption | exact Bel.drew ‹_› | (refine Bel.drew (Bel.alloc ?_ _); assumption) | (refine Bel.alloc ?_ _; assumption)) (fun hHeld2 => ?_)
  clear hK K
  try simp only [Act.put, List.setIfInBounds_toArray, List.set_cons_zero, List.set_cons_succ]
  refine wpAnyH_ready (rs := [9]) (by kernel_rfl) (by simp) ?_
  refine AllReadyH.cons (o := _) rfl (fun K hK => ?_) AllReadyH.nil
  go_simp
  try dsimp only
  refine hK.out _ _ (by first | assumption | exact Bel.drew ‹_› | (refine Bel.drew (Bel.alloc ?_ _); assumption) | (refine Bel.alloc ?_ _; assumption)) (fun hHeld2 => ?_)
  clear hK K
  try simp only [Act.put, List.setIfInBounds_toArray, List.set_cons_zero, List.set_cons_succ]
  refine wpAnyH_take (i := 10) (oi := _) (v := ?v10) rfl (by kernel_rfl) (by kernel_rfl) (by kernel_rfl) (fun _ _ _ h => h) (Or.inl ⟨by rfl, ?h10⟩) (by assumption) ?r10
  case h10 => (intro w hSw; go_simp <;> with_reducible rfl)
  try simp only [Act.put, List.setIfInBounds_toArray, List.set_cons_zero, List.set_cons_succ]
  refine wpAnyH_done (by kernel_rfl) ?_ _
  have hOf7 := Lib.hid (hOf.out w7 g (hfr.out w7 hb7) (hr.out.bel hb7))
  have hB7 := Lib.hid (hfr.out w7 hb7)
  have hCb7 := Lib.hid (fun w' (hb : Bel w7 w') => hCb.out w' (hB7.out.trans (hb.mono hB7.out.size)))
  clear hcv hb7 R2 hcf hq0 hq00 hfr hOf hR0 hF4 hCv hcs hr hb2
  have hm4 : (n : Int) < 4 := by omega
  go_wp2_with (first
    | (go_at_call 14; (with_reducible refine hOf7.out.mono ?_); rintro e w8 ⟨v8, rfl, R8, hb8⟩; have hcv8 := hCx.out _ _ _ R8; have hcb8 := hCb7.out _ hb8; replace hb8 := Lib.hid (Bel.step hB7.out hb8); clear R8)
    | (go_at_call 14; (with_reducible refine (hOb.out _ hb8.out).mono ?_); rintro e w9 ⟨rfl, hb9⟩; replace hb9 := Lib.hid (Bel.step hb8.out hb9))
    | (go_at_call 15; (with_reducible refine (hNum.out _ hb9.out).mono ?_); rintro e w10 ⟨rfl, hb10⟩; replace hb10 := Lib.hid (Bel.step hb9.out hb10)))
  go_ret
  exact ⟨rfl, hb10.out⟩
end Go.Proofs.YtficnnlajpfkbaaDoor
