/- CrcFrames, where the last four bytes are the sum of the others. -/
import Derived.Test.YtficnnlajpfkbaaDoorW14
namespace Go.Proofs.YtficnnlajpfkbaaDoor
open Go.RowKit
set_option maxRecDepth 100000 in
set_option maxHeartbeats 4000000 in
theorem frames_yes (a : Option Addr) (n c : Nat) (l x : List Nat) (y0 y1 y2 y3 m : Nat) (A : Nat → Addr) (w : World) (hl : l = x ++ [y0, y1, y2, y3]) (hxm : x.length = m) (hnm : n = m + 4) (hln : l.length = n) (hs : Src w a n c l) (hT : Tab w) (hE : Errs w A) (hm : n ≤ 2000) (hfit : fits x [y0, y1, y2, y3] = true) :
    Calls Tryd.prog 4 #[.slice a n c] w fun e w' => e = .returned (.bool true) ∧ Below w.heap.size w w' := by
  obtain ⟨bb, off, rfl, hx0⟩ : ∃ bb off, a = some ⟨bb, off, none⟩ ∧ True := by
    obtain ⟨bb, off, e, _⟩ := hs.at (by omega)
    exact ⟨bb, off, e, trivial⟩
  clear hx0
  have hcap := hs.cap
  have hsx : Src w (some ⟨bb, off, none⟩) x.length c x := by rw [hl] at hs; exact hs.head
  have hst : Src w (some ⟨bb, off + m, none⟩) 4 (c - m) [y0, y1, y2, y3] := by rw [hl] at hs; rw [← hxm]; exact hs.tail
  have hss : Src w (some ⟨bb, off, none⟩) (x.length + 4) c (x ++ [y0, y1, y2, y3]) := by rw [← hl, hxm, ← hnm]; exact hs
  rw [hxm] at hsx
  have hsl1 := slice_tail bb off m c (by omega)
  have hsl2 := slice_head bb off m c (by omega)
  rw [← hnm] at hsl1 hsl2
  have hCy : ∀ w', Bel w w' → (convert 24 9 (.slice (some ⟨bb, off + m, none⟩) 4 (c - m))).run Tryd.prog w' = .ok (.string (strN [y0, y1, y2, y3])) w' := fun w' hb => (hst.bel hb).conv
  have hCh : ∀ w', Bel w w' → (convert 24 9 (.slice (some ⟨bb, off, none⟩) m c)).run Tryd.prog w' = .ok (.string (strN x)) w' := fun w' hb => (hsx.bel hb).conv
  have hRx : ∀ w', Bel w w' → Calls Tryd.prog 9 #[.int .u32 0, .slice (some ⟨bb, off, none⟩) m c] w' fun e w'' => e = .returned (.int .u32 (crcN 0 x : Nat)) ∧ w' = w'' := by
    rw [← hxm]
    exact fun w' hb => rsum_in 0 (by decide) _ c x w' (by have := hsx.bel hb; rw [← hxm] at this; exact this) (by omega)
  have hFx : ∀ w', Calls Tryd.prog 13 #[.int .u32 (crcN 0 x : Nat)] w' fun e w'' => ∃ g, e = .returned (.slice (some ⟨g, 0, none⟩) 4 4) ∧ w'.heap.size ≤ g ∧ w''.heap[g]? = some (.cells (row (fourL (crcN 0 x))) 5 (0, 0)) ∧ Below w'.heap.size w' w'' := fun w' => four_in (crcN 0 x) (crcN_lt _) w'
  have hfxs := fourL_small (crcN_lt (s := 0) x)
  have hC5 : ∀ w' g, w'.heap[g]? = some (.cells (row (fourL (crcN 0 x))) 5 (0, 0)) → (convert 24 9 (.slice (some ⟨g, 0, none⟩) 4 4)).run Tryd.prog w' = .ok (.string (strN (fourL (crcN 0 x)))) w' := fun w' g h => (Row.src (l := fourL (crcN 0 x)) h hfxs).conv
  have hysm : ∀ q ∈ [y0, y1, y2, y3], q ≤ 255 := hst.small
  have hxsm : ∀ q ∈ x, q ≤ 255 := hsx.small
  have hOb0 : ∀ w', Bel w w' → Calls Tryd.prog 14 #[.slice (some ⟨bb, off, none⟩) n c] w' fun e w'' => ∃ v, e = .returned (.tuple #[v, .nilIface]) ∧ w''.ownsRow w'.heap.size 5 1 v m (x.map encN) ∧ Below w'.heap.size w' w'' := by
    have e : n = x.length + 4 := by omega
    rw [e]
    intro w' hb
    have := opened_yes bb off c x y0 y1 y2 y3 w' (hss.bel hb) (hT.bel hb) (by omega) hfit
    unfold GivesBytes at this
    rw [hxm] at this ⊢
    exact this
  have hCx2 : ∀ B v w', w'.ownsRow B 5 1 v m (x.map encN) → (convert 24 9 v).run Tryd.prog w' = .ok (.string (strN x)) w' := fun B v w' h => conv_own hxm hxsm h
  have hfe : fourL (crcN 0 x) = [y0, y1, y2, y3] := by
    unfold fits at hfit
    exact (of_decide_eq_true hfit).symm
  rw [hfe] at hC5 hFx
  have hin : (n : Int) - 4 = (m : Int) := by omega
  have hn4 : ¬ ((n : Int) < 4) := by omega
  replace hCy := Lib.hid hCy
  replace hCh := Lib.hid hCh
  replace hRx := Lib.hid hRx
  replace hFx := Lib.hid hFx
  replace hC5 := Lib.hid hC5
  replace hnm := Lib.hid hnm
  replace hCx2 := Lib.hid hCx2
  clear hE hss hsx hst hysm hxsm hfit hl hfxs hxm hfe
  generalize crcN 0 x = cx at *
  have hA := alive_in w hT
  replace hA := Lib.hid hA
  have hm' : ¬ (2000 < (n : Int)) := by omega
  obtain ⟨i0, hi, hz0, hz1, hz2⟩ := info_parts info5
  have hs0 : Src w (some (⟨bb, off, none⟩ : Addr)) l.length c l := by rw [hln]; exact hs
  have hFr : ∀ w', Bel w w' → Calls Tryd.prog 12 #[.slice (some (⟨bb, off, none⟩ : Addr)) n c] w' fun e w'' => ∃ g, e = .returned (.slice (some ⟨g, 0, none⟩) (n + 4) (n + 4)) ∧ w'.heap.size ≤ g ∧ Row w'' g (l ++ fourL (crcN 0 l)) ∧ Below w'.heap.size w' w'' := by
    rw [← hln]
    exact fun w' hb => framed_in (some (⟨bb, off, none⟩ : Addr)) c l w' (hs0.bel hb) (hT.bel hb) (by omega)
  have hsm := hs.small
  have hnl := hs.nil
  have hcs : ∀ w', Bel w w' → ∀ ad, (some (⟨bb, off, none⟩ : Addr)) = some ad → ∀ j u, (l.map encN)[j]? = some u → w'.cell? (ad.add j) = some u := fun w' hb => (hs.bel hb).cells
  have hone : ∀ u ∈ l.map encN, u.oneCell' = true := by intro u hu; obtain ⟨x, _, rfl⟩ := List.mem_map.1 hu; rfl
  have hlc : (l.map encN).length = n * 1 := by simp [hln]
  have hR0 : ∀ w', Bel w w' → Calls Tryd.prog 9 #[.int .u32 0, .slice (some (⟨bb, off, none⟩ : Addr)) n c] w' fun e w'' => e = .returned (.int .u32 (crcN 0 l : Nat)) ∧ w' = w'' := by
    rw [← hln]
    exact fun w' hb => rsum_in 0 (by decide) (some (⟨bb, off, none⟩ : Addr)) c l w' (hs0.bel hb) (by omega)
  have hF4 : ∀ w', Calls Tryd.prog 13 #[.int .u32 (crcN 0 l : Nat)] w' fun e w'' => ∃ g, e = .returned (.slice (some ⟨g, 0, none⟩) 4 4) ∧ w'.heap.size ≤ g ∧ w''.heap[g]? = some (.cells (row (fourL (crcN 0 l))) 5 (0, 0)) ∧ Below w'.heap.size w' w'' := fun w' => four_in (crcN 0 l) (crcN_lt _) w'
  have hf4 : (fourL (crcN 0 l)).length = 4 := rfl
  have hfs := fourL_small (crcN_lt (s := 0) l)
  have hfls : ∀ x ∈ l ++ fourL (crcN 0 l), x ≤ 255 := fun x hx => by
    rcases List.mem_append.1 hx with h | h
    · exact hsm x h
    · exact hfs x h
  have hCv : ∀ B v w', w'.ownsRow B 5 1 v (n + 4) (l.map encN ++ (fourL (crcN 0 l)).map encN) → (convert 24 9 v).run Tryd.prog w' = .ok (.string (strN (l ++ fourL (crcN 0 l)))) w' := fun B v w' h => by
    rw [← List.map_append] at h
    exact conv_own (by simp [hf4, hln]) hfls h
  have hCf : ∀ w' g, Row w' g (l ++ fourL (crcN 0 l)) → (convert 24 9 (.slice (some ⟨g, 0, none⟩) (n + 4) (n + 4))).run Tryd.prog w' = .ok (.string (strN (l ++ fourL (crcN 0 l)))) w' := fun w' g h => by
    have := (h.src hfls).conv
    have e : (l ++ fourL (crcN 0 l)).length = n + 4 := by simp [hf4, hln]
    rw [e] at this
    exact this
  have hCb : ∀ w', Bel w w' → (convert 24 9 (.slice (some (⟨bb, off, none⟩ : Addr)) n c)).run Tryd.prog w' = .ok (.string (strN l)) w' := fun w' hb => (hs.bel hb).conv
  have hCx : ∀ B v w', w'.ownsRow B 5 1 v n (l.map encN) → (convert 24 9 v).run Tryd.prog w' = .ok (.string (strN l)) w' := fun B v w' h => conv_own hln hsm h
  have hOf : ∀ w' g, Bel w w' → Row w' g (l ++ fourL (crcN 0 l)) → Calls Tryd.prog 14 #[.slice (some ⟨g, 0, none⟩) (n + 4) (n + 4)] w' fun e w'' => ∃ v, e = .returned (.tuple #[v, .nilIface]) ∧ w''.ownsRow w'.heap.size 5 1 v n (l.map encN) ∧ Below w'.heap.size w' w'' := fun w' g hb h => by
    obtain ⟨q0, q1, q2, q3, hq⟩ := four_form (crcN 0 l)
    have hsr := h.src hfls
    have e : (l ++ fourL (crcN 0 l)).length = l.length + 4 := by simp [hf4]
    rw [e, hq] at hsr
    have := opened_yes g 0 (l.length + 4) l q0 q1 q2 q3 w' hsr (hT.bel hb) (by omega) (by unfold fits; rw [hq]; simp)
    unfold GivesBytes at this
    rw [hln] at this
    exact this
  have hOb := hOb0
  clear hs0
  replace hFr := Lib.hid hFr
  replace hcs := Lib.hid hcs
  replace hR0 := Lib.hid hR0
  replace hF4 := Lib.hid hF4
  replace hnl := Lib.hid hnl
  replace hone := Lib.hid hone
  replace hlc := Lib.hid hlc
  replace hCv := Lib.hid hCv
  replace hCf := Lib.hid hCf
  replace hCb := Lib.hid hCb
  replace hCx := Lib.hid hCx
  replace hOf := Lib.hid hOf
  replace hOb := Lib.hid hOb
  replace hfs := Lib.hid hfs
  clear hs hT hsm hfls hln hOb0
  generalize crcN 0 l = cr at *
  generalize fourL cr = fl at *
  have hl4 : Hid ((fl.map encN).length = 4 * 1) := Lib.hid (by rw [List.length_map, hf4])
  have hone4 : Hid (∀ u ∈ fl.map encN, u.oneCell' = true) := Lib.hid (by intro u hu; obtain ⟨x, _, rfl⟩ := List.mem_map.1 hu; rfl)
  clear hf4
  go_enter Tryd.func4, Tryd.ntmps4
  go_wp2_with (first
    | (go_at_call 6; refine hA.out.mono ?_; rintro e w1 ⟨rfl, hb1⟩; replace hb1 := Lib.hid hb1)
    | (go_at_call 12; refine (hFr.out _ hb1.out).mono ?_; rintro e w2 ⟨g, rfl, hg, hr, hb2⟩; replace hr := Lib.hid hr; replace hb2 := Lib.hid (hb1.out.trans (hb2.mono hb1.out.size))))
  have hq00 : Bel w2 w2 := Bel.refl w2
  have hq0 : Bel w2 w2.drew := Bel.drew hq00
  have hown0 : (w2.alloc (.cells #[] 5)).drew.ownsRow w2.heap.size 5 1 (.slice (some ⟨w2.heap.size, 0, none⟩) 0 0) 0 [] := own_empty (World.alloc_heap_new w2 _) (Nat.le_refl _)
  have hcf : ∀ w', Bel w2 w' → (convert 24 9 (.slice (some ⟨g, 0, none⟩) (n + 4) (n + 4))).run Tryd.prog w' = .ok (.string (strN (l ++ fl))) w' := fun w' hb => hCf.out w' g (hr.out.bel hb)
  have hfr : ∀ w', Bel w2 w' → Bel w w' := fun w' hb => hb2.out.trans (hb.mono hb2.out.size)
  replace hfr := Lib.hid hfr
  clear hFr hCf hb1 hA
  refine wp_region_held_drew (S := Bel w2) (by kernel_rfl) (by assumption) (fun hHeld => ?_)
  refine wpAnyH_take (i := 0) (oi := _) (v := ?v0) rfl (by kernel_rfl) (by kernel_rfl) (by kernel_rfl) (fun _ _ _ h => h) (Or.inl ⟨by rfl, ?h0⟩) (by assumption) ?r0
  case h0 => (intro w hSw; go_simp <;> with_reducible rfl)
  try simp only [Act.put, List.setIfInBounds_toArray, List.set_cons_zero, List.set_cons_succ]
  refine wpAnyH_take (i := 1) (oi := _) (v := ?v1) rfl (by kernel_rfl) (by kernel_rfl) (by kernel_rfl) (fun _ _ _ h => h) (Or.inl ⟨by rfl, ?h1⟩) (by assumption) ?r1
  case h1 => (intro w hSw; go_simp <;> with_reducible rfl)
  try simp only [Act.put, List.setIfInBounds_toArray, List.set_cons_zero, List.set_cons_succ]
  refine wpAnyH_take (i := 3) (oi := _) (v := ?v3) rfl (by kernel_rfl) (by kernel_rfl) (by kernel_rfl) (fun _ _ _ h => h) (Or.inl ⟨by rfl, ?h3⟩) (by assumption) ?r3
  case h3 => (intro w hSw; go_simp <;> with_reducible rfl)
  try simp only [Act.put, List.setIfInBounds_toArray, List.set_cons_zero, List.set_cons_succ]
  refine wpAnyH_take (i := 5) (oi := _) (v := ?v5) rfl (by kernel_rfl) (by kernel_rfl) (by kernel_rfl) (fun _ _ _ h => h) (Or.inl ⟨by rfl, ?h5⟩) (by assumption) ?r5
  case h5 => (intro w hSw; go_simp <;> with_reducible rfl)
  try simp only [Act.put, List.setIfInBounds_toArray, List.set_cons_zero, List.set_cons_succ]
  refine wpAnyH_ready (rs := [2]) (by kernel_rfl) (by simp) ?_
  refine AllReadyH.cons (o := _) rfl (fun K hK => ?_) AllReadyH.nil
  go_simp
  try dsimp only
  refine hK.out _ _ (by first | assumption | exact Bel.drew ‹_› | (refine Bel.drew (Bel.alloc ?_ _); assumption) | (refine Bel.alloc ?_ _; assumption)) (fun hHeld2 => ?_)
  clear hK K
  try simp only [Act.put, List.setIfInBounds_toArray, List.set_cons_zero, List.set_cons_succ]
  refine wpAnyH_ready (rs := [4]) (by kernel_rfl) (by simp) ?_
  refine AllReadyH.cons (o := _) rfl (fun K hK => ?_) AllReadyH.nil
  refine step_append_src rfl _ _ 24 rfl w2.heap.size 5 i0 (.int .u8 0) 1 1 Tryd.underlying24 hi hz0 hz1 hz2 rfl (by decide) _ 0 [] rfl hown0 (some ⟨bb, off, none⟩) n c (l.map encN) rfl hlc.out hnl.out (hcs.out _ (hfr.out _ ‹Bel w2 _›)) hone.out (by simp [maxLen]; omega) (by omega) (‹Bel w2 _› : Below _ _ _).size ?_; intro v1 w5 R hg5; simp only [Nat.zero_add, List.nil_append] at R; replace R := Lib.hid R; have hb5 : Bel w2 w5 := Below.grown ‹Bel w2 _› hg5 (‹Bel w2 _› : Below _ _ _).size (fun k ek => by cases ek; exact Nat.le_refl _); clear hg5 hown0
  try dsimp only
  refine hK.out _ _ (by first | assumption | exact Bel.drew ‹_› | (refine Bel.drew (Bel.alloc ?_ _); assumption) | (refine Bel.alloc ?_ _; assumption)) (fun hHeld2 => ?_)
  clear hK K
  try simp only [Act.put, List.setIfInBounds_toArray, List.set_cons_zero, List.set_cons_succ]
  refine wpAnyH_ready (rs := [6]) (by kernel_rfl) (by simp) ?_
  refine AllReadyH.cons (o := _) rfl (fun K hK => ?_) AllReadyH.nil
  go_simp
  go_at_call 9; (with_reducible refine (hR0.out _ (hfr.out _ ‹Bel w2 _›)).mono ?_); rintro e w' ⟨rfl, rfl⟩
  try dsimp only
  refine hK.out _ _ (by first | assumption | exact Bel.drew ‹_› | (refine Bel.drew (Bel.alloc ?_ _); assumption) | (refine Bel.alloc ?_ _; assumption)) (fun hHeld2 => ?_)
  clear hK K
  try simp only [Act.put, List.setIfInBounds_toArray, List.set_cons_zero, List.set_cons_succ]
  refine wpAnyH_ready (rs := [7]) (by kernel_rfl) (by simp) ?_
  refine AllReadyH.cons (o := _) rfl (fun K hK => ?_) AllReadyH.nil
  go_simp
  go_at_call 13; refine (hF4.out _).mono ?_; rintro e w6 ⟨g4, rfl, hg4, h4, hb6⟩; replace R := Lib.hid (ownsRow_bel R.out hb6); have h4' : Row w6 g4 fl := h4; replace h4' := Lib.hid h4'; clear h4; replace hb6 := Bel.step ‹Bel w2 _› hb6
  try dsimp only
  refine hK.out _ _ (by first | assumption | exact Bel.drew ‹_› | (refine Bel.drew (Bel.alloc ?_ _); assumption) | (refine Bel.alloc ?_ _; assumption)) (fun hHeld2 => ?_)
  clear hK K
  try simp only [Act.put, List.setIfInBounds_toArray, List.set_cons_zero, List.set_cons_succ]
  refine wpAnyH_ready (rs := [8]) (by kernel_rfl) (by simp) ?_
  refine AllReadyH.cons (o := _) rfl (fun K hK => ?_) AllReadyH.nil
  refine step_append_src rfl _ _ 24 rfl w2.heap.size 5 i0 (.int .u8 0) 1 1 Tryd.underlying24 hi hz0 hz1 hz2 rfl (by decide) v1 n (l.map encN) rfl R.out (some ⟨g4, 0, none⟩) 4 4 (fl.map encN) rfl hl4.out (fun e => by cases e) (h4'.out.src hfs.out).cells hone4.out (by simp [maxLen]; omega) (by omega) (‹Bel w2 w6› : Below _ _ _).size ?_; intro v2 w7 R2 hg7; have hcv := hCv.out _ _ _ R2; have hb7 : Bel w2 w7 := Below.grown ‹Bel w2 w6› hg7 (‹Bel w2 w6› : Below _ _ _).size (fun k ek => (R.out.lt k ek).1); clear hg7
  try dsimp only
  refine hK.out _ _ (by first | assumption | exact Bel.drew ‹_› | (refine Bel.drew (Bel.alloc ?_ _); assumption) | (refine Bel.alloc ?_ _; assumption)) (fun hHeld2 => ?_)
  clear hK K
  try simp only [Act.put, List.setIfInBounds_toArray, List.set_cons_zero, List.set_cons_succ]
  refine wpAnyH_ready (rs := [9]) (by kernel_rfl) (by simp) ?_
  refine AllReadyH.cons (o := _) rfl (fun K hK => ?_) AllReadyH.nil
  go_simp
  try dsimp only
  refine hK.out _ _ (by first | assumption | exact Bel.drew ‹_› | (refine Bel.drew (Bel.alloc ?_ _); assumption) | (refine Bel.alloc ?_ _; assumption)) (fun hHeld2 => ?_)
  clear hK K
  try simp only [Act.put, List.setIfInBounds_toArray, List.set_cons_zero, List.set_cons_succ]
  refine wpAnyH_take (i := 10) (oi := _) (v := ?v10) rfl (by kernel_rfl) (by kernel_rfl) (by kernel_rfl) (fun _ _ _ h => h) (Or.inl ⟨by rfl, ?h10⟩) (by assumption) ?r10
  case h10 => (intro w hSw; go_simp <;> with_reducible rfl)
  try simp only [Act.put, List.setIfInBounds_toArray, List.set_cons_zero, List.set_cons_succ]
  refine wpAnyH_done (by kernel_rfl) ?_ _
  have hOf7 := Lib.hid (hOf.out w7 g (hfr.out w7 hb7) (hr.out.bel hb7))
  have hB7 := Lib.hid (hfr.out w7 hb7)
  have hCb7 := Lib.hid (fun w' (hb : Bel w7 w') => hCb.out w' (hB7.out.trans (hb.mono hB7.out.size)))
  clear hcv hb7 R2 hcf hq0 hq00 hfr hOf hR0 hF4 hCv hcs hr hb2
  go_wp2_with (first
    | (go_at_call 14; (with_reducible refine hOf7.out.mono ?_); rintro e w8 ⟨v8, rfl, R8, hb8⟩; have hcv8 := hCx.out _ _ _ R8; have hcb8 := hCb7.out _ hb8; replace hb8 := Lib.hid (Bel.step hB7.out hb8); clear R8)
    | (go_at_call 14; (with_reducible refine (hOb.out _ hb8.out).mono ?_); rintro e w9 ⟨v9, rfl, R9, hb9⟩; replace R9 := Lib.hid R9; replace hb9 := Lib.hid (Bel.step hb8.out hb9)))
  have hq00 : Bel w9 w9 := Bel.refl w9
  have hq0 : Bel w9 w9.drew := Bel.drew hq00
  have hfr9 : ∀ w', Bel w9 w' → Bel w w' := fun w' hb => hb9.out.trans (hb.mono hb9.out.size)
  have hCy9 := fun w' (hb : Bel w9 w') => hCy.out w' (hfr9 w' hb)
  replace hfr9 := Lib.hid hfr9
  refine wp_region_held_drew (S := Bel w9) (by kernel_rfl) (by assumption) (fun hHeld => ?_)
  refine wpAnyH_take (i := 0) (oi := _) (v := ?v0q) rfl (by kernel_rfl) (by kernel_rfl) (by kernel_rfl) (fun _ _ _ h => h) (Or.inl ⟨by rfl, ?h0q⟩) (by assumption) ?r0q
  case h0q => (intro w hSw; go_simp <;> with_reducible rfl)
  try simp only [Act.put, List.setIfInBounds_toArray, List.set_cons_zero, List.set_cons_succ]
  refine wpAnyH_take (i := 1) (oi := _) (v := ?v1q) rfl (by kernel_rfl) (by kernel_rfl) (by kernel_rfl) (fun _ _ _ h => h) (Or.inl ⟨by rfl, ?h1q⟩) (by assumption) ?r1q
  case h1q => (intro w hSw; go_simp <;> with_reducible rfl)
  try simp only [Act.put, List.setIfInBounds_toArray, List.set_cons_zero, List.set_cons_succ]
  refine wpAnyH_take (i := 2) (oi := _) (v := ?v2q) rfl (by kernel_rfl) (by kernel_rfl) (by kernel_rfl) (fun _ _ _ h => h) (Or.inl ⟨by rfl, ?h2q⟩) (by assumption) ?r2q
  case h2q => (intro w hSw; go_simp <;> with_reducible rfl)
  try simp only [Act.put, List.setIfInBounds_toArray, List.set_cons_zero, List.set_cons_succ]
  refine wpAnyH_take (i := 3) (oi := _) (v := ?v3q) rfl (by kernel_rfl) (by kernel_rfl) (by kernel_rfl) (fun _ _ _ h => h) (Or.inl ⟨by rfl, ?h3q⟩) (by assumption) ?r3q
  case h3q => (intro w hSw; go_simp <;> with_reducible rfl)
  try simp only [Act.put, List.setIfInBounds_toArray, List.set_cons_zero, List.set_cons_succ]
  refine wpAnyH_take (i := 4) (oi := _) (v := ?v4q) rfl (by kernel_rfl) (by kernel_rfl) (by kernel_rfl) (fun _ _ _ h => h) (Or.inl ⟨by rfl, ?h4q⟩) (by assumption) ?r4q
  case h4q => (intro w hSw; go_simp <;> with_reducible rfl)
  try simp only [Act.put, List.setIfInBounds_toArray, List.set_cons_zero, List.set_cons_succ]
  refine wpAnyH_take (i := 5) (oi := _) (v := ?v5q) rfl (by kernel_rfl) (by kernel_rfl) (by kernel_rfl) (fun _ _ _ h => h) (Or.inl ⟨by rfl, ?h5q⟩) (by assumption) ?r5q
  case h5q => (intro w hSw; go_simp <;> with_reducible rfl)
  try simp only [Act.put, List.setIfInBounds_toArray, List.set_cons_zero, List.set_cons_succ]
  refine wpAnyH_take (i := 6) (oi := _) (v := ?v6q) rfl (by kernel_rfl) (by kernel_rfl) (by kernel_rfl) (fun _ _ _ h => h) (Or.inl ⟨by rfl, ?h6q⟩) (by assumption) ?r6q
  case h6q => (intro w hSw; go_simp <;> with_reducible rfl)
  try simp only [Act.put, List.setIfInBounds_toArray, List.set_cons_zero, List.set_cons_succ]
  refine wpAnyH_ready (rs := [7]) (by kernel_rfl) (by simp) ?_
  refine AllReadyH.cons (o := _) rfl (fun K hK => ?_) AllReadyH.nil
  go_simp
  go_at_call 9; (with_reducible refine (hRx.out _ (hfr9.out _ ‹Bel w9 _›)).mono ?_); rintro e w' ⟨rfl, rfl⟩
  try dsimp only
  refine hK.out _ _ (by first | assumption | exact Bel.drew ‹_› | (refine Bel.drew (Bel.alloc ?_ _); assumption) | (refine Bel.alloc ?_ _; assumption)) (fun hHeld2 => ?_)
  clear hK K
  try simp only [Act.put, List.setIfInBounds_toArray, List.set_cons_zero, List.set_cons_succ]
  refine wpAnyH_ready (rs := [8]) (by kernel_rfl) (by simp) ?_
  refine AllReadyH.cons (o := _) rfl (fun K hK => ?_) AllReadyH.nil
  go_simp
  go_at_call 13; refine (hFx.out _).mono ?_; rintro e w11 ⟨g5, rfl, hg5, h5, hb11⟩; have hcv5 := hC5.out w11 g5 h5; replace hb11 := Bel.step ‹Bel w9 _› hb11
  try dsimp only
  refine hK.out _ _ (by first | assumption | exact Bel.drew ‹_› | (refine Bel.drew (Bel.alloc ?_ _); assumption) | (refine Bel.alloc ?_ _; assumption)) (fun hHeld2 => ?_)
  clear hK K
  try simp only [Act.put, List.setIfInBounds_toArray, List.set_cons_zero, List.set_cons_succ]
  refine wpAnyH_ready (rs := [9]) (by kernel_rfl) (by simp) ?_
  refine AllReadyH.cons (o := _) rfl (fun K hK => ?_) AllReadyH.nil
  go_simp
  try dsimp only
  refine hK.out _ _ (by first | assumption | exact Bel.drew ‹_› | (refine Bel.drew (Bel.alloc ?_ _); assumption) | (refine Bel.alloc ?_ _; assumption)) (fun hHeld2 => ?_)
  clear hK K
  try simp only [Act.put, List.setIfInBounds_toArray, List.set_cons_zero, List.set_cons_succ]
  refine wpAnyH_take (i := 10) (oi := { dst := some 69, op := Op.binOp BinOp.neq 9 (Operand.tmp 62) (Operand.tmp 68) 9, type := 4, pos := "law.go:56", after := #[{ on := 3, ground := Ground.data }, { on := 9, ground := Ground.data }], guard := none }) (v := ?v10q) rfl (by kernel_rfl) (by kernel_rfl) (by kernel_rfl) (fun _ _ _ h => h) (Or.inl ⟨by rfl, ?h10q⟩) (by assumption) ?r10q
  case h10q => (intro w hSw; go_simp <;> with_reducible rfl)
  try simp only [Act.put, List.setIfInBounds_toArray, List.set_cons_zero, List.set_cons_succ]
  refine wpAnyH_done (by kernel_rfl) ?_ _
  have hq11 := Lib.hid (hfr9.out _ hb11)
  have hcy11 : ∀ w', Bel w11 w' → (convert 24 9 v9).run Tryd.prog w' = .ok (.string (strN x)) w' := fun w' hb => hCx2.out _ _ _ (ownsRow_bel R9.out (Below.trans hb11 (hb.mono (Below.size hb11))))
  have hch11 : ∀ w', Bel w11 w' → (convert 24 9 (.slice (some ⟨bb, off, none⟩) m c)).run Tryd.prog w' = .ok (.string (strN x)) w' := fun w' hb => hCh.out w' (hq11.out.trans (hb.mono hq11.out.size))
  clear R9 hcv5 h5 hCy9 hq00 hq0
  go_wp2_with fail
  refine wp_region_bel (by kernel_rfl) (by kernel_rfl) ?_
  repeat (first
    | go_big_quiet_skip
    | (go_big_quiet_want
       first
         | (refine BigFrame.quiet_move _ rfl ?_
            simp only [Act.put, Act.eval, List.setIfInBounds_toArray, List.set_cons_zero, List.set_cons_succ, List.getD_toArray, List.getD_cons_zero, List.getD_cons_succ]
            go_big_quiet_on)
         | (refine BigFrame.quiet_assign _ rfl ?_
            simp only [Act.put, Act.eval, List.setIfInBounds_toArray, List.set_cons_zero, List.set_cons_succ, List.getD_toArray, List.getD_cons_zero, List.getD_cons_succ]
            go_big_quiet_on)
         | (refine quiet_val ?_
            apply Exists.intro
            refine ⟨fun w' hC => ?_, ?_⟩
            · go_simp
              with_reducible rfl
            simp only [Act.put, List.setIfInBounds_toArray, List.set_cons_zero, List.set_cons_succ]
            go_big_quiet_on)))
  refine wpQuiet_nil ?_
  intro wq hq
  replace hq := Lib.hid (hq11.out.trans (hq.mono hq11.out.size))
  go_wp2_with fail
  go_ret
  exact ⟨rfl, hq.out⟩
end Go.Proofs.YtficnnlajpfkbaaDoor
