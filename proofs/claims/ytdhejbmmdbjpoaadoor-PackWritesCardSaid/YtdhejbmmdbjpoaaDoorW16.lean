/- The law's back: what was written is read. -/
import Derived.Test.YtdhejbmmdbjpoaaDoorW15
namespace Go.Proofs.YtdhejbmmdbjpoaaDoor
open Go.RowKit
set_option maxHeartbeats 4000000 in
set_option maxRecDepth 100000 in
theorem back_in {w0 w : World} {b : Nat} {a : Option Addr} {c : Nat} {l : List Va} (h0 : Bel w0 w) (hb : w0.heap.size ≤ b) (hr : Rd w b (encVs l)) (hv : Vals w0 a l) (hE : Ev w0) (hfine : ∀ v ∈ l, Fine v) (hn : l.length ≤ 40) :
    Calls Tryd.prog 17 #[.pointer (some ⟨b, 0, none⟩), .slice a l.length c] w fun e w' => e = .returned (.bool true) ∧ Apt w w' b none := by
  have hblt := hr.lt
  have hS0 : ∀ w', Apt w w' b none → Bel w0 w' := fun w' ha => Apt.bel h0 ha hb (fun k hk => by cases hk)
  have hC : ∀ w' k v, l[k]? = some v → Apt w w' b none → Fine v ∧ ∃ g o, a = some ⟨g, o, none⟩ ∧ g < w'.heap.size ∧ w'.cell? ⟨g, o + k * 4, none⟩ = some (.int .i64 v.kind) ∧ w'.cell? ⟨g, o + k * 4 + 1, none⟩ = some (.int .i64 v.num) ∧ w'.cell? ⟨g, o + k * 4 + 2, none⟩ = some (.slice v.ba v.bl.length v.bc) ∧ w'.cell? ⟨g, o + k * 4 + 3, none⟩ = some (.slice v.ra v.rl.length v.rc) ∧ ∀ w'', Apt w w'' b none → VaIn w'' v := by
    intro w' k v hk ha
    obtain ⟨g, o, e, hl, q0, q1, q2, q3, -⟩ := hv.bel (hS0 w' ha) k v hk
    exact ⟨hfine v (List.mem_of_getElem? hk), g, o, e, hl, q0, q1, q2, q3, fun w'' ha2 => by
      obtain ⟨g, o, e, hl, q0, q1, q2, q3, q⟩ := hv.bel (hS0 w'' ha2) k v hk
      exact q⟩
  have hD : ∀ k v, l[k]? = some v → encVs (l.drop k) = encV v ++ encVs (l.drop (k + 1)) ∧ (encV v ++ encVs (l.drop (k + 1))).length ≤ 20000 := by
    intro k v hk
    obtain ⟨hlt, rfl⟩ := List.getElem?_eq_some_iff.1 hk
    have e : encVs (l.drop k) = encV l[k] ++ encVs (l.drop (k + 1)) := by rw [List.drop_eq_getElem_cons hlt, encVs_cons]
    refine ⟨e, ?_⟩
    rw [← e]
    have := encVs_len (l.drop k) (fun v hv => hfine v (List.mem_of_mem_drop hv))
    rw [List.length_drop] at this
    omega
  have hE' : ∀ w', Apt w w' b none → Ev w' := fun w' ha => hE.bel (hS0 w' ha)
  have hEb0 : 0 < b ∧ 1 < b ∧ 3 < b := by
    obtain ⟨⟨_, e0⟩, ⟨_, e1⟩, ⟨_, e3⟩⟩ := hE
    exact ⟨Nat.lt_of_lt_of_le (World.block_lt_of_cell? _ _ e0) hb, Nat.lt_of_lt_of_le (World.block_lt_of_cell? _ _ e1) hb, Nat.lt_of_lt_of_le (World.block_lt_of_cell? _ _ e3) hb⟩
  have hEnd : ∀ w', Rd w' b (encVs (l.drop l.length)) → Calls Tryd.prog 30 #[.pointer (some ⟨b, 0, none⟩)] w' (fun e w'' => e = .returned .nilIface ∧ w' = w'') ∧ Calls Tryd.prog 21 #[.pointer (some ⟨b, 0, none⟩)] w' (fun e w'' => e = .returned (.int .i64 0) ∧ w' = w'') := by
    intro w' h
    rw [List.drop_length] at h
    exact ⟨iend_ok h, ileft_ok (l := []) h⟩
  have hst : Rd w b (encVs (l.drop 0)) := by simpa using hr
  have hn0 : ∀ k, k < l.length → ∃ x, l[k]? = some x := fun k hk => ⟨l[k], List.getElem?_eq_getElem hk⟩
  replace hC := Lib.hid hC
  replace hD := Lib.hid hD
  replace hE' := Lib.hid hE'
  replace hEb0 := Lib.hid hEb0
  replace hEnd := Lib.hid hEnd
  replace hst := Lib.hid hst
  replace hn0 := Lib.hid hn0
  have ha0 := Lib.hid (Apt.refl w b none)
  replace hblt := Lib.hid hblt
  clear hfine hv hr hb h0 hE hS0
  generalize l.length = n at *
  go_enter Tryd.func17, Tryd.ntmps17
  go_wp2
  go_loopw [12] (fun s12 wr => ∃ k : Nat, k ≤ n ∧ s12 = .int .i64 k ∧ Hid (Rd wr b (encVs (l.drop k))) ∧ Hid (Apt w wr b none)) (fun s12 _ => n - (intOf s12).toNat)
  case atStart => exact ⟨0, by omega, rfl, hst, ha0⟩
  case round =>
    clear hst ha0
    obtain ⟨k, hk, rfl, hR, ha⟩ := hrel
    by_cases hlt : k < n
    · obtain ⟨v, hvk⟩ := hn0.out k hlt
      obtain ⟨hf, g, o, rfl, hgl, q0, q1, q2, q3, hVI⟩ := hC.out wr k v hvk ha.out
      obtain ⟨hDe, hL⟩ := hD.out k v hvk
      replace hR := hR.out
      rw [hDe] at hR
      generalize hs : encVs (l.drop (k + 1)) = s at *
      clear hDe
      obtain ⟨kind, num, ba, bc, bl, ra, rc, rl⟩ := v
      dsimp only at q0 q1 q2 q3
      have hbl := hf.bl
      have hrl := hf.rl
      dsimp only at hbl hrl
      obtain ⟨wa, hwa⟩ : ∃ wa, wa = wr.alloc (.cells #[.int .i64 kind, .int .i64 num, .slice ba bl.length bc, .slice ra rl.length rc] 33) := ⟨_, rfl⟩
      have hWa : Bel wr wa := by rw [hwa]; exact Bel.new _ _
      have hWd : Bel wr wa.drew := hWa.drew
      have hfin : ∀ w', Apt wa w' b none → Apt w w' b none := fun w' h => (ha.out.trans (.inl rfl) (Apt.of_bel hWa)).trans (.inl rfl) h
      have hEw : Ev wa.drew := hE'.out _ (hfin _ (Apt.refl wa b none).drew)
      have hEb : ∀ n, wr.heap.size ≤ n → 0 < b ∧ 1 < b ∧ 3 < b := fun _ _ => hEb0.out
      have hbr : wr.heap.size ≠ b := by have := ha.out.size; have := hblt.out; omega
      have hCell : ∀ w', Apt wa w' b none → w'.cell? ⟨wr.heap.size, 1, none⟩ = some (.int .i64 num) ∧ w'.cell? ⟨wr.heap.size, 2, none⟩ = some (.slice ba bl.length bc) ∧ w'.cell? ⟨wr.heap.size, 3, none⟩ = some (.slice ra rl.length rc) := by
        intro w' h
        have hh : w'.heap[wr.heap.size]? = some (.cells #[.int .i64 kind, .int .i64 num, .slice ba bl.length bc, .slice ra rl.length rc] 33 (0, 0)) := by
          rw [h.block wr.heap.size (by rw [hwa]; simp) hbr (by simp), hwa]
          exact World.alloc_heap_new wr _
        exact ⟨(cell_of_row w' _ 1 _ _ _ hh).trans rfl, (cell_of_row w' _ 2 _ _ _ hh).trans rfl, (cell_of_row w' _ 3 _ _ _ hh).trans rfl⟩
      have hInS : ∀ w', Apt wa w' b none → VaIn w' ⟨kind, num, ba, bc, bl, ra, rc, rl⟩ := fun w' h => hVI w' (hfin w' h)
      have hIn := hInS wa (Apt.refl _ _ _)
      have hCv : ∀ w', Apt wa w' b none → (convert 26 9 (.slice ba bl.length bc)).run Tryd.prog w' = .ok (.string (strN bl)) w' := fun w' h => (hInS w' h).bytes.conv
      replace hCv := Lib.hid hCv
      replace hCell := Lib.hid hCell
      replace hfin := Lib.hid hfin
      clear hWa hbr hVI hvk hEb0
      replace hs := Lib.hid hs
      by_cases hk0 : kind = 0
      · subst hk0
        obtain ⟨m, rfl⟩ := Int.eq_ofNat_of_zero_le (show 0 ≤ num by have := hf.num rfl; unfold badN at this; simp at this; omega)
        have hm : m ≤ 2147483647 := by have := hf.num rfl; unfold badN at this; simp at this; omega
        have he : encV ⟨0, (m : Int), ba, bc, bl, ra, rc, rl⟩ = numL m := by unfold encV; simp
        rw [he] at hR hL
        have hc := inum_ok (hR.bel hWd) hm (by omega) hEw (most := (m : Int)) (Int.le_refl _)
        unfold Reads at hc
        replace hc := Lib.hid hc
        clear hR hL he hf hIn hWd hEw hEb hInS
        go_wp2
        rw [← hwa]
        clear hwa
        refine wp_region_held_drew (S := fun w' => Apt wa w' b none) (by kernel_rfl) ((Apt.refl wa b none).drew) (fun hHeld => ?_)
        refine wpAnyH_take (i := 0) (v := ?v0u1) rfl (by kernel_rfl) (by kernel_rfl) (by kernel_rfl) (fun _ _ _ h => h) (Or.inl ⟨by rfl, ?h0u1⟩) hHeld ?r0u1
        case h0u1 => (intro wq hSw; go_simp <;> with_reducible rfl)
        try simp only [Act.put, List.setIfInBounds_toArray, List.set_cons_zero, List.set_cons_succ]
        refine wpAnyH_take (i := 1) (v := ?v1u1) rfl (by kernel_rfl) (by kernel_rfl) (by kernel_rfl) (fun _ _ _ h => h) (Or.inl ⟨by rfl, ?h1u1⟩) hHeld ?r1u1
        case h1u1 => (intro wq hSw; go_simp <;> with_reducible rfl)
        try simp only [Act.put, List.setIfInBounds_toArray, List.set_cons_zero, List.set_cons_succ]
        refine wpAnyH_take (i := 2) (v := ?v2u1) rfl (by kernel_rfl) (by kernel_rfl) (by kernel_rfl) (fun _ _ _ h => h) (Or.inl ⟨by rfl, ?h2u1⟩) hHeld ?r2u1
        case h2u1 => (intro wq hSw; obtain ⟨c1, c2, c3⟩ := hCell.out wq hSw; go_simp <;> with_reducible rfl)
        try simp only [Act.put, List.setIfInBounds_toArray, List.set_cons_zero, List.set_cons_succ]
        refine wpAnyH_take (i := 4) (v := ?v4u1) rfl (by kernel_rfl) (by kernel_rfl) (by kernel_rfl) (fun _ _ _ h => h) (Or.inl ⟨by rfl, ?h4u1⟩) hHeld ?r4u1
        case h4u1 => (intro wq hSw; go_simp <;> with_reducible rfl)
        try simp only [Act.put, List.setIfInBounds_toArray, List.set_cons_zero, List.set_cons_succ]
        refine wpAnyH_take (i := 5) (v := ?v5u1) rfl (by kernel_rfl) (by kernel_rfl) (by kernel_rfl) (fun _ _ _ h => h) (Or.inl ⟨by rfl, ?h5u1⟩) hHeld ?r5u1
        case h5u1 => (intro wq hSw; obtain ⟨c1, c2, c3⟩ := hCell.out wq hSw; go_simp <;> with_reducible rfl)
        try simp only [Act.put, List.setIfInBounds_toArray, List.set_cons_zero, List.set_cons_succ]
        refine wpAnyH_ready (rs := [3]) (by kernel_rfl) (by simp) ?_
        refine AllReadyH.cons (o := _) rfl (fun K hK => ?_) AllReadyH.nil
        go_simp
        (go_at_call 19; (with_reducible refine hc.out.mono ?_); rintro e w2 ⟨rfl, hr2, hA2⟩; replace hr2 := Lib.hid hr2; replace hA2 := Lib.hid (Apt.undrew hA2))
        try dsimp only
        refine hK.out _ _ (by first | assumption | exact hA2.out) (fun hHeld2 => ?_)
        clear hK K hHeld
        have hHeld := hHeld2
        clear hHeld2
        try simp only [Act.put, List.setIfInBounds_toArray, List.set_cons_zero, List.set_cons_succ]
        refine wpAnyH_take (i := 6) (v := ?v6u1) rfl (by kernel_rfl) (by kernel_rfl) (by kernel_rfl) (fun _ _ _ h => h) (Or.inl ⟨by rfl, ?h6u1⟩) hHeld ?r6u1
        case h6u1 => (intro wq hSw; go_simp <;> with_reducible rfl)
        try simp only [Act.put, List.setIfInBounds_toArray, List.set_cons_zero, List.set_cons_succ]
        refine wpAnyH_take (i := 7) (v := ?v7u1) rfl (by kernel_rfl) (by kernel_rfl) (by kernel_rfl) (fun _ _ _ h => h) (Or.inl ⟨by rfl, ?h7u1⟩) hHeld ?r7u1
        case h7u1 => (intro wq hSw; go_simp <;> with_reducible rfl)
        try simp only [Act.put, List.setIfInBounds_toArray, List.set_cons_zero, List.set_cons_succ]
        refine wpAnyH_done (by kernel_rfl) ?_ _
        go_wp2
        go_roundw
        case rel => exact ⟨k + 1, by omega, by go_num, (by rw [hs.out]; exact hr2), Lib.hid ((hfin.out _ hA2.out))⟩
        case measure => simp [intOf]; omega
      by_cases hk1 : kind = 1
      · subst hk1
        clear hk0
        have he : encV ⟨1, num, ba, bc, bl, ra, rc, rl⟩ = [byteOf num] := by unfold encV; simp
        rw [he] at hR hL
        have hc := ibyte_ok (hR.bel hWd)
        rw [byteOf_int] at hc
        unfold Reads at hc
        replace hc := Lib.hid hc
        clear hR hL he hf hIn hWd hEw hEb hInS
        go_wp2
        rw [← hwa]
        clear hwa
        refine wp_region_held_drew (S := fun w' => Apt wa w' b none) (by kernel_rfl) ((Apt.refl wa b none).drew) (fun hHeld => ?_)
        refine wpAnyH_take (i := 0) (v := ?v0u2) rfl (by kernel_rfl) (by kernel_rfl) (by kernel_rfl) (fun _ _ _ h => h) (Or.inl ⟨by rfl, ?h0u2⟩) hHeld ?r0u2
        case h0u2 => (intro wq hSw; go_simp <;> with_reducible rfl)
        try simp only [Act.put, List.setIfInBounds_toArray, List.set_cons_zero, List.set_cons_succ]
        refine wpAnyH_take (i := 2) (v := ?v2u2) rfl (by kernel_rfl) (by kernel_rfl) (by kernel_rfl) (fun _ _ _ h => h) (Or.inl ⟨by rfl, ?h2u2⟩) hHeld ?r2u2
        case h2u2 => (intro wq hSw; go_simp <;> with_reducible rfl)
        try simp only [Act.put, List.setIfInBounds_toArray, List.set_cons_zero, List.set_cons_succ]
        refine wpAnyH_take (i := 3) (v := ?v3u2) rfl (by kernel_rfl) (by kernel_rfl) (by kernel_rfl) (fun _ _ _ h => h) (Or.inl ⟨by rfl, ?h3u2⟩) hHeld ?r3u2
        case h3u2 => (intro wq hSw; obtain ⟨c1, c2, c3⟩ := hCell.out wq hSw; go_simp <;> with_reducible rfl)
        try simp only [Act.put, List.setIfInBounds_toArray, List.set_cons_zero, List.set_cons_succ]
        refine wpAnyH_take (i := 4) (v := ?v4u2) rfl (by kernel_rfl) (by kernel_rfl) (by kernel_rfl) (fun _ _ _ h => h) (Or.inl ⟨by rfl, ?h4u2⟩) hHeld ?r4u2
        case h4u2 => (intro wq hSw; go_simp <;> with_reducible rfl)
        try simp only [Act.put, List.setIfInBounds_toArray, List.set_cons_zero, List.set_cons_succ]
        refine wpAnyH_ready (rs := [1]) (by kernel_rfl) (by simp) ?_
        refine AllReadyH.cons (o := _) rfl (fun K hK => ?_) AllReadyH.nil
        go_simp
        (go_at_call 25; (with_reducible refine hc.out.mono ?_); rintro e w2 ⟨rfl, hr2, hA2⟩; replace hr2 := Lib.hid hr2; replace hA2 := Lib.hid (Apt.undrew hA2))
        try dsimp only
        refine hK.out _ _ (by first | assumption | exact hA2.out) (fun hHeld2 => ?_)
        clear hK K hHeld
        have hHeld := hHeld2
        clear hHeld2
        try simp only [Act.put, List.setIfInBounds_toArray, List.set_cons_zero, List.set_cons_succ]
        refine wpAnyH_take (i := 5) (v := ?v5u2) rfl (by kernel_rfl) (by kernel_rfl) (by kernel_rfl) (fun _ _ _ h => h) (Or.inl ⟨by rfl, ?h5u2⟩) hHeld ?r5u2
        case h5u2 => (intro wq hSw; go_simp <;> with_reducible rfl)
        try simp only [Act.put, List.setIfInBounds_toArray, List.set_cons_zero, List.set_cons_succ]
        refine wpAnyH_take (i := 6) (v := ?v6u2) rfl (by kernel_rfl) (by kernel_rfl) (by kernel_rfl) (fun _ _ _ h => h) (Or.inl ⟨by rfl, ?h6u2⟩) hHeld ?r6u2
        case h6u2 => (intro wq hSw; go_simp <;> with_reducible rfl)
        try simp only [Act.put, List.setIfInBounds_toArray, List.set_cons_zero, List.set_cons_succ]
        refine wpAnyH_done (by kernel_rfl) ?_ _
        go_wp2
        go_roundw
        case rel => exact ⟨k + 1, by omega, by go_num, (by rw [hs.out]; exact hr2), Lib.hid ((hfin.out _ hA2.out))⟩
        case measure => simp [intOf]; omega
      by_cases hk2 : kind = 2
      · subst hk2
        clear hk0 hk1
        have he : encV ⟨2, num, ba, bc, bl, ra, rc, rl⟩ = numL bl.length ++ bl := by unfold encV; simp
        rw [he, List.append_assoc] at hR hL
        have hc := Lib.hid (ibytes_ok (hR.bel hWd) (by omega) (by omega) hEw (most := (bl.length : Int)) (Int.le_refl _))
        clear hR hL he hf hIn hWd hEw hEb hInS
        go_wp2
        rw [← hwa]
        clear hwa
        refine wp_region_held_drew (S := fun w' => Apt wa w' b none) (by kernel_rfl) ((Apt.refl wa b none).drew) (fun hHeld => ?_)
        refine wpAnyH_take (i := 0) (v := ?v0u3) rfl (by kernel_rfl) (by kernel_rfl) (by kernel_rfl) (fun _ _ _ h => h) (Or.inl ⟨by rfl, ?h0u3⟩) hHeld ?r0u3
        case h0u3 => (intro wq hSw; go_simp <;> with_reducible rfl)
        try simp only [Act.put, List.setIfInBounds_toArray, List.set_cons_zero, List.set_cons_succ]
        refine wpAnyH_take (i := 1) (v := ?v1u3) rfl (by kernel_rfl) (by kernel_rfl) (by kernel_rfl) (fun _ _ _ h => h) (Or.inl ⟨by rfl, ?h1u3⟩) hHeld ?r1u3
        case h1u3 => (intro wq hSw; go_simp <;> with_reducible rfl)
        try simp only [Act.put, List.setIfInBounds_toArray, List.set_cons_zero, List.set_cons_succ]
        refine wpAnyH_take (i := 2) (v := ?v2u3) rfl (by kernel_rfl) (by kernel_rfl) (by kernel_rfl) (fun _ _ _ h => h) (Or.inl ⟨by rfl, ?h2u3⟩) hHeld ?r2u3
        case h2u3 => (intro wq hSw; obtain ⟨c1, c2, c3⟩ := hCell.out wq hSw; go_simp <;> with_reducible rfl)
        try simp only [Act.put, List.setIfInBounds_toArray, List.set_cons_zero, List.set_cons_succ]
        refine wpAnyH_take (i := 3) (v := ?v3u3) rfl (by kernel_rfl) (by kernel_rfl) (by kernel_rfl) (fun _ _ _ h => h) (Or.inl ⟨by rfl, ?h3u3⟩) hHeld ?r3u3
        case h3u3 => (intro wq hSw; go_simp <;> with_reducible rfl)
        try simp only [Act.put, List.setIfInBounds_toArray, List.set_cons_zero, List.set_cons_succ]
        refine wpAnyH_take (i := 6) (v := ?v6u3) rfl (by kernel_rfl) (by kernel_rfl) (by kernel_rfl) (fun _ _ _ h => h) (Or.inl ⟨by rfl, ?h6u3⟩) hHeld ?r6u3
        case h6u3 => (intro wq hSw; go_simp <;> with_reducible rfl)
        try simp only [Act.put, List.setIfInBounds_toArray, List.set_cons_zero, List.set_cons_succ]
        refine wpAnyH_take (i := 7) (v := ?v7u3) rfl (by kernel_rfl) (by kernel_rfl) (by kernel_rfl) (fun _ _ _ h => h) (Or.inl ⟨by rfl, ?h7u3⟩) hHeld ?r7u3
        case h7u3 => (intro wq hSw; obtain ⟨c1, c2, c3⟩ := hCell.out wq hSw; go_simp <;> with_reducible rfl)
        try simp only [Act.put, List.setIfInBounds_toArray, List.set_cons_zero, List.set_cons_succ]
        refine wpAnyH_take (i := 8) (v := ?v8u3) rfl (by kernel_rfl) (by kernel_rfl) (by kernel_rfl) (fun _ _ _ h => h) (Or.inl ⟨by rfl, ?h8u3⟩) hHeld ?r8u3
        case h8u3 => (intro wq hSw; have hcv := hCv.out wq hSw; go_simp <;> with_reducible rfl)
        try simp only [Act.put, List.setIfInBounds_toArray, List.set_cons_zero, List.set_cons_succ]
        refine wpAnyH_ready (rs := [4]) (by kernel_rfl) (by simp) ?_
        refine AllReadyH.cons (o := _) rfl (fun K hK => ?_) AllReadyH.nil
        go_simp
        (go_at_call 26; (with_reducible refine hc.out.mono ?_); rintro e w2 ⟨pp, cap, rfl, hs2, hr2, hA2⟩; have hcv2 := hs2.conv; replace hr2 := Lib.hid hr2; replace hA2 := Lib.hid (Apt.undrew hA2); clear hs2)
        try dsimp only
        refine hK.out _ _ (by first | assumption | exact hA2.out) (fun hHeld2 => ?_)
        clear hK K hHeld
        have hHeld := hHeld2
        clear hHeld2
        try simp only [Act.put, List.setIfInBounds_toArray, List.set_cons_zero, List.set_cons_succ]
        refine wpAnyH_ready (rs := [5]) (by kernel_rfl) (by simp) ?_
        refine AllReadyH.cons (o := _) rfl (fun K hK => ?_) AllReadyH.nil
        go_simp
        try dsimp only
        refine hK.out _ _ (by first | assumption | exact hA2.out) (fun hHeld2 => ?_)
        clear hK K hHeld
        have hHeld := hHeld2
        clear hHeld2
        try simp only [Act.put, List.setIfInBounds_toArray, List.set_cons_zero, List.set_cons_succ]
        refine wpAnyH_take (i := 9) (v := ?v9u3) rfl (by kernel_rfl) (by kernel_rfl) (by kernel_rfl) (fun _ _ _ h => h) (Or.inl ⟨by rfl, ?h9u3⟩) hHeld ?r9u3
        case h9u3 => (intro wq hSw; go_simp <;> with_reducible rfl)
        try simp only [Act.put, List.setIfInBounds_toArray, List.set_cons_zero, List.set_cons_succ]
        refine wpAnyH_take (i := 10) (v := ?v10u3) rfl (by kernel_rfl) (by kernel_rfl) (by kernel_rfl) (fun _ _ _ h => h) (Or.inl ⟨by rfl, ?h10u3⟩) hHeld ?r10u3
        case h10u3 => (intro wq hSw; go_simp <;> with_reducible rfl)
        try simp only [Act.put, List.setIfInBounds_toArray, List.set_cons_zero, List.set_cons_succ]
        refine wpAnyH_done (by kernel_rfl) ?_ _
        go_wp2
        go_roundw
        case rel => exact ⟨k + 1, by omega, by go_num, (by rw [hs.out]; exact hr2), Lib.hid ((hfin.out _ hA2.out))⟩
        case measure => simp [intOf]; omega
      by_cases hk3 : kind = 3
      · subst hk3
        clear hk0 hk1 hk2
        have he : encV ⟨3, num, ba, bc, bl, ra, rc, rl⟩ = numL bl.length ++ bl := by unfold encV; simp
        rw [he, List.append_assoc] at hR hL
        have hc := itext_ok (hR.bel hWd) (by omega) (by omega) hEw (most := 300) (by omega)
        unfold Reads at hc
        replace hc := Lib.hid hc
        clear hR hL he hf hIn hWd hEw hEb hInS
        go_wp2
        rw [← hwa]
        clear hwa
        refine wp_region_held_drew (S := fun w' => Apt wa w' b none) (by kernel_rfl) ((Apt.refl wa b none).drew) (fun hHeld => ?_)
        refine wpAnyH_take (i := 0) (v := ?v0u4) rfl (by kernel_rfl) (by kernel_rfl) (by kernel_rfl) (fun _ _ _ h => h) (Or.inl ⟨by rfl, ?h0u4⟩) hHeld ?r0u4
        case h0u4 => (intro wq hSw; go_simp <;> with_reducible rfl)
        try simp only [Act.put, List.setIfInBounds_toArray, List.set_cons_zero, List.set_cons_succ]
        refine wpAnyH_take (i := 2) (v := ?v2u4) rfl (by kernel_rfl) (by kernel_rfl) (by kernel_rfl) (fun _ _ _ h => h) (Or.inl ⟨by rfl, ?h2u4⟩) hHeld ?r2u4
        case h2u4 => (intro wq hSw; go_simp <;> with_reducible rfl)
        try simp only [Act.put, List.setIfInBounds_toArray, List.set_cons_zero, List.set_cons_succ]
        refine wpAnyH_take (i := 3) (v := ?v3u4) rfl (by kernel_rfl) (by kernel_rfl) (by kernel_rfl) (fun _ _ _ h => h) (Or.inl ⟨by rfl, ?h3u4⟩) hHeld ?r3u4
        case h3u4 => (intro wq hSw; obtain ⟨c1, c2, c3⟩ := hCell.out wq hSw; go_simp <;> with_reducible rfl)
        try simp only [Act.put, List.setIfInBounds_toArray, List.set_cons_zero, List.set_cons_succ]
        refine wpAnyH_take (i := 4) (v := ?v4u4) rfl (by kernel_rfl) (by kernel_rfl) (by kernel_rfl) (fun _ _ _ h => h) (Or.inl ⟨by rfl, ?h4u4⟩) hHeld ?r4u4
        case h4u4 => (intro wq hSw; have hcv := hCv.out wq hSw; go_simp <;> with_reducible rfl)
        try simp only [Act.put, List.setIfInBounds_toArray, List.set_cons_zero, List.set_cons_succ]
        refine wpAnyH_ready (rs := [1]) (by kernel_rfl) (by simp) ?_
        refine AllReadyH.cons (o := _) rfl (fun K hK => ?_) AllReadyH.nil
        go_simp
        (go_at_call 27; (with_reducible refine hc.out.mono ?_); rintro e w2 ⟨rfl, hr2, hA2⟩; replace hr2 := Lib.hid hr2; replace hA2 := Lib.hid (Apt.undrew hA2))
        try dsimp only
        refine hK.out _ _ (by first | assumption | exact hA2.out) (fun hHeld2 => ?_)
        clear hK K hHeld
        have hHeld := hHeld2
        clear hHeld2
        try simp only [Act.put, List.setIfInBounds_toArray, List.set_cons_zero, List.set_cons_succ]
        refine wpAnyH_take (i := 5) (v := ?v5u4) rfl (by kernel_rfl) (by kernel_rfl) (by kernel_rfl) (fun _ _ _ h => h) (Or.inl ⟨by rfl, ?h5u4⟩) hHeld ?r5u4
        case h5u4 => (intro wq hSw; go_simp <;> with_reducible rfl)
        try simp only [Act.put, List.setIfInBounds_toArray, List.set_cons_zero, List.set_cons_succ]
        refine wpAnyH_take (i := 6) (v := ?v6u4) rfl (by kernel_rfl) (by kernel_rfl) (by kernel_rfl) (fun _ _ _ h => h) (Or.inl ⟨by rfl, ?h6u4⟩) hHeld ?r6u4
        case h6u4 => (intro wq hSw; go_simp <;> with_reducible rfl)
        try simp only [Act.put, List.setIfInBounds_toArray, List.set_cons_zero, List.set_cons_succ]
        refine wpAnyH_done (by kernel_rfl) ?_ _
        go_wp2
        go_roundw
        case rel => exact ⟨k + 1, by omega, by go_num, (by rw [hs.out]; exact hr2), Lib.hid ((hfin.out _ hA2.out))⟩
        case measure => simp [intOf]; omega
      · replace hk0 : kind ≠ 0 := hk0
        have he : encV ⟨kind, num, ba, bc, bl, ra, rc, rl⟩ = rowL rl := by unfold encV; simp [hk0, hk1, hk2, hk3]
        rw [he] at hR hL
        have hc := (irow_ok (hR.bel hWd) (by omega) (by omega) (hf.row hk0 (by dsimp only; omega)) hEw (hEb _ hWd.size)).mono fun e w2 (h : ∃ v, e = .returned v ∧ w2.ownsRow wa.drew.heap.size 3 1 v rl.length (rl.map encI) ∧ Rd w2 b s ∧ Apt wa.drew w2 b none) => (show ∃ pp cap, e = .returned (.slice pp rl.length cap) ∧ Ints w2 pp rl ∧ Rd w2 b s ∧ Apt wa w2 b none by
          obtain ⟨v, rfl, ho, h2, h3⟩ := h
          obtain ⟨pp, cap, rfl, h4⟩ := Ints.of_owns ho (fun k hk => by obtain ⟨_, _, _, _, _, q⟩ := hIn.row k hk; exact q)
          exact ⟨pp, cap, rfl, h4, h2, h3.undrew⟩)
        have hSame : ∀ w2 pp cap, Ints w2 pp rl → Apt wa w2 b none → Calls Tryd.prog 28 #[.slice pp rl.length cap, .slice ra rl.length rc] w2 fun e w' => e = .returned (.bool true) ∧ Bel w2 w' := fun w2 pp cap h1 h2 => sameints_in h1 ((hInS w2 h2).row) (by omega)
        replace hSame := Lib.hid hSame
        have q0 : (kind == (0 : Int)) = false := by simpa using hk0
        have q1 : (kind == (1 : Int)) = false := by simpa using hk1
        have q2 : (kind == (2 : Int)) = false := by simpa using hk2
        have q3 : (kind == (3 : Int)) = false := by simpa using hk3
        clear hk0 hk1 hk2 hk3
        replace hc := Lib.hid hc
        clear hR hL he hf hIn hWd hEw hEb hInS
        go_wp2
        rw [← hwa]
        clear hwa
        refine wp_region_held_drew (S := fun w' => Apt wa w' b none) (by kernel_rfl) ((Apt.refl wa b none).drew) (fun hHeld => ?_)
        refine wpAnyH_take (i := 0) (v := ?v0u5) rfl (by kernel_rfl) (by kernel_rfl) (by kernel_rfl) (fun _ _ _ h => h) (Or.inl ⟨by rfl, ?h0u5⟩) hHeld ?r0u5
        case h0u5 => (intro wq hSw; go_simp <;> with_reducible rfl)
        try simp only [Act.put, List.setIfInBounds_toArray, List.set_cons_zero, List.set_cons_succ]
        refine wpAnyH_take (i := 1) (v := ?v1u5) rfl (by kernel_rfl) (by kernel_rfl) (by kernel_rfl) (fun _ _ _ h => h) (Or.inl ⟨by rfl, ?h1u5⟩) hHeld ?r1u5
        case h1u5 => (intro wq hSw; go_simp <;> with_reducible rfl)
        try simp only [Act.put, List.setIfInBounds_toArray, List.set_cons_zero, List.set_cons_succ]
        refine wpAnyH_take (i := 2) (v := ?v2u5) rfl (by kernel_rfl) (by kernel_rfl) (by kernel_rfl) (fun _ _ _ h => h) (Or.inl ⟨by rfl, ?h2u5⟩) hHeld ?r2u5
        case h2u5 => (intro wq hSw; obtain ⟨c1, c2, c3⟩ := hCell.out wq hSw; go_simp <;> with_reducible rfl)
        try simp only [Act.put, List.setIfInBounds_toArray, List.set_cons_zero, List.set_cons_succ]
        refine wpAnyH_take (i := 3) (v := ?v3u5) rfl (by kernel_rfl) (by kernel_rfl) (by kernel_rfl) (fun _ _ _ h => h) (Or.inl ⟨by rfl, ?h3u5⟩) hHeld ?r3u5
        case h3u5 => (intro wq hSw; go_simp <;> with_reducible rfl)
        try simp only [Act.put, List.setIfInBounds_toArray, List.set_cons_zero, List.set_cons_succ]
        refine wpAnyH_take (i := 5) (v := ?v5u5) rfl (by kernel_rfl) (by kernel_rfl) (by kernel_rfl) (fun _ _ _ h => h) (Or.inl ⟨by rfl, ?h5u5⟩) hHeld ?r5u5
        case h5u5 => (intro wq hSw; go_simp <;> with_reducible rfl)
        try simp only [Act.put, List.setIfInBounds_toArray, List.set_cons_zero, List.set_cons_succ]
        refine wpAnyH_take (i := 6) (v := ?v6u5) rfl (by kernel_rfl) (by kernel_rfl) (by kernel_rfl) (fun _ _ _ h => h) (Or.inl ⟨by rfl, ?h6u5⟩) hHeld ?r6u5
        case h6u5 => (intro wq hSw; obtain ⟨c1, c2, c3⟩ := hCell.out wq hSw; go_simp <;> with_reducible rfl)
        try simp only [Act.put, List.setIfInBounds_toArray, List.set_cons_zero, List.set_cons_succ]
        refine wpAnyH_ready (rs := [4]) (by kernel_rfl) (by simp) ?_
        refine AllReadyH.cons (o := _) rfl (fun K hK => ?_) AllReadyH.nil
        go_simp
        (go_at_call 29; (with_reducible refine hc.out.mono ?_); rintro e w2 ⟨pp, cap, rfl, hi2, hr2, hA2⟩; have hc2 := Lib.hid (hSame.out w2 pp cap hi2 hA2); replace hr2 := Lib.hid hr2; replace hA2 := Lib.hid hA2; clear hi2)
        try dsimp only
        refine hK.out _ _ (by first | assumption | exact hA2.out) (fun hHeld2 => ?_)
        clear hK K hHeld
        have hHeld := hHeld2
        clear hHeld2
        try simp only [Act.put, List.setIfInBounds_toArray, List.set_cons_zero, List.set_cons_succ]
        refine wpAnyH_ready (rs := [7]) (by kernel_rfl) (by simp) ?_
        refine AllReadyH.cons (o := _) rfl (fun K hK => ?_) AllReadyH.nil
        go_simp
        (go_at_call 28; (with_reducible refine hc2.out.mono ?_); rintro e w3 ⟨rfl, hb3⟩; replace hr2 := Lib.hid (hr2.out.bel hb3); replace hA2 := Lib.hid (hA2.out.trans (.inl rfl) (Apt.of_bel hb3)); clear hb3)
        try dsimp only
        refine hK.out _ _ (by first | assumption | exact hA2.out) (fun hHeld2 => ?_)
        clear hK K hHeld
        have hHeld := hHeld2
        clear hHeld2
        try simp only [Act.put, List.setIfInBounds_toArray, List.set_cons_zero, List.set_cons_succ]
        refine wpAnyH_take (i := 8) (v := ?v8u5) rfl (by kernel_rfl) (by kernel_rfl) (by kernel_rfl) (fun _ _ _ h => h) (Or.inl ⟨by rfl, ?h8u5⟩) hHeld ?r8u5
        case h8u5 => (intro wq hSw; go_simp <;> with_reducible rfl)
        try simp only [Act.put, List.setIfInBounds_toArray, List.set_cons_zero, List.set_cons_succ]
        refine wpAnyH_done (by kernel_rfl) ?_ _
        go_wp2
        go_roundw
        case rel => exact ⟨k + 1, by omega, by go_num, (by rw [hs.out]; exact hr2), Lib.hid ((hfin.out _ hA2.out))⟩
        case measure => simp [intOf]; omega
    · obtain rfl : k = n := by omega
      obtain ⟨hX, hY⟩ := hEnd.out wr hR.out
      replace hX := Lib.hid hX
      replace hY := Lib.hid hY
      go_wp2_with (first
        | (go_at_call 30; (with_reducible refine hX.out.mono ?_); rintro e w2 ⟨rfl, rfl⟩)
        | (go_at_call 21; (with_reducible refine hY.out.mono ?_); rintro e w2 ⟨rfl, rfl⟩))
      go_ret
      exact ⟨rfl, ha.out⟩
end Go.Proofs.YtdhejbmmdbjpoaaDoor
