/- The walk of PackWrites. -/
import Derived.Test.YtdhejbmmdbjpoaaDoorW17
namespace Go.Proofs.YtdhejbmmdbjpoaaDoor
open Go.RowKit
theorem Mid.anyl {w w2 : World} {bo : Nat} {E : Value} {l1 l2 lw : List Nat} {vw : Value} {r : Option Nat} (h : Mid w w2 bo E true l1 vw lw r) : Mid w w2 bo E true l2 vw lw r := ⟨h.wr, h.own, h.sep, h.above, h.rlt, h.bel, h.bo⟩
theorem block_far {w5 w6 : World} {base n B : Nat} {v : Value} {xs : List Value} {C : Array Value} {f : Nat × Nat} (ho : w5.ownsRow base 5 1 v n xs) (hg : w5.grownBy w6 v.ownBlock) (hB : w5.heap[B]? = some (.cells C 33 f)) : w6.heap[B]? = some (.cells C 33 f) := by
  refine (hg.block B (lt_of_block hB) ?_).trans hB
  intro e
  rcases ho.2 with ⟨rfl, _⟩ | ⟨g, cap, cur, rfl, _, hh, _⟩
  · simp [Value.ownBlock] at e
  · obtain rfl : B = g := by simpa [Value.ownBlock] using e
    have := hB.symm.trans hh
    simp at this
theorem rowL_small (xs : List Int) : ∀ x ∈ rowL xs, x ≤ 255 := by
  intro x hx
  rw [rowL_eq] at hx
  rcases List.mem_append.1 hx with hx | hx
  · exact numL_small _ _ hx
  · unfold cells1 at hx
    simp only [List.mem_flatten, List.mem_map] at hx
    obtain ⟨y, ⟨z, _, rfl⟩, hy⟩ := hx
    exact numL_small _ _ hy
theorem block4 {w' : World} {B : Nat} {x0 x1 x2 x3 : Value} (hh : w'.heap[B]? = some (.cells #[x0, x1, x2, x3] 33 (0, 0))) :
    w'.cell? ⟨B, 0, none⟩ = some x0 ∧ w'.cell? ⟨B, 1, none⟩ = some x1 ∧ w'.cell? ⟨B, 2, none⟩ = some x2 ∧ w'.cell? ⟨B, 3, none⟩ = some x3 :=
  ⟨(cell_of_row w' _ 0 _ _ _ hh).trans rfl, (cell_of_row w' _ 1 _ _ _ hh).trans rfl, (cell_of_row w' _ 2 _ _ _ hh).trans rfl, (cell_of_row w' _ 3 _ _ _ hh).trans rfl⟩
theorem Src.far {w : World} {a : Option Addr} {n c : Nat} {l : List Nat} (h : Src w a n c l) : ∀ ad, a = some ad → l ≠ [] → ad.block < w.heap.size := by
  intro ad e hne
  have hpos : 0 < l.length := by cases l with | nil => exact absurd rfl hne | cons => simp
  have h1 := World.block_lt_of_cell? _ _ (h.cells ad e 0 (encN l[0]) (by rw [List.getElem?_map, List.getElem?_eq_getElem hpos]; rfl))
  have e2 : (ad.add 0).block = ad.block := by unfold Addr.add; split <;> simp_all
  rwa [e2] at h1
theorem Ints.far {w : World} {a : Option Addr} {xs : List Int} (h : Ints w a xs) : ∀ ad, a = some ad → xs ≠ [] → ad.block < w.heap.size := by
  intro ad e hne
  have hpos : 0 < xs.length := by cases xs with | nil => exact absurd rfl hne | cons => simp
  obtain ⟨b, o, e2, hl, -⟩ := h 0 hpos
  rw [e] at e2
  cases e2
  exact hl

set_option maxHeartbeats 40000000 in
set_option maxRecDepth 100000 in
theorem packWrites_in {w : World} {a : Option Addr} {c : Nat} {l : List Va} (hv : Vals w a l) (hn63 : l.length ≤ 9223372036854775807) {A : Nat → Addr} (hE : Errs w A) :
    Calls Tryd.prog 3 #[.slice a l.length c] w fun e w' => e = .returned (.bool true) ∧ Bel w w' := by
  obtain ⟨i0, hi, hz0, hz1, hz2⟩ := info_parts info5
  have hA := Lib.hid (alive_in w)
  have hLong : ∀ w', Bel w w' → Calls Tryd.prog 6 #[.slice a l.length c] w' fun e w'' => e = .returned (.bool (longV l)) ∧ Bel w' w'' := fun w' hb => long_in (hv.bel hb) hn63
  by_cases hlong : longV l = true
  · rw [hlong] at hLong
    replace hLong := Lib.hid hLong
    clear hv hE
    generalize l.length = n at *
    go_enter Tryd.func3, Tryd.ntmps3
    go_wp2_with (first
      | (go_at_call 5; (with_reducible refine hA.out.mono ?_); rintro e w1 ⟨rfl, hb1⟩; replace hb1 : Hid (Bel w w1) := Lib.hid hb1)
      | (go_at_call 6; (with_reducible refine (hLong.out _ hb1.out).mono ?_); rintro e w2 ⟨rfl, hb2⟩; replace hb2 := Lib.hid hb2))
    go_ret
    exact ⟨rfl, hb1.out.step hb2.out⟩
  replace hlong : longV l = false := by simpa using hlong
  rw [hlong] at hLong
  have hl40 : l.length ≤ 40 := by unfold longV at hlong; simp at hlong; omega
  have hsz : ∀ v ∈ l, v.bl.length ≤ 300 ∧ v.rl.length ≤ 60 := by
    intro v hv
    unfold longV at hlong
    rw [Bool.or_eq_false_iff] at hlong
    have := hlong.2
    rw [List.any_eq_false] at this
    have := this v hv
    simp at this
    omega
  clear hlong hn63
  have hC : ∀ w' k v, l[k]? = some v → Bel w w' → VaIn w v ∧ v.bl.length ≤ 300 ∧ v.rl.length ≤ 60 ∧ ∃ g o, a = some ⟨g, o, none⟩ ∧ g < w'.heap.size ∧ w'.cell? ⟨g, o + k * 4, none⟩ = some (.int .i64 v.kind) ∧ w'.cell? ⟨g, o + k * 4 + 1, none⟩ = some (.int .i64 v.num) ∧ w'.cell? ⟨g, o + k * 4 + 2, none⟩ = some (.slice v.ba v.bl.length v.bc) ∧ w'.cell? ⟨g, o + k * 4 + 3, none⟩ = some (.slice v.ra v.rl.length v.rc) := by
    intro w' k v hk hb
    obtain ⟨g, o, e, hl, q0, q1, q2, q3, -⟩ := hv.bel hb k v hk
    obtain ⟨_, _, _, _, _, _, _, _, q⟩ := hv k v hk
    have := hsz v (List.mem_of_getElem? hk)
    exact ⟨q, this.1, this.2, g, o, e, hl, q0, q1, q2, q3⟩
  have hT : ∀ k v, l[k]? = some v → encVs (l.take (k + 1)) = encVs (l.take k) ++ encV v ∧ (l.take (k + 1)).any badV = ((l.take k).any badV || badV v) := by
    intro k v hk
    obtain ⟨hlt, rfl⟩ := List.getElem?_eq_some_iff.1 hk
    refine ⟨by rw [List.take_succ_eq_append_getElem hlt, encVs_snoc], ?_⟩
    rw [List.take_succ_eq_append_getElem hlt, List.any_append]
    simp only [List.any_cons, List.any_nil, Bool.or_false]
  have hLen : ∀ k, (l.take k).any badV = false → (encVs (l.take k)).length ≤ 20000 := by
    intro k hk
    have := encVs_len (l.take k) (fun v hv => ⟨by rw [List.any_eq_false] at hk; simpa using hk v hv, (hsz v (List.mem_of_mem_take hv)).1, (hsz v (List.mem_of_mem_take hv)).2⟩)
    rw [List.length_take] at this
    omega
  have hEc : ∀ w', Bel w w' → w'.cell? ⟨0, 0, none⟩ = some (.iface 78 (.pointer (some (A 0)))) := fun w' hb => hb.cell (World.block_lt_of_cell? _ _ (hE.var 0 (by decide))) (hE.var 0 (by decide))
  have hElt : 0 < w.heap.size := World.block_lt_of_cell? _ _ (hE.var 0 (by decide))
  have hEnd : ∀ w1 bo vw lw r e, Mid w w1 bo (.pointer (some (A 0))) e (encVs (l.take l.length)) vw lw r → e = (l.take l.length).any badV → (e = false → lw = encVs (l.take l.length)) →
      (e = true ∧ Calls Tryd.prog 15 #[.pointer (some ⟨bo, 0, none⟩)] w1 (fun e w2 => e = .returned (.tuple #[.slice none 0 0, .iface 78 (.pointer (some (A 0)))]) ∧ Bel w w2) ∧ ∀ w2, Bel w w2 → Calls Tryd.prog 16 #[.iface 78 (.pointer (some (A 0)))] w2 fun e w3 => e = .returned (.int .i64 1) ∧ Bel w w3) ∨
      (e = false ∧ ∃ ys, ∃ p1 c1, vw = .slice p1 ys.length c1 ∧ Calls Tryd.prog 15 #[.pointer (some ⟨bo, 0, none⟩)] w1 (fun e w2 => ∃ p c', e = .returned (.tuple #[.slice p ys.length c', .nilIface]) ∧ Bel w w2 ∧ (convert 26 9 (.slice p ys.length c')).run Tryd.prog w2 = .ok (.string (strN ys)) w2 ∧ (convert 26 9 (.slice p1 ys.length c1)).run Tryd.prog w2 = .ok (.string (strN ys)) w2 ∧
        Calls Tryd.prog 18 #[.slice p ys.length c'] w2 fun e w3 => ∃ b, e = .returned (.pointer (some ⟨b, 0, none⟩)) ∧ Bel w w3 ∧ Calls Tryd.prog 17 #[.pointer (some ⟨b, 0, none⟩), .slice a l.length c] w3 fun e w4 => e = .returned (.bool true) ∧ Bel w w4)) := by
    intro w1 bo vw lw r e M he hlw
    cases e
    · refine .inr ⟨rfl, ?_⟩
      have hlw := hlw rfl
      have hlen := hLen _ he.symm
      rw [List.take_length] at *
      have hfine : ∀ v ∈ l, Fine v := fun v hv => ⟨by have := he.symm; rw [List.any_eq_false] at this; simpa using this v hv, (hsz v hv).1, (hsz v hv).2⟩
      generalize hys : encVs l = ys at *
      subst hlw
      have hO : Ou w1 bo r lw := M.wr
      have hsm := hO.small
      obtain ⟨p1, c1, rfl, hs1⟩ := Src.of_owns M.own rfl hsm
      refine ⟨lw, p1, c1, rfl, (odone_ok hO (by omega)).mono ?_⟩
      rintro e w2 ⟨v, rfl, ho, hb⟩
      obtain ⟨p, c3, rfl, hs⟩ := Src.of_owns ho rfl hsm
      have hB2 : Bel w w2 := M.bel.step hb
      refine ⟨p, c3, rfl, hB2, hs.conv, (hs1.bel hb).conv, (read_in hs (by omega)).mono ?_⟩
      rintro e w3 ⟨b, rfl, hbb, hr, hb3⟩
      have hB3 : Bel w w3 := hB2.step hb3
      refine ⟨b, rfl, hB3, ?_⟩
      have hEv : Ev w := ⟨⟨_, hE.var 0 (by decide)⟩, ⟨_, hE.var 1 (by decide)⟩, ⟨_, hE.var 3 (by decide)⟩⟩
      have hwb : w.heap.size ≤ b := Nat.le_trans hB2.size hbb
      refine (back_in hB3 hwb (by rw [hys]; exact hr) hv hEv hfine hl40).mono ?_
      rintro e w4 ⟨rfl, ha⟩
      exact ⟨rfl, Apt.bel hB3 ha hwb (fun k hk => by cases hk)⟩
    · refine .inl ⟨rfl, (odone_failed (show Of w1 bo (.iface 78 (.pointer (some (A 0)))) from M.wr)).mono fun e w2 h => ⟨h.1, M.bel.step h.2⟩, fun w2 hb => (num_in A 0 (by decide) w2 (hE.bel hb)).mono fun e w3 h => ⟨h.1, hb.step h.2⟩⟩
  have hn0 : ∀ k, k < l.length → ∃ x, l[k]? = some x := fun k hk => ⟨l[k], List.getElem?_eq_getElem hk⟩
  have hStart : ∀ w2, Bel w w2 → Mid w ((w2.alloc (.cells #[.slice none 0 0, .nilIface] 30)).alloc (.cells #[] 5)) w2.heap.size (.pointer (some (A 0))) false (encVs (l.take 0)) (.slice (some ⟨w2.heap.size + 1, 0, none⟩) 0 0) [] none := by
    intro w2 hb
    have hB : Bel w ((w2.alloc (.cells #[.slice none 0 0, .nilIface] 30)).alloc (.cells #[] 5)) := (hb.alloc _).alloc _
    refine ⟨(show Ou _ _ _ _ from (Ou.new w2).bel (Bel.new _ _)), ?_, fun g hg => ?_, fun g hg => (by cases hg), fun g hg => (by cases hg), hB, hb.size⟩
    · have := own_empty (base := w.heap.size) (World.alloc_heap_new (w2.alloc (.cells #[.slice none 0 0, .nilIface] 30)) (.cells #[] 5)) (Nat.le_trans hb.size (by simp))
      simpa using this
    · simp [Value.ownBlock] at hg
      exact ⟨by omega, by simp⟩
  replace hC := Lib.hid hC
  replace hT := Lib.hid hT
  replace hLen := Lib.hid hLen
  replace hEnd := Lib.hid hEnd
  replace hEc := Lib.hid hEc
  replace hElt := Lib.hid hElt
  replace hn0 := Lib.hid hn0
  replace hStart := Lib.hid hStart
  replace hLong := Lib.hid hLong
  clear hv hE hsz
  generalize l.length = n at *
  go_enter Tryd.func3, Tryd.ntmps3
  go_wp2_with (first
    | (go_at_call 5; (with_reducible refine hA.out.mono ?_); rintro e w1 ⟨rfl, hb1⟩; replace hb1 : Hid (Bel w w1) := Lib.hid hb1)
    | (go_at_call 6; (with_reducible refine (hLong.out _ hb1.out).mono ?_); rintro e w2 ⟨rfl, hb2⟩; replace hb2 := Lib.hid (hb1.out.step hb2)))
  have hst := Lib.hid (hStart.out w2 hb2.out)
  replace hStart := Lib.hid trivial
  clear hStart hA hLong
  generalize hbo : w2.heap.size = bo at *
  go_loopw [4, 5, 19] (fun s4 s5 s19 wr => ∃ (k : Nat) (e : Bool) (r : Option Nat) (lw : List Nat), k ≤ n ∧ s19 = .int .i64 k ∧ s5 = .bool e ∧ Hid (e = (l.take k).any badV) ∧ Hid (e = false → lw = encVs (l.take k)) ∧ Hid (Mid w wr bo (.pointer (some (A 0))) e (encVs (l.take k)) s4 lw r)) (fun _ _ s19 _ => n - (intOf s19).toNat)
  case atStart => exact ⟨0, false, none, [], by omega, rfl, rfl, Lib.hid (by simp), Lib.hid (fun _ => by simp [encVs]), hst⟩
  case round =>
    clear hst hb1 hb2
    obtain ⟨k, e, r, lw, hk, rfl, rfl, he, hlw, M⟩ := hrel
    by_cases hlt : k < n
    · obtain ⟨v, hvk⟩ := hn0.out k hlt
      obtain ⟨hI, hbl, hrl, g, o, rfl, hgl, q0', q1', q2', q3'⟩ := hC.out wr k v hvk M.out.bel
      obtain ⟨hTk0, hA1⟩ := hT.out k v hvk
      have hL : e = false → (encVs (l.take k)).length ≤ 20000 := fun h => hLen.out k (by rw [← he.out, h])
      rw [← he.out] at hA1
      replace hlw := hlw.out
      generalize hLg : encVs (l.take k) = L at *
      obtain ⟨kind, num, ba, bc, bl, ra, rc, rl⟩ := v
      dsimp only at q0' q1' q2' q3' hbl hrl
      have hEc := hEc.out
      have hbolt := M.out.wr.lt
      have hsB : ∀ ad, ba = some ad → bl ≠ [] → ad.block ≠ bo ∧ some ad.block ≠ r := fun ad e1 e2 => by
        have h1 := hI.bytes.far ad e1 e2
        have h2 := M.out.bo
        exact ⟨by omega, fun e3 => by have := M.out.above _ e3.symm; omega⟩
      have hsR : ∀ ad, ra = some ad → rl ≠ [] → ad.block ≠ bo ∧ some ad.block ≠ r := fun ad e1 e2 => by
        have h1 := hI.row.far ad e1 e2
        have h2 := M.out.bo
        exact ⟨by omega, fun e3 => by have := M.out.above _ e3.symm; omega⟩
      have hEb : 0 ≠ bo ∧ some 0 ≠ r := by
        have h1 := hElt.out
        have h2 := M.out.bo
        exact ⟨by omega, fun e3 => by have := M.out.above _ e3.symm; omega⟩
      have hCell : ∀ w', Bel (wr.alloc (.cells #[.int .i64 kind, .int .i64 num, .slice ba bl.length bc, .slice ra rl.length rc] 33)) w' → w'.heap[wr.heap.size]? = some (.cells #[.int .i64 kind, .int .i64 num, .slice ba bl.length bc, .slice ra rl.length rc] 33 (0, 0)) ∧ w'.cell? ⟨wr.heap.size, 0, none⟩ = some (.int .i64 kind) ∧ w'.cell? ⟨wr.heap.size, 1, none⟩ = some (.int .i64 num) ∧ w'.cell? ⟨wr.heap.size, 2, none⟩ = some (.slice ba bl.length bc) ∧ w'.cell? ⟨wr.heap.size, 3, none⟩ = some (.slice ra rl.length rc) := by
        intro w' h
        have hh := (h.block wr.heap.size (by simp)).trans (World.alloc_heap_new wr _)
        exact ⟨hh, block4 hh⟩
      have hPost : ∀ w' en w3 l2, Bel (wr.alloc (.cells #[.int .i64 kind, .int .i64 num, .slice ba bl.length bc, .slice ra rl.length rc] 33)) w' → Writes w' bo r (.pointer (some (A 0))) false l2 en w3 → (∃ r2, Mid w w3 bo (.pointer (some (A 0))) false l2 u4 lw r2) ∧ w3.heap[wr.heap.size]? = some (.cells #[.int .i64 kind, .int .i64 num, .slice ba bl.length bc, .slice ra rl.length rc] 33 (0, 0)) ∧ w3.cell? ⟨wr.heap.size, 0, none⟩ = some (.int .i64 kind) ∧ w3.cell? ⟨wr.heap.size, 1, none⟩ = some (.int .i64 num) ∧ w3.cell? ⟨wr.heap.size, 2, none⟩ = some (.slice ba bl.length bc) ∧ w3.cell? ⟨wr.heap.size, 3, none⟩ = some (.slice ra rl.length rc) := by
        intro w' en w3 l2 hb hw
        have hh := (hCell w' hb).1
        obtain ⟨-, r2, -, h2, -⟩ := id hw
        have hh3 := (h2.block wr.heap.size (lt_of_block hh) (by omega) (fun e => by have := M.out.rlt _ e.symm; omega)).trans hh
        exact ⟨(M.out.next ((Bel.new wr _).step hb)).writes hw, hh3, block4 hh3⟩
      have hPostT : ∀ w' en w3 l2, Bel (wr.alloc (.cells #[.int .i64 kind, .int .i64 num, .slice ba bl.length bc, .slice ra rl.length rc] 33)) w' → Writes w' bo r (.pointer (some (A 0))) true l2 en w3 → Mid w w3 bo (.pointer (some (A 0))) true l2 u4 lw none :=
        fun w' en w3 l2 hb hw => (M.out.next ((Bel.new wr _).step hb)).fails hw
      have hCv : ∀ w', Bel (wr.alloc (.cells #[.int .i64 kind, .int .i64 num, .slice ba bl.length bc, .slice ra rl.length rc] 33)) w' → (convert 26 9 (.slice ba bl.length bc)).run Tryd.prog w' = .ok (.string (strN bl)) w' := fun w' h => (hI.bytes.bel (M.out.bel.step ((Bel.new wr _).step h))).conv
      replace hCell := Lib.hid hCell
      replace hPost := Lib.hid hPost
      replace hPostT := Lib.hid hPostT
      replace hCv := Lib.hid hCv
      replace he := Lib.hid he
      replace hLg := Lib.hid hLg
      clear hvk hC hT hLen hEnd hn0 hElt hbolt he hbo
      cases e
      · by_cases hbt : badV ⟨kind, num, ba, bc, bl, ra, rc, rl⟩ = true
        · have hR1 : Hid (true = (l.take (k + 1)).any badV) := Lib.hid (by rw [hA1, hbt]; rfl)
          clear hA1
          by_cases hk0 : kind = 0
          · subst hk0
            as_aux_lemma =>
              have hBad := bad_in (w := (wr.alloc (.cells #[.int .i64 0, .int .i64 num, .slice ba bl.length bc, .slice ra rl.length rc] 33))) (v := ⟨0, num, ba, bc, bl, ra, rc, rl⟩) (hI.bel (M.out.bel.step (Bel.new _ _))) (by dsimp only; omega)
              rw [hbt] at hBad
              unfold Va.cells at hBad
              dsimp only at hBad
              have hbv : badN num = true := by unfold badV at hbt; simpa using hbt
              have hW : ∀ w', Bel wr w' → Calls Tryd.prog 8 #[.pointer (some ⟨bo, 0, none⟩), .int .i64 num] w' (Writes w' bo r (.pointer (some (A 0))) true (L ++ (numL num.toNat))) := fun w' hb => by
                have h := onum_wr (M.out.next hb).wr (n := num) hI.hi (fun he => by have := hL he; omega) (hEc w' (M.out.bel.step hb))
                rw [hbv, Bool.false_or] at h
                exact h
              replace hW := Lib.hid hW
              replace hTk0 := Lib.hid hTk0
              clear hlw hL hEc hsB hsR hEb hI hbt
              replace hBad := Lib.hid hBad
              clear hbv
              have hWaX := Lib.hid (Bel.new wr (.cells #[.int .i64 0, .int .i64 num, .slice ba bl.length bc, .slice ra rl.length rc] 33))
              go_wp2_with (first
                | (go_at_call 7; (with_reducible refine hBad.out.mono ?_); rintro e w2 ⟨rfl, hb2⟩; have hbX := Lib.hid hb2; obtain ⟨-, e0, e1, e2, e3⟩ := hCell.out w2 hb2; clear hb2)
                | (go_at_call 8; have hwx := Bel.step hWaX.out hbX.out; (with_reducible refine (hW.out _ hwx).mono ?_); clear hwx; rintro en w3 hwr; obtain rfl := hwr.1; replace M := Lib.hid (hPostT.out _ _ _ _ hbX.out hwr); clear hwr))
              go_roundw
              case rel => exact ⟨k + 1, true, none, lw, by omega, by go_num, rfl, hR1, Lib.hid (fun e => by cases e), Lib.hid (Mid.anyl M.out)⟩
              case measure => simp [intOf]; omega
          by_cases hk1 : kind = 1
          · subst hk1
            clear hk0
            exact absurd hbt (by unfold badV; simp)
          by_cases hk2 : kind = 2
          · subst hk2
            clear hk0 hk1
            exact absurd hbt (by unfold badV; simp)
          by_cases hk3 : kind = 3
          · subst hk3
            clear hk0 hk1 hk2
            exact absurd hbt (by unfold badV; simp)
          · as_aux_lemma =>
              have hBad := bad_in (w := (wr.alloc (.cells #[.int .i64 kind, .int .i64 num, .slice ba bl.length bc, .slice ra rl.length rc] 33))) (v := ⟨kind, num, ba, bc, bl, ra, rc, rl⟩) (hI.bel (M.out.bel.step (Bel.new _ _))) (by dsimp only; omega)
              rw [hbt] at hBad
              unfold Va.cells at hBad
              dsimp only at hBad
              have hbv : rl.any badR = true := by unfold badV at hbt; rwa [if_neg hk0, if_neg (by dsimp only; omega)] at hbt
              have hW : ∀ w', Bel wr w' → Calls Tryd.prog 12 #[.pointer (some ⟨bo, 0, none⟩), .slice ra rl.length rc] w' (Writes w' bo r (.pointer (some (A 0))) true (L ++ (rowL rl))) := fun w' hb => by
                have h := orow_wr (c := rc) (M.out.next hb).wr (hI.row.bel (M.out.bel.step hb)) hsR (show rl.length ≤ 1000 by omega) (fun he => by have := hL he; omega) (hEc w' (M.out.bel.step hb)) hEb
                rw [hbv, Bool.false_or] at h
                exact h
              have q0 : (kind == (0 : Int)) = false := by simpa using hk0
              have q1 : (kind == (1 : Int)) = false := by simpa using hk1
              have q2 : (kind == (2 : Int)) = false := by simpa using hk2
              have q3 : (kind == (3 : Int)) = false := by simpa using hk3
              replace hW := Lib.hid hW
              replace hTk0 := Lib.hid hTk0
              clear hlw hL hEc hsB hsR hEb hI hbt
              clear hk0 hk1 hk2 hk3
              replace hBad := Lib.hid hBad
              clear hbv
              have hWaX := Lib.hid (Bel.new wr (.cells #[.int .i64 kind, .int .i64 num, .slice ba bl.length bc, .slice ra rl.length rc] 33))
              go_wp2_with (first
                | (go_at_call 7; (with_reducible refine hBad.out.mono ?_); rintro e w2 ⟨rfl, hb2⟩; have hbX := Lib.hid hb2; obtain ⟨-, e0, e1, e2, e3⟩ := hCell.out w2 hb2; clear hb2)
                | (go_at_call 12; have hwx := Bel.step hWaX.out hbX.out; (with_reducible refine (hW.out _ hwx).mono ?_); clear hwx; rintro en w3 hwr; obtain rfl := hwr.1; replace M := Lib.hid (hPostT.out _ _ _ _ hbX.out hwr); clear hwr))
              go_roundw
              case rel => exact ⟨k + 1, true, none, lw, by omega, by go_num, rfl, hR1, Lib.hid (fun e => by cases e), Lib.hid (Mid.anyl M.out)⟩
              case measure => simp [intOf]; omega
        · replace hbt : badV ⟨kind, num, ba, bc, bl, ra, rc, rl⟩ = false := by simpa using hbt
          have hR1 : Hid (false = (l.take (k + 1)).any badV) := Lib.hid (by rw [hA1, hbt]; rfl)
          clear hA1
          by_cases hk0 : kind = 0
          · subst hk0
            as_aux_lemma =>
              have hBad := bad_in (w := (wr.alloc (.cells #[.int .i64 0, .int .i64 num, .slice ba bl.length bc, .slice ra rl.length rc] 33))) (v := ⟨0, num, ba, bc, bl, ra, rc, rl⟩) (hI.bel (M.out.bel.step (Bel.new _ _))) (by dsimp only; omega)
              rw [hbt] at hBad
              unfold Va.cells at hBad
              dsimp only at hBad
              have hbv : badN num = false := by unfold badV at hbt; simpa using hbt
              have hW : ∀ w', Bel wr w' → Calls Tryd.prog 8 #[.pointer (some ⟨bo, 0, none⟩), .int .i64 num] w' (Writes w' bo r (.pointer (some (A 0))) false (L ++ (numL num.toNat))) := fun w' hb => by
                have h := onum_wr (M.out.next hb).wr (n := num) hI.hi (fun he => by have := hL he; omega) (hEc w' (M.out.bel.step hb))
                rw [hbv, Bool.or_false] at h
                exact h
              obtain ⟨m0, hm⟩ := Int.eq_ofNat_of_zero_le (show 0 ≤ num by unfold badN at hbv; simp at hbv; omega)
              have hm0 : m0 ≤ 2147483647 := by unfold badN at hbv; simp at hbv; omega
              have hNy : ∀ w', Bel w w' → Calls Tryd.prog 13 #[.int .i64 num] w' (GivesRow w' (numL m0)) := fun w' hb => by rw [hm]; exact rnum_in m0 (by omega) w'
              have hyl : (numL m0).length ≤ 400 := by have := num_len hm0; omega
              have hys := numL_small m0
              have heV : encV ⟨0, num, ba, bc, bl, ra, rc, rl⟩ = numL m0 := by unfold encV; simp [hm]
              rw [show num.toNat = m0 by omega] at hW
              clear hm hm0
              generalize numL m0 = ys at *
              have hSy : ∀ v (w' w'' : World), w''.ownsRow w'.heap.size 5 1 v ys.length (ys.map encN) → ∃ p cap, v = .slice p ys.length cap ∧ Src w'' p ys.length cap ys := fun v w' w'' ho => Src.of_owns ho rfl hys
              unfold GivesRow at hNy
              replace hNy := Lib.hid hNy
              replace hSy := Lib.hid hSy
              rw [heV] at hTk0
              have hLl := hL rfl
              have hlwl : lw.length ≤ 20000 := by rw [hlw rfl]; exact hLl
              have hLL : Hid (lw ++ ys = encVs (l.take (k + 1))) := Lib.hid (by rw [hTk0, hlw rfl])
              clear heV
              have h63 : lw.length + ys.length ≤ maxLen := by simp [maxLen]; omega
              have hby : (lw.length + ys.length) * 1 ≤ 140737488355328 := by omega
              have hlc : (ys.map encN).length = ys.length * 1 := by simp
              replace hW := Lib.hid hW
              replace hTk0 := Lib.hid hTk0
              clear hlw hL hEc hsB hsR hEb hI hbt
              replace hBad := Lib.hid hBad
              clear hbv
              have hWaX := Lib.hid (Bel.new wr (.cells #[.int .i64 0, .int .i64 num, .slice ba bl.length bc, .slice ra rl.length rc] 33))
              go_wp2_with (first
                | (go_at_call 7; (with_reducible refine hBad.out.mono ?_); rintro e w2 ⟨rfl, hb2⟩; have hbX := Lib.hid hb2; obtain ⟨-, e0, e1, e2, e3⟩ := hCell.out w2 hb2; clear hb2)
                | (go_at_call 8; have hwx := Bel.step hWaX.out hbX.out; (with_reducible refine (hW.out _ hwx).mono ?_); clear hwx; rintro en w3 hwr; obtain rfl := hwr.1; obtain ⟨⟨r2, M2⟩, dB, d0, d1, d2, d3⟩ := hPost.out _ _ _ _ hbX.out hwr; replace M := Lib.hid M2; replace dB := Lib.hid dB; clear hwr M2)
                | (go_at_call 13; (with_reducible refine (hNy.out _ M.out.bel).mono ?_); rintro e w4 ⟨v4, rfl, ho4, hb4⟩; obtain ⟨p4, c4, rfl, hsr⟩ := hSy.out _ _ _ ho4; replace hsr := Lib.hid hsr; replace M := Lib.hid (M.out.next hb4); clear ho4 hb4)
                | (at_builtin; refine wpList_append_src_at _ rfl _ _ 26 rfl w.heap.size 5 i0 (.int .u8 0) 1 1 Tryd.underlying26 hi hz0 hz1 hz2 rfl (by decide) u4 lw.length (lw.map encN) rfl M.out.own p4 ys.length c4 (ys.map encN) rfl hlc hsr.out.nil hsr.out.cells (enc_one _) h63 hby M.out.bel.size ?_; intro v2 w6 ho2 hg2 hn2; replace M := Lib.hid (M.out.append (ys := ys) rfl ho2 hg2 hn2); clear ho2 hg2 hn2))
              go_roundw
              case rel => exact ⟨k + 1, false, r2, _, by omega, by go_num, rfl, hR1, Lib.hid (fun _ => by exact hLL.out), Lib.hid (by rw [hTk0.out]; exact M.out)⟩
              case measure => simp [intOf]; omega
          by_cases hk1 : kind = 1
          · subst hk1
            clear hk0
            as_aux_lemma =>
              have hBad := bad_in (w := (wr.alloc (.cells #[.int .i64 1, .int .i64 num, .slice ba bl.length bc, .slice ra rl.length rc] 33))) (v := ⟨1, num, ba, bc, bl, ra, rc, rl⟩) (hI.bel (M.out.bel.step (Bel.new _ _))) (by dsimp only; omega)
              rw [hbt] at hBad
              unfold Va.cells at hBad
              dsimp only at hBad
              have hW : ∀ w', Bel wr w' → Calls Tryd.prog 9 #[.pointer (some ⟨bo, 0, none⟩), .int .u8 (num % 256)] w' (Writes w' bo r (.pointer (some (A 0))) false (L ++ ([byteOf num]))) := fun w' hb => by
                have h := obyte_wr (M.out.next hb).wr (c := byteOf num) (byteOf_le num) (fun he => by have := hL he; omega)
                rw [byteOf_int] at h
                exact h
              have heV : encV ⟨1, num, ba, bc, bl, ra, rc, rl⟩ = [byteOf num] := by unfold encV; simp
              have hSy : ∀ w' : World, Src (w'.alloc (.cells #[.int .u8 (num % 256)] 5)) (some ⟨w'.heap.size, 0, none⟩) 1 1 [byteOf num] := fun w' => src_one w' (byteOf_int num).symm (byteOf_le num)
              replace hSy := Lib.hid hSy
              rw [heV] at hTk0
              have hLl := hL rfl
              have hlwl : lw.length ≤ 20000 := by rw [hlw rfl]; exact hLl
              have hLL : Hid (lw ++ [byteOf num] = encVs (l.take (k + 1))) := Lib.hid (by rw [hTk0, hlw rfl])
              clear heV
              have h63 : lw.length + 1 ≤ maxLen := by simp [maxLen]; omega
              have hby : (lw.length + 1) * 1 ≤ 140737488355328 := by omega
              have hlc : ([byteOf num].map encN).length = 1 * 1 := rfl
              replace hW := Lib.hid hW
              replace hTk0 := Lib.hid hTk0
              clear hlw hL hEc hsB hsR hEb hI hbt
              replace hBad := Lib.hid hBad
              have hWaX := Lib.hid (Bel.new wr (.cells #[.int .i64 1, .int .i64 num, .slice ba bl.length bc, .slice ra rl.length rc] 33))
              go_wp2_with (first
                | (go_at_call 7; (with_reducible refine hBad.out.mono ?_); rintro e w2 ⟨rfl, hb2⟩; have hbX := Lib.hid hb2; obtain ⟨-, e0, e1, e2, e3⟩ := hCell.out w2 hb2; clear hb2)
                | (go_at_call 9; have hwx := Bel.step hWaX.out hbX.out; (with_reducible refine (hW.out _ hwx).mono ?_); clear hwx; rintro en w3 hwr; obtain rfl := hwr.1; obtain ⟨⟨r2, M2⟩, dB, d0, d1, d2, d3⟩ := hPost.out _ _ _ _ hbX.out hwr; replace M := Lib.hid M2; replace dB := Lib.hid dB; clear hwr M2)
                | (at_builtin; have hsr := Lib.hid (hSy.out w3); replace M := Lib.hid (M.out.next (Bel.new w3 (.cells #[.int .u8 (num % 256)] 5))); refine wpList_append_src_at _ rfl _ _ 26 rfl w.heap.size 5 i0 (.int .u8 0) 1 1 Tryd.underlying26 hi hz0 hz1 hz2 rfl (by decide) u4 lw.length (lw.map encN) rfl M.out.own (some ⟨w3.heap.size, 0, none⟩) 1 1 ([byteOf num].map encN) rfl hlc hsr.out.nil hsr.out.cells (enc_one _) h63 hby M.out.bel.size ?_; intro v2 w6 ho2 hg2 hn2; replace M := Lib.hid (M.out.append (ys := [byteOf num]) rfl ho2 hg2 hn2); clear ho2 hg2 hn2))
              go_roundw
              case rel => exact ⟨k + 1, false, r2, _, by omega, by go_num, rfl, hR1, Lib.hid (fun _ => by exact hLL.out), Lib.hid (by rw [hTk0.out]; exact M.out)⟩
              case measure => simp [intOf]; omega
          by_cases hk2 : kind = 2
          · subst hk2
            clear hk0 hk1
            as_aux_lemma =>
              have hBad := bad_in (w := (wr.alloc (.cells #[.int .i64 2, .int .i64 num, .slice ba bl.length bc, .slice ra rl.length rc] 33))) (v := ⟨2, num, ba, bc, bl, ra, rc, rl⟩) (hI.bel (M.out.bel.step (Bel.new _ _))) (by dsimp only; omega)
              rw [hbt] at hBad
              unfold Va.cells at hBad
              dsimp only at hBad
              have hW : ∀ w', Bel wr w' → Calls Tryd.prog 10 #[.pointer (some ⟨bo, 0, none⟩), .slice ba bl.length bc] w' (Writes w' bo r (.pointer (some (A 0))) false (L ++ (numL bl.length ++ bl))) := fun w' hb => by
                have h := obytes_wr (M.out.next hb).wr (hI.bytes.bel (M.out.bel.step hb)) hsB (show bl.length ≤ 400000 by omega) (fun he => by have := hL he; omega) (hEc w' (M.out.bel.step hb))
                rw [List.append_assoc] at h
                exact h
              have hNy : ∀ w', Bel w w' → Calls Tryd.prog 13 #[.int .i64 bl.length] w' (GivesRow w' (numL bl.length)) := fun w' hb => rnum_in bl.length (by omega) w'
              have hyl : (numL bl.length).length ≤ 400 := by have := num_len (n := bl.length) (by omega); omega
              have hys := numL_small bl.length
              have heV : encV ⟨2, num, ba, bc, bl, ra, rc, rl⟩ = numL bl.length ++ bl := by unfold encV; simp
              have hBy : ∀ w', Bel w w' → Src w' ba bl.length bc bl := fun w' hb => hI.bytes.bel hb
              replace hBy := Lib.hid hBy
              generalize numL bl.length = ys at *
              have hSy : ∀ v (w' w'' : World), w''.ownsRow w'.heap.size 5 1 v ys.length (ys.map encN) → ∃ p cap, v = .slice p ys.length cap ∧ Src w'' p ys.length cap ys := fun v w' w'' ho => Src.of_owns ho rfl hys
              unfold GivesRow at hNy
              replace hNy := Lib.hid hNy
              replace hSy := Lib.hid hSy
              rw [heV] at hTk0
              have hLl := hL rfl
              have hlwl : lw.length ≤ 20000 := by rw [hlw rfl]; exact hLl
              have hLL : Hid (lw ++ (ys ++ bl) = encVs (l.take (k + 1))) := Lib.hid (by rw [hTk0, hlw rfl])
              clear heV
              have h63 : lw.length + ys.length ≤ maxLen := by simp [maxLen]; omega
              have hby : (lw.length + ys.length) * 1 ≤ 140737488355328 := by omega
              have hlc : (ys.map encN).length = ys.length * 1 := by simp
              have h63b : (lw ++ ys).length + bl.length ≤ maxLen := by simp [maxLen]; omega
              have hbyb : ((lw ++ ys).length + bl.length) * 1 ≤ 140737488355328 := by simp; omega
              have hlcb : (bl.map encN).length = bl.length * 1 := by simp
              replace hW := Lib.hid hW
              replace hTk0 := Lib.hid hTk0
              clear hlw hL hEc hsB hsR hEb hI hbt
              replace hBad := Lib.hid hBad
              have hWaX := Lib.hid (Bel.new wr (.cells #[.int .i64 2, .int .i64 num, .slice ba bl.length bc, .slice ra rl.length rc] 33))
              go_wp2_with (first
                | (go_at_call 7; (with_reducible refine hBad.out.mono ?_); rintro e w2 ⟨rfl, hb2⟩; have hbX := Lib.hid hb2; obtain ⟨-, e0, e1, e2, e3⟩ := hCell.out w2 hb2; clear hb2)
                | (go_at_call 10; have hwx := Bel.step hWaX.out hbX.out; (with_reducible refine (hW.out _ hwx).mono ?_); clear hwx; rintro en w3 hwr; obtain rfl := hwr.1; obtain ⟨⟨r2, M2⟩, dB, d0, d1, d2, d3⟩ := hPost.out _ _ _ _ hbX.out hwr; replace M := Lib.hid M2; replace dB := Lib.hid dB; clear hwr M2))
              replace M := Lib.hid (M.out.next (Bel.refl w3).drew)
              refine wp_region_held_drew (S := fun w' => w'.heap[wr.heap.size]? = some (.cells #[.int .i64 2, .int .i64 num, .slice ba bl.length bc, .slice ra rl.length rc] 33 (0, 0))) (by kernel_rfl) (dB.out) (fun hHeld => ?_)
              refine wpAnyH_take (i := 0) (v := ?v0u1) rfl (by kernel_rfl) (by kernel_rfl) (by kernel_rfl) (fun _ _ _ h => h) (Or.inl ⟨by rfl, ?h0u1⟩) hHeld ?r0u1
              case h0u1 => (intro wq hSw; go_simp <;> with_reducible rfl)
              try simp only [Act.put, List.setIfInBounds_toArray, List.set_cons_zero, List.set_cons_succ]
              refine wpAnyH_take (i := 1) (v := ?v1u1) rfl (by kernel_rfl) (by kernel_rfl) (by kernel_rfl) (fun _ _ _ h => h) (Or.inl ⟨by rfl, ?h1u1⟩) hHeld ?r1u1
              case h1u1 => (intro wq hSw; go_simp <;> with_reducible rfl)
              try simp only [Act.put, List.setIfInBounds_toArray, List.set_cons_zero, List.set_cons_succ]
              refine wpAnyH_take (i := 2) (v := ?v2u1) rfl (by kernel_rfl) (by kernel_rfl) (by kernel_rfl) (fun _ _ _ h => h) (Or.inl ⟨by rfl, ?h2u1⟩) hHeld ?r2u1
              case h2u1 => (intro wq hSw; have cB := (cell_of_row wq wr.heap.size 2 _ _ _ hSw).trans rfl; go_simp <;> with_reducible rfl)
              try simp only [Act.put, List.setIfInBounds_toArray, List.set_cons_zero, List.set_cons_succ]
              refine wpAnyH_take (i := 3) (v := ?v3u1) rfl (by kernel_rfl) (by kernel_rfl) (by kernel_rfl) (fun _ _ _ h => h) (Or.inl ⟨by rfl, ?h3u1⟩) hHeld ?r3u1
              case h3u1 => (intro wq hSw; go_simp <;> with_reducible rfl)
              try simp only [Act.put, List.setIfInBounds_toArray, List.set_cons_zero, List.set_cons_succ]
              refine wpAnyH_take (i := 6) (v := ?v6u1) rfl (by kernel_rfl) (by kernel_rfl) (by kernel_rfl) (fun _ _ _ h => h) (Or.inl ⟨by rfl, ?h6u1⟩) hHeld ?r6u1
              case h6u1 => (intro wq hSw; go_simp <;> with_reducible rfl)
              try simp only [Act.put, List.setIfInBounds_toArray, List.set_cons_zero, List.set_cons_succ]
              refine wpAnyH_take (i := 7) (v := ?v7u1) rfl (by kernel_rfl) (by kernel_rfl) (by kernel_rfl) (fun _ _ _ h => h) (Or.inl ⟨by rfl, ?h7u1⟩) hHeld ?r7u1
              case h7u1 => (intro wq hSw; have cB := (cell_of_row wq wr.heap.size 2 _ _ _ hSw).trans rfl; go_simp <;> with_reducible rfl)
              try simp only [Act.put, List.setIfInBounds_toArray, List.set_cons_zero, List.set_cons_succ]
              refine wpAnyH_ready (rs := [4]) (by kernel_rfl) (by simp) ?_
              refine AllReadyH.cons (o := _) rfl (fun K hK => ?_) AllReadyH.nil
              go_simp
              (go_at_call 13; (with_reducible refine (hNy.out _ M.out.bel).mono ?_); rintro e w4 ⟨v4, rfl, ho4, hb4⟩; obtain ⟨p4, c4, rfl, hsr⟩ := hSy.out _ _ _ ho4; replace hsr := Lib.hid hsr; replace M := Lib.hid (M.out.next hb4); have kB := (Below.block hb4 _ (lt_of_block hHeld)).trans hHeld; clear ho4 hb4)
              try dsimp only
              refine hK.out _ _ (kB) (fun hHeld2 => ?_)
              clear hK K hHeld
              have hHeld := hHeld2
              clear hHeld2
              try simp only [Act.put, List.setIfInBounds_toArray, List.set_cons_zero, List.set_cons_succ]
              refine wpAnyH_ready (rs := [5]) (by kernel_rfl) (by simp) ?_
              refine AllReadyH.cons (o := _) rfl (fun K hK => ?_) AllReadyH.nil
              refine step_append_src_at rfl _ _ 26 rfl w.heap.size 5 i0 (.int .u8 0) 1 1 Tryd.underlying26 hi hz0 hz1 hz2 rfl (by decide) u4 lw.length (lw.map encN) rfl M.out.own p4 ys.length c4 (ys.map encN) rfl hlc hsr.out.nil hsr.out.cells (enc_one _) h63 hby M.out.bel.size ?_; intro v2 w6 ho2 hg2 hn2; have kB2 := block_far M.out.own hg2 hHeld; replace M := Lib.hid (M.out.append (ys := ys) rfl ho2 hg2 hn2); clear ho2 hg2 hn2
              try dsimp only
              refine hK.out _ _ (kB2) (fun hHeld2 => ?_)
              clear hK K hHeld
              have hHeld := hHeld2
              clear hHeld2
              try simp only [Act.put, List.setIfInBounds_toArray, List.set_cons_zero, List.set_cons_succ]
              refine wpAnyH_ready (rs := [8]) (by kernel_rfl) (by simp) ?_
              refine AllReadyH.cons (o := _) rfl (fun K hK => ?_) AllReadyH.nil
              have hsr := Lib.hid (hBy.out _ M.out.bel); refine step_append_src_at rfl _ _ 26 rfl w.heap.size 5 i0 (.int .u8 0) 1 1 Tryd.underlying26 hi hz0 hz1 hz2 rfl (by decide) v2 (lw ++ ys).length ((lw ++ ys).map encN) rfl M.out.own ba bl.length bc (bl.map encN) rfl hlcb hsr.out.nil hsr.out.cells (enc_one _) h63b hbyb M.out.bel.size ?_; intro v3 w6 ho2 hg2 hn2; have kB3 := block_far M.out.own hg2 hHeld; replace M := Lib.hid (M.out.append (ys := bl) rfl ho2 hg2 hn2); clear ho2 hg2 hn2
              try dsimp only
              refine hK.out _ _ (kB3) (fun hHeld2 => ?_)
              clear hK K hHeld
              have hHeld := hHeld2
              clear hHeld2
              try simp only [Act.put, List.setIfInBounds_toArray, List.set_cons_zero, List.set_cons_succ]
              refine wpAnyH_take (i := 9) (v := ?v9u1) rfl (by kernel_rfl) (by kernel_rfl) (by kernel_rfl) (fun _ _ _ h => h) (Or.inl ⟨by rfl, ?h9u1⟩) hHeld ?r9u1
              case h9u1 => (intro wq hSw; go_simp <;> with_reducible rfl)
              try simp only [Act.put, List.setIfInBounds_toArray, List.set_cons_zero, List.set_cons_succ]
              refine wpAnyH_done (by kernel_rfl) ?_ _
              go_wp2
              go_roundw
              case rel => exact ⟨k + 1, false, r2, (lw ++ ys ++ bl), by omega, by go_num, rfl, hR1, Lib.hid (fun _ => by rw [List.append_assoc]; exact hLL.out), Lib.hid (by rw [hTk0.out]; exact M.out)⟩
              case measure => simp [intOf]; omega
          by_cases hk3 : kind = 3
          · subst hk3
            clear hk0 hk1 hk2
            as_aux_lemma =>
              have hBad := bad_in (w := (wr.alloc (.cells #[.int .i64 3, .int .i64 num, .slice ba bl.length bc, .slice ra rl.length rc] 33))) (v := ⟨3, num, ba, bc, bl, ra, rc, rl⟩) (hI.bel (M.out.bel.step (Bel.new _ _))) (by dsimp only; omega)
              rw [hbt] at hBad
              unfold Va.cells at hBad
              dsimp only at hBad
              have hW : ∀ w', Bel wr w' → Calls Tryd.prog 11 #[.pointer (some ⟨bo, 0, none⟩), .string (strN bl)] w' (Writes w' bo r (.pointer (some (A 0))) false (L ++ (numL bl.length ++ bl))) := fun w' hb => by
                have h := otext_wr (M.out.next hb).wr hI.bytes.small (show bl.length ≤ 400000 by omega) (fun he => by have := hL he; omega) (hEc w' (M.out.bel.step hb))
                rw [List.append_assoc] at h
                exact h
              have hNy : ∀ w', Bel w w' → Calls Tryd.prog 13 #[.int .i64 bl.length] w' (GivesRow w' (numL bl.length)) := fun w' hb => rnum_in bl.length (by omega) w'
              have hyl : (numL bl.length).length ≤ 400 := by have := num_len (n := bl.length) (by omega); omega
              have hys := numL_small bl.length
              have heV : encV ⟨3, num, ba, bc, bl, ra, rc, rl⟩ = numL bl.length ++ bl := by unfold encV; simp
              have hBy : ∀ w', Bel w w' → Src w' ba bl.length bc bl := fun w' hb => hI.bytes.bel hb
              replace hBy := Lib.hid hBy
              generalize numL bl.length = ys at *
              have hSy : ∀ v (w' w'' : World), w''.ownsRow w'.heap.size 5 1 v ys.length (ys.map encN) → ∃ p cap, v = .slice p ys.length cap ∧ Src w'' p ys.length cap ys := fun v w' w'' ho => Src.of_owns ho rfl hys
              unfold GivesRow at hNy
              replace hNy := Lib.hid hNy
              replace hSy := Lib.hid hSy
              rw [heV] at hTk0
              have hLl := hL rfl
              have hlwl : lw.length ≤ 20000 := by rw [hlw rfl]; exact hLl
              have hLL : Hid (lw ++ (ys ++ bl) = encVs (l.take (k + 1))) := Lib.hid (by rw [hTk0, hlw rfl])
              clear heV
              have h63 : lw.length + ys.length ≤ maxLen := by simp [maxLen]; omega
              have hby : (lw.length + ys.length) * 1 ≤ 140737488355328 := by omega
              have hlc : (ys.map encN).length = ys.length * 1 := by simp
              have h63b : (lw ++ ys).length + bl.length ≤ maxLen := by simp [maxLen]; omega
              have hbyb : ((lw ++ ys).length + bl.length) * 1 ≤ 140737488355328 := by simp; omega
              have hlcb : (bl.map encN).length = bl.length * 1 := by simp
              replace hW := Lib.hid hW
              replace hTk0 := Lib.hid hTk0
              clear hlw hL hEc hsB hsR hEb hI hbt
              replace hBad := Lib.hid hBad
              have hWaX := Lib.hid (Bel.new wr (.cells #[.int .i64 3, .int .i64 num, .slice ba bl.length bc, .slice ra rl.length rc] 33))
              go_wp2_with (first
                | (go_at_call 7; (with_reducible refine hBad.out.mono ?_); rintro e w2 ⟨rfl, hb2⟩; have hbX := Lib.hid hb2; obtain ⟨-, e0, e1, e2, e3⟩ := hCell.out w2 hb2; have hcv2 := hCv.out _ hb2; clear hb2)
                | (go_at_call 11; have hwx := Bel.step hWaX.out hbX.out; (with_reducible refine (hW.out _ hwx).mono ?_); clear hwx; rintro en w3 hwr; obtain rfl := hwr.1; obtain ⟨⟨r2, M2⟩, dB, d0, d1, d2, d3⟩ := hPost.out _ _ _ _ hbX.out hwr; replace M := Lib.hid M2; replace dB := Lib.hid dB; clear hwr M2))
              replace M := Lib.hid (M.out.next (Bel.refl w3).drew)
              refine wp_region_held_drew (S := fun w' => w'.heap[wr.heap.size]? = some (.cells #[.int .i64 3, .int .i64 num, .slice ba bl.length bc, .slice ra rl.length rc] 33 (0, 0))) (by kernel_rfl) (dB.out) (fun hHeld => ?_)
              refine wpAnyH_take (i := 0) (v := ?v0u2) rfl (by kernel_rfl) (by kernel_rfl) (by kernel_rfl) (fun _ _ _ h => h) (Or.inl ⟨by rfl, ?h0u2⟩) hHeld ?r0u2
              case h0u2 => (intro wq hSw; go_simp <;> with_reducible rfl)
              try simp only [Act.put, List.setIfInBounds_toArray, List.set_cons_zero, List.set_cons_succ]
              refine wpAnyH_take (i := 1) (v := ?v1u2) rfl (by kernel_rfl) (by kernel_rfl) (by kernel_rfl) (fun _ _ _ h => h) (Or.inl ⟨by rfl, ?h1u2⟩) hHeld ?r1u2
              case h1u2 => (intro wq hSw; go_simp <;> with_reducible rfl)
              try simp only [Act.put, List.setIfInBounds_toArray, List.set_cons_zero, List.set_cons_succ]
              refine wpAnyH_take (i := 2) (v := ?v2u2) rfl (by kernel_rfl) (by kernel_rfl) (by kernel_rfl) (fun _ _ _ h => h) (Or.inl ⟨by rfl, ?h2u2⟩) hHeld ?r2u2
              case h2u2 => (intro wq hSw; have cB := (cell_of_row wq wr.heap.size 2 _ _ _ hSw).trans rfl; go_simp <;> with_reducible rfl)
              try simp only [Act.put, List.setIfInBounds_toArray, List.set_cons_zero, List.set_cons_succ]
              refine wpAnyH_take (i := 3) (v := ?v3u2) rfl (by kernel_rfl) (by kernel_rfl) (by kernel_rfl) (fun _ _ _ h => h) (Or.inl ⟨by rfl, ?h3u2⟩) hHeld ?r3u2
              case h3u2 => (intro wq hSw; go_simp <;> with_reducible rfl)
              try simp only [Act.put, List.setIfInBounds_toArray, List.set_cons_zero, List.set_cons_succ]
              refine wpAnyH_take (i := 6) (v := ?v6u2) rfl (by kernel_rfl) (by kernel_rfl) (by kernel_rfl) (fun _ _ _ h => h) (Or.inl ⟨by rfl, ?h6u2⟩) hHeld ?r6u2
              case h6u2 => (intro wq hSw; go_simp <;> with_reducible rfl)
              try simp only [Act.put, List.setIfInBounds_toArray, List.set_cons_zero, List.set_cons_succ]
              refine wpAnyH_take (i := 7) (v := ?v7u2) rfl (by kernel_rfl) (by kernel_rfl) (by kernel_rfl) (fun _ _ _ h => h) (Or.inl ⟨by rfl, ?h7u2⟩) hHeld ?r7u2
              case h7u2 => (intro wq hSw; have cB := (cell_of_row wq wr.heap.size 2 _ _ _ hSw).trans rfl; go_simp <;> with_reducible rfl)
              try simp only [Act.put, List.setIfInBounds_toArray, List.set_cons_zero, List.set_cons_succ]
              refine wpAnyH_ready (rs := [4]) (by kernel_rfl) (by simp) ?_
              refine AllReadyH.cons (o := _) rfl (fun K hK => ?_) AllReadyH.nil
              go_simp
              (go_at_call 13; (with_reducible refine (hNy.out _ M.out.bel).mono ?_); rintro e w4 ⟨v4, rfl, ho4, hb4⟩; obtain ⟨p4, c4, rfl, hsr⟩ := hSy.out _ _ _ ho4; replace hsr := Lib.hid hsr; replace M := Lib.hid (M.out.next hb4); have kB := (Below.block hb4 _ (lt_of_block hHeld)).trans hHeld; clear ho4 hb4)
              try dsimp only
              refine hK.out _ _ (kB) (fun hHeld2 => ?_)
              clear hK K hHeld
              have hHeld := hHeld2
              clear hHeld2
              try simp only [Act.put, List.setIfInBounds_toArray, List.set_cons_zero, List.set_cons_succ]
              refine wpAnyH_ready (rs := [5]) (by kernel_rfl) (by simp) ?_
              refine AllReadyH.cons (o := _) rfl (fun K hK => ?_) AllReadyH.nil
              refine step_append_src_at rfl _ _ 26 rfl w.heap.size 5 i0 (.int .u8 0) 1 1 Tryd.underlying26 hi hz0 hz1 hz2 rfl (by decide) u4 lw.length (lw.map encN) rfl M.out.own p4 ys.length c4 (ys.map encN) rfl hlc hsr.out.nil hsr.out.cells (enc_one _) h63 hby M.out.bel.size ?_; intro v2 w6 ho2 hg2 hn2; have kB2 := block_far M.out.own hg2 hHeld; replace M := Lib.hid (M.out.append (ys := ys) rfl ho2 hg2 hn2); clear ho2 hg2 hn2
              try dsimp only
              refine hK.out _ _ (kB2) (fun hHeld2 => ?_)
              clear hK K hHeld
              have hHeld := hHeld2
              clear hHeld2
              try simp only [Act.put, List.setIfInBounds_toArray, List.set_cons_zero, List.set_cons_succ]
              refine wpAnyH_ready (rs := [8]) (by kernel_rfl) (by simp) ?_
              refine AllReadyH.cons (o := _) rfl (fun K hK => ?_) AllReadyH.nil
              have hsr := Lib.hid (hBy.out _ M.out.bel); refine step_append_src_at rfl _ _ 26 rfl w.heap.size 5 i0 (.int .u8 0) 1 1 Tryd.underlying26 hi hz0 hz1 hz2 rfl (by decide) v2 (lw ++ ys).length ((lw ++ ys).map encN) rfl M.out.own ba bl.length bc (bl.map encN) rfl hlcb hsr.out.nil hsr.out.cells (enc_one _) h63b hbyb M.out.bel.size ?_; intro v3 w6 ho2 hg2 hn2; have kB3 := block_far M.out.own hg2 hHeld; replace M := Lib.hid (M.out.append (ys := bl) rfl ho2 hg2 hn2); clear ho2 hg2 hn2
              try dsimp only
              refine hK.out _ _ (kB3) (fun hHeld2 => ?_)
              clear hK K hHeld
              have hHeld := hHeld2
              clear hHeld2
              try simp only [Act.put, List.setIfInBounds_toArray, List.set_cons_zero, List.set_cons_succ]
              refine wpAnyH_take (i := 9) (v := ?v9u2) rfl (by kernel_rfl) (by kernel_rfl) (by kernel_rfl) (fun _ _ _ h => h) (Or.inl ⟨by rfl, ?h9u2⟩) hHeld ?r9u2
              case h9u2 => (intro wq hSw; go_simp <;> with_reducible rfl)
              try simp only [Act.put, List.setIfInBounds_toArray, List.set_cons_zero, List.set_cons_succ]
              refine wpAnyH_done (by kernel_rfl) ?_ _
              go_wp2
              go_roundw
              case rel => exact ⟨k + 1, false, r2, (lw ++ ys ++ bl), by omega, by go_num, rfl, hR1, Lib.hid (fun _ => by rw [List.append_assoc]; exact hLL.out), Lib.hid (by rw [hTk0.out]; exact M.out)⟩
              case measure => simp [intOf]; omega
          · as_aux_lemma =>
              have hBad := bad_in (w := (wr.alloc (.cells #[.int .i64 kind, .int .i64 num, .slice ba bl.length bc, .slice ra rl.length rc] 33))) (v := ⟨kind, num, ba, bc, bl, ra, rc, rl⟩) (hI.bel (M.out.bel.step (Bel.new _ _))) (by dsimp only; omega)
              rw [hbt] at hBad
              unfold Va.cells at hBad
              dsimp only at hBad
              have hbv : rl.any badR = false := by unfold badV at hbt; rwa [if_neg hk0, if_neg (by dsimp only; omega)] at hbt
              have hW : ∀ w', Bel wr w' → Calls Tryd.prog 12 #[.pointer (some ⟨bo, 0, none⟩), .slice ra rl.length rc] w' (Writes w' bo r (.pointer (some (A 0))) false (L ++ (rowL rl))) := fun w' hb => by
                have h := orow_wr (c := rc) (M.out.next hb).wr (hI.row.bel (M.out.bel.step hb)) hsR (show rl.length ≤ 1000 by omega) (fun he => by have := hL he; omega) (hEc w' (M.out.bel.step hb)) hEb
                rw [hbv, Bool.or_false] at h
                exact h
              have hNy : ∀ w', Bel w w' → Calls Tryd.prog 14 #[.slice ra rl.length rc] w' (GivesRow w' (rowL rl)) := fun w' hb => rrow_in (hI.row.bel hb) (by omega) hbv
              have hyl : (rowL rl).length ≤ 400 := by have := rowL_len hbv hrl; omega
              have hys : ∀ x ∈ rowL rl, x ≤ 255 := rowL_small rl
              have heV : encV ⟨kind, num, ba, bc, bl, ra, rc, rl⟩ = rowL rl := by unfold encV; simp [hk0, hk1, hk2, hk3]
              generalize rowL rl = ys at *
              have hSy : ∀ v (w' w'' : World), w''.ownsRow w'.heap.size 5 1 v ys.length (ys.map encN) → ∃ p cap, v = .slice p ys.length cap ∧ Src w'' p ys.length cap ys := fun v w' w'' ho => Src.of_owns ho rfl hys
              unfold GivesRow at hNy
              replace hNy := Lib.hid hNy
              replace hSy := Lib.hid hSy
              rw [heV] at hTk0
              have hLl := hL rfl
              have hlwl : lw.length ≤ 20000 := by rw [hlw rfl]; exact hLl
              have hLL : Hid (lw ++ ys = encVs (l.take (k + 1))) := Lib.hid (by rw [hTk0, hlw rfl])
              clear heV
              have h63 : lw.length + ys.length ≤ maxLen := by simp [maxLen]; omega
              have hby : (lw.length + ys.length) * 1 ≤ 140737488355328 := by omega
              have hlc : (ys.map encN).length = ys.length * 1 := by simp
              have q0 : (kind == (0 : Int)) = false := by simpa using hk0
              have q1 : (kind == (1 : Int)) = false := by simpa using hk1
              have q2 : (kind == (2 : Int)) = false := by simpa using hk2
              have q3 : (kind == (3 : Int)) = false := by simpa using hk3
              replace hW := Lib.hid hW
              replace hTk0 := Lib.hid hTk0
              clear hlw hL hEc hsB hsR hEb hI hbt
              clear hk0 hk1 hk2 hk3
              replace hBad := Lib.hid hBad
              clear hbv
              have hWaX := Lib.hid (Bel.new wr (.cells #[.int .i64 kind, .int .i64 num, .slice ba bl.length bc, .slice ra rl.length rc] 33))
              go_wp2_with (first
                | (go_at_call 7; (with_reducible refine hBad.out.mono ?_); rintro e w2 ⟨rfl, hb2⟩; have hbX := Lib.hid hb2; obtain ⟨-, e0, e1, e2, e3⟩ := hCell.out w2 hb2; clear hb2)
                | (go_at_call 12; have hwx := Bel.step hWaX.out hbX.out; (with_reducible refine (hW.out _ hwx).mono ?_); clear hwx; rintro en w3 hwr; obtain rfl := hwr.1; obtain ⟨⟨r2, M2⟩, dB, d0, d1, d2, d3⟩ := hPost.out _ _ _ _ hbX.out hwr; replace M := Lib.hid M2; replace dB := Lib.hid dB; clear hwr M2)
                | (go_at_call 14; (with_reducible refine (hNy.out _ M.out.bel).mono ?_); rintro e w4 ⟨v4, rfl, ho4, hb4⟩; obtain ⟨p4, c4, rfl, hsr⟩ := hSy.out _ _ _ ho4; replace hsr := Lib.hid hsr; replace M := Lib.hid (M.out.next hb4); clear ho4 hb4)
                | (at_builtin; refine wpList_append_src_at _ rfl _ _ 26 rfl w.heap.size 5 i0 (.int .u8 0) 1 1 Tryd.underlying26 hi hz0 hz1 hz2 rfl (by decide) u4 lw.length (lw.map encN) rfl M.out.own p4 ys.length c4 (ys.map encN) rfl hlc hsr.out.nil hsr.out.cells (enc_one _) h63 hby M.out.bel.size ?_; intro v2 w6 ho2 hg2 hn2; replace M := Lib.hid (M.out.append (ys := ys) rfl ho2 hg2 hn2); clear ho2 hg2 hn2))
              go_roundw
              case rel => exact ⟨k + 1, false, r2, _, by omega, by go_num, rfl, hR1, Lib.hid (fun _ => by exact hLL.out), Lib.hid (by rw [hTk0.out]; exact M.out)⟩
              case measure => simp [intOf]; omega
      · have hR1 : Hid (true = (l.take (k + 1)).any badV) := Lib.hid (by rw [hA1]; rfl)
        clear hA1
        have hbt : True := trivial
        by_cases hk0 : kind = 0
        · subst hk0
          as_aux_lemma =>
            have hW : ∀ w', Bel wr w' → Calls Tryd.prog 8 #[.pointer (some ⟨bo, 0, none⟩), .int .i64 num] w' (Writes w' bo r (.pointer (some (A 0))) true (L ++ (numL num.toNat))) := fun w' hb => by
              have h := onum_wr (M.out.next hb).wr (n := num) hI.hi (fun he => by have := hL he; omega) (hEc w' (M.out.bel.step hb))
              skip
              exact h
            replace hW := Lib.hid hW
            replace hTk0 := Lib.hid hTk0
            clear hlw hL hEc hsB hsR hEb hI hbt
            have hWaX := Lib.hid (Bel.new wr (.cells #[.int .i64 0, .int .i64 num, .slice ba bl.length bc, .slice ra rl.length rc] 33))
            have hbX := Lib.hid (Bel.refl (wr.alloc (.cells #[.int .i64 0, .int .i64 num, .slice ba bl.length bc, .slice ra rl.length rc] 33)))
            go_wp2_with (first
              | (go_at_call 8; have hwx := Bel.step hWaX.out hbX.out; (with_reducible refine (hW.out _ hwx).mono ?_); clear hwx; rintro en w3 hwr; obtain rfl := hwr.1; replace M := Lib.hid (hPostT.out _ _ _ _ hbX.out hwr); clear hwr))
            go_roundw
            case rel => exact ⟨k + 1, true, none, lw, by omega, by go_num, rfl, hR1, Lib.hid (fun e => by cases e), Lib.hid (Mid.anyl M.out)⟩
            case measure => simp [intOf]; omega
        by_cases hk1 : kind = 1
        · subst hk1
          clear hk0
          as_aux_lemma =>
            have hW : ∀ w', Bel wr w' → Calls Tryd.prog 9 #[.pointer (some ⟨bo, 0, none⟩), .int .u8 (num % 256)] w' (Writes w' bo r (.pointer (some (A 0))) true (L ++ ([byteOf num]))) := fun w' hb => by
              have h := obyte_wr (M.out.next hb).wr (c := byteOf num) (byteOf_le num) (fun he => by have := hL he; omega)
              rw [byteOf_int] at h
              exact h
            replace hW := Lib.hid hW
            replace hTk0 := Lib.hid hTk0
            clear hlw hL hEc hsB hsR hEb hI hbt
            have hWaX := Lib.hid (Bel.new wr (.cells #[.int .i64 1, .int .i64 num, .slice ba bl.length bc, .slice ra rl.length rc] 33))
            have hbX := Lib.hid (Bel.refl (wr.alloc (.cells #[.int .i64 1, .int .i64 num, .slice ba bl.length bc, .slice ra rl.length rc] 33)))
            go_wp2_with (first
              | (go_at_call 9; have hwx := Bel.step hWaX.out hbX.out; (with_reducible refine (hW.out _ hwx).mono ?_); clear hwx; rintro en w3 hwr; obtain rfl := hwr.1; replace M := Lib.hid (hPostT.out _ _ _ _ hbX.out hwr); clear hwr))
            go_roundw
            case rel => exact ⟨k + 1, true, none, lw, by omega, by go_num, rfl, hR1, Lib.hid (fun e => by cases e), Lib.hid (Mid.anyl M.out)⟩
            case measure => simp [intOf]; omega
        by_cases hk2 : kind = 2
        · subst hk2
          clear hk0 hk1
          as_aux_lemma =>
            have hW : ∀ w', Bel wr w' → Calls Tryd.prog 10 #[.pointer (some ⟨bo, 0, none⟩), .slice ba bl.length bc] w' (Writes w' bo r (.pointer (some (A 0))) true (L ++ (numL bl.length ++ bl))) := fun w' hb => by
              have h := obytes_wr (M.out.next hb).wr (hI.bytes.bel (M.out.bel.step hb)) hsB (show bl.length ≤ 400000 by omega) (fun he => by have := hL he; omega) (hEc w' (M.out.bel.step hb))
              rw [List.append_assoc] at h
              exact h
            replace hW := Lib.hid hW
            replace hTk0 := Lib.hid hTk0
            clear hlw hL hEc hsB hsR hEb hI hbt
            have hWaX := Lib.hid (Bel.new wr (.cells #[.int .i64 2, .int .i64 num, .slice ba bl.length bc, .slice ra rl.length rc] 33))
            have hbX := Lib.hid (Bel.refl (wr.alloc (.cells #[.int .i64 2, .int .i64 num, .slice ba bl.length bc, .slice ra rl.length rc] 33)))
            go_wp2_with (first
              | (go_at_call 10; have hwx := Bel.step hWaX.out hbX.out; (with_reducible refine (hW.out _ hwx).mono ?_); clear hwx; rintro en w3 hwr; obtain rfl := hwr.1; replace M := Lib.hid (hPostT.out _ _ _ _ hbX.out hwr); clear hwr))
            go_roundw
            case rel => exact ⟨k + 1, true, none, lw, by omega, by go_num, rfl, hR1, Lib.hid (fun e => by cases e), Lib.hid (Mid.anyl M.out)⟩
            case measure => simp [intOf]; omega
        by_cases hk3 : kind = 3
        · subst hk3
          clear hk0 hk1 hk2
          as_aux_lemma =>
            have hW : ∀ w', Bel wr w' → Calls Tryd.prog 11 #[.pointer (some ⟨bo, 0, none⟩), .string (strN bl)] w' (Writes w' bo r (.pointer (some (A 0))) true (L ++ (numL bl.length ++ bl))) := fun w' hb => by
              have h := otext_wr (M.out.next hb).wr hI.bytes.small (show bl.length ≤ 400000 by omega) (fun he => by have := hL he; omega) (hEc w' (M.out.bel.step hb))
              rw [List.append_assoc] at h
              exact h
            replace hW := Lib.hid hW
            replace hTk0 := Lib.hid hTk0
            clear hlw hL hEc hsB hsR hEb hI hbt
            have hWaX := Lib.hid (Bel.new wr (.cells #[.int .i64 3, .int .i64 num, .slice ba bl.length bc, .slice ra rl.length rc] 33))
            have hcvA := hCv.out _ (Bel.refl (wr.alloc (.cells #[.int .i64 3, .int .i64 num, .slice ba bl.length bc, .slice ra rl.length rc] 33)))
            have hbX := Lib.hid (Bel.refl (wr.alloc (.cells #[.int .i64 3, .int .i64 num, .slice ba bl.length bc, .slice ra rl.length rc] 33)))
            go_wp2_with (first
              | (go_at_call 11; have hwx := Bel.step hWaX.out hbX.out; (with_reducible refine (hW.out _ hwx).mono ?_); clear hwx; rintro en w3 hwr; obtain rfl := hwr.1; replace M := Lib.hid (hPostT.out _ _ _ _ hbX.out hwr); clear hwr))
            go_roundw
            case rel => exact ⟨k + 1, true, none, lw, by omega, by go_num, rfl, hR1, Lib.hid (fun e => by cases e), Lib.hid (Mid.anyl M.out)⟩
            case measure => simp [intOf]; omega
        · as_aux_lemma =>
            have hW : ∀ w', Bel wr w' → Calls Tryd.prog 12 #[.pointer (some ⟨bo, 0, none⟩), .slice ra rl.length rc] w' (Writes w' bo r (.pointer (some (A 0))) true (L ++ (rowL rl))) := fun w' hb => by
              have h := orow_wr (c := rc) (M.out.next hb).wr (hI.row.bel (M.out.bel.step hb)) hsR (show rl.length ≤ 1000 by omega) (fun he => by have := hL he; omega) (hEc w' (M.out.bel.step hb)) hEb
              skip
              exact h
            have q0 : (kind == (0 : Int)) = false := by simpa using hk0
            have q1 : (kind == (1 : Int)) = false := by simpa using hk1
            have q2 : (kind == (2 : Int)) = false := by simpa using hk2
            have q3 : (kind == (3 : Int)) = false := by simpa using hk3
            replace hW := Lib.hid hW
            replace hTk0 := Lib.hid hTk0
            clear hlw hL hEc hsB hsR hEb hI hbt
            clear hk0 hk1 hk2 hk3
            have hWaX := Lib.hid (Bel.new wr (.cells #[.int .i64 kind, .int .i64 num, .slice ba bl.length bc, .slice ra rl.length rc] 33))
            have hbX := Lib.hid (Bel.refl (wr.alloc (.cells #[.int .i64 kind, .int .i64 num, .slice ba bl.length bc, .slice ra rl.length rc] 33)))
            go_wp2_with (first
              | (go_at_call 12; have hwx := Bel.step hWaX.out hbX.out; (with_reducible refine (hW.out _ hwx).mono ?_); clear hwx; rintro en w3 hwr; obtain rfl := hwr.1; replace M := Lib.hid (hPostT.out _ _ _ _ hbX.out hwr); clear hwr))
            go_roundw
            case rel => exact ⟨k + 1, true, none, lw, by omega, by go_num, rfl, hR1, Lib.hid (fun e => by cases e), Lib.hid (Mid.anyl M.out)⟩
            case measure => simp [intOf]; omega
    · obtain rfl : k = n := by omega
      have hX := hEnd.out wr bo _ lw r e M.out he.out hlw.out
      clear hlw he hC hT hLen hEc hEnd hn0 hElt hbo hk hlt
      rcases hX with ⟨rfl, hX, hY⟩ | ⟨rfl, ys, p1, c1, rfl, hX⟩
      · replace hX := Lib.hid hX
        replace hY := Lib.hid hY
        clear M
        go_wp2_with (first
          | (go_at_call 15; (with_reducible refine hX.out.mono ?_); rintro e w3 ⟨rfl, hb3⟩; replace hb3 := Lib.hid hb3)
          | (go_at_call 16; (with_reducible refine (hY.out _ hb3.out).mono ?_); rintro e w4 ⟨rfl, hb4⟩; replace hb4 := Lib.hid hb4))
        go_ret
        exact ⟨rfl, hb4.out⟩
      · replace hX := Lib.hid hX
        clear M
        go_wp2_with (first
          | (go_at_call 15; (with_reducible refine hX.out.mono ?_); rintro e w3 ⟨p, c3, rfl, hb3, hv1, hv2, hRd⟩; replace hRd := Lib.hid hRd; clear hb3)
          | (go_at_call 18; (with_reducible refine hRd.out.mono ?_); rintro e w4 ⟨b, rfl, hb4, hBk⟩; replace hBk := Lib.hid hBk; clear hb4)
          | (go_at_call 17; (with_reducible refine hBk.out.mono ?_); rintro e w5 ⟨rfl, hb5⟩; replace hb5 := Lib.hid hb5))
        go_ret
        exact ⟨rfl, hb5.out⟩
end Go.Proofs.YtdhejbmmdbjpoaaDoor
