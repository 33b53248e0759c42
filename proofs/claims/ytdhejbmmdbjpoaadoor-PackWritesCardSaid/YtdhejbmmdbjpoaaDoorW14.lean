/- The reader's Row; the law's SameInts. -/
import Derived.Test.YtdhejbmmdbjpoaaDoorW13
import Derived.Laws.MakeOwn
namespace Go.Proofs.YtdhejbmmdbjpoaaDoor
open Go.RowKit
def encI (x : Int) : Value := .int .i64 x
theorem bel_of_grown {a b : World} (h : a.grownBy b none) : Bel a b := ⟨h.os, h.tape, h.output, h.size, fun k hk => h.block k hk (by simp)⟩
theorem own_apt {w w' : World} {base b n : Nat} {e : TypeId} {v : Value} {xs : List Value} (h : w.ownsRow base e 1 v n xs) (ha : Apt w w' b none) (hb : b < base) : w'.ownsRow base e 1 v n xs := by
  refine h.kept (row := some b) ⟨ha.os, ha.tape, ha.output, ha.size, fun k hk hne => ha.block k hk (fun e => hne (by rw [e])) (by simp)⟩ ?_
  by_cases hv : v.ownBlock = none
  · exact .inl hv
  · refine .inr fun e => ?_
    have := (h.lt b e).1
    omega
theorem Rd.grown {w w' : World} {b n base : Nat} {l : List Nat} {e : TypeId} {v : Value} {xs : List Value} (h : Rd w b l) (ho : w.ownsRow base e 1 v n xs) (he : e ≠ 5) (hg : w.grownBy w' v.ownBlock) (hb : b < base) : Rd w' b l := by
  obtain ⟨g, off, c, h1, h2, h3, cs, h4⟩ := h
  have hne : some b ≠ v.ownBlock := fun e => by have := (ho.lt b e.symm).1; omega
  have hgo : some g ≠ v.ownBlock := fun e' => by
    rcases ho.2 with ⟨rfl, _⟩ | ⟨g', cap, cur, rfl, _, hh, _⟩
    · cases e'
    · obtain rfl : g = g' := by simpa [Value.ownBlock] using e'
      have := hh.symm.trans h4
      simp at this
      exact he this.2
  exact ⟨g, off, c, (hg.block b (lt_of_block h1) hne).trans h1, ⟨h2.len, h2.small, h2.nil, fun ad e j u hu => by
    have h5 := h2.cells ad e j u hu
    cases e
    have e2 : ((⟨g, off, none⟩ : Addr).add j).block = g := by unfold Addr.add; split <;> simp_all
    exact (World.cell?_of_block (w := w) (w' := w') (a := (⟨g, off, none⟩ : Addr).add j) (by rw [e2]; exact hg.block g (lt_of_block h4) hgo)).trans h5, h2.cap⟩, h3, cs, (hg.block g (lt_of_block h4) hgo).trans h4⟩
theorem apt_grown {w w1 w2 : World} {b : Nat} {v : Value} (h : Apt w w1 b none) (hg : w1.grownBy w2 v.ownBlock) (hv : ∀ k, v.ownBlock = some k → w.heap.size ≤ k) : Apt w w2 b none :=
  ⟨hg.os.trans h.os, hg.tape.trans h.tape, hg.output.trans h.output, Nat.le_trans h.size hg.size, fun k hk hb hr => (hg.block k (Nat.lt_of_lt_of_le hk h.size) (fun e => by have := hv k e.symm; omega)).trans (h.block k hk hb hr)⟩
theorem cells1_cons (x : Int) (l : List Int) : cells1 (x :: l) = numL (x + 1).toNat ++ cells1 l := rfl
theorem cells1_ge (l : List Int) : l.length ≤ (cells1 l).length := by
  induction l with
  | nil => simp
  | cons x l ih =>
    have := numL_pos (x + 1).toNat
    rw [cells1_cons, List.length_append, List.length_cons]
    omega
theorem cells1_drop (l : List Int) (k : Nat) : (cells1 (l.drop k)).length ≤ (cells1 l).length := by
  have h : cells1 l = cells1 (l.take k) ++ cells1 (l.drop k) := by
    unfold cells1
    rw [← List.flatten_append, ← List.map_append, List.take_append_drop]
  rw [h, List.length_append]
  omega
theorem info3 : (Tryd.prog.info? 3).map (fun i => (i.zero, i.size, i.bytes)) = some (some (.int .i64 0), 1, 8) := by kernel_rfl
theorem Ev.apt {w w1 : World} {b : Nat} (h : Ev w) (ha : Apt w w1 b none) (hb : 0 < b ∧ 1 < b ∧ 3 < b) : Ev w1 := by
  obtain ⟨⟨E0, h0⟩, ⟨E1, h1⟩, ⟨E3, h3⟩⟩ := h
  have f : ∀ k v, k < b → w.cell? ⟨k, 0, none⟩ = some v → w1.cell? ⟨k, 0, none⟩ = some v := fun k v hk hv => (World.cell?_of_block (w := w) (w' := w1) (a := ⟨k, 0, none⟩) (ha.block k (World.block_lt_of_cell? _ _ hv) (by omega) (by simp))).trans hv
  exact ⟨⟨E0, f _ _ hb.1 h0⟩, ⟨E1, f _ _ hb.2.1 h1⟩, ⟨E3, f _ _ hb.2.2 h3⟩⟩
set_option maxHeartbeats 1000000 in
set_option maxRecDepth 10000 in
theorem irow_ok {w : World} {b : Nat} {xs : List Int} {s : List Nat} (h : Rd w b (rowL xs ++ s)) (hm : xs.length ≤ 1000) (hl : (rowL xs ++ s).length ≤ 900000) (hg : xs.any badR = false) (hE : Ev w) (hbE : 0 < b ∧ 1 < b ∧ 3 < b) :
    Calls Tryd.prog 29 #[.pointer (some ⟨b, 0, none⟩), .int .i64 xs.length, .int .i64 (-1), .int .i64 2147483647] w fun e w' => ∃ v, e = .returned v ∧ w'.ownsRow w.heap.size 3 1 v xs.length (xs.map encI) ∧ Rd w' b s ∧ Apt w w' b none := by
  obtain ⟨i0, hi, hz0, hz1, hz2⟩ := info_parts info3
  rw [rowL_eq, List.append_assoc] at h hl
  have hN := inum_ok h (by omega) hl hE (most := 2147483647) (by omega)
  have hb := h.lt
  have hlen : (cells1 xs ++ s).length ≤ 900000 := by
    have h2 := hl
    rw [List.length_append] at h2
    omega
  have hge : xs.length ≤ (cells1 xs ++ s).length := by have := cells1_ge xs; rw [List.length_append]; omega
  have hM : ∀ w1, Rd w1 b (cells1 xs ++ s) → ∃ (g off c L : Nat), w1.cell? ⟨b, 0, none⟩ = some (.slice (some ⟨g, off, none⟩) L c) ∧ w1.cell? ⟨b, 1, none⟩ = some .nilIface ∧ (xs.length : Int) ≤ (L : Int) := fun w1 hr => by
    obtain ⟨g, off, c, h0, h1⟩ := hr.cells
    exact ⟨g, off, c, _, h0, h1, by omega⟩
  have hS : ∀ w1 k x, xs[k]? = some x → Rd w1 b (cells1 (xs.drop k) ++ s) → Apt w w1 b none →
      ∃ m : Nat, ((m : Int) - 1 = x ∧ ¬ x < -1 ∧ ¬ 2147483647 < x ∧ wrap64 ((m : Int) - 1) = x) ∧ Calls Tryd.prog 19 #[.pointer (some ⟨b, 0, none⟩), .int .i64 2147483647] w1 (Reads w1 b (cells1 (xs.drop (k + 1)) ++ s) (.int .i64 m)) := by
    intro w1 k x hx hr ha
    obtain ⟨hk, rfl⟩ := List.getElem?_eq_some_iff.1 hx
    have hbr : badR xs[k] = false := by
      rw [List.any_eq_false] at hg
      simpa using hg _ (List.getElem_mem hk)
    unfold badR at hbr
    simp at hbr
    obtain ⟨m, hm⟩ := Int.eq_ofNat_of_zero_le (show 0 ≤ xs[k] + 1 by omega)
    refine ⟨m, ⟨by omega, by omega, by omega, by unfold wrap64; omega⟩, ?_⟩
    have e1 : cells1 (xs.drop k) ++ s = numL m ++ (cells1 (xs.drop (k + 1)) ++ s) := by
      rw [List.drop_eq_getElem_cons hk, cells1_cons, hm]
      simp
    have hl2 := cells1_drop xs k
    rw [List.length_append] at hlen
    rw [e1] at hr
    exact inum_ok hr (by omega) (by rw [← e1, List.length_append]; omega) (hE.apt ha hbE) (most := 2147483647) (by omega)
  have hT : ∀ k x, xs[k]? = some x → (xs.take (k + 1)).map encI = (xs.take k).map encI ++ [.int .i64 x] := by
    intro k x hx
    obtain ⟨hk, rfl⟩ := List.getElem?_eq_some_iff.1 hx
    rw [List.take_succ_eq_append_getElem hk, List.map_append]
    rfl
  have hn0 : ∀ k, k < xs.length → ∃ x, xs[k]? = some x := fun k hk => ⟨xs[k], List.getElem?_eq_getElem hk⟩
  have hend : (xs.take xs.length).map encI = xs.map encI ∧ cells1 (xs.drop xs.length) ++ s = s := ⟨by rw [List.take_length], by rw [List.drop_length]; rfl⟩
  have hr0 : ∀ w1, Rd w1 b (cells1 xs ++ s) → Rd w1 b (cells1 (xs.drop 0) ++ s) := fun w1 h => by simpa using h
  have hr1 : ∀ w1, Rd w1 b (cells1 xs ++ s) ↔ Rd w1 b (cells1 xs ++ s) := fun _ => Iff.rfl
  unfold Reads at hN
  replace hN := Lib.hid hN
  replace hM := Lib.hid hM
  replace hS := Lib.hid hS
  replace hT := Lib.hid hT
  replace hn0 := Lib.hid hn0
  replace hend := Lib.hid hend
  replace hr0 := Lib.hid hr0
  clear h hl hg hE hbE hlen hge hr1
  generalize xs.length = n at *
  have hbase := Lib.hid hb
  clear hb
  go_enter Tryd.func29, Tryd.ntmps29
  go_wp2_with (first
    | (go_at_call 19; (with_reducible refine hN.out.mono ?_); rintro e w1 ⟨rfl, hr, ha⟩; obtain ⟨g, off, c, L, h0, h1, hle⟩ := hM.out w1 hr; replace hr := Lib.hid (hr0.out _ hr); replace ha := Lib.hid ha; have hsz := ha.out.size)
    | (at_make; refine wpList_make_own _ rfl _ _ 31 rfl w.heap.size 3 i0 (.int .i64 0) 1 Tryd.underlying31 hi hz0 hz1 .i64 .i64 _ n rfl rfl (by omega) (by rw [hz2]; omega) (by simp [maxLen]; omega) hsz ?_; intro w2 hown hg2; replace hown := Lib.hid hown; replace hg2 := Lib.hid hg2))
  have hst : ∃ k : Nat, k ≤ n ∧ (.int .i64 0 : Value) = .int .i64 k ∧ Hid (w2.ownsRow w.heap.size 3 1 (.slice (some ⟨w1.heap.size, 0, none⟩) 0 n) k ((xs.take k).map encI)) ∧ Hid (Rd w2 b (cells1 (xs.drop k) ++ s)) ∧ Hid (Apt w w2 b none) :=
    ⟨0, by omega, rfl, by simpa using hown, Lib.hid (hr.out.bel (bel_of_grown hg2.out)), Lib.hid (ha.out.trans (.inl rfl) (Apt.of_bel (bel_of_grown hg2.out)))⟩
  replace hst := Lib.hid hst
  clear hown hg2 hr ha hsz h0 h1 hle hM hN hr0
  go_loopw [9, 32] (fun s9 s32 wr => ∃ k : Nat, k ≤ n ∧ s32 = .int .i64 k ∧ Hid (wr.ownsRow w.heap.size 3 1 s9 k ((xs.take k).map encI)) ∧ Hid (Rd wr b (cells1 (xs.drop k) ++ s)) ∧ Hid (Apt w wr b none)) (fun _ s32 _ => n - (intOf s32).toNat)
  case atStart => exact hst.out
  case round =>
    clear hst
    obtain ⟨k, hk, rfl, ho, hr, ha⟩ := hrel
    by_cases hlt : k < n
    · obtain ⟨x, hxk⟩ := hn0.out k hlt
      obtain ⟨m, ⟨hmx, hx1, hx2, hxw⟩, hc⟩ := hS.out _ k x hxk hr.out ha.out
      unfold Reads at hc
      replace hc := Lib.hid hc
      have hTk := Lib.hid (hT.out k x hxk)
      replace hxk := Lib.hid hxk
      replace hmx := Lib.hid hmx
      obtain ⟨p0, cap0, rfl, -, -, -⟩ := row_form ho.out
      have hown : ∀ w2, Apt wr w2 b none → Rd w2 b (cells1 (xs.drop (k + 1)) ++ s) → w2.ownsRow w.heap.size 3 1 (.slice p0 k cap0) k ((xs.take k).map encI) ∧ Apt w w2 b none ∧ ∃ g off c L, w2.cell? ⟨b, 1, none⟩ = some .nilIface ∧ w2.cell? ⟨b, 0, none⟩ = some (.slice (some ⟨g, off, none⟩) L c) := fun w2 ha2 hr2 => by
        obtain ⟨g, off, c, q0, q1⟩ := hr2.cells
        exact ⟨own_apt ho.out ha2 hbase.out, ha.out.trans (.inl rfl) ha2, g, off, c, _, q1, q0⟩
      replace hown := Lib.hid hown
      generalize hml : (xs.take k).map encI = ml at *
      replace hml := Lib.hid hml
      have h63 : k + 1 ≤ maxLen := by simp [maxLen]; omega
      go_wp2_with (first
        | (go_at_call 19; (with_reducible refine hc.out.mono ?_); rintro e w2 ⟨rfl, hr2, ha2⟩; obtain ⟨hown2, ha3, g2, off2, c2, L2, q1, -⟩ := hown.out w2 ha2 hr2; have hsz := ha3.size; replace ha3 := Lib.hid ha3; replace hr2 := Lib.hid hr2; clear ha2)
        | (at_builtin; refine wpList_append_own _ rfl _ _ 31 rfl w.heap.size 3 i0 (.int .i64 0) 1 8 Tryd.underlying31 hi hz0 hz1 hz2 rfl (by decide) _ _ _ rfl (hown2.alloc _) ⟨_, 0, none⟩ 1 1 [_] rfl rfl (cell_one_new _ _ _) (by simp [Value.oneCell']) h63 (by omega) (by simp; omega) ?_; intro v' w3 ho3 hg3 _; replace ho3 := Lib.hid ho3; replace hg3 := Lib.hid hg3))
      go_roundw
      case rel =>
        have e1 := Bel.new w2 (.cells #[.int .i64 x] 3)
        have hoa := hown2.alloc (.cells #[.int .i64 x] 3)
        refine ⟨k + 1, by omega, by go_num, Lib.hid ?_, Lib.hid ((hr2.out.bel e1).grown hoa (by decide) hg3.out hbase.out), Lib.hid (apt_grown (ha3.out.trans (.inl rfl) (Apt.of_bel e1)) hg3.out (fun k hk => (hoa.lt k hk).1))⟩
        rw [hTk.out]
        exact ho3.out
      case measure => simp [intOf]; omega
    · obtain rfl : k = n := by omega
      go_wp2
      go_ret
      refine ⟨_, rfl, ?_, ?_, ha.out⟩
      · rw [← hend.out.1]; exact ho.out
      · rw [← hend.out.2]; exact hr.out
end Go.Proofs.YtdhejbmmdbjpoaaDoor
