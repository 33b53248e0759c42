/- The writer: one byte; Num, Byte, fail. -/
import Derived.Test.YtdhejbmmdbjpoaaDoorW1
import Derived.StillTailTactics
namespace Go.Proofs.YtdhejbmmdbjpoaaDoor
open Go.RowKit
theorem src_one (w : World) {x : Int} {c : Nat} (hx : x = c) (hc : c ≤ 255) : Src (w.alloc (.cells #[.int .u8 x] 5)) (some ⟨w.heap.size, 0, none⟩) 1 1 [c] := by
  subst hx
  exact Src.new w [c] 5 (0, 0) (by simpa using hc)
theorem put1_in {w : World} {b : Nat} {r : Option Nat} {l : List Nat} (h : Ou w b r l) {x : Int} {c : Nat} (hx : x = c) (hc : c ≤ 255) (hm : l.length ≤ 900000) :
    Calls Tryd.prog 23 #[.pointer (some ⟨b, 0, none⟩), .slice (some ⟨w.heap.size, 0, none⟩) 1 1] (w.alloc (.cells #[.int .u8 x] 5)) fun e w' => e = .returned (.tuple #[]) ∧ ∃ r', Ou w' b r' (l ++ [c]) ∧ Apt w w' b r ∧ Nxt w r r' := by
  refine (put_in (h.bel (Bel.new w _)) (src_one w hx hc) (by omega)).mono ?_
  rintro e w' ⟨rfl, r', h1, h2, h3⟩
  exact ⟨rfl, r', h1, (Apt.of_bel (Bel.new w _)).trans (.inl rfl) h2, Nxt.trans (Bel.new w _).size (.inl rfl) h3⟩
theorem num_len {n : Nat} (h : n ≤ 2147483647) : (numL n).length ≤ 5 := numL_len5 h

set_option maxRecDepth 10000 in
theorem onum_ok {w : World} {b : Nat} {r : Option Nat} {l : List Nat} (h : Ou w b r l) {n : Nat} (hn : n ≤ 2147483647) (hm : l.length ≤ 800000) :
    Calls Tryd.prog 8 #[.pointer (some ⟨b, 0, none⟩), .int .i64 n] w fun e w' => e = .returned (.tuple #[]) ∧ ∃ r', Ou w' b r' (l ++ numL n) ∧ Apt w w' b r ∧ Nxt w r r' := by
  have h5 := num_len hn
  have hn0 : ¬ ((n : Int) < 0) := by omega
  have hn1 : ¬ (2147483647 < (n : Int)) := by omega
  have hst : ∃ (m : Nat) (l1 : List Nat) (r1 : Option Nat), (.int .i64 n : Value) = .int .i64 m ∧ Hid (m ≤ 2147483647) ∧ Hid (l1 ++ numL m = l ++ numL n) ∧ Hid (Ou w b r1 l1) ∧ Hid (Apt w w b r) ∧ Hid (Nxt w r r1) := ⟨n, l, r, rfl, Lib.hid hn, Lib.hid rfl, Lib.hid h, Lib.hid (Apt.refl _ _ _), Lib.hid (.inl rfl)⟩
  have hL : Hid ((l ++ numL n).length ≤ 800005) := Lib.hid (by rw [List.length_append]; omega)
  replace hn := Lib.hid hn
  replace hst := Lib.hid hst
  clear h h5 hm
  go_enter Tryd.func8, Tryd.ntmps8
  go_wp2
  go_loopw [1] (fun s1 wr => ∃ (m : Nat) (l1 : List Nat) (r1 : Option Nat), s1 = .int .i64 m ∧ Hid (m ≤ 2147483647) ∧ Hid (l1 ++ numL m = l ++ numL n) ∧ Hid (Ou wr b r1 l1) ∧ Hid (Apt w wr b r) ∧ Hid (Nxt w r r1)) (fun s1 _ => (intOf s1).toNat)
  case atStart => exact hst.out
  case round =>
    clear hst
    obtain ⟨m, l1, r1, rfl, hmn, he, ho, ha, hx⟩ := hrel
    have hlen : Hid (l1.length ≤ 800005) := Lib.hid (by
      have h1 := hL.out
      rw [← he.out, List.length_append] at h1
      omega)
    by_cases hc : m < 128
    · have hc1 : ¬ (128 ≤ (m : Int)) := by omega
      have hp := Lib.hid (put1_in ho.out (x := (m : Int)) rfl (show m ≤ 255 by omega) (by have := hlen.out; omega))
      replace hc := Lib.hid hc
      replace hmn := Lib.hid hmn
      go_wp2_with (go_at_call 23; refine hp.out.mono ?_; rintro e w2 ⟨rfl, r2, ho2, ha2, hx2⟩; replace ho2 := Lib.hid ho2; replace ha2 := Lib.hid ha2; replace hx2 := Lib.hid hx2)
      go_end0
      refine ⟨rfl, r2, ?_, ha.out.trans hx.out ha2.out, Nxt.trans ha.out.size hx.out hx2.out⟩
      have he' := he.out
      rw [numL_lt hc.out] at he'
      rw [← he']
      exact ho2.out
    · have hc1 : 128 ≤ (m : Int) := by omega
      have hp := Lib.hid (put1_in ho.out (x := (m : Int) % 128 + 128) (c := m % 128 + 128) (by omega) (by omega) (by have := hlen.out; omega))
      replace hc := Lib.hid hc
      have hdiv : wrap64 ((m : Int) / 128) = (m : Int) / 128 := by have := hmn.out; unfold wrap64; omega
      go_wp2_with (go_at_call 23; refine hp.out.mono ?_; rintro e w2 ⟨rfl, r2, ho2, ha2, hx2⟩; replace ho2 := Lib.hid ho2; replace ha2 := Lib.hid ha2; replace hx2 := Lib.hid hx2)
      go_roundw
      case rel =>
        refine ⟨m / 128, l1 ++ [m % 128 + 128], r2, (by first | (rw [hdiv]; rfl) | rfl | (simp only [hdiv]; rfl)), Lib.hid (by have := hmn.out; omega), Lib.hid ?_, ho2, Lib.hid (ha.out.trans hx.out ha2.out), Lib.hid (Nxt.trans ha.out.size hx.out hx2.out)⟩
        rw [← he.out, numL_ge hc.out, List.append_assoc]; rfl
      case measure =>
        try rw [hdiv]
        simp [intOf]; omega

/-- A call that fails a writer. -/
theorem ofail_ok {w : World} {b : Nat} {r : Option Nat} {l : List Nat} (h : Ou w b r l) (E : Value) :
    Calls Tryd.prog 22 #[.pointer (some ⟨b, 0, none⟩), .iface 78 E] w fun e w' => e = .returned (.tuple #[]) ∧ Of w' b (.iface 78 E) ∧ Apt w w' b r := by
  obtain ⟨v, hv, ho, hr⟩ := h.ex
  have h0 : w.cell? ⟨b, 0, none⟩ = some v := (cell_of_row w b 0 _ _ _ hv).trans rfl
  have h1 : w.cell? ⟨b, 1, none⟩ = some .nilIface := (cell_of_row w b 1 _ _ _ hv).trans rfl
  have f0 : w.frozen? ⟨b, 0, none⟩ = false := frozen_of_row w b 0 _ _ hv
  have f1 : w.frozen? ⟨b, 1, none⟩ = false := frozen_of_row w b 1 _ _ hv
  obtain ⟨p2, cap2, rfl, -⟩ := row_form ho
  clear ho hr h
  go_enter Tryd.func22, Tryd.ntmps22
  go_wp2
  go_end0
  exact ⟨rfl, heap_set1 (heap_set0 hv), ((Apt.refl _ _ _).setCell _ _).setCell _ _⟩
theorem ofail_failed {w : World} {b : Nat} {E : Value} (h : Of w b (.iface 78 E)) (x : Value) :
    Calls Tryd.prog 22 #[.pointer (some ⟨b, 0, none⟩), x] w fun e w' => e = .returned (.tuple #[]) ∧ w = w' := by
  have h1 : w.cell? ⟨b, 1, none⟩ = some (.iface 78 E) := (cell_of_row w b 1 _ _ _ h).trans rfl
  go_enter Tryd.func22, Tryd.ntmps22
  go_wp2
  go_end0
  exact ⟨rfl, rfl⟩
theorem onum_bad {w : World} {b : Nat} {r : Option Nat} {l : List Nat} (h : Ou w b r l) {n : Int} (hn : n < 0 ∨ 2147483647 < n) {E : Value} (hE : w.cell? ⟨0, 0, none⟩ = some (.iface 78 E)) :
    Calls Tryd.prog 8 #[.pointer (some ⟨b, 0, none⟩), .int .i64 n] w fun e w' => e = .returned (.tuple #[]) ∧ Of w' b (.iface 78 E) ∧ Apt w w' b r := by
  have hf := Lib.hid (ofail_ok h E)
  rcases hn with h1 | h1
  · go_enter Tryd.func8, Tryd.ntmps8
    go_wp2_with (go_at_call 22; refine hf.out.mono ?_; rintro e w2 ⟨rfl, ho2, ha2⟩; replace ho2 := Lib.hid ho2; replace ha2 := Lib.hid ha2)
    refine bodyPost_ret (results_none rfl _ _ _) rfl ?_
    exact ⟨rfl, ho2.out, ha2.out⟩
  · have h2 : ¬ n < 0 := by omega
    go_enter Tryd.func8, Tryd.ntmps8
    go_wp2_with (go_at_call 22; refine hf.out.mono ?_; rintro e w2 ⟨rfl, ho2, ha2⟩; replace ho2 := Lib.hid ho2; replace ha2 := Lib.hid ha2)
    refine bodyPost_ret (results_none rfl _ _ _) rfl ?_
    exact ⟨rfl, ho2.out, ha2.out⟩
end Go.Proofs.YtdhejbmmdbjpoaaDoor
