/- The reader: Num; Read. -/
import Derived.Test.YtdhejbmmdbjpoaaDoorW6
namespace Go.Proofs.YtdhejbmmdbjpoaaDoor
open Go.RowKit
/-- What a Num of a reader did. -/
def NumDone (w : World) (b : Nat) (l : List Nat) (most : Int) (e : Ending) (w' : World) : Prop :=
  ((∃ p s, IsNum l p ∧ l = p ++ s ∧ valL p ≤ 2147483647 ∧ (valL p : Int) ≤ most ∧ e = .returned (.int .i64 (valL p : Nat)) ∧ Rd w' b s) ∨
   ((∀ p, IsNum l p → 2147483647 < valL p ∨ most < (valL p : Int)) ∧ e = .returned (.int .i64 0) ∧ ∃ E, Rf w' b (.iface 78 E))) ∧ Apt w w' b none
theorem Rf.bel {w w' : World} {b : Nat} {E : Value} (h : Rf w b E) (hb : Bel w w') : Rf w' b E := by
  obtain ⟨v, h⟩ := h
  exact ⟨v, (hb.block b (lt_of_block h)).trans h⟩
theorem isnum_eq {l p q : List Nat} (hp : IsNum l p) (hq : IsNum l q) : p = q := by
  obtain ⟨⟨s, e1⟩, h1, -⟩ := hp
  obtain ⟨⟨t, e2⟩, h2, -⟩ := hq
  exact (ends_unique p q s t h1 h2 (e1.symm.trans e2)).1
set_option maxHeartbeats 1000000 in
theorem inum_in {w : World} {b : Nat} {l : List Nat} (h : Rd w b l) (hm : l.length ≤ 900000) {E0 E1 E3 : Value}
    (h0 : w.cell? ⟨0, 0, none⟩ = some (.iface 78 E0)) (h1 : w.cell? ⟨1, 0, none⟩ = some (.iface 78 E1)) (h3 : w.cell? ⟨3, 0, none⟩ = some (.iface 78 E3)) (most : Int) :
    Calls Tryd.prog 19 #[.pointer (some ⟨b, 0, none⟩), .int .i64 most] w (NumDone w b l most) := by
  have hR := h
  obtain ⟨g, off, c, hb, hs, hgb⟩ := h
  have hFi := first_in hs hm h1 h3
  have hc0 : w.cell? ⟨b, 0, none⟩ = some (.slice (some ⟨g, off, none⟩) l.length c) := (cell_of_row w b 0 _ _ _ hb).trans rfl
  have hc1 : w.cell? ⟨b, 1, none⟩ = some .nilIface := (cell_of_row w b 1 _ _ _ hb).trans rfl
  have hFail : ∀ (E : Value) (w' : World), Bel w w' → Calls Tryd.prog 32 #[.pointer (some ⟨b, 0, none⟩), .iface 78 E] w' fun e w'' => e = .returned (.tuple #[]) ∧ Rf w'' b (.iface 78 E) ∧ Apt w' w'' b none := fun E w' hb => ifail_ok (hR.bel hb) E
  have h0' : ∀ w', Bel w w' → w'.cell? ⟨0, 0, none⟩ = some (.iface 78 E0) := fun w' hb => hb.cell (World.block_lt_of_cell? _ _ h0) h0
  replace hFail := Lib.hid hFail
  replace h0' := Lib.hid h0'
  by_cases hp : ∃ p, IsNum l p
  · obtain ⟨p, hp⟩ := hp
    have hF : Calls Tryd.prog 31 #[.slice (some ⟨g, off, none⟩) l.length c] w fun e w' => e = .returned (.tuple #[.int .i64 (valL p : Nat), .int .i64 p.length, .nilIface]) ∧ Bel w w' := by
      refine hFi.mono ?_
      rintro e w' ⟨⟨q, hq, rfl⟩ | ⟨hno, -⟩, hb⟩
      · rw [isnum_eq hp hq]; exact ⟨rfl, hb⟩
      · exact absurd ⟨p, hp⟩ hno
    obtain ⟨s, hsl⟩ := hp.1
    have hTake : ∀ w', Bel w w' → Calls Tryd.prog 33 #[.pointer (some ⟨b, 0, none⟩), .int .i64 p.length] w' fun e w'' => (∃ g off c, e = .returned (.slice (some ⟨g, off, none⟩) p.length c) ∧ Src w'' (some ⟨g, off, none⟩) p.length c p ∧ g ≠ b) ∧ Rd w'' b s ∧ Apt w' w'' b none := fun w' hb => take_in (by rw [← hsl]; exact hR.bel hb)
    replace hTake := Lib.hid hTake
    replace hF := Lib.hid hF
    clear hFi hR hs hb
    have hno : (2147483647 < valL p ∨ most < (valL p : Int)) → ∀ w', (∃ E, Rf w' b (.iface 78 E)) → Apt w w' b none → NumDone w b l most (.returned (.int .i64 0)) w' :=
      fun hbig w' hE ha => ⟨.inr ⟨fun q hq => by rw [isnum_eq hq hp]; exact hbig, rfl, hE⟩, ha⟩
    have hyes : valL p ≤ 2147483647 → (valL p : Int) ≤ most → ∀ w', Rd w' b s → Apt w w' b none → NumDone w b l most (.returned (.int .i64 (valL p : Nat))) w' := fun hx hy w' hr ha => ⟨.inl ⟨p, s, hp, hsl, hx, hy, rfl, hr⟩, ha⟩
    replace hno := Lib.hid hno
    replace hyes := Lib.hid hyes
    clear hsl hp
    generalize valL p = V at *
    by_cases k1 : most ≤ 2147483647
    · by_cases k2 : most < (V : Int)
      · have k3 := Lib.hid k2
        go_enter Tryd.func19, Tryd.ntmps19
        go_wp2_with (first
          | (go_at_call 31; (with_reducible refine hF.out.mono ?_); rintro e w1 ⟨rfl, hb1⟩; replace hb1 := Lib.hid hb1; have h0w := h0'.out _ hb1.out)
          | (go_at_call 32; (with_reducible refine (hFail.out _ _ hb1.out).mono ?_); rintro e w2 ⟨rfl, hr2, ha2⟩; replace hr2 := Lib.hid hr2; replace ha2 := Lib.hid ha2)
          | (go_at_call 33; (with_reducible refine (hTake.out _ hb1.out).mono ?_); rintro e w2 ⟨⟨g2, off2, c2, rfl, -, -⟩, hr2, ha2⟩; replace hr2 := Lib.hid hr2; replace ha2 := Lib.hid ha2))
        go_ret
        exact hno.out (.inr k2) _ ⟨_, hr2.out⟩ ((Apt.of_bel hb1.out).trans (.inl rfl) ha2.out)
    
      · have k3 := Lib.hid (show V ≤ 2147483647 by omega)
        go_enter Tryd.func19, Tryd.ntmps19
        go_wp2_with (first
          | (go_at_call 31; (with_reducible refine hF.out.mono ?_); rintro e w1 ⟨rfl, hb1⟩; replace hb1 := Lib.hid hb1)
          | (go_at_call 32; (with_reducible refine (hFail.out _ _ hb1.out).mono ?_); rintro e w2 ⟨rfl, hr2, ha2⟩; replace hr2 := Lib.hid hr2; replace ha2 := Lib.hid ha2)
          | (go_at_call 33; (with_reducible refine (hTake.out _ hb1.out).mono ?_); rintro e w2 ⟨⟨g2, off2, c2, rfl, -, -⟩, hr2, ha2⟩; replace hr2 := Lib.hid hr2; replace ha2 := Lib.hid ha2))
        go_ret
        exact hyes.out k3.out (by omega) _ hr2.out ((Apt.of_bel hb1.out).trans (.inl rfl) ha2.out)
    
    · by_cases k2 : 2147483647 < (V : Int)
      · have k3 := Lib.hid (show 2147483647 < V by omega)
        go_enter Tryd.func19, Tryd.ntmps19
        go_wp2_with (first
          | (go_at_call 31; (with_reducible refine hF.out.mono ?_); rintro e w1 ⟨rfl, hb1⟩; replace hb1 := Lib.hid hb1; have h0w := h0'.out _ hb1.out)
          | (go_at_call 32; (with_reducible refine (hFail.out _ _ hb1.out).mono ?_); rintro e w2 ⟨rfl, hr2, ha2⟩; replace hr2 := Lib.hid hr2; replace ha2 := Lib.hid ha2)
          | (go_at_call 33; (with_reducible refine (hTake.out _ hb1.out).mono ?_); rintro e w2 ⟨⟨g2, off2, c2, rfl, -, -⟩, hr2, ha2⟩; replace hr2 := Lib.hid hr2; replace ha2 := Lib.hid ha2))
        go_ret
        exact hno.out (.inl k3.out) _ ⟨_, hr2.out⟩ ((Apt.of_bel hb1.out).trans (.inl rfl) ha2.out)
    
      · have k3 := Lib.hid (show V ≤ 2147483647 by omega)
        have k4 := Lib.hid (show (V : Int) ≤ most by omega)
        go_enter Tryd.func19, Tryd.ntmps19
        go_wp2_with (first
          | (go_at_call 31; (with_reducible refine hF.out.mono ?_); rintro e w1 ⟨rfl, hb1⟩; replace hb1 := Lib.hid hb1)
          | (go_at_call 32; (with_reducible refine (hFail.out _ _ hb1.out).mono ?_); rintro e w2 ⟨rfl, hr2, ha2⟩; replace hr2 := Lib.hid hr2; replace ha2 := Lib.hid ha2)
          | (go_at_call 33; (with_reducible refine (hTake.out _ hb1.out).mono ?_); rintro e w2 ⟨⟨g2, off2, c2, rfl, -, -⟩, hr2, ha2⟩; replace hr2 := Lib.hid hr2; replace ha2 := Lib.hid ha2))
        go_ret
        exact hyes.out k3.out k4.out _ hr2.out ((Apt.of_bel hb1.out).trans (.inl rfl) ha2.out)
    
  · have hF : ∃ E, Calls Tryd.prog 31 #[.slice (some ⟨g, off, none⟩) l.length c] w fun e w' => (e = .returned (.tuple #[.int .i64 0, .int .i64 0, .iface 78 E1]) ∨ e = .returned (.tuple #[.int .i64 0, .int .i64 0, .iface 78 E3])) ∧ Bel w w' := ⟨E1, by
      refine hFi.mono ?_
      rintro e w' ⟨⟨q, hq, -⟩ | ⟨-, E, hE, rfl⟩, hb⟩
      · exact absurd ⟨q, hq⟩ hp
      · rcases hE with rfl | rfl
        · exact ⟨.inl rfl, hb⟩
        · exact ⟨.inr rfl, hb⟩⟩
    obtain ⟨-, hF⟩ := hF
    have hno : ∀ w', (∃ E, Rf w' b (.iface 78 E)) → Apt w w' b none → NumDone w b l most (.returned (.int .i64 0)) w' := fun w' hE ha => ⟨.inr ⟨fun q hq => absurd ⟨q, hq⟩ hp, rfl, hE⟩, ha⟩
    replace hno := Lib.hid hno
    replace hF := Lib.hid hF
    clear hFi hR hs hb hp
    go_enter Tryd.func19, Tryd.ntmps19
    go_wp2_with (first
      | (go_at_call 31; (with_reducible refine hF.out.mono ?_); rintro e w1 ⟨rfl | rfl, hb1⟩ <;> replace hb1 := Lib.hid hb1)
      | (go_at_call 32; (with_reducible refine (hFail.out _ _ hb1.out).mono ?_); rintro e w2 ⟨rfl, hr2, ha2⟩; replace hr2 := Lib.hid hr2; replace ha2 := Lib.hid ha2))
    all_goals
      go_ret
      exact hno.out _ ⟨_, hr2.out⟩ ((Apt.of_bel hb1.out).trans (.inl rfl) ha2.out)

/-- A new reader. -/
theorem read_in {w : World} {a : Option Addr} {n c : Nat} {l : List Nat} (hs : Src w a n c l) (hm : n ≤ 900000) :
    Calls Tryd.prog 18 #[.slice a n c] w fun e w' => ∃ b, e = .returned (.pointer (some ⟨b, 0, none⟩)) ∧ w.heap.size ≤ b ∧ Rd w' b l ∧ Below w.heap.size w w' := by
  obtain ⟨i0, hi, hz0, hz1, hz2⟩ := info_parts info5
  have hln := hs.len
  have hsm := hs.small
  have hone : ∀ u ∈ l.map encN, u.oneCell' = true := by intro u hu; obtain ⟨x, _, rfl⟩ := List.mem_map.1 hu; rfl
  have hlc : (l.map encN).length = n * 1 := by simp [hln]
  have hcs : ∀ ad, a = some ad → ∀ j u, (l.map encN)[j]? = some u → (w.alloc (.cells #[] 5)).cell? (ad.add j) = some u := (hs.bel (Bel.new w _)).cells
  have hnl := hs.nil
  have hown : (w.alloc (.cells #[] 5)).ownsRow w.heap.size 5 1 (.slice (some ⟨w.heap.size, 0, none⟩) 0 0) 0 [] := own_empty (World.alloc_heap_new w _) (Nat.le_refl _)
  have hb63 : 0 + n ≤ maxLen := by simp [maxLen]; omega
  have hB0 : Bel w (w.alloc (.cells #[] 5)) := Bel.new w _
  have hB := hB0.size
  have hform : ∀ (v2 : Value) (w2 : World), w2.ownsRow w.heap.size 5 1 v2 (0 + n) ([] ++ l.map encN) → (v2 = .slice none 0 0 ↔ (.slice (some ⟨w.heap.size, 0, none⟩) 0 0 : Value) = .slice none 0 0 ∧ n = 0) → ∃ g cap, v2 = .slice (some ⟨g, 0, none⟩) n cap ∧ (g < w2.heap.size ∧ ∃ cs, w2.heap[g]? = some (.cells cs 5 (0, 0))) ∧ Src w2 (some ⟨g, 0, none⟩) n cap l := by
    intro v2 w2 ho hne
    rw [Nat.zero_add, List.nil_append] at ho
    obtain ⟨p, cap, rfl, hsr⟩ := Src.of_owns ho hln hsm
    rcases ho.2 with ⟨h1, _⟩ | ⟨g, cap', cur, h1, _, hg, _⟩
    · exact absurd (hne.1 h1).1 (by simp)
    · simp only [Value.slice.injEq] at h1
      obtain ⟨rfl, -, rfl⟩ := h1
      exact ⟨g, cap, rfl, ⟨lt_of_block hg, cur, hg⟩, hsr⟩
  replace hform := Lib.hid hform
  replace hone := Lib.hid hone
  replace hcs := Lib.hid hcs
  replace hnl := Lib.hid hnl
  replace hlc := Lib.hid hlc
  replace hB0 := Lib.hid hB0
  replace hln := Lib.hid hln
  replace hsm := Lib.hid hsm
  clear hs
  cases a with
  | none =>
    obtain ⟨rfl, rfl⟩ := hnl.out rfl
    obtain rfl : l = [] := List.length_eq_zero_iff.1 hln.out
    go_enter Tryd.func18, Tryd.ntmps18
    go_wp2_with (at_builtin; refine wpList_append_own_none rfl _ _ 26 rfl w.heap.size 5 i0 1 Tryd.underlying26 hi _ 0 [] rfl hown rfl ?_)
    go_ret
    refine ⟨w.heap.size + 1, by simp, by omega, ⟨w.heap.size, 0, 0, ?_, ⟨rfl, fun x hx => (by cases hx), fun e => (by cases e), fun ad e j u hu => (by simp at hu), Nat.le_refl _⟩, by omega, #[], (Bel.new _ _).block _ (by simp) |>.trans (World.alloc_heap_new w _)⟩, hB0.out.alloc _⟩
    have := World.alloc_heap_new (w.alloc (.cells #[] 5)) (.cells #[.slice (some ⟨w.heap.size, 0, none⟩) 0 0, .nilIface] 61 (0, 0))
    rw [World.size_alloc] at this
    exact this
  | some ad =>
    go_enter Tryd.func18, Tryd.ntmps18
    go_wp2_with (at_builtin; refine wpList_append_own _ rfl _ _ 26 rfl w.heap.size 5 i0 (.int .u8 0) 1 1 Tryd.underlying26 hi hz0 hz1 hz2 rfl (by decide) _ 0 [] rfl hown ad n c (l.map encN) rfl hlc.out (hcs.out ad rfl) hone.out hb63 (by omega) hB ?_; intro v2 w2 ho2 hg2 hn2; obtain ⟨g, cap, rfl, ⟨hgl, hgc⟩, hsr⟩ := hform.out v2 w2 ho2 hn2; replace hgc := Lib.hid hgc; replace hsr := Lib.hid hsr; replace hg2 := Lib.hid hg2; clear ho2 hn2)
    go_ret
    have hb2 : Bel w w2 := Below.grown hB0.out hg2.out hB (fun k hk => by cases hk; exact Nat.le_refl _)
    refine ⟨w2.heap.size, by simp, hb2.size, ⟨g, 0, cap, ?_, ?_, by omega, by obtain ⟨cs, hc⟩ := hgc.out; exact ⟨cs, ((Bel.new w2 _).block g hgl).trans hc⟩⟩, hb2.alloc _⟩
    · have := World.alloc_heap_new w2 (.cells #[.slice (some ⟨g, 0, none⟩) n cap, .nilIface] 61 (0, 0))
      rw [hln.out]
      exact this
    · rw [hln.out]
      exact hsr.out.bel (Bel.new _ _)
end Go.Proofs.YtdhejbmmdbjpoaaDoor
