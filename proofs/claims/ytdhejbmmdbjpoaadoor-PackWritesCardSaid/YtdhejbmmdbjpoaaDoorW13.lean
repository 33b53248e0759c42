/- The reader where it reads what was written: Num, Byte, Bytes, Text, End. -/
import Derived.Test.YtdhejbmmdbjpoaaDoorW7
import Derived.Test.YtdhejbmmdbjpoaaDoorW12
namespace Go.Proofs.YtdhejbmmdbjpoaaDoor
open Go.RowKit
/-- The reader's error variables. -/
structure Ev (w : World) : Prop where
  range : ∃ E, w.cell? ⟨0, 0, none⟩ = some (.iface 78 E)
  short : ∃ E, w.cell? ⟨1, 0, none⟩ = some (.iface 78 E)
  form : ∃ E, w.cell? ⟨3, 0, none⟩ = some (.iface 78 E)
theorem Ev.bel {w w' : World} (h : Ev w) (hb : Bel w w') : Ev w' := by
  obtain ⟨⟨E0, h0⟩, ⟨E1, h1⟩, ⟨E3, h3⟩⟩ := h
  exact ⟨⟨E0, hb.cell (World.block_lt_of_cell? _ _ h0) h0⟩, ⟨E1, hb.cell (World.block_lt_of_cell? _ _ h1) h1⟩, ⟨E3, hb.cell (World.block_lt_of_cell? _ _ h3) h3⟩⟩
/-- What a reading call does that succeeds: it gives v, s is left. -/
def Reads (w : World) (b : Nat) (s : List Nat) (v : Value) (e : Ending) (w' : World) : Prop := e = .returned v ∧ Rd w' b s ∧ Apt w w' b none
theorem isnum_self {m : Nat} (h : m ≤ 2147483647) (s : List Nat) : IsNum (numL m ++ s) (numL m) := by
  refine ⟨⟨s, rfl⟩, numL_ends m, numL_len5 h, fun hne => ?_⟩
  by_cases h0 : (numL m).getLast hne = 0
  · have := numL_last m h0
    subst this
    exact .inl (by rw [numL_lt (by decide)]; rfl)
  · exact .inr h0
theorem inum_ok {w : World} {b m : Nat} {s : List Nat} (h : Rd w b (numL m ++ s)) (hm : m ≤ 2147483647) (hl : (numL m ++ s).length ≤ 900000) (hE : Ev w) {most : Int} (hmost : (m : Int) ≤ most) :
    Calls Tryd.prog 19 #[.pointer (some ⟨b, 0, none⟩), .int .i64 most] w (Reads w b s (.int .i64 m)) := by
  obtain ⟨⟨E0, h0⟩, ⟨E1, h1⟩, ⟨E3, h3⟩⟩ := hE
  refine (inum_in h hl h0 h1 h3 most).mono ?_
  have hq := isnum_self hm s
  rintro e w' ⟨⟨p, t, hp, ht, -, -, rfl, hr⟩ | ⟨hno, -, -⟩, ha⟩
  · obtain rfl := isnum_eq hp hq
    obtain rfl := List.append_cancel_left ht
    rw [numL_val]
    exact ⟨rfl, hr, ha⟩
  · have := hno _ hq
    rw [numL_val] at this
    omega
theorem Rd.cells {w : World} {b : Nat} {l : List Nat} (h : Rd w b l) : ∃ g off c, w.cell? ⟨b, 0, none⟩ = some (.slice (some ⟨g, off, none⟩) l.length c) ∧ w.cell? ⟨b, 1, none⟩ = some .nilIface := by
  obtain ⟨g, off, c, hb, -⟩ := h
  exact ⟨g, off, c, (cell_of_row w b 0 _ _ _ hb).trans rfl, (cell_of_row w b 1 _ _ _ hb).trans rfl⟩
theorem ibyte_ok {w : World} {b c : Nat} {s : List Nat} (h : Rd w b (c :: s)) :
    Calls Tryd.prog 25 #[.pointer (some ⟨b, 0, none⟩)] w (Reads w b s (.int .u8 c)) := by
  obtain ⟨g, off, cap, h0, h1⟩ := h.cells
  have hT : Calls Tryd.prog 33 #[.pointer (some ⟨b, 0, none⟩), .int .i64 1] w fun e w' => (∃ g off c', e = .returned (.slice (some ⟨g, off, none⟩) 1 c') ∧ Src w' (some ⟨g, off, none⟩) 1 c' [c] ∧ g ≠ b) ∧ Rd w' b s ∧ Apt w w' b none := take_in (x := [c]) (y := s) h
  replace hT := Lib.hid hT
  have hk : ((c :: s).length : Int) ≠ 0 := by simp; omega
  have hlen : (c :: s).length = s.length + 1 := rfl
  rw [hlen] at h0 hk
  clear h hlen
  unfold Reads
  go_enter Tryd.func25, Tryd.ntmps25
  go_wp2_with (go_at_call 33; (with_reducible refine hT.out.mono ?_); rintro e w2 ⟨⟨g2, off2, c2, rfl, hs2, -⟩, hr2, ha2⟩; have hc2 : w2.cell? ⟨g2, off2, none⟩ = some (.int .u8 (c : Int)) := (by obtain ⟨bb, oo, e, hq⟩ := hs2.at (by simp); cases e; simpa using hq 0 (by simp)); replace hr2 := Lib.hid hr2; replace ha2 := Lib.hid ha2; clear hs2)
  go_ret
  exact ⟨rfl, hr2.out, ha2.out⟩
/-- What counted gives. -/
def GivesPart (w : World) (b n : Nat) (x s : List Nat) (e : Ending) (w' : World) : Prop :=
  (∃ g off c, e = .returned (.slice (some ⟨g, off, none⟩) n c) ∧ Src w' (some ⟨g, off, none⟩) n c x ∧ g ≠ b) ∧ Rd w' b s ∧ Apt w w' b none
theorem icounted_ok {w : World} {b : Nat} {x s : List Nat} (h : Rd w b (numL x.length ++ (x ++ s))) (hm : x.length ≤ 400000) (hl : (numL x.length ++ (x ++ s)).length ≤ 900000) (hE : Ev w) {most : Int} (hmost : (x.length : Int) ≤ most) :
    Calls Tryd.prog 37 #[.pointer (some ⟨b, 0, none⟩), .int .i64 most] w (GivesPart w b x.length x s) := by
  have hN := inum_ok h (by omega) hl hE (most := 2147483647) (by omega)
  have hP : ∀ w1, Rd w1 b (x ++ s) → Apt w w1 b none → (∃ g off c, w1.cell? ⟨b, 0, none⟩ = some (.slice (some ⟨g, off, none⟩) (x.length + s.length) c) ∧ w1.cell? ⟨b, 1, none⟩ = some .nilIface) ∧
      Calls Tryd.prog 33 #[.pointer (some ⟨b, 0, none⟩), .int .i64 x.length] w1 (GivesPart w b x.length x s) := by
    intro w1 hr ha
    obtain ⟨g, off, c, h0, h1⟩ := hr.cells
    rw [List.length_append] at h0
    refine ⟨⟨g, off, c, h0, h1⟩, (take_in hr).mono ?_⟩
    rintro e w2 ⟨h1, h2, h3⟩
    exact ⟨h1, h2, ha.trans (.inl rfl) h3⟩
  replace hP := Lib.hid hP
  replace hN := Lib.hid hN
  clear h hE hl
  have hn1 : ¬ most < (x.length : Int) := by omega
  have hn2 : ¬ ((x.length : Int) + (s.length : Int) < (x.length : Int)) := by omega
  generalize x.length = n at *
  generalize s.length = m at *
  go_enter Tryd.func37, Tryd.ntmps37
  go_wp2_with (first
    | (go_at_call 19; (with_reducible refine hN.out.mono ?_); rintro e w1 ⟨rfl, hr, ha⟩; obtain ⟨⟨g, off, c, h0, h1⟩, hp⟩ := hP.out w1 hr ha; replace hp := Lib.hid hp; clear hr ha)
    | (go_at_call 33; (with_reducible refine hp.out.mono ?_); rintro e w2 ⟨⟨g2, off2, c2, rfl, h2⟩, h3⟩; replace h2 := Lib.hid h2; replace h3 := Lib.hid h3))
  go_ret
  exact ⟨⟨g2, off2, c2, rfl, h2.out⟩, h3.out⟩
theorem not_nil (g off n c : Nat) (w : World) : (binOp .eql 26 (.slice (some ⟨g, off, none⟩) n c) (.slice none 0 0)).run Tryd.prog w = .ok (.bool false) w := by
  kernel_rfl
set_option maxRecDepth 10000 in
theorem clone_in {w : World} {g off n c : Nat} {l : List Nat} (hs : Src w (some ⟨g, off, none⟩) n c l) (hm : n ≤ 400000) :
    Calls Tryd.prog 36 #[.slice (some ⟨g, off, none⟩) n c] w fun e w' => ∃ p cap, e = .returned (.slice p n cap) ∧ Src w' p n cap l ∧ Bel w w' := by
  obtain ⟨i0, hi, hz0, hz1, hz2⟩ := info_parts info5
  have hln := hs.len
  have hsm := hs.small
  have hone := enc_one l
  have hlc : (l.map encN).length = n * 1 := by simp [hln]
  have hcs : ∀ j u, (l.map encN)[j]? = some u → (w.alloc (.cells #[] 5)).cell? ((⟨g, off, none⟩ : Addr).add j) = some u := (hs.bel (Bel.new w _)).cells _ rfl
  have hown : (w.alloc (.cells #[] 5)).ownsRow w.heap.size 5 1 (.slice (some ⟨w.heap.size, 0, none⟩) 0 0) 0 [] := own_empty (World.alloc_heap_new w _) (Nat.le_refl _)
  have hb63 : 0 + n ≤ maxLen := by simp [maxLen]; omega
  have hB0 : Bel w (w.alloc (.cells #[] 5)) := Bel.new w _
  have hB := hB0.size
  have hnn := not_nil g off n c w
  have hform : ∀ (v2 : Value) (w2 : World), w2.ownsRow w.heap.size 5 1 v2 (0 + n) ([] ++ l.map encN) → ∃ p cap, v2 = .slice p n cap ∧ Src w2 p n cap l := by
    intro v2 w2 ho
    rw [Nat.zero_add, List.nil_append] at ho
    exact Src.of_owns ho hln hsm
  replace hform := Lib.hid hform
  replace hone := Lib.hid hone
  replace hcs := Lib.hid hcs
  replace hlc := Lib.hid hlc
  replace hB0 := Lib.hid hB0
  clear hs hln hsm
  go_enter Tryd.func36, Tryd.ntmps36
  go_wp2_with (at_builtin; refine wpList_append_own _ rfl _ _ 26 rfl w.heap.size 5 i0 (.int .u8 0) 1 1 Tryd.underlying26 hi hz0 hz1 hz2 rfl (by decide) _ 0 [] rfl hown ⟨g, off, none⟩ n c (l.map encN) rfl hlc.out hcs.out hone.out hb63 (by omega) hB ?_; intro v2 w2 ho2 hg2 hn2; obtain ⟨p, cap, rfl, hsr⟩ := hform.out v2 w2 ho2; replace hsr := Lib.hid hsr; replace hg2 := Lib.hid hg2; clear ho2 hn2)
  go_ret
  exact ⟨p, cap, rfl, hsr.out, Below.grown hB0.out hg2.out hB (fun k hk => by cases hk; exact Nat.le_refl _)⟩
theorem ibytes_ok {w : World} {b : Nat} {x s : List Nat} (h : Rd w b (numL x.length ++ (x ++ s))) (hm : x.length ≤ 400000) (hl : (numL x.length ++ (x ++ s)).length ≤ 900000) (hE : Ev w) {most : Int} (hmost : (x.length : Int) ≤ most) :
    Calls Tryd.prog 26 #[.pointer (some ⟨b, 0, none⟩), .int .i64 most] w fun e w' => ∃ p cap, e = .returned (.slice p x.length cap) ∧ Src w' p x.length cap x ∧ Rd w' b s ∧ Apt w w' b none := by
  have hC := Lib.hid (icounted_ok h hm hl hE hmost)
  have hK : ∀ w1 g off c, Src w1 (some ⟨g, off, none⟩) x.length c x → Rd w1 b s → Apt w w1 b none → Calls Tryd.prog 36 #[.slice (some ⟨g, off, none⟩) x.length c] w1 fun e w' => ∃ p cap, e = .returned (.slice p x.length cap) ∧ Src w' p x.length cap x ∧ Rd w' b s ∧ Apt w w' b none := by
    intro w1 g off c h1 h2 h3
    refine (clone_in h1 hm).mono ?_
    rintro e w2 ⟨p, cap, rfl, h4, h5⟩
    exact ⟨p, cap, rfl, h4, h2.bel h5, h3.trans (.inl rfl) (Apt.of_bel h5)⟩
  replace hK := Lib.hid hK
  clear h hE hl
  generalize x.length = n at *
  go_enter Tryd.func26, Tryd.ntmps26
  go_wp2_with (first
    | (go_at_call 37; (with_reducible refine hC.out.mono ?_); rintro e w1 ⟨⟨g, off, c, rfl, h2, -⟩, h3, h4⟩; have hK1 := Lib.hid (hK.out w1 g off c h2 h3 h4); clear h2 h3 h4)
    | (go_at_call 36; (with_reducible refine hK1.out.mono ?_); rintro e w2 ⟨p, cap, rfl, h4⟩; replace h4 := Lib.hid h4))
  go_ret
  exact ⟨p, cap, rfl, h4.out⟩
theorem itext_ok {w : World} {b : Nat} {x s : List Nat} (h : Rd w b (numL x.length ++ (x ++ s))) (hm : x.length ≤ 400000) (hl : (numL x.length ++ (x ++ s)).length ≤ 900000) (hE : Ev w) {most : Int} (hmost : (x.length : Int) ≤ most) :
    Calls Tryd.prog 27 #[.pointer (some ⟨b, 0, none⟩), .int .i64 most] w (Reads w b s (.string (strN x))) := by
  have hC := Lib.hid (icounted_ok h hm hl hE hmost)
  have hK : ∀ w1 g off c, Src w1 (some ⟨g, off, none⟩) x.length c x → (convert 26 9 (.slice (some ⟨g, off, none⟩) x.length c)).run Tryd.prog w1 = .ok (.string (strN x)) w1 := fun w1 g off c h => h.conv
  replace hK := Lib.hid hK
  clear h hE hl
  unfold Reads
  generalize x.length = n at *
  go_enter Tryd.func27, Tryd.ntmps27
  go_wp2_with (go_at_call 37; (with_reducible refine hC.out.mono ?_); rintro e w1 ⟨⟨g, off, c, rfl, h2, -⟩, h3⟩; have hK1 := hK.out w1 g off c h2; replace h3 := Lib.hid h3; clear h2)
  go_ret
  exact ⟨rfl, h3.out⟩
theorem iend_ok {w : World} {b : Nat} (h : Rd w b []) :
    Calls Tryd.prog 30 #[.pointer (some ⟨b, 0, none⟩)] w fun e w' => e = .returned .nilIface ∧ w = w' := by
  obtain ⟨g, off, c, h0, h1⟩ := h.cells
  have h0' : w.cell? ⟨b, 0, none⟩ = some (.slice (some ⟨g, off, none⟩) 0 c) := h0
  clear h h0
  go_enter Tryd.func30, Tryd.ntmps30
  go_wp2
  go_ret
  exact ⟨rfl, rfl⟩
end Go.Proofs.YtdhejbmmdbjpoaaDoor
