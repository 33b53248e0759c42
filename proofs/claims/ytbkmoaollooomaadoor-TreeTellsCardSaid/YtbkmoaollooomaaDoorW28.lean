/- The reference's Text: one byte of a set; a name; nothing. -/
import Derived.Test.YtbkmoaollooomaaDoorW23
import Derived.Test.YtbkmoaollooomaaDoorS6W13
namespace Go.Proofs.YtbkmoaollooomaaDoor
open Go.RowKit
open Go.Tree7
open S5 (nl nl_length nl_small at_nl nl_at nl_strN nl_inj)
open S1 (el eqB)
def GivesL (f : Nat → Bool) (w : World) (e : Ending) (w' : World) : Prop := S1.GivesBytes w (el f 256) e w'
theorem gives_l {f : Nat → Bool} {n : Nat} (hn : (el f 256).length = n) (w : World) (e : Ending) (w' : World) (h : GivesL f w e w') :
    ∃ (pv : Option Addr) (cv : Nat), e = .returned (.slice pv n cv) ∧ Below w.heap.size w w' ∧ ∀ c, el f 256 = [c] → ∃ g, pv = some ⟨g, 0, none⟩ ∧ g < w'.heap.size ∧ w'.cell? ⟨g, 0, none⟩ = some (.int .u8 (c : Nat)) := by
  obtain ⟨v, rfl, hrow, hb⟩ := h
  obtain ⟨pv, cv, rfl, -, -, hc⟩ := row_form hrow
  subst hn
  refine ⟨pv, cv, rfl, hb, fun c e => ?_⟩
  rw [e] at hc
  obtain ⟨g, h1, -, h2, h3⟩ := hc (by simp)
  exact ⟨g, h1, h2, by have := h3 0 (by simp); simpa using this⟩
set_option maxRecDepth 100000 in
set_option maxHeartbeats 4000000 in
theorem rtext1 (f : Nat → Bool) {u0 u1 u2 u3 : Int} (h0 : ((S1.wd f 0 : Nat) : Int) = u0) (h1 : ((S1.wd f 1 : Nat) : Int) = u1) (h2 : ((S1.wd f 2 : Nat) : Int) = u2) (h3 : ((S1.wd f 3 : Nat) : Int) = u3) (p : Option Addr) (len cap : Nat) (mn mx : Int) (tx : ByteArray) (w : World) :
    Calls Tryd.prog 12 #[.agg #[.int .i64 1, .int .u64 u0, .int .u64 u1, .int .u64 u2, .int .u64 u3, .slice p len cap, .int .i64 mn, .int .i64 mx, .string tx]] w fun e w' => e = .returned (.string (strN (oneL f))) ∧ Below w.heap.size w w' := by
  obtain ⟨n, hn⟩ : ∃ n, (el f 256).length = n := ⟨_, rfl⟩
  have L : ∀ w, Calls Tryd.prog 26 #[.agg #[.int .u64 u0, .int .u64 u1, .int .u64 u2, .int .u64 u3]] w (GivesL f w) := fun w => by have := S1.reflist_in f w; rw [h0, h1, h2, h3] at this; exact this
  have LO := Lib.hid (fun w e w' => gives_l hn w e w')
  have H : ∀ w, Calls Tryd.prog 28 #[.agg #[.int .u64 u0, .int .u64 u1, .int .u64 u2, .int .u64 u3], .int .i64 10] w fun e w' => e = .returned (.bool (f 10)) ∧ Below w.heap.size w w' := fun w => by have := S1.has_ref f 10 (by decide) w; rw [h0, h1, h2, h3] at this; exact this
  have X : ∀ w, Calls Tryd.prog 29 #[.agg #[.int .u64 u0, .int .u64 u1, .int .u64 u2, .int .u64 u3]] w fun e w' => e = .returned (.string (strN (S6.txtB f))) ∧ Below w.heap.size w w' := fun w => by have := S6.rtext_in f w; rw [h0, h1, h2, h3] at this; exact this
  replace L := Lib.hid L
  replace H := Lib.hid H
  replace X := Lib.hid X
  clear h0 h1 h2 h3
  have hB1 := Lib.hid ((Below.refl w.heap.size w).alloc (Nat.le_refl _) (.cells #[.int .i64 1, .int .u64 u0, .int .u64 u1, .int .u64 u2, .int .u64 u3, .slice p len cap, .int .i64 mn, .int .i64 mx, .string tx] 32))
  by_cases hn1 : n = 1
  · subst hn1
    obtain ⟨c, hc, hc5⟩ := el_one hn
    have P := Lib.hid (fun w => S5.rplain_in (po_sp hc5) w)
    have hL : oneL f = po c := by unfold oneL; rw [if_pos hn, hc]; rfl
    rw [hL]
    have hc' := Lib.hid hc
    generalize strN (po c) = F at *
    clear hL hc hn H X
    go_enter Tryd.func12, Tryd.ntmps12
    go_wp2_with (first | (go_at_call 26; (with_reducible refine (L.out _).mono ?_); intro e w1 hg; obtain ⟨pv, cv, rfl, hb1, hc0⟩ := LO.out _ e w1 hg; clear hg; obtain ⟨g, rfl, hgl, hcell⟩ := hc0 c hc'.out; clear hc0; replace hb1 := Lib.hid hb1) | (go_at_call 27; (with_reducible refine (P.out _).mono ?_); rintro e w2 ⟨rfl, hb2⟩; replace hb2 := Lib.hid hb2))
    go_ret
    exact ⟨rfl, hB1.out.trans ((hb1.out.mono hB1.out.size).trans (hb2.out.mono (Nat.le_trans hB1.out.size hb1.out.size)))⟩
  · have hne1 : ((n : Int) == 1) = false := by simp; omega
    have hdot := dot_of f
    rw [hn] at hdot
    have hL : oneL f = if eqB f dotS = true then [46] else S6.txtB f := by unfold oneL; rw [if_neg (by rw [hn]; exact hn1)]
    rw [hL]
    have l46 : strN [46] = ⟨#[46]⟩ := by decide +kernel
    generalize S6.txtB f = Z at *
    generalize f 10 = t at *
    generalize eqB f dotS = E at *
    clear hL hn hn1
    by_cases h255 : n = 255
    · subst h255
      cases t with
      | false =>
        rw [if_pos (hdot.2 ⟨rfl, rfl⟩), l46]
        clear hdot l46
        go_enter Tryd.func12, Tryd.ntmps12
        go_wp2_with (first | (go_at_call 26; (with_reducible refine (L.out _).mono ?_); intro e w1 hg; obtain ⟨pv, cv, rfl, hb1, hc0⟩ := LO.out _ e w1 hg; clear hg; have hk := cells_of (kept_row (World.alloc_heap_new w (.cells #[.int .i64 1, .int .u64 u0, .int .u64 u1, .int .u64 u2, .int .u64 u3, .slice p len cap, .int .i64 mn, .int .i64 mx, .string tx] 32)) hb1); have x1 := (hk 1 _ rfl).1; have x2 := (hk 2 _ rfl).1; have x3 := (hk 3 _ rfl).1; have x4 := (hk 4 _ rfl).1; have hk2 := Lib.hid (kept_row (World.alloc_heap_new w (.cells #[.int .i64 1, .int .u64 u0, .int .u64 u1, .int .u64 u2, .int .u64 u3, .slice p len cap, .int .i64 mn, .int .i64 mx, .string tx] 32)) hb1); clear hk; have hB2 := Lib.hid (hB1.out.trans (hb1.mono hB1.out.size)); clear hb1) | (go_at_call 28; (with_reducible refine (H.out _).mono ?_); rintro e w2 ⟨rfl, hb⟩; have hk := cells_of (kept_row hk2.out hb); have y1 := (hk 1 _ rfl).1; have y2 := (hk 2 _ rfl).1; have y3 := (hk 3 _ rfl).1; have y4 := (hk 4 _ rfl).1; clear hk; have hB3 := Lib.hid (hB2.out.trans (hb.mono hB2.out.size)); clear hb) | (go_at_call 29; (with_reducible refine (X.out _).mono ?_); rintro e w3 ⟨rfl, hb⟩; replace hb := Lib.hid hb))
        go_ret
        exact ⟨rfl, hB3.out⟩
      | true =>
        rw [if_neg (fun h => by have := (hdot.1 h).2; cases this)]
        generalize strN Z = F at *
        clear hdot l46
        go_enter Tryd.func12, Tryd.ntmps12
        go_wp2_with (first | (go_at_call 26; (with_reducible refine (L.out _).mono ?_); intro e w1 hg; obtain ⟨pv, cv, rfl, hb1, hc0⟩ := LO.out _ e w1 hg; clear hg; have hk := cells_of (kept_row (World.alloc_heap_new w (.cells #[.int .i64 1, .int .u64 u0, .int .u64 u1, .int .u64 u2, .int .u64 u3, .slice p len cap, .int .i64 mn, .int .i64 mx, .string tx] 32)) hb1); have x1 := (hk 1 _ rfl).1; have x2 := (hk 2 _ rfl).1; have x3 := (hk 3 _ rfl).1; have x4 := (hk 4 _ rfl).1; have hk2 := Lib.hid (kept_row (World.alloc_heap_new w (.cells #[.int .i64 1, .int .u64 u0, .int .u64 u1, .int .u64 u2, .int .u64 u3, .slice p len cap, .int .i64 mn, .int .i64 mx, .string tx] 32)) hb1); clear hk; have hB2 := Lib.hid (hB1.out.trans (hb1.mono hB1.out.size)); clear hb1) | (go_at_call 28; (with_reducible refine (H.out _).mono ?_); rintro e w2 ⟨rfl, hb⟩; have hk := cells_of (kept_row hk2.out hb); have y1 := (hk 1 _ rfl).1; have y2 := (hk 2 _ rfl).1; have y3 := (hk 3 _ rfl).1; have y4 := (hk 4 _ rfl).1; clear hk; have hB3 := Lib.hid (hB2.out.trans (hb.mono hB2.out.size)); clear hb) | (go_at_call 29; (with_reducible refine (X.out _).mono ?_); rintro e w3 ⟨rfl, hb⟩; replace hb := Lib.hid hb))
        go_ret
        exact ⟨rfl, hB3.out.trans (hb.out.mono hB3.out.size)⟩
    · have hne2 : ((n : Int) == 255) = false := by simp; omega
      rw [if_neg (fun h => h255 (hdot.1 h).1)]
      generalize strN Z = F at *
      clear hdot l46 h255
      go_enter Tryd.func12, Tryd.ntmps12
      go_wp2_with (first | (go_at_call 26; (with_reducible refine (L.out _).mono ?_); intro e w1 hg; obtain ⟨pv, cv, rfl, hb1, hc0⟩ := LO.out _ e w1 hg; clear hg; have hk := cells_of (kept_row (World.alloc_heap_new w (.cells #[.int .i64 1, .int .u64 u0, .int .u64 u1, .int .u64 u2, .int .u64 u3, .slice p len cap, .int .i64 mn, .int .i64 mx, .string tx] 32)) hb1); have x1 := (hk 1 _ rfl).1; have x2 := (hk 2 _ rfl).1; have x3 := (hk 3 _ rfl).1; have x4 := (hk 4 _ rfl).1; have hk2 := Lib.hid (kept_row (World.alloc_heap_new w (.cells #[.int .i64 1, .int .u64 u0, .int .u64 u1, .int .u64 u2, .int .u64 u3, .slice p len cap, .int .i64 mn, .int .i64 mx, .string tx] 32)) hb1); clear hk; have hB2 := Lib.hid (hB1.out.trans (hb1.mono hB1.out.size)); clear hb1) | (go_at_call 28; (with_reducible refine (H.out _).mono ?_); rintro e w2 ⟨rfl, hb⟩; have hk := cells_of (kept_row hk2.out hb); have y1 := (hk 1 _ rfl).1; have y2 := (hk 2 _ rfl).1; have y3 := (hk 3 _ rfl).1; have y4 := (hk 4 _ rfl).1; clear hk; have hB3 := Lib.hid (hB2.out.trans (hb.mono hB2.out.size)); clear hb) | (go_at_call 29; (with_reducible refine (X.out _).mono ?_); rintro e w3 ⟨rfl, hb⟩; replace hb := Lib.hid hb))
      go_ret
      exact ⟨rfl, hB2.out.trans (hb.out.mono hB2.out.size)⟩
set_option maxRecDepth 100000 in
set_option maxHeartbeats 4000000 in
theorem rtext5 {u0 u1 u2 u3 : Int} (p : Option Addr) (len cap : Nat) (mn mx : Int) (tx : ByteArray) (htx : tx.size ≤ 12) (w : World) :
    Calls Tryd.prog 12 #[.agg #[.int .i64 5, .int .u64 u0, .int .u64 u1, .int .u64 u2, .int .u64 u3, .slice p len cap, .int .i64 mn, .int .i64 mx, .string tx]] w fun e w' => e = .returned (.string (⟨#[123]⟩ ++ tx ++ ⟨#[125]⟩)) ∧ Below w.heap.size w w' := by
  go_enter Tryd.func12, Tryd.ntmps12
  go_wp2
  go_ret
  exact ⟨rfl, (Below.refl w.heap.size w).alloc (Nat.le_refl _) _⟩
set_option maxRecDepth 100000 in
set_option maxHeartbeats 4000000 in
theorem rtext20 {u0 u1 u2 u3 : Int} (p : Option Addr) (cap : Nat) (mn mx : Int) (tx : ByteArray) (w : World) :
    Calls Tryd.prog 12 #[.agg #[.int .i64 2, .int .u64 u0, .int .u64 u1, .int .u64 u2, .int .u64 u3, .slice p 0 cap, .int .i64 mn, .int .i64 mx, .string tx]] w fun e w' => e = .returned (.string ⟨#[40, 41]⟩) ∧ Below w.heap.size w w' := by
  go_enter Tryd.func12, Tryd.ntmps12
  go_wp2
  go_ret
  exact ⟨rfl, (Below.refl w.heap.size w).alloc (Nat.le_refl _) _⟩
end Go.Proofs.YtbkmoaollooomaaDoor
