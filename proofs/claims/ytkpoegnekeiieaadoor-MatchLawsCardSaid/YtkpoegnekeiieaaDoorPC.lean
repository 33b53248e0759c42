/- Texts merged: S10W4, S10W5, S10W6. -/
import Derived.Laws.MakeOwn
import Derived.Test.YtkpoegnekeiieaaDoorPB
import Derived.Test.YtkpoegnekeiieaaDoorS1C
namespace Go.Proofs.YtkpoegnekeiieaaDoor
open Go.RowKit
open Go.Tree7
open S7
open S5 (nl nl_length nl_small at_nl nl_at Gives idx idx_at ix ix_no ix_yes)
/-- The words of a part's set. -/
def fit4 : Pt → Prop | .mk _ u0 u1 u2 u3 _ _ _ _ _ _ _ => (Lit.int .u64 u0).wf = true ∧ (Lit.int .u64 u1).wf = true ∧ (Lit.int .u64 u2).wf = true ∧ (Lit.int .u64 u3).wf = true
/-- Neither begun nor live. -/
theorem put89 {w : World} {g j xo : Nat} {l : List Pt} (hj : j < l.length) (hx : xo = j * 10) {k s0 s1 s2 s3 : Int} {p : Option Addr} {cap : Nat} {sk ag lv en : Bool} {ks : List Pt} (hl : l[j] = .mk k s0 s1 s2 s3 p cap sk ag lv en ks) (hr : PRow w g l) (lv' en' : Bool) :
    PRow ((w.setCell ⟨g, xo + 8, none⟩ (.bool lv')).setCell ⟨g, xo + 9, none⟩ (.bool en')) g (l.set j (.mk k s0 s1 s2 s3 p cap sk ag lv' en' ks)) := by
  subst hx
  have r2 := hr.put (q := 8) hj (by decide) (v := .bool lv') (y := .mk k s0 s1 s2 s3 p cap sk ag lv' en ks) (by rw [hl]; rfl)
  have e2 : (l.set j (.mk k s0 s1 s2 s3 p cap sk ag lv' en ks))[j]'(by simpa using hj) = .mk k s0 s1 s2 s3 p cap sk ag lv' en ks := by simp
  have r3 := r2.put (q := 9) (j := j) (by simpa using hj) (by decide) (v := .bool en') (y := .mk k s0 s1 s2 s3 p cap sk ag lv' en' ks) (by rw [e2]; rfl)
  rwa [List.set_set] at r3
theorem put98 {w : World} {g j xo : Nat} {l : List Pt} (hj : j < l.length) (hx : xo = j * 10) {k s0 s1 s2 s3 : Int} {p : Option Addr} {cap : Nat} {sk ag lv en : Bool} {ks : List Pt} (hr : PRow w g (l.set j (.mk k s0 s1 s2 s3 p cap sk ag lv en ks))) (lv' en' : Bool) :
    PRow ((w.setCell ⟨g, xo + 9, none⟩ (.bool en')).setCell ⟨g, xo + 8, none⟩ (.bool lv')) g (l.set j (.mk k s0 s1 s2 s3 p cap sk ag lv' en' ks)) := by
  subst hx
  have e1 : (l.set j (.mk k s0 s1 s2 s3 p cap sk ag lv en ks))[j]'(by simpa using hj) = .mk k s0 s1 s2 s3 p cap sk ag lv en ks := by simp
  have r2 := hr.put (q := 9) (j := j) (by simpa using hj) (by decide) (v := .bool en') (y := .mk k s0 s1 s2 s3 p cap sk ag lv en' ks) (by rw [e1]; rfl)
  rw [List.set_set] at r2
  have e2 : (l.set j (.mk k s0 s1 s2 s3 p cap sk ag lv en' ks))[j]'(by simpa using hj) = .mk k s0 s1 s2 s3 p cap sk ag lv en' ks := by simp
  have r3 := r2.put (q := 8) (j := j) (by simpa using hj) (by decide) (v := .bool lv') (y := .mk k s0 s1 s2 s3 p cap sk ag lv' en' ks) (by rw [e2]; rfl)
  rwa [List.set_set] at r3
set_option maxRecDepth 100000 in
set_option maxHeartbeats 4000000 in
theorem step_of : ∀ x : Pt, Pt.All fit4 x → StepOf x := by
  refine Pt.ind fun k s0 s1 s2 s3 p cap sk ag lv en ks ih => ?_
  intro hA w g j xo l lo hi hj hx hl hr ho hg hh c b hc
  obtain ⟨hf, hAk⟩ : fit4 (.mk k s0 s1 s2 s3 p cap sk ag lv en ks) ∧ ∀ x ∈ ks, Pt.All fit4 x := by cases hA with | mk h1 h2 => exact ⟨h1, h2⟩
  obtain ⟨x0, x1, x2, x3, x4, x5, x6, x7, x8, x9⟩ := hr.ten hj hx hl
  have f8 := hr.frozen (xo + 8)
  have f9 := hr.frozen (xo + 9)
  generalize hW : (w.setCell ⟨g, xo + 8, none⟩ (.bool false)).setCell ⟨g, xo + 9, none⟩ (.bool false) = W
  have hr1 : PRow W g (l.set j (.mk k s0 s1 s2 s3 p cap sk ag false false ks)) := by rw [← hW]; exact put89 hj hx hl hr false false
  have hjs : j < (l.set j (.mk k s0 s1 s2 s3 p cap sk ag false false ks)).length := by simpa using hj
  have hjl : (l.set j (.mk k s0 s1 s2 s3 p cap sk ag false false ks))[j] = .mk k s0 s1 s2 s3 p cap sk ag false false ks := by simp
  have hother : ∀ n, n ≠ g → W.heap[n]? = w.heap[n]? := fun n hn => by rw [← hW, Below.heap_setCell _ _ _ _ hn, Below.heap_setCell _ _ _ _ hn]
  have hsz : W.heap.size = w.heap.size := by rw [← hW, size_set, size_set]
  have hoW : POwn W lo hi (.mk k s0 s1 s2 s3 p cap sk ag false false ks) := (ho.flags k s0 s1 s2 s3 sk ag false false).keep fun n n1 n2 => hother n (by omega)
  have hfW : Fr (fun k => k = g ∨ (lo ≤ k ∧ k < hi)) w W := by rw [← hW]; exact ((Fr.refl _ w).set (.inl (.inl rfl)) _).set (.inl (.inl rfl)) _
  have hgive : ∀ {y : Pt} {e : Ending} {w' : World}, GivesStep W g j (l.set j (.mk k s0 s1 s2 s3 p cap sk ag false false ks)) lo hi y e w' → GivesStep w g j l lo hi y e w' := fun h => by
    obtain ⟨h1, h2, h3, h4⟩ := h
    rw [List.set_set] at h2
    exact ⟨h1, h2, h3, hfW.trans h4 fun n hn => .inl hn⟩
  have cR : ∀ B, (b || (ag && en)) = B → (!(b || (ag && en)) && !lv) = false → k = 2 ∨ k = 4 → Calls Tryd.prog 62 #[.pointer (some ⟨g, xo, none⟩), .int .u8 c, .bool B] W (GivesStep w g j l lo hi (stepP c (.mk k s0 s1 s2 s3 p cap sk ag lv en ks) b)) := fun B hB h0 hk => by
    rw [stepP, if_neg (by rw [h0]; exact Bool.false_ne_true), if_pos hk, hB]
    exact (row_in (fun x hx => ih x hx (hAk x hx)) W g j xo _ lo hi hjs hx hjl hr1 hoW hg (by omega) c B hc).mono fun e w' h => hgive h
  have cA : ∀ B, (b || (ag && en)) = B → (!(b || (ag && en)) && !lv) = false → k = 3 → Calls Tryd.prog 63 #[.pointer (some ⟨g, xo, none⟩), .int .u8 c, .bool B] W (GivesStep w g j l lo hi (stepP c (.mk k s0 s1 s2 s3 p cap sk ag lv en ks) b)) := fun B hB h0 hk => by
    rw [stepP, if_neg (by rw [h0]; exact Bool.false_ne_true), if_neg (by omega), if_pos hk, hB]
    exact (alt_in (fun x hx => ih x hx (hAk x hx)) W g j xo _ lo hi hjs hx hjl hr1 hoW hg (by omega) c B hc).mono fun e w' h => hgive h
  have hsame : (!(b || (ag && en)) && !lv) = true → GivesStep w g j l lo hi (stepP c (.mk k s0 s1 s2 s3 p cap sk ag lv en ks) b) (.returned (.tuple #[])) w := fun h0 => by
    rw [stepP, if_pos h0]
    exact ⟨rfl, by rw [← hl, List.set_getElem_self hj]; exact hr, ho, Fr.refl _ _⟩
  have hlast : ∀ B m, (b || (ag && en)) = B → (!(b || (ag && en)) && !lv) = false → ¬ k = 2 → ¬ k = 4 → ¬ k = 3 → m = (B && S1.mem4 s0.toNat s1.toNat s2.toNat s3.toNat c) → ∀ w9, Below W.heap.size W w9 → GivesStep w g j l lo hi (stepP c (.mk k s0 s1 s2 s3 p cap sk ag lv en ks) b) (.returned (.tuple #[])) ((w9.setCell ⟨g, xo + 9, none⟩ (.bool m)).setCell ⟨g, xo + 8, none⟩ (.bool m)) := fun B m hB h0 hk2 hk4 hk3 hm w9 hb9 => by
    rw [stepP, if_neg (by rw [h0]; exact Bool.false_ne_true), if_neg (by omega), if_neg hk3, hB, ← hm]
    have hgl := hr1.lt
    refine ⟨rfl, put98 hj hx (hr1.keep (hb9.block g hgl)) m m, ?_, ?_⟩
    · refine ((hoW.keep fun n n1 n2 => hb9.block n (by omega)).flags k s0 s1 s2 s3 sk ag m m).keep fun n n1 n2 => ?_
      rw [Below.heap_setCell _ _ _ _ (by show n ≠ g; omega), Below.heap_setCell _ _ _ _ (by show n ≠ g; omega)]
    · exact ((hfW.trans (Fr.of_bel (X := fun _ => False) hb9) fun _ h => h.elim).set (.inl (.inl rfl)) _).set (.inl (.inl rfl)) _
  have hcell : ∀ w9, Below W.heap.size W w9 → w9.frozen? ⟨g, xo + 9, none⟩ = false ∧ w9.frozen? ⟨g, xo + 8, none⟩ = false ∧ w9.cell? ⟨g, xo + 8, none⟩ = some (.bool false) ∧ w9.cell? ⟨g, xo + 9, none⟩ = some (.bool false) := fun w9 hb9 => by
    have h1 := hr1.keep (hb9.block g hr1.lt)
    obtain ⟨-, -, -, -, -, -, -, -, z8, z9⟩ := h1.ten hjs hx hjl
    exact ⟨h1.frozen _, h1.frozen _, z8, z9⟩
  obtain ⟨e0, e1, e2, e3⟩ := wd_f hf
  have cH : ∀ w', Calls Tryd.prog 64 #[.agg #[.int .u64 s0, .int .u64 s1, .int .u64 s2, .int .u64 s3], .int .u8 c] w' fun e w'' => e = .returned (.bool (S1.mem4 s0.toNat s1.toNat s2.toNat s3.toNat c)) ∧ Below w'.heap.size w' w'' := fun w' => by
    have := S1.has_in (S1.mem4 s0.toNat s1.toNat s2.toNat s3.toNat) c (by omega) w'
    rw [e0, e1, e2, e3] at this
    exact this
  subst W
  obtain ⟨G, hG⟩ : ∃ G, G = GivesStep w g j l lo hi (stepP c (.mk k s0 s1 s2 s3 p cap sk ag lv en ks) b) := ⟨_, rfl⟩
  simp only [← hG] at cR cA hsame hlast ⊢
  have hend : ∀ (e : Ending) (w' : World), G e w' → e = .returned (.tuple #[]) := fun e w' h => by rw [hG] at h; exact h.1
  generalize S1.mem4 s0.toNat s1.toNat s2.toNat s3.toNat c = M at *
  obtain ⟨d9, d8, q8, q9⟩ := (hcell _ (Below.refl _ _))
  replace hsame := Lib.hid hsame
  replace hlast := Lib.hid hlast
  replace hcell := Lib.hid hcell
  replace hend := Lib.hid hend
  replace cR := Lib.hid cR
  replace cA := Lib.hid cA
  replace cH := Lib.hid cH
  clear hx hl ih hr ho hA hAk hgive hr1 hjs hjl hother hsz hoW hfW hG x5 x6 e0 e1 e2 e3 hf hg hh hj
  go_enter Tryd.func37, Tryd.ntmps37
  go_wp2_with (first | (go_at_call 62; (with_reducible refine (cR.out _ ?_ ?_ ?_).mono ?_); (clear hlast hcell hsame cR cA cH; grind); (clear hlast hcell hsame cR cA cH; grind); (clear hlast hcell hsame cR cA cH; grind); rintro e w9 h9; obtain rfl := hend.out _ _ h9; replace h9 := Lib.hid h9) | (go_at_call 63; (with_reducible refine (cA.out _ ?_ ?_ ?_).mono ?_); (clear hlast hcell hsame cR cA cH; grind); (clear hlast hcell hsame cR cA cH; grind); (clear hlast hcell hsame cR cA cH; grind); rintro e w9 h9; obtain rfl := hend.out _ _ h9; replace h9 := Lib.hid h9) | (go_at_call 64; (with_reducible refine (cH.out _).mono ?_); rintro e w9 ⟨rfl, hb9⟩; obtain ⟨z9, z8, y8, y9⟩ := hcell.out _ hb9; replace hb9 := Lib.hid hb9))
  all_goals first
    | refine bodyPost_end (v := .tuple #[]) (by simp [results, Tryd.results37, go_sem]) rfl ?_
    | refine bodyPost_ret (v := .tuple #[]) (by simp [results, Tryd.results37, go_sem]) rfl ?_
  all_goals first
    | exact h9.out
    | exact hsame.out (by clear hlast hcell hsame cR cA cH; grind)
    | exact hlast.out _ _ rfl (by clear hlast hcell hsame cR cA cH; grind) (by clear hlast hcell hsame cR cA cH; grind) (by clear hlast hcell hsame cR cA cH; grind) (by clear hlast hcell hsame cR cA cH; grind) (by clear hlast hcell hsame cR cA cH; grind) _ hb9.out
    | exact hlast.out _ _ rfl (by clear hlast hcell hsame cR cA cH; grind) (by clear hlast hcell hsame cR cA cH; grind) (by clear hlast hcell hsame cR cA cH; grind) (by clear hlast hcell hsame cR cA cH; grind) (by clear hlast hcell hsame cR cA cH; grind) _ (Below.refl _ _)
end Go.Proofs.YtkpoegnekeiieaaDoor
namespace Go.Proofs.YtkpoegnekeiieaaDoor
open Go.RowKit
open Go.Tree7
open S7
open S5 (nl nl_length nl_small at_nl nl_at Gives idx idx_at ix ix_no ix_yes)
set_option maxRecDepth 10000 in
set_option maxHeartbeats 1000000 in
theorem askip_in (x : Pt) (w : World) : Calls Tryd.prog 82 #[.agg x.cells.toArray] w fun e w' => e = .returned (.bool ((fun x : Pt => !x.sk) x)) ∧ Below w.heap.size w w' := by
  obtain ⟨k, s0, s1, s2, s3, p, cap, sk, ag, lv, en, ks⟩ := x
  simp only [Pt.cells, Pt.sk]
  go_enter Tryd.func82, Tryd.ntmps82
  go_wp2
  go_ret
  exact ⟨rfl, (Below.refl _ _).alloc (Nat.le_refl _) _⟩
set_option maxRecDepth 10000 in
set_option maxHeartbeats 4000000 in
theorem askip_index {w : World} {g cap : Nat} {p : Option Addr} {l : List Pt} (hp : 0 < l.length → p = some ⟨g, 0, none⟩ ∧ PRow w g l) (hc : l.length ≤ cap) (hm : cap ≤ maxLen) :
    Calls Tryd.prog 83 #[.slice p l.length cap, .func (.func 82) #[] #[]] w fun e w' => ∃ i : Int, e = .returned (.int .i64 i) ∧ (decide (0 ≤ i) = l.any (fun x : Pt => !x.sk)) ∧ Below w.heap.size w w' := by
  have hks : l.length ≤ 9223372036854775807 := by unfold maxLen at hm; omega
  have hyes : Hid (∀ (j : Nat) (h1 : j < l.length), (fun x : Pt => !x.sk) l[j] = true → l.any (fun x : Pt => !x.sk) = true) := Lib.hid fun j h1 h => List.any_eq_true.2 ⟨_, List.getElem_mem h1, h⟩
  have hno : Hid ((∀ i (h1 : i < l.length), (fun x : Pt => !x.sk) l[i] = false) → l.any (fun x : Pt => !x.sk) = false) := Lib.hid fun h => by
    cases e : l.any (fun x : Pt => !x.sk) with
    | false => rfl
    | true =>
      obtain ⟨t, ht, e⟩ := List.any_eq_true.1 e
      obtain ⟨i, hi, rfl⟩ := List.getElem_of_mem ht
      exact absurd (e.symm.trans (h i hi)) (by decide)
  have cF := Lib.hid (fun x w => askip_in x w)
  replace hp := Lib.hid hp
  clear hc hm
  obtain ⟨R, hR⟩ : ∃ R, R = l.any (fun x : Pt => !x.sk) := ⟨_, rfl⟩
  rw [← hR] at hyes hno ⊢
  clear hR
  go_enter Tryd.func83, Tryd.ntmps83
  go_wp2
  go_loopw [8] (fun i wr => ∃ j : Nat, j ≤ l.length ∧ i = .int .i64 j ∧ Hid (Below w.heap.size w wr) ∧ Hid (∀ i (h1 : i < l.length), i < j → (fun x : Pt => !x.sk) l[i] = false)) (fun i _ => l.length - (intOf i).toNat)
  case atStart => exact ⟨0, Nat.zero_le _, rfl, Lib.hid (Below.refl _ _), Lib.hid fun i h1 h => by omega⟩
  case round =>
    obtain ⟨j, hj, rfl, hB, hso⟩ := hrel
    by_cases hlt : j < l.length
    · obtain ⟨hp1, hr⟩ := hp.out (by omega)
      subst hp1
      have hrw := hr.keep (hB.out.block g hr.lt)
      have hyes2 := Lib.hid (hyes.out j hlt)
      have hso2 : Hid ((fun x : Pt => !x.sk) l[j] = false → ∀ i (h1 : i < l.length), i < j + 1 → (fun x : Pt => !x.sk) l[i] = false) := Lib.hid fun h i h1 h3 => by
        by_cases e : i = j
        · subst e; exact h
        · exact hso.out i h1 (by omega)
      have cK := cF.out l[j]
      have hten := fun k s0 s1 s2 s3 p cap sk ag lv en ks (e : l[j] = .mk k s0 s1 s2 s3 p cap sk ag lv en ks) => hrw.ten hlt (rfl : j * 10 = j * 10) e
      generalize l[j] = x at *
      obtain ⟨k, s0, s1, s2, s3, p, cap', sk, ag, lv, en, ks⟩ := x
      obtain ⟨x0, x1, x2, x3, x4, x5, x6, x7, x8, x9⟩ := hten _ _ _ _ _ _ _ _ _ _ _ _ rfl
      simp only [Pt.cells, Pt.sk] at cK hyes2 hso2
      replace cK := Lib.hid cK
      clear hten hr hrw
      cases sk <;>
      · go_wp2_with (go_at_call 82; (with_reducible refine (cK.out _).mono ?_); rintro e w2 ⟨rfl, hb2⟩; replace hb2 := Lib.hid hb2)
        first
          | (go_ret; exact ⟨j, rfl, by rw [hyes2.out (by first | rfl | trivial)]; simp, hB.out.trans (hb2.out.mono hB.out.size)⟩)
          | exact ⟨⟨j + 1, by omega, by go_num, Lib.hid (hB.out.trans (hb2.out.mono hB.out.size)), Lib.hid (hso2.out (by first | rfl | trivial))⟩, by simp [intOf]; omega⟩
    · obtain rfl : j = l.length := by omega
      go_wp2
      go_ret
      exact ⟨-1, rfl, by rw [hno.out fun i hi => hso.out i hi hi]; rfl, hB.out⟩
theorem askip_some {w : World} {g cap : Nat} {p : Option Addr} {l : List Pt} (hp : 0 < l.length → p = some ⟨g, 0, none⟩ ∧ PRow w g l) (hc : l.length ≤ cap) (hm : cap ≤ maxLen) :
    Calls Tryd.prog 59 #[.slice p l.length cap, .func (.func 82) #[] #[]] w fun e w' => e = .returned (.bool (l.any (fun x : Pt => !x.sk))) ∧ Below w.heap.size w w' := by
  have cI := Lib.hid (askip_index hp hc hm)
  clear hp hc hm
  go_enter Tryd.func59, Tryd.ntmps59
  go_wp2_with (go_at_call 83; (with_reducible refine cI.out.mono ?_); rintro e w2 ⟨i, rfl, hi, hb⟩; replace hb := Lib.hid hb)
  go_ret
  exact ⟨ret_bool (by simp), hb.out⟩
set_option maxRecDepth 10000 in
set_option maxHeartbeats 1000000 in
theorem skip_in (x : Pt) (w : World) : Calls Tryd.prog 60 #[.agg x.cells.toArray] w fun e w' => e = .returned (.bool ((fun x : Pt => x.sk) x)) ∧ Below w.heap.size w w' := by
  obtain ⟨k, s0, s1, s2, s3, p, cap, sk, ag, lv, en, ks⟩ := x
  simp only [Pt.cells, Pt.sk]
  go_enter Tryd.func60, Tryd.ntmps60
  go_wp2
  go_ret
  exact ⟨rfl, (Below.refl _ _).alloc (Nat.le_refl _) _⟩
set_option maxRecDepth 10000 in
set_option maxHeartbeats 4000000 in
theorem skip_index {w : World} {g cap : Nat} {p : Option Addr} {l : List Pt} (hp : 0 < l.length → p = some ⟨g, 0, none⟩ ∧ PRow w g l) (hc : l.length ≤ cap) (hm : cap ≤ maxLen) :
    Calls Tryd.prog 83 #[.slice p l.length cap, .func (.func 60) #[] #[]] w fun e w' => ∃ i : Int, e = .returned (.int .i64 i) ∧ (decide (0 ≤ i) = l.any (fun x : Pt => x.sk)) ∧ Below w.heap.size w w' := by
  have hks : l.length ≤ 9223372036854775807 := by unfold maxLen at hm; omega
  have hyes : Hid (∀ (j : Nat) (h1 : j < l.length), (fun x : Pt => x.sk) l[j] = true → l.any (fun x : Pt => x.sk) = true) := Lib.hid fun j h1 h => List.any_eq_true.2 ⟨_, List.getElem_mem h1, h⟩
  have hno : Hid ((∀ i (h1 : i < l.length), (fun x : Pt => x.sk) l[i] = false) → l.any (fun x : Pt => x.sk) = false) := Lib.hid fun h => by
    cases e : l.any (fun x : Pt => x.sk) with
    | false => rfl
    | true =>
      obtain ⟨t, ht, e⟩ := List.any_eq_true.1 e
      obtain ⟨i, hi, rfl⟩ := List.getElem_of_mem ht
      exact absurd (e.symm.trans (h i hi)) (by decide)
  have cF := Lib.hid (fun x w => skip_in x w)
  replace hp := Lib.hid hp
  clear hc hm
  obtain ⟨R, hR⟩ : ∃ R, R = l.any (fun x : Pt => x.sk) := ⟨_, rfl⟩
  rw [← hR] at hyes hno ⊢
  clear hR
  go_enter Tryd.func83, Tryd.ntmps83
  go_wp2
  go_loopw [8] (fun i wr => ∃ j : Nat, j ≤ l.length ∧ i = .int .i64 j ∧ Hid (Below w.heap.size w wr) ∧ Hid (∀ i (h1 : i < l.length), i < j → (fun x : Pt => x.sk) l[i] = false)) (fun i _ => l.length - (intOf i).toNat)
  case atStart => exact ⟨0, Nat.zero_le _, rfl, Lib.hid (Below.refl _ _), Lib.hid fun i h1 h => by omega⟩
  case round =>
    obtain ⟨j, hj, rfl, hB, hso⟩ := hrel
    by_cases hlt : j < l.length
    · obtain ⟨hp1, hr⟩ := hp.out (by omega)
      subst hp1
      have hrw := hr.keep (hB.out.block g hr.lt)
      have hyes2 := Lib.hid (hyes.out j hlt)
      have hso2 : Hid ((fun x : Pt => x.sk) l[j] = false → ∀ i (h1 : i < l.length), i < j + 1 → (fun x : Pt => x.sk) l[i] = false) := Lib.hid fun h i h1 h3 => by
        by_cases e : i = j
        · subst e; exact h
        · exact hso.out i h1 (by omega)
      have cK := cF.out l[j]
      have hten := fun k s0 s1 s2 s3 p cap sk ag lv en ks (e : l[j] = .mk k s0 s1 s2 s3 p cap sk ag lv en ks) => hrw.ten hlt (rfl : j * 10 = j * 10) e
      generalize l[j] = x at *
      obtain ⟨k, s0, s1, s2, s3, p, cap', sk, ag, lv, en, ks⟩ := x
      obtain ⟨x0, x1, x2, x3, x4, x5, x6, x7, x8, x9⟩ := hten _ _ _ _ _ _ _ _ _ _ _ _ rfl
      simp only [Pt.cells, Pt.sk] at cK hyes2 hso2
      replace cK := Lib.hid cK
      clear hten hr hrw
      cases sk <;>
      · go_wp2_with (go_at_call 60; (with_reducible refine (cK.out _).mono ?_); rintro e w2 ⟨rfl, hb2⟩; replace hb2 := Lib.hid hb2)
        first
          | (go_ret; exact ⟨j, rfl, by rw [hyes2.out (by first | rfl | trivial)]; simp, hB.out.trans (hb2.out.mono hB.out.size)⟩)
          | exact ⟨⟨j + 1, by omega, by go_num, Lib.hid (hB.out.trans (hb2.out.mono hB.out.size)), Lib.hid (hso2.out (by first | rfl | trivial))⟩, by simp [intOf]; omega⟩
    · obtain rfl : j = l.length := by omega
      go_wp2
      go_ret
      exact ⟨-1, rfl, by rw [hno.out fun i hi => hso.out i hi hi]; rfl, hB.out⟩
theorem skip_some {w : World} {g cap : Nat} {p : Option Addr} {l : List Pt} (hp : 0 < l.length → p = some ⟨g, 0, none⟩ ∧ PRow w g l) (hc : l.length ≤ cap) (hm : cap ≤ maxLen) :
    Calls Tryd.prog 59 #[.slice p l.length cap, .func (.func 60) #[] #[]] w fun e w' => e = .returned (.bool (l.any (fun x : Pt => x.sk))) ∧ Below w.heap.size w w' := by
  have cI := Lib.hid (skip_index hp hc hm)
  clear hp hc hm
  go_enter Tryd.func59, Tryd.ntmps59
  go_wp2_with (go_at_call 83; (with_reducible refine cI.out.mono ?_); rintro e w2 ⟨i, rfl, hi, hb⟩; replace hb := Lib.hid hb)
  go_ret
  exact ⟨ret_bool (by simp), hb.out⟩
theorem any_notP (l : List Pt) : (!l.any (fun x : Pt => !x.sk)) = l.all Pt.sk := by
  induction l with
  | nil => rfl
  | cons x l ih => rw [List.any_cons, List.all_cons, ← ih, Bool.not_or, Bool.not_not]
theorem allSkip_in {w : World} {g cap : Nat} {p : Option Addr} {l : List Pt} (hp : 0 < l.length → p = some ⟨g, 0, none⟩ ∧ PRow w g l) (hc : l.length ≤ cap) (hm : cap ≤ maxLen) :
    Calls Tryd.prog 58 #[.slice p l.length cap] w fun e w' => e = .returned (.bool (l.all Pt.sk)) ∧ Below w.heap.size w w' := by
  have cI := askip_some hp hc hm
  rw [← any_notP]
  generalize (l.any fun x : Pt => !x.sk) = R at *
  replace cI := Lib.hid cI
  clear hp hc hm
  go_enter Tryd.func58, Tryd.ntmps58
  go_wp2_with (go_at_call 59; (with_reducible refine cI.out.mono ?_); rintro e w2 ⟨rfl, hb⟩; replace hb := Lib.hid hb)
  go_ret
  exact ⟨rfl, hb.out⟩
end Go.Proofs.YtkpoegnekeiieaaDoor
namespace Go.Proofs.YtkpoegnekeiieaaDoor
open Go.RowKit
open Go.Tree7
open S7
open S5 (nl nl_length nl_small at_nl nl_at Gives idx idx_at ix ix_no ix_yes)
theorem infoP : (Tryd.prog.info? 75).map (fun i => (i.zero, i.size, i.bytes)) = some (some (.agg #[.int .i64 0, .int .u64 0, .int .u64 0, .int .u64 0, .int .u64 0, .slice none 0 0, .bool false, .bool false, .bool false, .bool false]), 10, 72) := by kernel_rfl
theorem undPs : Tryd.prog.underlying 73 = some (.slice 75) := by kernel_rfl
abbrev zeroP : Pt := .mk 0 0 0 0 0 none 0 false false false false []
theorem make_parts {n : Nat} (hn : n ≤ 1000000) (W : World) : (Instr.makeSlice 73 (.int .i64 n) (.int .i64 n)).run Tryd.prog W = .ok (.slice (some ⟨W.heap.size, 0, none⟩) n n) (W.alloc (.cells (madeCells #[.int .i64 0, .int .u64 0, .int .u64 0, .int .u64 0, .int .u64 0, .slice none 0 0, .bool false, .bool false, .bool false, .bool false] (n * 10)) 75)) := by
  have i := infoP
  cases hi : Tryd.prog.info? 75 with
  | none => rw [hi] at i; cases i
  | some i0 =>
    rw [hi] at i
    simp only [Option.map_some, Option.some.injEq, Prod.mk.injEq] at i
    obtain ⟨hz0, hz1, hz2⟩ := i
    have h := run_make (P := Tryd.prog) W 73 75 i0 (.agg #[.int .i64 0, .int .u64 0, .int .u64 0, .int .u64 0, .int .u64 0, .slice none 0 0, .bool false, .bool false, .bool false, .bool false]) undPs hi hz0 .i64 .i64 (n : Int) (n : Int) (by omega) (Int.le_refl _) (by rw [hz2]; omega) (by omega)
    have e2 : (Value.agg #[.int .i64 0, .int .u64 0, .int .u64 0, .int .u64 0, .int .u64 0, .slice none 0 0, .bool false, .bool false, .bool false, .bool false]).cells = #[.int .i64 0, .int .u64 0, .int .u64 0, .int .u64 0, .int .u64 0, .slice none 0 0, .bool false, .bool false, .bool false, .bool false] := by simp [Value.cells]
    rw [hz1, e2] at h
    simpa using h
theorem made_row {W : World} {g n : Nat} (h : W.heap[g]? = some (.cells (madeCells #[.int .i64 0, .int .u64 0, .int .u64 0, .int .u64 0, .int .u64 0, .slice none 0 0, .bool false, .bool false, .bool false, .bool false] (n * 10)) 75 (0, 0))) : PRow W g (List.replicate n zeroP) := by
  refine ⟨_, h, fun i hi q hq => ?_⟩
  rw [List.length_replicate] at hi
  rw [List.getElem_replicate]
  unfold madeCells
  rw [Array.getElem?_map, Array.getElem?_eq_getElem (by rw [Array.size_range]; omega), Array.getElem_range, Option.map_some]
  have e : (i * 10 + q) % (#[.int .i64 0, .int .u64 0, .int .u64 0, .int .u64 0, .int .u64 0, .slice none 0 0, .bool false, .bool false, .bool false, .bool false] : Array Value).size = q := by
    show (i * 10 + q) % 10 = q
    omega
  rw [e]
  have hc : q = 0 ∨ q = 1 ∨ q = 2 ∨ q = 3 ∨ q = 4 ∨ q = 5 ∨ q = 6 ∨ q = 7 ∨ q = 8 ∨ q = 9 := by omega
  rcases hc with rfl | rfl | rfl | rfl | rfl | rfl | rfl | rfl | rfl | rfl <;> rfl
/-- The ten cells of a place set anew. -/
theorem PRow.setAll {W : World} {g : Nat} {l : List Pt} (h : PRow W g l) {j : Nat} (hj : j < l.length) (x : Pt) { d0 d1 d2 d3 d4 d5 d6 d7 d8 d9 : Value} (hx : x.cells = [d0, d1, d2, d3, d4, d5, d6, d7, d8, d9]) (W' : World) (hW : W' = ((((((((((W.setCell ⟨g, j * 10, none⟩ d0).setCell ⟨g, j * 10 + 1, none⟩ d1).setCell ⟨g, j * 10 + 2, none⟩ d2).setCell ⟨g, j * 10 + 3, none⟩ d3).setCell ⟨g, j * 10 + 4, none⟩ d4).setCell ⟨g, j * 10 + 5, none⟩ d5).setCell ⟨g, j * 10 + 6, none⟩ d6).setCell ⟨g, j * 10 + 7, none⟩ d7).setCell ⟨g, j * 10 + 8, none⟩ d8).setCell ⟨g, j * 10 + 9, none⟩ d9)) :
    PRow W' g (l.set j x) ∧ W'.heap.size = W.heap.size ∧ (∀ k, k ≠ g → W'.heap[k]? = W.heap[k]?) ∧ ∀ n, n ≤ g → Below n W W' := by
  obtain ⟨cur, h1, h2⟩ := h
  have hsz : j * 10 + 10 ≤ cur.size := by
    have := h2 j hj 9 (by decide)
    rw [List.getElem?_eq_getElem (by rw [Pt.cells_length]; decide)] at this
    have := (Array.getElem?_eq_some_iff.1 this).1
    omega
  have a0 := box_set h1 (j * 10) d0
  have a1 := box_set a0 (j * 10 + 1) d1
  have a2 := box_set a1 (j * 10 + 2) d2
  have a3 := box_set a2 (j * 10 + 3) d3
  have a4 := box_set a3 (j * 10 + 4) d4
  have a5 := box_set a4 (j * 10 + 5) d5
  have a6 := box_set a5 (j * 10 + 6) d6
  have a7 := box_set a6 (j * 10 + 7) d7
  have a8 := box_set a7 (j * 10 + 8) d8
  have a9 := box_set a8 (j * 10 + 9) d9
  rw [← hW] at a9
  refine ⟨⟨_, a9, fun i hi q hq => ?_⟩, by rw [hW]; simp only [size_set], fun k hk => ?_, fun n hn => ?_⟩
  · have hi' : i < l.length := by rw [List.length_set] at hi; exact hi
    simp only [Array.getElem?_setIfInBounds]
    by_cases e : i = j
    · subst e
      rw [List.getElem_set_self, hx]
      have hc : q = 0 ∨ q = 1 ∨ q = 2 ∨ q = 3 ∨ q = 4 ∨ q = 5 ∨ q = 6 ∨ q = 7 ∨ q = 8 ∨ q = 9 := by omega
      simp only [Array.size_setIfInBounds]
      rcases hc with rfl | rfl | rfl | rfl | rfl | rfl | rfl | rfl | rfl | rfl <;> simp <;> omega
    · rw [List.getElem_set_ne (Ne.symm e)]
      rw [if_neg (by omega), if_neg (by omega), if_neg (by omega), if_neg (by omega), if_neg (by omega), if_neg (by omega), if_neg (by omega), if_neg (by omega), if_neg (by omega), if_neg (by omega)]
      exact h2 i hi' q hq
  · rw [hW]
    iterate 10 rw [Below.heap_setCell _ _ _ _ hk]
  · rw [hW]
    have s0 := (Below.refl n W).setCell (p := ⟨g, j * 10, none⟩) hn d0
    have s1 := s0.setCell (p := ⟨g, j * 10 + 1, none⟩) hn d1
    have s2 := s1.setCell (p := ⟨g, j * 10 + 2, none⟩) hn d2
    have s3 := s2.setCell (p := ⟨g, j * 10 + 3, none⟩) hn d3
    have s4 := s3.setCell (p := ⟨g, j * 10 + 4, none⟩) hn d4
    have s5 := s4.setCell (p := ⟨g, j * 10 + 5, none⟩) hn d5
    have s6 := s5.setCell (p := ⟨g, j * 10 + 6, none⟩) hn d6
    have s7 := s6.setCell (p := ⟨g, j * 10 + 7, none⟩) hn d7
    have s8 := s7.setCell (p := ⟨g, j * 10 + 8, none⟩) hn d8
    exact s8.setCell (p := ⟨g, j * 10 + 9, none⟩) hn d9
theorem prow_some {W : World} {g : Nat} {l : List Pt} (h : PRow W g l) {j : Nat} (hj : j < l.length) {q : Nat} (hq : q < 10) : ∃ z, W.cell? ⟨g, j * 10 + q, none⟩ = some z := by
  rw [h.cell hj hq, List.getElem?_eq_getElem (by rw [Pt.cells_length]; exact hq)]
  exact ⟨_, rfl⟩
/-- A row of parts, with what is below them, apart. -/
structure OwnRow (w : World) (lo hi : Nat) (p : Option Addr) (cap : Nat) (ps : List Pt) (bd : Nat → Nat) : Prop where
  hcap : ps.length ≤ cap
  hmax : cap ≤ maxLen
  hrow : 0 < ps.length → ∃ g, p = some ⟨g, 0, none⟩ ∧ lo ≤ g ∧ g < bd 0 ∧ PRow w g ps
  hlo : lo ≤ bd 0
  hhi : bd ps.length ≤ hi
  hbd : ∀ i, i < ps.length → bd i ≤ bd (i + 1)
  hown : ∀ i (h : i < ps.length), POwn w (bd i) (bd (i + 1)) ps[i]
theorem OwnRow.own' {w : World} {lo hi : Nat} {p : Option Addr} {cap : Nat} {ps : List Pt} {bd : Nat → Nat} (h : OwnRow w lo hi p cap ps bd) (k u0 u1 u2 u3 : Int) (sk ag lv en : Bool) : POwn w lo hi (.mk k u0 u1 u2 u3 p cap sk ag lv en ps) :=
  .mk bd h.hcap h.hmax h.hrow h.hlo h.hhi h.hbd h.hown
/-- What a list of parts gives back. -/
def GivesParts (Q : List Pt → Prop) (w : World) (e : Ending) (w' : World) : Prop :=
  ∃ (g cap : Nat) (ps : List Pt) (bd : Nat → Nat), e = .returned (.slice (some ⟨g, 0, none⟩) ps.length cap) ∧ Below w.heap.size w w' ∧ OwnRow w' w.heap.size w'.heap.size (some ⟨g, 0, none⟩) cap ps bd ∧ PRow w' g ps ∧ (∀ x ∈ ps, Pt.All fit4 x) ∧ Q ps
/-- What spread gives back. -/
def GivesPart (w : World) (t : T) (e : Ending) (w' : World) : Prop :=
  ∃ x : Pt, e = .returned (.agg x.cells.toArray) ∧ Below w.heap.size w w' ∧ POwn w' w.heap.size w'.heap.size x ∧ Pt.All fit4 x ∧ Spr t x
def SpreadOf (w0 : World) (B0 : Nat) (t : T) : Prop := ∀ w', Below B0 w0 w' → Calls Tryd.prog 36 #[.agg t.cells.toArray] w' (GivesPart w' t)
/-- The state of a loop that fills a row: n places, ms are set. -/
structure FSt (w wr : World) (g n : Nat) (Q : Nat → Pt → Prop) (bd : Nat → Nat) (ms : List Pt) : Prop where
  row : PRow wr g (ms ++ List.replicate (n - ms.length) zeroP)
  bel : Below w.heap.size w wr
  gw : w.heap.size ≤ g
  gb : g < bd 0
  mono : ∀ i, i < ms.length → bd i ≤ bd (i + 1)
  top : bd ms.length ≤ wr.heap.size
  own : ∀ i (h : i < ms.length), POwn wr (bd i) (bd (i + 1)) ms[i]
  fit : ∀ x ∈ ms, Pt.All fit4 x
  q : ∀ i (h : i < ms.length), Q i ms[i]
/-- One place more: what spread gave lies in blocks of its own, and its cells in the row. -/
theorem FSt.next {w wr wk w9 W : World} {g n : Nat} {Q : Nat → Pt → Prop} {bd : Nat → Nat} {ms : List Pt} (h : FSt w wr g n Q bd ms) (hn : ms.length < n) (hk : Below wr.heap.size wr wk) (h9 : Below wk.heap.size wk w9) {y z : Pt} (ho : POwn w9 wk.heap.size w9.heap.size y) (hf : Pt.All fit4 z) (hq : Q ms.length z)
    (hz : POwn w9 wk.heap.size w9.heap.size y → POwn w9 wk.heap.size w9.heap.size z) (hW : PRow W g ((ms ++ List.replicate (n - ms.length) zeroP).set ms.length z)) (hs : W.heap.size = w9.heap.size) (hb : ∀ k, k ≠ g → W.heap[k]? = w9.heap[k]?) (hB : ∀ n, n ≤ g → Below n w9 W) : ∃ bd', FSt w W g n Q bd' (ms ++ [z]) := by
  have hm := pbd_mono h.mono
  have g0 : g < wr.heap.size := h.row.lt
  have s1 := hk.size
  have s2 := h9.size
  have hgw := h.gw
  have hgb := h.gb
  have hhi := h.top
  have hz := hz ho
  have e0 := hm ms.length (Nat.le_refl _) 0 (Nat.zero_le _)
  have hl : (ms ++ [z]).length = ms.length + 1 := by simp
  refine ⟨fun i => if i ≤ ms.length then (if i = ms.length then wk.heap.size else bd i) else w9.heap.size, ?_, ?_, hgw, ?_, fun i hi => ?_, ?_, fun i hi => ?_, fun x hx => ?_, fun i hi => ?_⟩
  · rw [hl]
    have e : (ms ++ List.replicate (n - ms.length) zeroP).set ms.length z = (ms ++ [z]) ++ List.replicate (n - (ms.length + 1)) zeroP := by
      rw [List.set_append_right _ _ (Nat.le_refl _), Nat.sub_self, show n - ms.length = (n - (ms.length + 1)) + 1 by omega, List.replicate_succ, List.set_cons_zero, List.append_assoc]
      rfl
    rw [← e]
    exact hW
  · exact ((h.bel.trans (hk.mono h.bel.size)).trans (h9.mono (Nat.le_trans h.bel.size s1))).trans (hB _ hgw)
  · show g < if 0 ≤ ms.length then (if 0 = ms.length then wk.heap.size else bd 0) else w9.heap.size
    rw [if_pos (Nat.zero_le _)]
    split
    · omega
    · exact hgb
  · show (if i ≤ ms.length then (if i = ms.length then wk.heap.size else bd i) else w9.heap.size) ≤ (if i + 1 ≤ ms.length then (if i + 1 = ms.length then wk.heap.size else bd (i + 1)) else w9.heap.size)
    rw [hl] at hi
    rcases Nat.lt_or_ge (i + 1) ms.length with h1 | h1
    · rw [if_pos (by omega), if_neg (by omega), if_pos (by omega), if_neg (by omega)]
      exact h.mono i (by omega)
    · rcases Nat.lt_or_ge i ms.length with h2 | h2
      · rw [if_pos (by omega), if_neg (by omega), if_pos (by omega), if_pos (by omega)]
        have := hm ms.length (Nat.le_refl _) i (by omega)
        omega
      · rw [if_pos (by omega), if_pos (by omega), if_neg (by omega)]
        exact s2
  · rw [hl]
    show (if ms.length + 1 ≤ ms.length then _ else w9.heap.size) ≤ W.heap.size
    rw [if_neg (by omega), hs]
    exact Nat.le_refl _
  · show POwn W (if i ≤ ms.length then (if i = ms.length then wk.heap.size else bd i) else w9.heap.size) (if i + 1 ≤ ms.length then (if i + 1 = ms.length then wk.heap.size else bd (i + 1)) else w9.heap.size) _
    have hi' : i < ms.length + 1 := by rw [← hl]; exact hi
    rcases Nat.lt_or_ge i ms.length with h2 | h2
    · rw [List.getElem_append_left h2, if_pos (by omega), if_neg (by omega), if_pos (by omega)]
      have e2 := hm ms.length (Nat.le_refl _) (i + 1) (by omega)
      have e3 := hm i (by omega) 0 (Nat.zero_le _)
      refine ((h.own i h2).keep fun b b1 b2 => ?_).low (Nat.le_refl _) (by split <;> omega)
      rw [hb b (by omega), h9.block b (by omega), hk.block b (by omega)]
    · obtain rfl : i = ms.length := by omega
      rw [List.getElem_append_right (Nat.le_refl _), if_pos (Nat.le_refl _), if_pos rfl, if_neg (by omega)]
      simp only [Nat.sub_self, List.getElem_cons_zero]
      exact hz.keep fun b b1 b2 => hb b (by omega)
  · rcases List.mem_append.1 hx with hx | hx
    · exact h.fit x hx
    · rw [List.mem_singleton.1 hx]; exact hf
  · have hi' : i < ms.length + 1 := by rw [← hl]; exact hi
    rcases Nat.lt_or_ge i ms.length with h2 | h2
    · rw [List.getElem_append_left h2]
      exact h.q i h2
    · obtain rfl : i = ms.length := by omega
      rw [List.getElem_append_right (Nat.le_refl _)]
      simp only [Nat.sub_self, List.getElem_cons_zero]
      exact hq
/-- The row is full. -/
theorem FSt.full {w W : World} {g n : Nat} {Q : Nat → Pt → Prop} {bd : Nat → Nat} {ms : List Pt} (h : FSt w W g n Q bd ms) (hn : ms.length = n) (hm : n ≤ 1000000) {R : List Pt → Prop} (hR : (∀ i (h : i < ms.length), Q i ms[i]) → R ms) : GivesParts R w (.returned (.slice (some ⟨g, 0, none⟩) (n : Nat) n)) W := by
  subst hn
  have hr := h.row
  rw [Nat.sub_self, List.replicate_zero, List.append_nil] at hr
  have := pbd_mono h.mono
  exact ⟨g, ms.length, ms, bd, rfl, h.bel, ⟨Nat.le_refl _, by unfold maxLen; omega, fun _ => ⟨g, rfl, h.gw, h.gb, hr⟩, by have := h.gw; have := h.gb; omega, h.top, h.mono, h.own⟩, hr, h.fit, hR h.q⟩
end Go.Proofs.YtkpoegnekeiieaaDoor
