/- Texts merged: S9W5, S9W6, S9W7. -/

import Derived.Test.YtaebhbcamhmhoaaDoorMB
import Derived.Test.YtaebhbcamhmhoaaDoorWG
import Derived.Test.YtaebhbcamhmhoaaDoorS7W25
import Derived.Test.YtaebhbcamhmhoaaDoorS7B
import Derived.Test.YtaebhbcamhmhoaaDoorMA
namespace Go.Proofs.YtaebhbcamhmhoaaDoor
open Go.RowKit
open Go.Tree7
open S7
open S5 (nl nl_length nl_small at_nl nl_at Gives idx idx_at ix ix_no ix_yes)
/-- A tree whose language has no text, or that is not right. -/
noncomputable def voidR (t : T) : Bool := !rightB t || voidT t
noncomputable def firstR (back : Bool) (t : T) : Nat → Bool := if voidR t = true then S1.noS else endsT back t
noncomputable def alphaR (t : T) : Nat → Bool := if voidR t = true then S1.noS else alphaT t
noncomputable def leastR (t : T) : Int := if voidR t = true then -1 else leastT t
noncomputable def mostR (t : T) : Int := if voidR t = true then -1 else mostT t
noncomputable def weightR (t : T) : Int := if rightB t = true then weightT t else 0
/-- The program's Void. -/
def void_holds : Prop := ∀ (n : T) (w : World), T.In w w.heap.size n → Calls Tryd.prog 16 #[.agg n.cells.toArray] w fun e w' => e = .returned (.bool (voidR n)) ∧ Below w.heap.size w w'
/-- The program's Nullable. -/
def nullable_holds : Prop := ∀ (n : T) (w : World), T.In w w.heap.size n → Calls Tryd.prog 17 #[.agg n.cells.toArray] w fun e w' => e = .returned (.bool (rightB n && nullT n)) ∧ Below w.heap.size w w'
/-- The program's Weight. -/
def weight_holds : Prop := ∀ (n : T) (w : World), T.In w w.heap.size n → Calls Tryd.prog 19 #[.agg n.cells.toArray] w fun e w' => e = .returned (.int .i64 (weightR n)) ∧ Below w.heap.size w w'
/-- The program's Least. -/
def least_holds : Prop := ∀ (n : T) (w : World), T.In w w.heap.size n → Calls Tryd.prog 20 #[.agg n.cells.toArray] w fun e w' => e = .returned (.int .i64 (leastR n)) ∧ Below w.heap.size w w'
/-- The program's Most. -/
def most_holds : Prop := ∀ (n : T) (w : World), T.In w w.heap.size n → Calls Tryd.prog 21 #[.agg n.cells.toArray] w fun e w' => e = .returned (.int .i64 (mostR n)) ∧ Below w.heap.size w w'
/-- The program's First. -/
def first_holds : Prop := ∀ (n : T) (w : World), T.In w w.heap.size n → Calls Tryd.prog 12 #[.agg n.cells.toArray] w fun e w' => e = .returned (.agg #[.int .u64 (S1.wd (firstR false n) 0), .int .u64 (S1.wd (firstR false n) 1), .int .u64 (S1.wd (firstR false n) 2), .int .u64 (S1.wd (firstR false n) 3)]) ∧ Below w.heap.size w w'
/-- The program's Last. -/
def last_holds : Prop := ∀ (n : T) (w : World), T.In w w.heap.size n → Calls Tryd.prog 13 #[.agg n.cells.toArray] w fun e w' => e = .returned (.agg #[.int .u64 (S1.wd (firstR true n) 0), .int .u64 (S1.wd (firstR true n) 1), .int .u64 (S1.wd (firstR true n) 2), .int .u64 (S1.wd (firstR true n) 3)]) ∧ Below w.heap.size w w'
/-- The program's Alphabet. -/
def alphabet_holds : Prop := ∀ (n : T) (w : World), T.In w w.heap.size n → Calls Tryd.prog 14 #[.agg n.cells.toArray] w fun e w' => e = .returned (.agg #[.int .u64 (S1.wd (alphaR n) 0), .int .u64 (S1.wd (alphaR n) 1), .int .u64 (S1.wd (alphaR n) 2), .int .u64 (S1.wd (alphaR n) 3)]) ∧ Below w.heap.size w w'
/-- Of, where there is no room; and where there is. -/
theorem of_full {w : World} {t : T} {n : Nat} {c : Int} (hT : T.In w w.heap.size t) (h1 : 1 ≤ n) (h2 : n ≤ 2000) (hc : c = (n : Int)) (hz : n ≤ t.size) : ∀ w', Bel w w' → Calls Tryd.prog 7 #[.agg t.cells.toArray, .int .i64 c] w' fun e w'' => ∃ m : T, e = .returned (.tuple #[.agg m.cells.toArray, .int .i64 0]) ∧ Below w'.heap.size w' w'' := fun w' hb => hc ▸
  (of_in (Nat.le_refl _) t n w' h1 h2 hT hb).mono fun e w'' h => by
    obtain ⟨m, h1, h2, -⟩ := h
    rw [show n - t.size = 0 by omega] at h1
    exact ⟨m, h1, h2⟩
theorem of_room {w : World} {t : T} {n : Nat} {c : Int} (hT : T.In w w.heap.size t) (h2 : n ≤ 2000) (hc : c = (n : Int)) (hz : t.size < n) : ∀ w', Bel w w' → Calls Tryd.prog 7 #[.agg t.cells.toArray, .int .i64 c] w' fun e w'' =>
    ∃ (m : T) (d : Int), 0 < d ∧ e = .returned (.tuple #[.agg m.cells.toArray, .int .i64 d]) ∧ Below w'.heap.size w' w'' ∧ T.InP w'' (fun b => w'.heap.size ≤ b ∧ b < w''.heap.size) m ∧ m.strip = t.strip := fun w' hb => hc ▸
  (of_in (Nat.le_refl _) t n w' (by omega) h2 hT hb).mono fun e w'' h => by
    obtain ⟨m, h1, h2, h3⟩ := h
    obtain ⟨h4, h5⟩ := h3 hz
    exact ⟨m, _, by omega, h1, h2, h4, h5⟩
/-- A set is equal to itself. -/
theorem same4 (a b c d : Int) (w : World) : (Op.equalIn 10000 24 (.agg #[.int .u64 a, .int .u64 b, .int .u64 c, .int .u64 d]) (.agg #[.int .u64 a, .int .u64 b, .int .u64 c, .int .u64 d])).run Tryd.prog w = .ok true w := by
  rw [S1.eq28]
  simp
end Go.Proofs.YtaebhbcamhmhoaaDoor
namespace Go.Proofs.YtaebhbcamhmhoaaDoor
open Go.RowKit
open Go.Tree7
open S7
open S5 (nl nl_length nl_small at_nl nl_at Gives idx idx_at ix ix_no ix_yes)
abbrev exB : ByteArray := ⟨#[40, 97, 98, 41, 123, 50, 44, 51, 125]⟩
theorem nl_ex : nl exB = [40, 97, 98, 41, 123, 50, 44, 51, 125] := by decide
abbrev exT : T := tR ((2 : Nat) : Int) ((3 : Nat) : Int) (tC [leafT (S1.oneS 97), leafT (S1.oneS 98)])
theorem run_ex : Run [40, 97, 98, 41, 123, 50, 44, 51, 125] [([], [])] false 0 (.tree exT) := by
  have a1 : Atm [40, 97, 98, 41, 123, 50, 44, 51, 125] 1 (leafT (S1.oneS 97)) 2 := .byte 1 97 97 2 rfl (by decide) (.plain 1 97 rfl (by decide))
  have a2 : Atm [40, 97, 98, 41, 123, 50, 44, 51, 125] 2 (leafT (S1.oneS 98)) 3 := .byte 2 98 98 3 rfl (by decide) (.plain 2 98 rfl (by decide))
  have d6 : ¬ Dg [40, 97, 98, 41, 123, 50, 44, 51, 125] 6 := by rintro ⟨c, h, h1, h2⟩; simp at h; omega
  have d8 : ¬ Dg [40, 97, 98, 41, 123, 50, 44, 51, 125] 8 := by rintro ⟨c, h, h1, h2⟩; simp at h; omega
  have n1 : Nm [40, 97, 98, 41, 123, 50, 44, 51, 125] 5 2 6 := .one 5 50 rfl (by decide) (by decide) d6
  have n2 : Nm [40, 97, 98, 41, 123, 50, 44, 51, 125] 7 3 8 := .one 7 51 rfl (by decide) (by decide) d8
  have b : Bd [40, 97, 98, 41, 123, 50, 44, 51, 125] 4 ((2 : Nat) : Int) ((3 : Nat) : Int) 9 0 := .mn 4 2 6 3 8 n1 rfl n2 rfl (by decide) (by decide)
  have m : Mk [40, 97, 98, 41, 123, 50, 44, 51, 125] 4 ((2 : Nat) : Int) ((3 : Nat) : Int) 9 0 := .bounds 4 _ _ 9 0 rfl ⟨50, rfl, by decide, by decide⟩ b
  have i2 : ¬ (true = true ∧ IsMark [40, 97, 98, 41, 123, 50, 44, 51, 125] 2) := by rintro ⟨-, h⟩; rcases h with h | h | h | ⟨h, -⟩ <;> simp at h
  exact .step (.opens rfl) (.step (.atom (by simp) a1) (.step (.atom i2 a2) (.step (.close rfl) (.step (.mark (ps := []) m) (.tree _ _ _ rfl)))))
theorem all_ex : deepOf (allT exT) ≤ 24 ∧ (allT exT).length ≤ 600 := by
  have e : allT exT = [(1, exT), (2, tC [leafT (S1.oneS 97), leafT (S1.oneS 98)]), (3, leafT (S1.oneS 97)), (3, leafT (S1.oneS 98))] := rfl
  rw [e]
  exact ⟨by simp [deepOf], by simp⟩
theorem mem4_wd9 (f : Nat → Bool) {c : Nat} (hc : c < 256) : S1.mem4 (S1.wd f 0) (S1.wd f 1) (S1.wd f 2) (S1.wd f 3) c = f c := by
  obtain ⟨q0, q1, q2, q3⟩ := S1.wd_mem4 (S1.wd_lt f 0) (S1.wd_lt f 1) (S1.wd_lt f 2) (S1.wd_lt f 3)
  have hk : c / 64 = 0 ∨ c / 64 = 1 ∨ c / 64 = 2 ∨ c / 64 = 3 := by omega
  rcases hk with hk | hk | hk | hk
  · have := S1.wd_inj q0 (c % 64) (by omega)
    rwa [show 64 * 0 + c % 64 = c by omega] at this
  · have := S1.wd_inj q1 (c % 64) (by omega)
    rwa [show 64 * 1 + c % 64 = c by omega] at this
  · have := S1.wd_inj q2 (c % 64) (by omega)
    rwa [show 64 * 2 + c % 64 = c by omega] at this
  · have := S1.wd_inj q3 (c % 64) (by omega)
    rwa [show 64 * 3 + c % 64 = c by omega] at this
theorem leaf_void (c : Nat) (hc : c < 256) : voidT (leafT (S1.oneS c)) = false := by
  unfold leafT
  rw [void_bytes]
  have hw : ∀ k, (Lit.int .u64 ((S1.wd (S1.oneS c) k : Nat) : Int)).wf = true := fun k => wf_nat (S1.wd_lt _ k)
  rw [← eqB_zero ⟨hw 0, hw 1, hw 2, hw 3⟩]
  cases h : S1.eqB _ S1.noS with
  | false => rfl
  | true =>
    have := S1.eqB_spec h c hc
    simp only [Int.toNat_natCast] at this
    rw [mem4_wd9 _ hc] at this
    simp [S1.oneS, S1.noS] at this
theorem ex_right : rightB exT = true := by
  rw [rightB_iff]
  have hl : ∀ f, Pl (leafT f) := fun f => .set _ _ _ _ ⟨wf_nat (S1.wd_lt f 0), wf_nat (S1.wd_lt f 1), wf_nat (S1.wd_lt f 2), wf_nat (S1.wd_lt f 3)⟩
  have h : Pl exT := .rep _ _ _ (by decide) (by decide) (.inr ⟨by decide, by decide, by decide⟩) (.cat _ (by decide) fun t ht => by
    simp only [List.mem_cons, List.not_mem_nil, or_false] at ht
    rcases ht with rfl | rfl
    · exact hl _
    · exact hl _)
  obtain ⟨h3, h4⟩ := small_of all_ex.1 all_ex.2
  exact pl_right h h3 h4
theorem leaf_null (f : Nat → Bool) : nullT (leafT f) = false := by unfold leafT; rw [nullT_mk, if_pos (Or.inl rfl)]
theorem leaf_least (f : Nat → Bool) : leastT (leafT f) = 1 := by unfold leafT; rw [leastT_mk, if_pos rfl]
theorem leaf_most (f : Nat → Bool) : mostT (leafT f) = 1 := by unfold leafT; rw [mostT_mk, if_pos rfl]
theorem leaf_ends (back : Bool) (f : Nat → Bool) {c : Nat} (hc : c < 256) : endsT back (leafT f) c = f c := by
  unfold leafT
  rw [endsT_mk, if_pos rfl]
  simp only [Int.toNat_natCast]
  exact mem4_wd9 _ hc
theorem ex_cat_void : voidT (tC [leafT (S1.oneS 97), leafT (S1.oneS 98)]) = false := by
  unfold tC
  rw [(void_two 2 _ _ _ _ _ _ _ _ _ _ _).1 rfl, leaf_void 97 (by decide), leaf_void 98 (by decide)]
  rfl
theorem ex_void : voidT exT = false := by unfold exT tR; rw [void_rep, ex_cat_void]; rfl
theorem ex_least : leastT exT = 4 := by
  unfold exT tR
  rw [least_rep]
  unfold tC
  rw [least_cat _ _ _ _ _ _ _ _ _ (leaf_void 97 (by decide)) (leaf_void 98 (by decide)) (by rw [leaf_least]; decide), leaf_least, leaf_least]
  decide
theorem ex_most : mostT exT = 6 := by
  have h : mostT (tC [leafT (S1.oneS 97), leafT (S1.oneS 98)]) = 2 := by
    unfold tC
    rw [mostT_mk, if_neg (by decide), if_neg (by decide), if_pos rfl, alives_two (leaf_void 97 (by decide)) (leaf_void 98 (by decide))]
    simp only [List.map_cons, List.map_nil, leaf_most]
    decide
  unfold exT tR
  rw [most_rep _ _ _ _ _ _ _ _ _ ex_cat_void (by rw [h]; decide), h]
  decide
theorem ex_first (c : Nat) (hc : c < 256) : endsT false exT c = S1.oneS 97 c := by
  unfold exT tR
  rw [ends_rep _ _ _ _ _ _ _ _ _ _ ex_cat_void]
  unfold tC
  rw [endsT_mk, if_neg (by decide), if_pos rfl]
  unfold turned
  rw [if_neg (by decide), ahead, if_neg (by rw [leaf_void 97 (by decide)]; decide), if_neg (by rw [leaf_null]; decide)]
  unfold unionS
  rw [List.map_cons, List.map_nil, List.any_cons, List.any_nil, Bool.or_false, leaf_ends _ _ hc]
theorem ex_last (c : Nat) (hc : c < 256) : endsT true exT c = S1.oneS 98 c := by
  unfold exT tR
  rw [ends_rep _ _ _ _ _ _ _ _ _ _ ex_cat_void]
  unfold tC
  rw [endsT_mk, if_neg (by decide), if_pos rfl]
  unfold turned
  rw [if_pos rfl]
  show unionS ((ahead voidT nullT [leafT (S1.oneS 98), leafT (S1.oneS 97)]).map (endsT true)) c = _
  rw [ahead, if_neg (by rw [leaf_void 98 (by decide)]; decide), if_neg (by rw [leaf_null]; decide)]
  unfold unionS
  rw [List.map_cons, List.map_nil, List.any_cons, List.any_nil, Bool.or_false, leaf_ends _ _ hc]
theorem wd_same9 {f g : Nat → Bool} (h : ∀ c, c < 256 → f c = g c) {k : Nat} (hk : k < 4) : S1.wd f k = S1.wd g k := S1.wd_congr fun i hi => h _ (by omega)
/-- What the calls say of the example. -/
theorem ab_sizes {m : T} {w : World} (hms : m.strip = exT.strip) (hT : T.In w w.heap.size m) (hLe : least_holds) (hMo : most_holds) (hFi : first_holds) (hLa : last_holds) :
    (Calls Tryd.prog 20 #[.agg m.cells.toArray] w fun e w' => e = .returned (.int .i64 4) ∧ Below w.heap.size w w') ∧ (Calls Tryd.prog 21 #[.agg m.cells.toArray] w fun e w' => e = .returned (.int .i64 6) ∧ Below w.heap.size w w') ∧
    (Calls Tryd.prog 12 #[.agg m.cells.toArray] w fun e w' => e = .returned (.agg #[.int .u64 (S1.wd (S1.oneS 97) 0), .int .u64 (S1.wd (S1.oneS 97) 1), .int .u64 (S1.wd (S1.oneS 97) 2), .int .u64 (S1.wd (S1.oneS 97) 3)]) ∧ Below w.heap.size w w') ∧ (Calls Tryd.prog 13 #[.agg m.cells.toArray] w fun e w' => e = .returned (.agg #[.int .u64 (S1.wd (S1.oneS 98) 0), .int .u64 (S1.wd (S1.oneS 98) 1), .int .u64 (S1.wd (S1.oneS 98) 2), .int .u64 (S1.wd (S1.oneS 98) 3)]) ∧ Below w.heap.size w w') := by
  have hR : rightB m = true := by rw [← right_strip, hms, right_strip, ex_right]
  have hV : voidT m = false := by rw [← void_strip, hms, void_strip, ex_void]
  have hVR : voidR m = false := by unfold voidR; rw [hR, hV]; rfl
  have c1 := hLe m w hT
  have c2 := hMo m w hT
  have c3 := hFi m w hT
  have c4 := hLa m w hT
  have e1 : leastR m = 4 := by unfold leastR; rw [hVR, if_neg (by decide), ← least_strip, hms, least_strip, ex_least]
  have e2 : mostR m = 6 := by unfold mostR; rw [hVR, if_neg (by decide), ← most_strip, hms, most_strip, ex_most]
  have e3 : ∀ k, k < 4 → S1.wd (firstR false m) k = S1.wd (S1.oneS 97) k := fun k hk => wd_same9 (fun c hc => by unfold firstR; rw [hVR, if_neg (by decide), ← ends_strip, hms, ends_strip, ex_first c hc]) hk
  have e4 : ∀ k, k < 4 → S1.wd (firstR true m) k = S1.wd (S1.oneS 98) k := fun k hk => wd_same9 (fun c hc => by unfold firstR; rw [hVR, if_neg (by decide), ← ends_strip, hms, ends_strip, ex_last c hc]) hk
  rw [e1] at c1
  rw [e2] at c2
  rw [e3 0 (by decide), e3 1 (by decide), e3 2 (by decide), e3 3 (by decide)] at c3
  rw [e4 0 (by decide), e4 1 (by decide), e4 2 (by decide), e4 3 (by decide)] at c4
  exact ⟨c1, c2, c3, c4⟩
set_option maxRecDepth 100000 in
set_option maxHeartbeats 4000000 in
theorem alive9_in {V : Nat → Value} (w : World) (hS : Six w V) (hLe : least_holds) (hMo : most_holds) (hFi : first_holds) (hLa : last_holds) : Calls Tryd.prog 6 #[] w fun e w' => e = .returned (.bool true) ∧ Below w.heap.size w w' := by
  have hr := run_ex
  rw [← nl_ex] at hr
  have cP := Lib.hid (parse_tree hr all_ex.1 all_ex.2 (by decide) w hS)
  have cO1 : ∀ w, Calls Tryd.prog 23 #[.int .u8 97] w fun e w' => e = .returned (.agg #[.int .u64 (S1.wd (S1.oneS 97) 0), .int .u64 (S1.wd (S1.oneS 97) 1), .int .u64 (S1.wd (S1.oneS 97) 2), .int .u64 (S1.wd (S1.oneS 97) 3)]) ∧ Below w.heap.size w w' := fun w => S1.one_in 97 (by decide) w
  have cO2 : ∀ w, Calls Tryd.prog 23 #[.int .u8 98] w fun e w' => e = .returned (.agg #[.int .u64 (S1.wd (S1.oneS 98) 0), .int .u64 (S1.wd (S1.oneS 98) 1), .int .u64 (S1.wd (S1.oneS 98) 2), .int .u64 (S1.wd (S1.oneS 98) 3)]) ∧ Below w.heap.size w w' := fun w => S1.one_in 98 (by decide) w
  clear hS hr
  have hX := Lib.hid (show ∀ (m : T) (w : World), m.strip = exT.strip → T.In w w.heap.size m → _ from fun m w h1 h2 => ab_sizes h1 h2 hLe hMo hFi hLa)
  generalize S1.wd (S1.oneS 97) 0 = a0 at *
  generalize S1.wd (S1.oneS 97) 1 = a1 at *
  generalize S1.wd (S1.oneS 97) 2 = a2 at *
  generalize S1.wd (S1.oneS 97) 3 = a3 at *
  generalize S1.wd (S1.oneS 98) 0 = b0 at *
  generalize S1.wd (S1.oneS 98) 1 = b1 at *
  generalize S1.wd (S1.oneS 98) 2 = b2 at *
  generalize S1.wd (S1.oneS 98) 3 = b3 at *
  generalize exT.strip = xs at *
  have he0 := fun w => same4 a0 a1 a2 a3 w
  have he1 := fun w => same4 b0 b1 b2 b3 w
  replace cO1 := Lib.hid cO1
  replace cO2 := Lib.hid cO2
  clear hLe hMo hFi hLa
  go_enter Tryd.func6, Tryd.ntmps6
  go_wp2_with (first | (go_at_call 22; (with_reducible refine cP.out.mono ?_); rintro e w1 ⟨hb, m, hms, hT, rfl⟩; obtain ⟨k, u0, u1, u2, u3, p, cap, mn, mx, tx, ks⟩ := m; simp only [T.cells]; have hbn := Lib.hid (World.alloc_heap_new w1 (.cells #[.int .i64 k, .int .u64 u0, .int .u64 u1, .int .u64 u2, .int .u64 u3, .slice p ks.length cap, .int .i64 mn, .int .i64 mx, .string tx] 27)); have hq1 := Lib.hid (Bel.alloc (show Bel w w1 from hb) (.cells #[.int .i64 k, .int .u64 u0, .int .u64 u1, .int .u64 u2, .int .u64 u3, .slice p ks.length cap, .int .i64 mn, .int .i64 mx, .string tx] 27)); have cS := fun w' (h : Bel (w1.alloc (.cells #[.int .i64 k, .int .u64 u0, .int .u64 u1, .int .u64 u2, .int .u64 u3, .slice p ks.length cap, .int .i64 mn, .int .i64 mx, .string tx] 27)) w') => hX.out _ _ hms (in_bel (in_bel hT (Bel.new w1 (.cells #[.int .i64 k, .int .u64 u0, .int .u64 u1, .int .u64 u2, .int .u64 u3, .slice p ks.length cap, .int .i64 mn, .int .i64 mx, .string tx] 27))) h); simp only [T.cells] at cS; replace cS := Lib.hid cS; have hqa := Lib.hid (Bel.refl (w1.alloc (.cells #[.int .i64 k, .int .u64 u0, .int .u64 u1, .int .u64 u2, .int .u64 u3, .slice p ks.length cap, .int .i64 mn, .int .i64 mx, .string tx] 27))); obtain ⟨n0, n1, n2, n3, n4, n5, n6, n7, n8⟩ := c9 hbn.out; clear hb hms hT) | (go_at_call 20; (with_reducible refine (cS.out _ hqa.out).1.mono ?_); rintro e w2 ⟨rfl, hb⟩; replace hqa := Lib.hid (Bel.step hqa.out hb); replace hq1 := Lib.hid (Bel.step hq1.out hb); replace hbn := Lib.hid (kept_row hbn.out hb); clear n0 n1 n2 n3 n4 n5 n6 n7 n8; obtain ⟨n0, n1, n2, n3, n4, n5, n6, n7, n8⟩ := c9 hbn.out; clear hb) | (go_at_call 21; (with_reducible refine (cS.out _ hqa.out).2.1.mono ?_); rintro e w3 ⟨rfl, hb⟩; replace hqa := Lib.hid (Bel.step hqa.out hb); replace hq1 := Lib.hid (Bel.step hq1.out hb); replace hbn := Lib.hid (kept_row hbn.out hb); clear n0 n1 n2 n3 n4 n5 n6 n7 n8; obtain ⟨n0, n1, n2, n3, n4, n5, n6, n7, n8⟩ := c9 hbn.out; clear hb) | (go_at_call 12; (with_reducible refine (cS.out _ hqa.out).2.2.1.mono ?_); rintro e w4 ⟨rfl, hb⟩; replace hqa := Lib.hid (Bel.step hqa.out hb); replace hq1 := Lib.hid (Bel.step hq1.out hb); replace hbn := Lib.hid (kept_row hbn.out hb); clear n0 n1 n2 n3 n4 n5 n6 n7 n8; obtain ⟨n0, n1, n2, n3, n4, n5, n6, n7, n8⟩ := c9 hbn.out; clear hb) | (go_at_call 13; (with_reducible refine (cS.out _ hqa.out).2.2.2.mono ?_); rintro e w5 ⟨rfl, hb⟩; replace hqa := Lib.hid (Bel.step hqa.out hb); replace hq1 := Lib.hid (Bel.step hq1.out hb); replace hbn := Lib.hid (kept_row hbn.out hb); clear n0 n1 n2 n3 n4 n5 n6 n7 n8; obtain ⟨n0, n1, n2, n3, n4, n5, n6, n7, n8⟩ := c9 hbn.out; clear hb) | (go_at_call 23; (first | (with_reducible refine (cO1.out _).mono ?_) | (with_reducible refine (cO2.out _).mono ?_)); rintro e w9 ⟨rfl, hb⟩; replace hqa := Lib.hid (Bel.step hqa.out hb); replace hq1 := Lib.hid (Bel.step hq1.out hb); replace hbn := Lib.hid (kept_row hbn.out hb); clear n0 n1 n2 n3 n4 n5 n6 n7 n8; obtain ⟨n0, n1, n2, n3, n4, n5, n6, n7, n8⟩ := c9 hbn.out; clear hb))
  go_ret
  exact ⟨rfl, hq1.out⟩
end Go.Proofs.YtaebhbcamhmhoaaDoor
namespace Go.Proofs.YtaebhbcamhmhoaaDoor
open Go.RowKit
open Go.Tree7
open S7
open S5 (nl nl_length nl_small at_nl nl_at Gives idx idx_at ix ix_no ix_yes)
theorem le_sum9 {l : List Nat} {x : Nat} (h : x ∈ l) : x ≤ l.sum := by
  induction l with
  | nil => cases h
  | cons y ys ih =>
    rw [List.sum_cons]
    rcases List.mem_cons.1 h with rfl | h
    · omega
    · have := ih h; omega
theorem right_kid {k u0 u1 u2 u3 : Int} {p : Option Addr} {cap : Nat} {mn mx : Int} {tx : ByteArray} {ks : List T} {t : T} (h : rightB (.mk k u0 u1 u2 u3 p cap mn mx tx ks) = true) (ht : t ∈ ks) : rightB t = true := by
  rw [rightB_iff, right_iff] at h
  rw [rightB_iff, right_iff]
  obtain ⟨h1, h2, h3⟩ := h
  refine ⟨?_, ?_, ?_⟩
  · cases h1 with | mk _ hk => exact hk t ht
  · have := deep_kid (k := k) (u0 := u0) (u1 := u1) (u2 := u2) (u3 := u3) (p := p) (cap := cap) (mn := mn) (mx := mx) (tx := tx) (ks := ks) ht
    omega
  · rw [T.size_mk] at h3
    have := le_sum9 (List.mem_map_of_mem (f := T.size) ht)
    omega
theorem node_in {w W : World} {k : Int} {mn mx : Int} {ks : List T} {rb : Nat} (hk : ∀ t ∈ ks, T.In w w.heap.size t) (hb : Bel w W) (hrow : W.heap[rb]? = some (.cells (ks.flatMap T.cells).toArray 27 (0, 0))) (hm : ks.length ≤ maxLen)
    (hf : (Lit.int .i64 k).wf = true ∧ (Lit.int .i64 mn).wf = true ∧ (Lit.int .i64 mx).wf = true) : T.In W W.heap.size (.mk k 0 0 0 0 (some ⟨rb, 0, none⟩) ks.length mn mx ⟨#[]⟩ ks) := by
  refine .mk (Nat.le_refl _) hm ⟨hf.1, ⟨by decide, by decide, by decide, by decide⟩, hf.2.1, hf.2.2, by decide⟩ (fun i hi => ⟨_, rfl, lt_box hrow, fun j hj => ?_⟩) (fun t ht => in_bel (hk t ht) hb)
  have e : (⟨rb, 0, none⟩ : Addr).add (i * 9 + j) = ⟨rb, i * 9 + j, none⟩ := by unfold Addr.add; split <;> simp_all
  rw [e, ← flat9 ks i j hi hj]
  have hl : i * 9 + j < (ks.flatMap T.cells).length := by
    have h9 := flat9 ks i j hi hj
    have hx : (ks[i].cells)[j]? = some ((ks[i].cells)[j]'(by rw [T.cells_length]; exact hj)) := List.getElem?_eq_getElem _
    rw [hx] at h9
    exact (List.getElem?_eq_some_iff.1 h9).1
  rw [List.getElem?_eq_getElem hl]
  exact (cells_of hrow (i * 9 + j) _ (by simp)).1
/-- What the calls say of a right repetition and of its tree. -/
structure Often (n r : T) (l b o : Int) : Prop where
  rl : 0 ≤ l ∧ l ≤ 40
  rb : b = -1 ∨ (l ≤ b ∧ 1 ≤ b ∧ b ≤ 40)
  ro : o = if b = -1 then l + 1 else b
  vr : voidR r = (decide (0 < l) && voidT n)
  vn : voidR n = voidT n
  nr : (rightB r && nullT r) = (decide (l = 0) || nullT n)
  nn : (rightB n && nullT n) = nullT n
  wr : weightR r = min (1 + min (weightT n * o) 1048576) 1048576
  wn : weightR n = weightT n
  ww : 1 ≤ weightT n ∧ weightT n ≤ 1048576
  mv : voidT n = true → mostR r = if l = 0 then 0 else -1
  lr : voidT n = false → leastR r = min (leastT n * l) 1048576
  ln : voidT n = false → leastR n = leastT n
  lw : voidT n = false → 0 ≤ leastT n ∧ leastT n ≤ 1048576
  mr : voidT n = false → mostR r = if b = -1 then min (mostT n * 1048576) 1048576 else min (mostT n * b) 1048576
  mn : voidT n = false → mostR n = mostT n
  mw : 0 ≤ mostT n ∧ mostT n ≤ 1048576
  fr : voidT n = false → firstR false r = firstR false n
  ar : voidT n = false → alphaR r = alphaR n
theorem often_of {u0 u1 u2 u3 : Int} {p : Option Addr} {cap : Nat} {l b : Int} {tx : ByteArray} {n : T} (hR : rightB (.mk 4 u0 u1 u2 u3 p cap l b tx [n]) = true) : Often n (.mk 4 u0 u1 u2 u3 p cap l b tx [n]) l b (if b = -1 then l + 1 else b) := by
  have hn : rightB n = true := right_kid hR (by simp)
  have hall := (right_all ((rightB_iff _).1 hn)).1
  have ho := (right_all ((rightB_iff _).1 hR)).1
  have hk : Okn 4 l b [n] := by cases ho with | mk h _ => exact okn_of h
  obtain ⟨h3, h4⟩ : (0 ≤ l ∧ l ≤ 40) ∧ (b = -1 ∨ (l ≤ b ∧ 1 ≤ b ∧ b ≤ 40)) := by
    cases hk with
    | rep _ _ _ h3 h4 => exact ⟨h3, h4⟩
    | bytes h => omega
    | cat h => omega
    | alt h => omega
    | name h => omega
  have hvr : voidR (.mk 4 u0 u1 u2 u3 p cap l b tx [n]) = (decide (0 < l) && voidT n) := by unfold voidR; rw [hR, void_rep]; rfl
  have hvn : voidR n = voidT n := by unfold voidR; rw [hn]; rfl
  have hw := weight_within hall
  have hm := most_within hall
  have hv0 : voidT n = false → voidR (.mk 4 u0 u1 u2 u3 p cap l b tx [n]) = false := fun h => by rw [hvr, h, Bool.and_false]
  refine ⟨h3, h4, rfl, hvr, hvn, by rw [hR, null_rep]; rfl, by rw [hn]; rfl, by unfold weightR; rw [if_pos hR, weight_rep], by unfold weightR; rw [if_pos hn], hw, fun h => ?_, fun h => ?_, fun h => ?_, fun h => least_within hall h, fun h => ?_, fun h => ?_, hm, fun h => ?_, fun h => ?_⟩
  · unfold mostR
    rw [hvr, h, Bool.and_true]
    by_cases h0 : l = 0
    · rw [if_neg (by rw [decide_eq_true_eq]; omega), if_pos h0, most_rep_void _ _ _ _ _ _ _ _ _ h]
    · rw [if_pos (by rw [decide_eq_true_eq]; omega), if_neg h0]
  · unfold leastR; rw [hv0 h, if_neg (by decide), least_rep]
  · unfold leastR; rw [hvn, h, if_neg (by decide)]
  · unfold mostR; rw [hv0 h, if_neg (by decide), most_rep _ _ _ _ _ _ _ _ _ h hm.1]
  · unfold mostR; rw [hvn, h, if_neg (by decide)]
  · unfold firstR; rw [hv0 h, hvn, h, if_neg (by decide), if_neg (by decide), ends_rep _ _ _ _ _ _ _ _ _ _ h]
  · unfold alphaR; rw [hv0 h, hvn, h, if_neg (by decide), if_neg (by decide), alpha_rep _ _ _ _ _ _ _ _ _ h]
theorem often_calls {W : World} {n r : T} {l b o : Int} (hV : void_holds) (hN : nullable_holds) (hW : weight_holds) (hLe : least_holds) (hMo : most_holds) (hF : first_holds) (hA : alphabet_holds) (hr : T.In W W.heap.size r) (hn : T.In W W.heap.size n) (hR : rightB r = true) (h : Often n r l b o) : ∀ w', Bel W w' →
    (Calls Tryd.prog 15 #[.agg r.cells.toArray] w' fun e w'' => e = .returned (.bool true) ∧ Below w'.heap.size w' w'') ∧
    (Calls Tryd.prog 16 #[.agg r.cells.toArray] w' fun e w'' => e = .returned (.bool (decide (0 < l) && voidT n)) ∧ Below w'.heap.size w' w'') ∧
    (Calls Tryd.prog 16 #[.agg n.cells.toArray] w' fun e w'' => e = .returned (.bool (voidT n)) ∧ Below w'.heap.size w' w'') ∧
    (Calls Tryd.prog 17 #[.agg r.cells.toArray] w' fun e w'' => e = .returned (.bool (decide (l = 0) || nullT n)) ∧ Below w'.heap.size w' w'') ∧
    (Calls Tryd.prog 17 #[.agg n.cells.toArray] w' fun e w'' => e = .returned (.bool (nullT n)) ∧ Below w'.heap.size w' w'') ∧
    (Calls Tryd.prog 19 #[.agg r.cells.toArray] w' fun e w'' => e = .returned (.int .i64 (min (1 + min (weightT n * o) 1048576) 1048576)) ∧ Below w'.heap.size w' w'') ∧
    (Calls Tryd.prog 19 #[.agg n.cells.toArray] w' fun e w'' => e = .returned (.int .i64 (weightT n)) ∧ Below w'.heap.size w' w'') ∧
    (voidT n = true → (Calls Tryd.prog 21 #[.agg r.cells.toArray] w' fun e w'' => e = .returned (.int .i64 (if l = 0 then 0 else -1)) ∧ Below w'.heap.size w' w'')) ∧
    (voidT n = false → (Calls Tryd.prog 20 #[.agg r.cells.toArray] w' fun e w'' => e = .returned (.int .i64 (min (leastT n * l) 1048576)) ∧ Below w'.heap.size w' w'') ∧
      (Calls Tryd.prog 20 #[.agg n.cells.toArray] w' fun e w'' => e = .returned (.int .i64 (leastT n)) ∧ Below w'.heap.size w' w'') ∧
      (Calls Tryd.prog 21 #[.agg r.cells.toArray] w' fun e w'' => e = .returned (.int .i64 (if b = -1 then min (mostT n * 1048576) 1048576 else min (mostT n * b) 1048576)) ∧ Below w'.heap.size w' w'') ∧
      (Calls Tryd.prog 21 #[.agg n.cells.toArray] w' fun e w'' => e = .returned (.int .i64 (mostT n)) ∧ Below w'.heap.size w' w'') ∧
      (Calls Tryd.prog 12 #[.agg r.cells.toArray] w' fun e w'' => e = .returned (.agg #[.int .u64 (S1.wd (firstR false n) 0), .int .u64 (S1.wd (firstR false n) 1), .int .u64 (S1.wd (firstR false n) 2), .int .u64 (S1.wd (firstR false n) 3)]) ∧ Below w'.heap.size w' w'') ∧
      (Calls Tryd.prog 12 #[.agg n.cells.toArray] w' fun e w'' => e = .returned (.agg #[.int .u64 (S1.wd (firstR false n) 0), .int .u64 (S1.wd (firstR false n) 1), .int .u64 (S1.wd (firstR false n) 2), .int .u64 (S1.wd (firstR false n) 3)]) ∧ Below w'.heap.size w' w'') ∧
      (Calls Tryd.prog 14 #[.agg r.cells.toArray] w' fun e w'' => e = .returned (.agg #[.int .u64 (S1.wd (alphaR n) 0), .int .u64 (S1.wd (alphaR n) 1), .int .u64 (S1.wd (alphaR n) 2), .int .u64 (S1.wd (alphaR n) 3)]) ∧ Below w'.heap.size w' w'') ∧
      (Calls Tryd.prog 14 #[.agg n.cells.toArray] w' fun e w'' => e = .returned (.agg #[.int .u64 (S1.wd (alphaR n) 0), .int .u64 (S1.wd (alphaR n) 1), .int .u64 (S1.wd (alphaR n) 2), .int .u64 (S1.wd (alphaR n) 3)]) ∧ Below w'.heap.size w' w'')) := by
  intro w' hb
  have tr := in_bel hr hb
  have tn := in_bel hn hb
  have c0 := right_in tr
  rw [hR] at c0
  have c1 := hV r w' tr
  have c2 := hV n w' tn
  have c3 := hN r w' tr
  have c4 := hN n w' tn
  have c5 := hW r w' tr
  have c6 := hW n w' tn
  rw [h.vr] at c1
  rw [h.vn] at c2
  rw [h.nr] at c3
  rw [h.nn] at c4
  rw [h.wr] at c5
  rw [h.wn] at c6
  refine ⟨c0, c1, c2, c3, c4, c5, c6, fun hv => ?_, fun hv => ?_⟩
  · have := hMo r w' tr
    rw [h.mv hv] at this
    exact this
  · have d0 := hLe r w' tr
    have d1 := hLe n w' tn
    have d2 := hMo r w' tr
    have d3 := hMo n w' tn
    have d4 := hF r w' tr
    have d5 := hF n w' tn
    have d6 := hA r w' tr
    have d7 := hA n w' tn
    rw [h.lr hv] at d0
    rw [h.ln hv] at d1
    rw [h.mr hv] at d2
    rw [h.mn hv] at d3
    rw [h.fr hv] at d4
    rw [h.ar hv] at d6
    exact ⟨d0, d1, d2, d3, d4, d5, d6, d7⟩
/-- A repetition that is not right. -/
theorem often_not {W : World} {r : T} (hV : void_holds) (hW : weight_holds) (hr : T.In W W.heap.size r) (hR : rightB r = false) : ∀ w', Bel W w' →
    (Calls Tryd.prog 15 #[.agg r.cells.toArray] w' fun e w'' => e = .returned (.bool false) ∧ Below w'.heap.size w' w'') ∧
    (Calls Tryd.prog 16 #[.agg r.cells.toArray] w' fun e w'' => e = .returned (.bool true) ∧ Below w'.heap.size w' w'') ∧
    (Calls Tryd.prog 19 #[.agg r.cells.toArray] w' fun e w'' => e = .returned (.int .i64 0) ∧ Below w'.heap.size w' w'') := by
  intro w' hb
  have c1 := right_in (in_bel hr hb)
  have c2 := hV r w' (in_bel hr hb)
  have c3 := hW r w' (in_bel hr hb)
  rw [hR] at c1
  rw [show voidR r = true by unfold voidR; rw [hR]; rfl] at c2
  rw [show weightR r = 0 by unfold weightR; rw [hR]; rfl] at c3
  exact ⟨c1, c2, c3⟩
end Go.Proofs.YtaebhbcamhmhoaaDoor
