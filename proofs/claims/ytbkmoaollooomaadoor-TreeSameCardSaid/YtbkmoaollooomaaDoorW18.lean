/- Text; alive. -/
import Derived.Test.YtbkmoaollooomaaDoorW17
namespace Go.Proofs.YtbkmoaollooomaaDoor
open Go.RowKit
open Go.Tree7
open S5 (nl nl_length nl_small at_nl nl_at nl_strN nl_inj Bld)
/-- What Text hands back. -/
noncomputable def textS (t : T) : ByteArray := if rightB t = true then strN (T.txt t) else ⟨#[]⟩
set_option maxRecDepth 10000 in
set_option maxHeartbeats 2000000 in
theorem text_in {t : T} {w : World} (hT : T.In w w.heap.size t) (hTab : S1.Tab w) :
    Calls Tryd.prog 14 #[.agg t.cells.toArray] w fun e w' => e = .returned (.string (textS t)) ∧ Below w.heap.size w w' := by
  have hB1 : Below w.heap.size w (w.alloc (.cells t.cells.toArray 27)) := (Below.refl w.heap.size w).alloc (Nat.le_refl _) _
  have R := Lib.hid (right_in ((hT.keep hB1).mono hB1.size))
  unfold textS
  by_cases hr : rightB t = true
  · rw [hr] at R
    rw [if_pos hr]
    obtain ⟨ha, hs⟩ := right_all ((rightB_iff t).1 hr)
    have X := text_all (Nat.le_refl _) ha hT hs
    unfold TextOf at X
    generalize strN (T.txt t) = F at *
    have X2 := Lib.hid (fun w' (h : Below w.heap.size w w') => X w' h (hTab.below h hTab.1))
    replace hB1 := Lib.hid hB1
    clear X hTab hT ha hs hr
    cases t with
    | mk k u0 u1 u2 u3 p cap mn mx tx ks =>
      simp only [T.cells] at *
      go_enter Tryd.func14, Tryd.ntmps14
      go_wp2_with (first
        | (go_at_call 13; (with_reducible refine R.out.mono ?_); rintro e w1 ⟨rfl, hb⟩; have hk := cells_of (kept_row (World.alloc_heap_new _ _) hb); have x0 := (hk 0 _ rfl).1; have x1 := (hk 1 _ rfl).1; have x2 := (hk 2 _ rfl).1; have x3 := (hk 3 _ rfl).1; have x4 := (hk 4 _ rfl).1; have x5 := (hk 5 _ rfl).1; have x6 := (hk 6 _ rfl).1; have x7 := (hk 7 _ rfl).1; have x8 := (hk 8 _ rfl).1; clear hk; have hB2 := Lib.hid (hB1.out.trans (hb.mono hB1.out.size)); clear hb)
        | (go_at_call 33; (with_reducible refine (X2.out _ hB2.out).mono ?_); rintro e w2 ⟨rfl, hb⟩; replace hb := Lib.hid hb))
      go_ret
      exact ⟨rfl, hB2.out.trans (hb.out.mono hB2.out.size)⟩
  · have hr' : rightB t = false := by cases h : rightB t; rfl; exact absurd h hr
    rw [hr'] at R
    rw [if_neg hr]
    replace hB1 := Lib.hid hB1
    clear hTab hT hr hr'
    cases t with
    | mk k u0 u1 u2 u3 p cap mn mx tx ks =>
      simp only [T.cells] at *
      go_enter Tryd.func14, Tryd.ntmps14
      go_wp2_with (go_at_call 13; (with_reducible refine R.out.mono ?_); rintro e w1 ⟨rfl, hb⟩; replace hb := Lib.hid hb)
      go_ret
      exact ⟨rfl, hB1.out.trans (hb.out.mono hB1.out.size)⟩
theorem el_congr {f g : Nat → Bool} (h : ∀ c, c < 256 → f c = g c) : S1.el f 256 = S1.el g 256 := by
  have key : ∀ p, p ≤ 256 → S1.el f p = S1.el g p := by
    intro p
    induction p with
    | zero => intro _; rfl
    | succ p ih =>
      intro hp
      simp only [S1.el]
      rw [ih (by omega), h p (by omega)]
  exact key 256 (Nat.le_refl _)
theorem mem4_wd (f : Nat → Bool) {c : Nat} (hc : c < 256) : S1.mem4 (S1.wd f 0) (S1.wd f 1) (S1.wd f 2) (S1.wd f 3) c = f c := by
  obtain ⟨q0, q1, q2, q3⟩ := S1.wd_mem4 (S1.wd_lt f 0) (S1.wd_lt f 1) (S1.wd_lt f 2) (S1.wd_lt f 3)
  have hk : c / 64 = 0 ∨ c / 64 = 1 ∨ c / 64 = 2 ∨ c / 64 = 3 := by omega
  rcases hk with hk | hk | hk | hk
  · have := S1.wd_inj q0 (c % 64) (by omega)
    rwa [show 64 * 0 + c % 64 = c by omega] at this
  · have := S1.wd_inj q1 (c % 64) (by omega)
    rwa [show 64 * 1 + c % 64 = c by omega] at this
  · have := S1.wd_inj q2 (c % 64) (by omega)
    rwa [show 64 * 2 + c % 64 = c by omega] at this
  · have := S1.wd_inj q3 (c % 64) (by omega)
    rwa [show 64 * 3 + c % 64 = c by omega] at this
theorem po_a : po 97 = [97] := by
  have h := po_sp (c := 97) (by decide)
  generalize po 97 = l at h
  cases h <;> simp_all [S5.out]
end Go.Proofs.YtbkmoaollooomaaDoor
