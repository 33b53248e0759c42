/- Texts merged: S10W15, S10W16, S10W17, S10W18, S10W19. -/
import Derived.Lib.SlBytesConst
import Derived.Test.YtobbifhflnlplaaDoorPF
import Derived.Test.YtobbifhflnlplaaDoorWG
import Derived.Test.YtobbifhflnlplaaDoorMX
import Derived.Test.YtobbifhflnlplaaDoorS7E
import Derived.Test.YtobbifhflnlplaaDoorWS
namespace Go.Proofs.YtobbifhflnlplaaDoor
open Lib (hid)
open Go.RowKit
open Go.Tree7
open S7
open S5 (nl nl_length nl_small at_nl nl_at Gives idx idx_at ix ix_no ix_yes)
set_option maxRecDepth 10000 in
set_option maxHeartbeats 4000000 in
theorem sameints_in {w : World} {b1 b2 : Nat} {v1 v2 : Value} {l1 l2 : List Nat} {r : Bool} (h1 : ILst w b1 v1 l1) (h2 : ILst w b2 v2 l2) (hm1 : l1.length ≤ 1000000) (hm2 : l2.length ≤ 1000000) (hr : r = true ↔ l1 = l2) :
  Calls Tryd.prog 14 #[v1, v2] w fun e w' => e = .returned (.bool r) ∧ Below w.heap.size w w' := by
 obtain ⟨p1, c1, rfl⟩ := h1.form
 obtain ⟨p2, c2, rfl⟩ := h2.form
 by_cases hn : l1.length = l2.length
 ·obtain ⟨n, hn1⟩ : ∃ n, l1.length = n := ⟨_, rfl⟩
  have hn2 : l2.length = n := by omega
  have g1 := h1
  have g2 := h2
  rw [hn1] at h1 ⊢
  have hm9 : n ≤ 1000000 := hn1 ▸ hm1
  rw [hn2] at h2 hm2 ⊢
  replace h1 := hid h1
  replace h2 := hid h2
  replace g1 := hid g1
  replace g2 := hid g2
  replace hr := hid hr
  replace hn := hid hn
  have e1 := hid hn1
  have e2 := hid hn2
  clear hn1 hn2
  go_enter Tryd.func14, Tryd.ntmps14
  go_wp2
  go_loopw [13] (fun i wr => ∃ k : Nat, k ≤ n ∧ i = .int .i64 k ∧ Hid (l1.take k = l2.take k) ∧ Hid (Below w.heap.size w wr)) (fun i _ => n - (intOf i).toNat)
  case atStart => exact ⟨0, by omega, rfl, hid rfl, hid (Below.refl _ _)⟩
  case round =>
   obtain ⟨k, hk, rfl, htk, hB⟩ := hrel
   by_cases hlt : k < n
   ·have hl1 : k < l1.length := by rw [e1.out]; exact hlt
    have hl2 : k < l2.length := by rw [e2.out]; exact hlt
    obtain ⟨q1, d1, x1, -, x2, -, hc1, -⟩ := g1.out.cell hl1
    obtain ⟨q2, d2, y1, -, y2, -, hc2, -⟩ := g2.out.cell hl2
    simp only [Value.slice.injEq, true_and] at x1 y1
    obtain ⟨rfl, rfl⟩ := x1
    obtain ⟨rfl, rfl⟩ := y1
    replace hc1 := (hB.out.cell (p := ⟨q1, k, none⟩) x2).trans hc1
    replace hc2 := (hB.out.cell (p := ⟨q2, k, none⟩) y2).trans hc2
    have ht1 : Hid (l1.take (k + 1) = l1.take k ++ [l1[k]]) := hid (List.take_succ_eq_append_getElem hl1)
    have ht2 : Hid (l2.take (k + 1) = l2.take k ++ [l2[k]]) := hid (List.take_succ_eq_append_getElem hl2)
    have hne : Hid (l1[k] ≠ l2[k] → r = false) := hid fun hne => by
     cases r with
     | false => rfl
     | true =>
      have := hr.out.1 rfl
      subst this
      exact absurd rfl hne
    generalize l1[k] = x at *
    generalize l2[k] = y at *
    clear hl1 hl2
    have b1 : (0 : Int) ≤ k := by omega
    by_cases hxy : x = y
    ·subst hxy
     go_wp2
     go_quiet (fail)
     go_wp2
     go_roundw
     case rel => exact ⟨k + 1, by omega, by go_num, hid (by rw [ht1.out, ht2.out, htk.out]), hid (below_drewN hB.out _)⟩
     case measure => simp [intOf]; omega
    ·have hrf := hne.out hxy
     have hq : ((x : Int) == y) = false := by simp; omega
     have hq2 : ((x : Int) != y) = true := by simp; omega
     clear hr hne
     go_wp2
     go_quiet (fail)
     go_wp2
     go_ret
     exact ⟨by rw [hrf]; rfl, below_drewN hB.out _⟩
   ·have hrt : r = true := hr.out.2 (by
     have := htk.out
     rw [List.take_of_length_le (by rw [e1.out]; omega), List.take_of_length_le (by rw [e2.out]; omega)] at this
     exact this)
    clear hr htk
    go_wp2
    go_ret
    exact ⟨by rw [hrt]; rfl, hB.out⟩
 ·have hrf : r = false := by
   cases r with
   | false => rfl
   | true => exact absurd (congrArg List.length (hr.1 rfl)) hn
  have hq2 : ((l1.length : Int) != l2.length) = true := by simp; omega
  clear h1 h2 hr
  go_enter Tryd.func14, Tryd.ntmps14
  go_wp2
  go_ret
  exact ⟨by rw [hrf]; rfl, Below.refl _ _⟩
abbrev asB : ByteArray := ⟨#[97, 42]⟩
theorem nl_as : nl asB = [97, 42] := by decide
abbrev asT : T := tR 0 (-1) (leafT (S1.oneS 97))
theorem run_as : Run [97, 42] [([], [])] false 0 (.tree asT) := by
 have a1 : Atm [97, 42] 0 (leafT (S1.oneS 97)) 1 := .byte 0 97 97 1 rfl (by decide) (.plain 0 97 rfl (by decide))
 exact .step (.atom (by simp) a1) (.step (.mark (ps := []) (.star 1 rfl)) (.tree _ _ _ rfl))
theorem all_as : deepOf (allT asT) ≤ 24 ∧ (allT asT).length ≤ 600 := by
 have e : allT asT = [(1, asT), (2, leafT (S1.oneS 97))] := rfl
 rw [e]
 exact ⟨by simp [deepOf], by simp⟩
theorem as_right : rightB asT = true := by
 rw [rightB_iff]
 have h : Pl asT := .rep _ _ _ (by decide) (by decide) (.inl rfl) (.set _ _ _ _ ⟨wf_nat (S1.wd_lt _ 0), wf_nat (S1.wd_lt _ 1), wf_nat (S1.wd_lt _ 2), wf_nat (S1.wd_lt _ 3)⟩)
 obtain ⟨h3, h4⟩ := small_of all_as.1 all_as.2
 exact pl_right h h3 h4
theorem mem4_wd10 (f : Nat → Bool) {c : Nat} (hc : c < 256) : S1.mem4 (S1.wd f 0) (S1.wd f 1) (S1.wd f 2) (S1.wd f 3) c = f c := by
 obtain ⟨q0, q1, q2, q3⟩ := S1.wd_mem4 (S1.wd_lt f 0) (S1.wd_lt f 1) (S1.wd_lt f 2) (S1.wd_lt f 3)
 have hk : c / 64 = 0 ∨ c / 64 = 1 ∨ c / 64 = 2 ∨ c / 64 = 3 := by omega
 rcases hk with hk | hk | hk | hk
 ·have := S1.wd_inj q0 (c % 64) (by omega)
  rwa [show 64 * 0 + c % 64 = c by omega] at this
 ·have := S1.wd_inj q1 (c % 64) (by omega)
  rwa [show 64 * 1 + c % 64 = c by omega] at this
 ·have := S1.wd_inj q2 (c % 64) (by omega)
  rwa [show 64 * 2 + c % 64 = c by omega] at this
 ·have := S1.wd_inj q3 (c % 64) (by omega)
  rwa [show 64 * 3 + c % 64 = c by omega] at this
theorem leaf_lang (f : Nat → Bool) {c : Nat} (hc : c < 256) : lang (leafT f) [c] ↔ f c = true := by
 unfold leafT
 rw [lang_mk, if_pos rfl]
 simp only [Int.toNat_natCast]
 constructor
 ·rintro ⟨d, e, h⟩
  rw [List.cons.injEq] at e
  obtain ⟨rfl, -⟩ := e
  rw [← mem4_wd10 f hc]
  exact h
 ·intro h
  exact ⟨c, rfl, by rw [mem4_wd10 f hc]; exact h⟩
theorem as_cons (c : Nat) (hc : c < 256) (v : List Nat) : lang asT (c :: v) ↔ S1.oneS 97 c = true ∧ lang asT v := by
 show lang (tR 0 (-1) (leafT (S1.oneS 97))) (c :: v) ↔ _ ∧ lang (tR 0 (-1) (leafT (S1.oneS 97))) v
 unfold tR
 rw [lang_star]
 constructor
 ·rintro (h | ⟨u, x, hu, e, h1, h2⟩)
  ·cases h
  ·cases u with
   | nil => exact absurd rfl hu
   | cons d u =>
    rw [List.cons_append, List.cons.injEq] at e
    obtain ⟨rfl, rfl⟩ := e
    have h3 : u = [] := by
     unfold leafT at h1
     rw [lang_mk, if_pos rfl] at h1
     obtain ⟨q, e, -⟩ := h1
     rw [List.cons.injEq] at e
     exact e.2
    subst h3
    exact ⟨(leaf_lang _ hc).1 h1, h2⟩
 ·rintro ⟨h1, h2⟩
  exact Or.inr ⟨[c], v, by simp, rfl, (leaf_lang _ hc).2 h1, h2⟩
theorem as_nil : lang asT [] := by
 show lang (tR 0 (-1) (leafT (S1.oneS 97))) []
 unfold tR
 rw [lang_star]
 exact Or.inl rfl
theorem as_lens {m : T} (hms : m.strip = asT.strip) : lensW m ([97, 97, 98].drop 0) = [0, 1, 2] := by
 have hR : rightB m = true := by rw [← right_strip, hms, right_strip, as_right]
 have hA := (right_all ((rightB_iff m).1 hR)).1
 have hokd : T.All okd m := okd_ok hA
 have hw : weightT m = 2 := by
  rw [← weight_strip, hms, weight_strip]
  show weightT (tR 0 (-1) (leafT (S1.oneS 97))) = 2
  unfold tR leafT
  rw [weightT_mk]
  simp only [List.foldl_cons, List.foldl_nil]
  rw [weightT_mk]
  simp only [List.foldl_nil]
  decide
 have hW : worksB m = true := (worksB_iff m).2 ⟨hR, by omega⟩
 have hl : ∀ w, lang m w ↔ lang asT w := fun w => by rw [← lang_strip, hms, lang_strip]
 have y : ∀ w, lang asT w → inL m w = true := fun w h => (inL_iff hokd w).2 ((hl w).2 h)
 have n : ∀ w, ¬ lang asT w → inL m w = false := fun w h => by
  cases e : inL m w with
  | false => rfl
  | true => exact absurd ((hl w).1 ((inL_iff hokd w).1 e)) h
 have q : S1.oneS 97 97 = true := by decide
 have q' : ¬ S1.oneS 97 98 = true := by decide
 have h0 := y [] as_nil
 have h1 := y [97] ((as_cons 97 (by decide) _).2 ⟨q, as_nil⟩)
 have h2 := y [97, 97] ((as_cons 97 (by decide) _).2 ⟨q, (as_cons 97 (by decide) _).2 ⟨q, as_nil⟩⟩)
 have h3 := n [97, 97, 98] fun h => q' ((as_cons 98 (by decide) _).1 ((as_cons 97 (by decide) _).1 ((as_cons 97 (by decide) _).1 h).2).2).1
 unfold lensW
 rw [if_pos hW]
 simp [lens, lensTo, List.range_succ, h0, h1, h2, h3]
theorem conv_lit (w : World) (o : Obj) (C : Array Value) (n c : Nat) : (convert 28 28 (.slice (some ⟨w.heap.size + 1, 0, none⟩) n c)).run Tryd.prog ((w.alloc o).alloc (.cells C 5)) = .ok (.slice (some ⟨w.heap.size + 1, 0, none⟩) n c) ((w.alloc o).alloc (.cells C 5 (C.size, C.size + 1))) := by
 have := Lib.run_convert_bytes_const (P := Tryd.prog) (w.alloc o) 28 5 C n c Tryd.underlying28 Tryd.underlying5
 rw [World.size_alloc] at this
 exact this
set_option maxRecDepth 100000 in
set_option maxHeartbeats 4000000 in
theorem alive10_in {V : Nat → Value} (w : World) (hS : Six w V) : Calls Tryd.prog 7 #[] w fun e w' => e = .returned (.bool true) ∧ Below w.heap.size w w' := by
 have hr := run_as
 rw [← nl_as] at hr
 have cP := hid (parse_tree hr all_as.1 all_as.2 (by decide) w hS)
 clear hS hr
 generalize hX : asT.strip = X at *
 have cE : Hid (∀ (m : T) (W : World) (g : Nat), T.In W W.heap.size m → m.strip = X → g = W.heap.size → Calls Tryd.prog 10 #[.agg m.cells.toArray, .slice (some ⟨g, 0, none⟩) 3 3, .int .i64 0] (W.alloc (.cells #[.int .u8 97, .int .u8 97, .int .u8 98] 5 (3, 4))) fun e w' => ∃ v, e = .returned v ∧ ILst w' (W.alloc (.cells #[.int .u8 97, .int .u8 97, .int .u8 98] 5 (3, 4))).heap.size v [0, 1, 2] ∧ Below (W.alloc (.cells #[.int .u8 97, .int .u8 97, .int .u8 98] 5 (3, 4))).heap.size (W.alloc (.cells #[.int .u8 97, .int .u8 97, .int .u8 98] 5 (3, 4))) w') := hid fun m W g h1 h2 hg => by
  subst hg
  have hs : Src (W.alloc (.cells #[.int .u8 97, .int .u8 97, .int .u8 98] 5 (3, 4))) (some ⟨W.heap.size, 0, none⟩) 3 3 [97, 97, 98] := Src.new W [97, 97, 98] 5 (3, 4) (by decide)
  have h := ends_yes (in_bel h1 (Bel.new W (.cells #[.int .u8 97, .int .u8 97, .int .u8 98] 5 (3, 4)))) hs (F := 0) (by decide) (by decide)
  rw [as_lens (h2.trans hX.symm)] at h
  exact h
 have cS : Hid (∀ (W : World) (B : Nat) (v : Value), ILst W B v [0, 1, 2] → Calls Tryd.prog 14 #[v, .slice (some ⟨W.heap.size, 0, none⟩) 3 3] (W.alloc (.cells #[.int .i64 0, .int .i64 1, .int .i64 2] 3)) fun e w' => e = .returned (.bool true) ∧ Below (W.alloc (.cells #[.int .i64 0, .int .i64 1, .int .i64 2] 3)).heap.size (W.alloc (.cells #[.int .i64 0, .int .i64 1, .int .i64 2] 3)) w') := hid fun W B v h => by
  have h2 : ILst (W.alloc (.cells #[.int .i64 0, .int .i64 1, .int .i64 2] 3)) W.heap.size (.slice (some ⟨W.heap.size, 0, none⟩) 3 3) [0, 1, 2] := World.ownsRow_lit W _ 3 (Nat.le_refl _) (by decide) rfl
  exact sameints_in (h.keep fun g _ hl => Below.heap_alloc _ _ _ hl) h2 (by decide) (by decide) (by simp)
 replace hX := hid hX
 have hcv := conv_lit
 go_enter Tryd.func7, Tryd.ntmps7
 go_wp2_with (first | (go_at_call 21; ((with_reducible refine cP.out.mono ?_); rintro e w1 ⟨hb, m, hms, hT, rfl⟩; obtain ⟨k, s0, s1, s2, s3, p, cap, mn, mx, tx, ks⟩ := m; simp only [T.cells]; have hbn := hid (World.alloc_heap_new w1 (.cells #[.int .i64 k, .int .u64 s0, .int .u64 s1, .int .u64 s2, .int .u64 s3, .slice p ks.length cap, .int .i64 mn, .int .i64 mx, .string tx] 27)); have hq1 := hid (Bel.alloc (show Bel w w1 from hb) (.cells #[.int .i64 k, .int .u64 s0, .int .u64 s1, .int .u64 s2, .int .u64 s3, .slice p ks.length cap, .int .i64 mn, .int .i64 mx, .string tx] 27)); have cE2 := cE.out _ _ (w1.heap.size + 1) (in_bel hT (Bel.new w1 (.cells #[.int .i64 k, .int .u64 s0, .int .u64 s1, .int .u64 s2, .int .u64 s3, .slice p ks.length cap, .int .i64 mn, .int .i64 mx, .string tx] 27))) hms (by simp); simp only [T.cells] at cE2; replace cE2 := hid cE2; replace hms := hid hms; obtain ⟨n0, n1, n2, n3, n4, n5, n6, n7, n8⟩ := c9 hbn.out; clear hb hT)) | (go_at_call 10; ((with_reducible refine cE2.out.mono ?_); rintro e w2 ⟨v, rfl, hv, hb⟩; obtain ⟨pv, cv, rfl⟩ := hv.form; replace hq1 := hid (Bel.step (Bel.alloc hq1.out _) hb); have cS3 := hid (cS.out _ _ _ hv); clear hb hv)) | (go_at_call 14; ((refine cS3.out.mono ?_); rintro e w3 ⟨rfl, hb⟩; replace hq1 := hid (Bel.step (Bel.alloc hq1.out _) hb); clear hb)))
 go_ret
 exact ⟨rfl, hq1.out⟩
end Go.Proofs.YtobbifhflnlplaaDoor
namespace Go.Proofs.YtobbifhflnlplaaDoor
open Lib (hid)
open Go.RowKit
open Go.Tree7
open S7
open S5 (nl nl_length nl_small at_nl nl_at Gives idx idx_at ix ix_no ix_yes)
theorem rcut_in (S : Int) (w : World) : Calls Tryd.prog 40 #[.int .i64 S] w fun e w' => e = .returned (.int .i64 (cut20 S)) ∧ Below w.heap.size w w' := by
 unfold cut20
 by_cases h : 1048576 < S
 ·go_enter Tryd.func40, Tryd.ntmps40
  go_wp2
  go_ret
  exact ⟨rfl, Below.refl _ _⟩
 ·go_enter Tryd.func40, Tryd.ntmps40
  go_wp2
  go_ret
  exact ⟨rfl, Below.refl _ _⟩
theorem cut_small {x : Int} (h : 0 ≤ x) : 0 ≤ cut20 x ∧ cut20 x ≤ 1048576 := by unfold cut20; split <;> omega
theorem kidW_small {k mn mx x : Int} {ks : List T} (hn : Okn k mn mx ks) (h0 : 0 ≤ x) (h1 : x ≤ 1048576) : 0 ≤ kidW k mn mx x ∧ kidW k mn mx x ≤ 1048576 := by
 unfold kidW
 split
 ·next h =>
  refine cut_small (Int.mul_nonneg h0 ?_)
  cases hn with
  | rep _ _ _ h3 _ => omega
  | _ => omega
 ·split
  ·next h2 h =>
   refine cut_small (Int.mul_nonneg h0 ?_)
   cases hn with
   | rep _ _ _ h3 h4 => omega
   | _ => omega
  ·exact ⟨h0, h1⟩
theorem fold_small {k mn mx : Int} {ks : List T} (hn : Okn k mn mx ks) : ∀ (l : List T), (∀ t ∈ l, T.All (fun t => T.ok t = true) t) → ∀ a : Int, 0 ≤ a → a ≤ 1048576 → 0 ≤ l.foldl (fun w t => cut20 (w + kidW k mn mx (weightT t))) a ∧ l.foldl (fun w t => cut20 (w + kidW k mn mx (weightT t))) a ≤ 1048576
 | [], _, a, h0, h1 => ⟨h0, h1⟩
 | t :: l, h, a, h0, h1 => by
  rw [List.foldl_cons]
  have hw := weight_within (h t (by simp))
  have hk := kidW_small hn (show 0 ≤ weightT t by omega) hw.2
  have hc := cut_small (show 0 ≤ a + kidW k mn mx (weightT t) by omega)
  exact fold_small hn l (fun t ht => h t (by simp [ht])) _ hc.1 hc.2
set_option maxRecDepth 10000 in
set_option maxHeartbeats 4000000 in
theorem rweight_in {w0 : World} {B0 : Nat} (hn0 : B0 ≤ w0.heap.size) : ∀ t : T, T.All (fun t => T.ok t = true) t → T.In w0 B0 t → ∀ w, Below B0 w0 w → Calls Tryd.prog 25 #[.agg t.cells.toArray] w fun e w' => e = .returned (.int .i64 (weightT t)) ∧ Below w.heap.size w w' := by
 refine T.ind fun k s0 s1 s2 s3 p cap mn mx tx ks ih => ?_
 intro hA hT w hB0
 have hks : ks.length ≤ 9223372036854775807 := by cases hT with | mk h1 h2 => unfold maxLen at h2; omega
 have hB0w : B0 ≤ w.heap.size := Nat.le_trans hn0 hB0.size
 obtain ⟨ho, hAk⟩ : T.ok (.mk k s0 s1 s2 s3 p cap mn mx tx ks) = true ∧ ∀ t ∈ ks, T.All (fun t => T.ok t = true) t := by cases hA with | mk h1 h2 => exact ⟨h1, h2⟩
 have hok := okn_of ho
 rw [weightT_mk]
 obtain ⟨Wt, hWt⟩ : ∃ Wt : Nat → Int, ∀ j, Wt j = (ks.take j).foldl (fun w t => cut20 (w + kidW k mn mx (weightT t))) 1 := ⟨_, fun _ => rfl⟩
 have hW0 : Wt 0 = 1 := by rw [hWt]; rfl
 have hWs : ∀ j (hj : j < ks.length), Wt (j + 1) = cut20 (Wt j + kidW k mn mx (weightT ks[j])) := fun j hj => by rw [hWt, hWt, List.take_succ_eq_append_getElem hj, List.foldl_append]; rfl
 have hWe : Wt ks.length = ks.foldl (fun w t => cut20 (w + kidW k mn mx (weightT t))) 1 := by rw [hWt, List.take_length]
 have hWb : ∀ j, 0 ≤ Wt j ∧ Wt j ≤ 1048576 := fun j => by rw [hWt]; exact fold_small hok _ (fun t ht => hAk t (List.mem_of_mem_take ht)) _ (by omega) (by omega)
 rw [← hWe]
 have hkb : ∀ x : Int, 0 ≤ x → x ≤ 1048576 → 0 ≤ kidW k mn mx x ∧ kidW k mn mx x ≤ 1048576 := fun x h0 h1 => kidW_small hok h0 h1
 have hbd : k = 4 → (0 ≤ mn ∧ mn ≤ 40) ∧ (mx = -1 ∨ (0 ≤ mx ∧ mx ≤ 40)) := fun e => by cases hok with | rep _ _ _ h3 h4 => omega | bytes h => omega | cat h => omega | alt h => omega | name h => omega
 replace hWs := hid hWs
 replace hWb := hid hWb
 replace hkb := hid hkb
 replace hbd := hid hbd
 replace hAk := hid hAk
 replace hT := hid hT
 replace hB0 := hid hB0
 replace ih := hid ih
 clear hWt hWe hA ho hok
 simp only [T.cells]
 have hbn := hid (World.alloc_heap_new w (.cells #[.int .i64 k, .int .u64 s0, .int .u64 s1, .int .u64 s2, .int .u64 s3, .slice p ks.length cap, .int .i64 mn, .int .i64 mx, .string tx] 32))
 have h0 : Hid (Below w.heap.size w (w.alloc (.cells #[.int .i64 k, .int .u64 s0, .int .u64 s1, .int .u64 s2, .int .u64 s3, .slice p ks.length cap, .int .i64 mn, .int .i64 mx, .string tx] 32))) := hid ((Below.refl _ _).alloc (Nat.le_refl _) _)
 obtain ⟨y0, y1, y2, y3, y4, y5, y6, y7, y8⟩ := c9 hbn.out
 go_enter Tryd.func25, Tryd.ntmps25
 go_wp2
 go_loopw [3, 10] (fun m i wr => ∃ j : Nat, j ≤ ks.length ∧ m = .int .i64 (Wt j) ∧ i = .int .i64 j ∧ Hid (Below w.heap.size w wr) ∧ Hid (wr.heap[w.heap.size]? = some (.cells #[.int .i64 k, .int .u64 s0, .int .u64 s1, .int .u64 s2, .int .u64 s3, .slice p ks.length cap, .int .i64 mn, .int .i64 mx, .string tx] 32 (0, 0)))) (fun _ i _ => ks.length - (intOf i).toNat)
 case atStart => exact ⟨0, Nat.zero_le _, by rw [hW0], rfl, h0, hbn⟩
 case round =>
  clear h0 hbn hW0 y0 y1 y2 y3 y4 y5 y6 y7 y8
  obtain ⟨j, hj, rfl, rfl, hbel, hbx⟩ := hrel
  by_cases hlt : j < ks.length
  ·obtain ⟨b, o, hkid, hp, hb, hc⟩ := T.kid hT.out hlt
   have hBw : Below B0 w0 wr := hB0.out.trans (hbel.out.mono hB0w)
   have hcl : ∀ q, q < 9 → wr.cell? ⟨b, o + j * 9 + q, none⟩ = (ks[j].cells)[q]? := fun q hq => by
    rw [← hc q hq]
    exact hBw.cell (p := ⟨b, o + j * 9 + q, none⟩) hb
   have cK := ih.out ks[j] (List.getElem_mem hlt) (hAk.out _ (List.getElem_mem hlt)) hkid
   have hs := hWs.out j hlt
   have hw1 := hWb.out j
   have hx1 := weight_within (hAk.out _ (List.getElem_mem hlt))
   clear hc hkid
   subst hp
   generalize ks[j] = kd at *
   generalize weightT kd = X at *
   have hkx := hkb.out X (by omega) hx1.2
   cases kd with
   | mk k' s0' s1' s2' s3' p' cap' mn' mx' tx' ks' =>
   simp only [T.cells] at hcl cK
   obtain ⟨c0, c1, c2, c3, c4, c5, c6, c7, c8⟩ := nine_of hcl
   clear hcl
   have hsz := (Array.getElem?_eq_some_iff.1 hbx.out).1
   have hbk : Below wr.heap.size wr (wr.alloc (.cells #[.int .i64 k', .int .u64 s0', .int .u64 s1', .int .u64 s2', .int .u64 s3', .slice p' ks'.length cap', .int .i64 mn', .int .i64 mx', .string tx'] 32)) := (Below.refl _ _).alloc (Nat.le_refl _) _
   replace cK := hid (cK (wr.alloc (.cells #[.int .i64 k', .int .u64 s0', .int .u64 s1', .int .u64 s2', .int .u64 s3', .slice p' ks'.length cap', .int .i64 mn', .int .i64 mx', .string tx'] 32)) (hBw.alloc (Nat.le_trans hB0w (Nat.le_of_lt hsz)) _))
   have hbelk := hid (hbel.out.alloc (Nat.le_of_lt hsz) (.cells #[.int .i64 k', .int .u64 s0', .int .u64 s1', .int .u64 s2', .int .u64 s3', .slice p' ks'.length cap', .int .i64 mn', .int .i64 mx', .string tx'] 32))
   have hbxk := hid (kept_row hbx.out hbk)
   clear hbk hBw
   unfold kidW at hs hkx
   obtain ⟨z5, -⟩ := cells_of hbx.out 5 _ rfl
   by_cases hk : k = 4
   ·have hb4 := hbd.out hk
    have g4 : (k == 4) = true := by rw [beq_iff_eq]; exact hk
    by_cases hm : mx = -1
    ·rw [if_pos ⟨hk, hm⟩] at hs hkx
     have g1 : (mx == -1) = true := by rw [beq_iff_eq]; exact hm
     have k1 : IntKind.i64.wrap (mn + 1) = mn + 1 := IntWalk.i64_in _ ⟨by omega, by omega⟩
     obtain ⟨P, hP⟩ : ∃ P, X * (mn + 1) = P := ⟨_, rfl⟩
     have hPb : 0 ≤ P ∧ P ≤ 1048576 * 41 := by rw [← hP]; exact ⟨Int.mul_nonneg (by omega) (by omega), Int.mul_le_mul hx1.2 (by omega) (by omega) (by omega)⟩
     rw [hP] at hs hkx
     have kP : IntKind.i64.wrap P = P := IntWalk.i64_in P ⟨by omega, by omega⟩
     have cA := hid fun w => rcut_in P w
     generalize cut20 P = C at *
     obtain ⟨S, hS⟩ : ∃ S, Wt j + C = S := ⟨_, rfl⟩
     rw [hS] at hs
     have kS : IntKind.i64.wrap S = S := IntWalk.i64_in S ⟨by omega, by omega⟩
     have cB := hid fun w => rcut_in S w
     generalize cut20 S = D at *
     replace hs := hid hs
     clear hw1 hx1 hkx hPb hb4 hk hm
     go_wp2_with (first | (go_at_call 25; ((with_reducible refine cK.out.mono ?_); rintro e w2 ⟨rfl, hb2⟩; have hbx2 := kept_row (hbxk.out) hb2; obtain ⟨n0, n1, n2, n3, n4, n5, n6, n7, n8⟩ := c9 hbx2; have hq2 := hid (hbelk.out.trans (hb2.mono hbelk.out.size)); replace hbx2 := hid hbx2; clear hb2)) | (go_at_call 40; (first | (with_reducible refine (cA.out _).mono ?_) | (with_reducible refine (cB.out _).mono ?_)); rintro e w3 ⟨rfl, hb3⟩; have hbx2 := hid (kept_row hbx2.out hb3); have hq2 := hid (hq2.out.trans (hb3.mono hq2.out.size)); clear hb3))
     go_roundw
     case rel => exact ⟨j + 1, by omega, by rw [hs.out], by go_num, hq2, hbx2⟩
     case measure => simp [intOf]; omega
    ·rw [if_neg (fun h => hm h.2), if_pos hk] at hs hkx
     have g1 : (mx == -1) = false := by rw [beq_eq_false_iff_ne]; exact hm
     obtain ⟨P, hP⟩ : ∃ P, X * mx = P := ⟨_, rfl⟩
     have hPb : 0 ≤ P ∧ P ≤ 1048576 * 40 := by rw [← hP]; exact ⟨Int.mul_nonneg (by omega) (by omega), Int.mul_le_mul hx1.2 (by omega) (by omega) (by omega)⟩
     rw [hP] at hs hkx
     have kP : IntKind.i64.wrap P = P := IntWalk.i64_in P ⟨by omega, by omega⟩
     have cA := hid fun w => rcut_in P w
     generalize cut20 P = C at *
     obtain ⟨S, hS⟩ : ∃ S, Wt j + C = S := ⟨_, rfl⟩
     rw [hS] at hs
     have kS : IntKind.i64.wrap S = S := IntWalk.i64_in S ⟨by omega, by omega⟩
     have cB := hid fun w => rcut_in S w
     generalize cut20 S = D at *
     replace hs := hid hs
     clear hw1 hx1 hkx hPb hb4 hk hm
     go_wp2_with (first | (go_at_call 25; ((with_reducible refine cK.out.mono ?_); rintro e w2 ⟨rfl, hb2⟩; have hbx2 := kept_row (hbxk.out) hb2; obtain ⟨n0, n1, n2, n3, n4, n5, n6, n7, n8⟩ := c9 hbx2; have hq2 := hid (hbelk.out.trans (hb2.mono hbelk.out.size)); replace hbx2 := hid hbx2; clear hb2)) | (go_at_call 40; (first | (with_reducible refine (cA.out _).mono ?_) | (with_reducible refine (cB.out _).mono ?_)); rintro e w3 ⟨rfl, hb3⟩; have hbx2 := hid (kept_row hbx2.out hb3); have hq2 := hid (hq2.out.trans (hb3.mono hq2.out.size)); clear hb3))
     go_roundw
     case rel => exact ⟨j + 1, by omega, by rw [hs.out], by go_num, hq2, hbx2⟩
     case measure => simp [intOf]; omega
   ·rw [if_neg (fun h => hk h.1), if_neg hk] at hs hkx
    have g4 : (k == 4) = false := by rw [beq_eq_false_iff_ne]; exact hk
    obtain ⟨S, hS⟩ : ∃ S, Wt j + X = S := ⟨_, rfl⟩
    rw [hS] at hs
    have kS : IntKind.i64.wrap S = S := IntWalk.i64_in S ⟨by omega, by omega⟩
    have cA := hid fun w => rcut_in S w
    have cB := cA
    generalize cut20 S = D at *
    replace hs := hid hs
    clear hw1 hx1 hkx hk
    go_wp2_with (first | (go_at_call 25; ((with_reducible refine cK.out.mono ?_); rintro e w2 ⟨rfl, hb2⟩; have hbx2 := kept_row (hbxk.out) hb2; obtain ⟨n0, n1, n2, n3, n4, n5, n6, n7, n8⟩ := c9 hbx2; have hq2 := hid (hbelk.out.trans (hb2.mono hbelk.out.size)); replace hbx2 := hid hbx2; clear hb2)) | (go_at_call 40; (first | (with_reducible refine (cA.out _).mono ?_) | (with_reducible refine (cB.out _).mono ?_)); rintro e w3 ⟨rfl, hb3⟩; have hbx2 := hid (kept_row hbx2.out hb3); have hq2 := hid (hq2.out.trans (hb3.mono hq2.out.size)); clear hb3))
    go_roundw
    case rel => exact ⟨j + 1, by omega, by rw [hs.out], by go_num, hq2, hbx2⟩
    case measure => simp [intOf]; omega
  ·obtain rfl : j = ks.length := by omega
   go_wp2
   go_ret
   exact ⟨rfl, hbel.out⟩
set_option maxRecDepth 100000 in
set_option maxHeartbeats 4000000 in
theorem works_in {w : World} {m : T} (hT : T.In w w.heap.size m) : Calls Tryd.prog 11 #[.agg m.cells.toArray] w fun e w' => e = .returned (.bool (worksB m)) ∧ Below w.heap.size w w' := by
 have hb0 := Bel.new w (.cells m.cells.toArray 32)
 have hbx := World.alloc_heap_new w (.cells m.cells.toArray 32)
 have cR := hid (rright_in (in_bel hT hb0))
 have cW : Hid (rightB m = true → ∀ w', Bel (w.alloc (.cells m.cells.toArray 32)) w' → Calls Tryd.prog 25 #[.agg m.cells.toArray] w' fun e w'' => e = .returned (.int .i64 (weightT m)) ∧ Below w'.heap.size w' w'') := hid fun h w' hb => rweight_in (Nat.le_refl _) m (right_all ((rightB_iff m).1 h)).1 (in_bel hT (Bel.step hb0 hb)) w' (Below.refl _ _)
 unfold worksB
 generalize rightB m = R at *
 generalize weightT m = X at *
 clear hT
 cases m with
 | mk k s0 s1 s2 s3 p cap mn mx tx ks =>
  simp only [T.cells] at hb0 hbx cR cW ⊢
  obtain ⟨y0, y1, y2, y3, y4, y5, y6, y7, y8⟩ := c9 hbx
  replace hb0 := hid hb0
  replace hbx := hid hbx
  cases R
  ·go_enter Tryd.func11, Tryd.ntmps11
   go_wp2_with (go_at_call 24; (with_reducible refine cR.out.mono ?_); rintro e w1 ⟨rfl, hb1⟩; replace hb1 := hid hb1)
   go_ret
   exact ⟨rfl, Bel.step hb0.out hb1.out⟩
  ·have cW2 := hid (cW.out rfl)
   go_enter Tryd.func11, Tryd.ntmps11
   go_wp2_with (first | (go_at_call 24; (with_reducible refine cR.out.mono ?_); rintro e w1 ⟨rfl, hb1⟩; obtain ⟨x0, x1, x2, x3, x4, x5, x6, x7, x8⟩ := c9 (kept_row hbx.out hb1); have cX := hid (cW2.out _ hb1); replace hb1 := hid hb1) | (go_at_call 25; (with_reducible refine cX.out.mono ?_); rintro e w2 ⟨rfl, hb2⟩; replace hb2 := hid hb2))
   go_ret
   exact ⟨rfl, Bel.step (Bel.step hb0.out hb1.out) hb2.out⟩
end Go.Proofs.YtobbifhflnlplaaDoor
namespace Go.Proofs.YtobbifhflnlplaaDoor
open Lib (hid)
open Go.RowKit
open Go.Tree7
open S7
open S5 (nl nl_length nl_small at_nl nl_at Gives idx idx_at ix ix_no ix_yes)
set_option maxRecDepth 100000 in
set_option maxHeartbeats 4000000 in
theorem small_any {w : World} {t : T} {n : Nat} {Ψ : World → World → T → Int → Prop} (cO : ∀ w', Bel w w' → Calls Tryd.prog 20 #[.agg t.cells.toArray, .int .i64 n] w' fun e w'' => ∃ (m : T) (d : Int), e = .returned (.tuple #[.agg m.cells.toArray, .int .i64 d]) ∧ Below w'.heap.size w' w'' ∧ Ψ w' w'' m d) :
  Calls Tryd.prog 8 #[.agg t.cells.toArray, .int .i64 n] w fun e w' => ∃ (m : T) (d : Int) (w1 w2 : World), e = .returned (.tuple #[.agg m.cells.toArray, .bool (decide (0 < d))]) ∧ Below w.heap.size w w' ∧ Bel w w1 ∧ Ψ w1 w2 m d ∧ Below w1.heap.size w1 w2 ∧ w2.heap.size ≤ w'.heap.size ∧ (∀ b, w1.heap.size ≤ b → b < w2.heap.size → w'.heap[b]? = w2.heap[b]?) := by
 cases t with
 | mk k s0 s1 s2 s3 p cap mn mx tx ks =>
 simp only [T.cells] at cO ⊢
 have hb0 : ((w.alloc (.cells #[.int .i64 k, .int .u64 s0, .int .u64 s1, .int .u64 s2, .int .u64 s3, .slice p ks.length cap, .int .i64 mn, .int .i64 mx, .string tx] 27)).alloc (.cells #[.int .i64 0, .int .u64 0, .int .u64 0, .int .u64 0, .int .u64 0, .slice none 0 0, .int .i64 0, .int .i64 0, .string ⟨#[]⟩] 32)).heap[w.heap.size]? = some (.cells #[.int .i64 k, .int .u64 s0, .int .u64 s1, .int .u64 s2, .int .u64 s3, .slice p ks.length cap, .int .i64 mn, .int .i64 mx, .string tx] 27 (0, 0)) := (Below.heap_alloc _ _ _ (by simp)).trans (World.alloc_heap_new _ _)
 have hb1 : Hid (((w.alloc (.cells #[.int .i64 k, .int .u64 s0, .int .u64 s1, .int .u64 s2, .int .u64 s3, .slice p ks.length cap, .int .i64 mn, .int .i64 mx, .string tx] 27)).alloc (.cells #[.int .i64 0, .int .u64 0, .int .u64 0, .int .u64 0, .int .u64 0, .slice none 0 0, .int .i64 0, .int .i64 0, .string ⟨#[]⟩] 32)).heap[w.heap.size + 1]? = some (.cells #[.int .i64 0, .int .u64 0, .int .u64 0, .int .u64 0, .int .u64 0, .slice none 0 0, .int .i64 0, .int .i64 0, .string ⟨#[]⟩] 32 (0, 0))) := hid (by have := World.alloc_heap_new (w.alloc (.cells #[.int .i64 k, .int .u64 s0, .int .u64 s1, .int .u64 s2, .int .u64 s3, .slice p ks.length cap, .int .i64 mn, .int .i64 mx, .string tx] 27)) (.cells #[.int .i64 0, .int .u64 0, .int .u64 0, .int .u64 0, .int .u64 0, .slice none 0 0, .int .i64 0, .int .i64 0, .string ⟨#[]⟩] 32); rw [World.size_alloc] at this; exact this)
 have hbel0 : Hid (Bel w ((w.alloc (.cells #[.int .i64 k, .int .u64 s0, .int .u64 s1, .int .u64 s2, .int .u64 s3, .slice p ks.length cap, .int .i64 mn, .int .i64 mx, .string tx] 27)).alloc (.cells #[.int .i64 0, .int .u64 0, .int .u64 0, .int .u64 0, .int .u64 0, .slice none 0 0, .int .i64 0, .int .i64 0, .string ⟨#[]⟩] 32))) := hid (((Below.refl _ _).alloc (Nat.le_refl _) _).alloc (by simp) _)
 obtain ⟨y0, y1, y2, y3, y4, y5, y6, y7, y8⟩ := c9 hb0
 clear hb0
 replace cO := hid cO
 go_enter Tryd.func8, Tryd.ntmps8
 go_wp2_with (go_at_call 20; ((with_reducible refine (cO.out _ hbel0.out).mono ?_); rintro e w2 ⟨⟨km, m0, m1, m2, m3, pm, capm, mnm, mxm, txm, ksm⟩, d, rfl, hb2, hpsi⟩; dsimp only; have hrz := kept_row hb1.out hb2; obtain ⟨r0, g0, r1, g1, r2, g2, r3, g3, r4, g4, r5, g5, r6, g6, r7, g7, r8, g8⟩ := d9 hrz; have hlt2 : w.heap.size + 1 < w2.heap.size := lt_box hrz; replace hrz := hid hrz; replace hb2 := hid hb2; replace hpsi := hid hpsi))
 obtain ⟨q1, q2, q3, q4⟩ := set9 (d0 := .int .i64 km) (d1 := .int .u64 m0) (d2 := .int .u64 m1) (d3 := .int .u64 m2) (d4 := .int .u64 m3) (d5 := .slice pm ksm.length capm) (d6 := .int .i64 mnm) (d7 := .int .i64 mxm) (d8 := .string txm) hrz.out _ rfl
 generalize hW : World.setCell _ (⟨w.heap.size + 1, 8, none⟩ : Addr) _ = W at *
 clear hW
 have hfin : (W.alloc (.cells #[.int .i64 km, .int .u64 m0, .int .u64 m1, .int .u64 m2, .int .u64 m3, .slice pm ksm.length capm, .int .i64 mnm, .int .i64 mxm, .string txm] 32)).heap[w.heap.size + 1]? = some (.cells #[.int .i64 km, .int .u64 m0, .int .u64 m1, .int .u64 m2, .int .u64 m3, .slice pm ksm.length capm, .int .i64 mnm, .int .i64 mxm, .string txm] 32 (0, 0)) := (Below.heap_alloc _ _ _ (by rw [q2]; exact hlt2)).trans q1
 obtain ⟨v0, v1, v2, v3, v4, v5, v6, v7, v8⟩ := c9 hfin
 refine bodyPost_ret (v := .tuple #[.agg #[.int .i64 km, .int .u64 m0, .int .u64 m1, .int .u64 m2, .int .u64 m3, .slice pm ksm.length capm, .int .i64 mnm, .int .i64 mxm, .string txm], .bool (decide (0 < d))]) (by simp [results, Tryd.results8, go_sem, v0, v1, v2, v3, v4, v5, v6, v7, v8]) rfl ?_
 refine ⟨.mk km m0 m1 m2 m3 pm capm mnm mxm txm ksm, d, _, _, rfl, ?_, hbel0.out, hpsi.out, hb2.out, by rw [World.size_alloc, q2]; omega, fun b b1 b2 => ?_⟩
 ·exact ((hbel0.out.trans (hb2.out.mono (by simp <;> omega))).trans (q4 _ (by omega))).alloc (by rw [q2]; omega) _
 ·have : ((w.alloc (.cells #[.int .i64 k, .int .u64 s0, .int .u64 s1, .int .u64 s2, .int .u64 s3, .slice p ks.length cap, .int .i64 mn, .int .i64 mx, .string tx] 27)).alloc (.cells #[.int .i64 0, .int .u64 0, .int .u64 0, .int .u64 0, .int .u64 0, .slice none 0 0, .int .i64 0, .int .i64 0, .string ⟨#[]⟩] 32)).heap.size = w.heap.size + 2 := by simp
  exact (Below.heap_alloc _ _ _ (by rw [q2]; exact b2)).trans (q3 b (by omega))
theorem small_full {w : World} {t : T} {n : Nat} (hT : T.In w w.heap.size t) (h1 : 1 ≤ n) (h2 : n ≤ 2000) (hz : n ≤ t.size) : Calls Tryd.prog 8 #[.agg t.cells.toArray, .int .i64 n] w fun e w' => ∃ m : T, e = .returned (.tuple #[.agg m.cells.toArray, .bool false]) ∧ Below w.heap.size w w' :=
 (small_any (Ψ := fun _ _ _ d => d = 0) fun w' hb => (of_full hT h1 h2 rfl hz w' hb).mono fun e w'' h => by
  obtain ⟨m, h1, h2⟩ := h
  exact ⟨m, 0, h1, h2, rfl⟩).mono fun e w' h => by
 obtain ⟨m, d, w1, w2, h1, h2, -, rfl, -⟩ := h
 exact ⟨m, h1, h2⟩
theorem small_room {w : World} {t : T} {n : Nat} (hT : T.In w w.heap.size t) (h2 : n ≤ 2000) (hz : t.size < n) : Calls Tryd.prog 8 #[.agg t.cells.toArray, .int .i64 n] w fun e w' => ∃ m : T, e = .returned (.tuple #[.agg m.cells.toArray, .bool true]) ∧ Below w.heap.size w w' ∧ T.In w' w'.heap.size m ∧ m.strip = t.strip :=
 (small_any (Ψ := fun w1 w2 m d => 0 < d ∧ T.InP w2 (fun b => w1.heap.size ≤ b ∧ b < w2.heap.size) m ∧ m.strip = t.strip) fun w' hb => (of_room hT h2 rfl hz w' hb).mono fun e w'' h => by
  obtain ⟨m, d, h1, h2, h3, h4, h5⟩ := h
  exact ⟨m, d, h2, h3, h1, h4, h5⟩).mono fun e w' h => by
 obtain ⟨m, d, w1, w2, h1, h2, -, ⟨h3, h4, h5⟩, -, h7, h8⟩ := h
 refine ⟨m, by rw [h1, decide_eq_true h3], h2, ?_, h5⟩
 exact (h4.keep (w' := w') fun b hb => h8 b hb.1 hb.2).toIn fun b hb => Nat.lt_of_lt_of_le hb.2 h7
end Go.Proofs.YtobbifhflnlplaaDoor
namespace Go.Proofs.YtobbifhflnlplaaDoor
open Lib (hid)
open Go.RowKit
open Go.Tree7
open S7
open S5 (nl nl_length nl_small at_nl nl_at Gives idx idx_at ix ix_no ix_yes)
theorem plain0 : S7.plainB (S1.mem4 0 0 0 0) 0 0 ⟨#[]⟩ = true := by decide +kernel
theorem isB_no {n : T} (hw : worksB n = false) (l : List Nat) : isB n l = false := by unfold isB; rw [hw, Bool.false_and, Bool.and_false]
theorem works_strip (t : T) : worksB t.strip = worksB t := by unfold worksB; rw [right_strip, weight_strip]
end Go.Proofs.YtobbifhflnlplaaDoor
namespace Go.Proofs.YtobbifhflnlplaaDoor
open Lib (hid)
open Go.RowKit
open Go.Tree7
open S7
open S5 (nl nl_length nl_small at_nl nl_at Gives idx idx_at ix ix_no ix_yes)
theorem bel_bel {a b c : World} (h : Bel a b) (h' : Bel b c) : Bel a c := Bel.step h h'
end Go.Proofs.YtobbifhflnlplaaDoor
