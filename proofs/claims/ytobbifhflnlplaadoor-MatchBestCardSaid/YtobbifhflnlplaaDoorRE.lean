/- Texts merged: S10R14, S10R17, S10R18, S10R19. -/

import Derived.Test.YtobbifhflnlplaaDoorS10R13a
import Derived.Test.YtobbifhflnlplaaDoorS10R13b
import Derived.Test.YtobbifhflnlplaaDoorS10R13c
import Derived.Test.YtobbifhflnlplaaDoorS10R16
import Derived.Test.YtobbifhflnlplaaDoorPG
namespace Go.Proofs.YtobbifhflnlplaaDoor
open Lib (hid)
open Go.RowKit
open Go.Tree7
open S7
open S5 (nl nl_length nl_small at_nl nl_at Gives idx idx_at ix ix_no ix_yes)
theorem off_rep {w : World} {n : T} {P : Nat → Prop} (hP : ∀ b, P b → b < w.heap.size) (hPN : T.InP w P n) {c : Nat} (hc : c ≤ 255) (h4 : kindT n = 4) (ho : okd n) (hkn : kn c n.strip)
  (ih : ∀ y ∈ kidsT n, ∀ W, Below w.heap.size w W → Calls Tryd.prog 28 #[.agg y.cells.toArray, .int .i64 c] W (GivesP P W (offD c y.strip))) :
  Calls Tryd.prog 28 #[.agg n.cells.toArray, .int .i64 c] w (GivesP P w (offD c n.strip)) := by
 have h : 0 ≤ mnT n ∧ (mxT n = -1 ∨ 1 ≤ mxT n) := by
  obtain ⟨k, u0, u1, u2, u3, p, cap, mn, mx, tx, ks⟩ := n
  have h4 : k = 4 := h4
  rcases ho with ⟨h, -⟩ | h | h | h | ⟨-, -, h1, h2⟩ | h
  ·omega
  ·omega
  ·omega
  ·omega
  ·exact ⟨h1, h2.imp_right fun h => h.1⟩
  ·omega
 by_cases gm : 0 < mnT n
 ·rcases h.2 with hx | hx
  ·exact off_rep1 hP hPN hc h4 ho gm hx hkn ih
  ·by_cases h1 : mxT n = 1
   ·exact off_rep5 hP hPN hc h4 ho gm h1 hkn ih
   ·exact off_rep3 hP hPN hc h4 ho gm (by omega) hkn ih
 ·have gm : mnT n = 0 := by omega
  rcases h.2 with hx | hx
  ·exact off_rep2 hP hPN hc h4 ho gm hx hkn ih
  ·by_cases h1 : mxT n = 1
   ·exact off_rep6 hP hPN hc h4 ho gm h1 hkn ih
   ·exact off_rep4 hP hPN hc h4 ho gm (by omega) hkn ih
end Go.Proofs.YtobbifhflnlplaaDoor
namespace Go.Proofs.YtobbifhflnlplaaDoor
open Lib (hid)
open Go.RowKit
open Go.Tree7
open S7
open S5 (nl nl_length nl_small at_nl nl_at Gives idx idx_at ix ix_no ix_yes)
theorem off10_in {w0 : World} {P : Nat → Prop} (hP : ∀ b, P b → b < w0.heap.size) {c : Nat} (hc : c ≤ 255) : ∀ n : T, T.InP w0 P n → T.All okd n → T.All (kn c) n.strip → ∀ w, Below w0.heap.size w0 w →
  Calls Tryd.prog 28 #[.agg n.cells.toArray, .int .i64 c] w (GivesP P w (offD c n.strip)) := by
 refine T.ind fun k u0 u1 u2 u3 p cap mn mx tx ks ih => ?_
 intro hPN hok hkn w hw
 have hP' : ∀ b, P b → b < w.heap.size := fun b hb => Nat.lt_of_lt_of_le (hP b hb) hw.size
 have hN' : T.InP w P (.mk k u0 u1 u2 u3 p cap mn mx tx ks) := hPN.keep fun b hb => hw.block b (hP b hb)
 have hks : ∀ y ∈ ks, T.All okd y := okd_kids hok
 have hkk : ∀ y ∈ ks, T.All (kn c) y.strip := fun y hy => by
  rw [T.strip_mk] at hkn
  cases hkn with
  | mk _ h => exact h _ (List.mem_map_of_mem hy)
 have hself : kn c (T.mk k u0 u1 u2 u3 p cap mn mx tx ks).strip := by
  rw [T.strip_mk] at hkn ⊢
  cases hkn with
  | mk h _ => exact h
 have hoself : okd (T.mk k u0 u1 u2 u3 p cap mn mx tx ks) := by cases hok with | mk h _ => exact h
 have ih2 : ∀ y ∈ kidsT (T.mk k u0 u1 u2 u3 p cap mn mx tx ks), ∀ W, Below w.heap.size w W → Calls Tryd.prog 28 #[.agg y.cells.toArray, .int .i64 c] W (GivesP P W (offD c y.strip)) := fun y hy W hW =>
  ih y hy (inp_kids hPN y hy) (hks y hy) (hkk y hy) W (hw.trans (hW.mono hw.size))
 by_cases h2 : k = 2
 ·exact off_cat hP' hN' hc h2 hok hself ih2
 by_cases h3 : k = 3
 ·exact off_alt hP' hN' hc h3 hself ih2
 by_cases h4 : k = 4
 ·exact off_rep hP' hN' hc h4 hoself hself ih2
 exact off_plain (hN'.toIn hP') hc h2 h3 h4
end Go.Proofs.YtobbifhflnlplaaDoor
namespace Go.Proofs.YtobbifhflnlplaaDoor
open Lib (hid)
open Go.RowKit
open Go.Tree7
open S7
open S5 (nl nl_length nl_small at_nl nl_at Gives idx idx_at ix ix_no ix_yes)
theorem read_append (t : T) (u v : List Nat) : readD t (u ++ v) = readD (readD t u) v := by unfold readD; rw [List.foldl_append]
theorem read_next (t : T) (l : List Nat) {j : Nat} (h : j < l.length) : offD l[j] (readD t (l.take j)) = readD t (l.take (j + 1)) := by
 rw [List.take_succ_eq_append_getElem h, readD_snoc]
theorem dead_take {n : T} (hn : T.All okd n) {l : List Nat} {j k : Nat} (h : kindT (readD n (l.take j)) = 0) (hk : j ≤ k) : inL n (l.take k) = false := by
 unfold inL
 have e : l.take k = l.take j ++ (l.drop j).take (k - j) := by
  rw [← List.take_add, Nat.add_sub_cancel' hk]
 rw [e, read_append]
 refine zero_null ?_ (zero_read h _)
 exact read_okd (read_okd hn _) _
theorem off_next {wr : World} {n : T} (hn : Fine2 n) {l : List Nat} {j : Nat} (hj : j < l.length) (hs : l[j] ≤ 255) {t : T} (hts : t.strip = readD n (l.take j)) {P : Nat → Prop} (hP : ∀ b, P b → b < wr.heap.size) (hti : T.InP wr P t) :
  ∀ W, Below wr.heap.size wr W → Calls Tryd.prog 28 #[.agg t.cells.toArray, .int .i64 (l[j] : Nat)] W (GivesP P W (readD n (l.take (j + 1)))) := fun W hb => by
 have ho : T.All okd t.strip := by rw [hts]; exact read_okd hn.fine.okd _
 have := off10_in hP hs t hti (okd_unstrip t ho) (by rw [hts]; exact read_kn hn _ _) W hb
 rw [hts, read_next n l hj] at this
 exact this
theorem null_next {wr : World} {n : T} (hn : Fine2 n) {l : List Nat} {j : Nat} {t : T} (hts : t.strip = readD n (l.take j)) (hti : T.In wr wr.heap.size t) :
  ∀ W, Bel wr W → Calls Tryd.prog 27 #[.agg t.cells.toArray] W fun e w' => e = .returned (.bool (inL n (l.take j))) ∧ Below W.heap.size W w' := fun W hb => by
 have ho : T.All okd t.strip := by rw [hts]; exact read_okd hn.fine.okd _
 have := null10_in (okd_unstrip t ho) (in_bel hti hb)
 rw [← null_strip, hts] at this
 exact this
set_option maxRecDepth 100000 in
set_option maxHeartbeats 4000000 in
theorem ref_is {w : World} {n : T} (hT : T.In w w.heap.size n) (hn : Fine2 n.strip) {a : Option Addr} {m c : Nat} {l : List Nat} (hs : Src w a m c l) (hm : m ≤ 100000) :
  Calls Tryd.prog 15 #[.agg n.cells.toArray, .slice a m c] w fun e w' => e = .returned (.bool (inL n.strip l)) ∧ Below w.heap.size w w' := by
 have hbx := World.alloc_heap_new w (.cells n.cells.toArray 32)
 have hq0 := Bel.new w (.cells n.cells.toArray 32)
 have hlm := hs.len
 have hall : l.take m = l := List.take_of_length_le (by omega)
 have hi0 := hid (hT.toP.keep (w' := w.alloc (.cells n.cells.toArray 32)) fun b hb => hq0.block b hb)
 have hs0 : Hid (n.strip = readD n.strip (l.take 0)) := hid rfl
 obtain ⟨n', hn'⟩ : ∃ n', n' = n.strip := ⟨_, rfl⟩
 rw [← hn'] at hn hs0 ⊢
 rw [hn'] at hs0
 rw [← hall]
 have hs0 : Hid (n.strip = readD n' (l.take 0)) := hid (by rw [hn']; rfl)
 clear hn' hall hT
 obtain ⟨V, hV⟩ : ∃ V, V = inL n' (l.take m) := ⟨_, rfl⟩
 rw [← hV]
 replace hV := hid hV
 replace hs := hid hs
 replace hn := hid hn
 obtain ⟨kn, n0, n1, n2, n3, pn, capn, mnn, mxn, txn, ksn⟩ := n
 simp only [T.cells] at hbx hq0 hi0 ⊢
 replace hbx := hid hbx
 replace hq0 := hid hq0
 go_enter Tryd.func15, Tryd.ntmps15
 go_wp2
 go_loopw [9] (fun i wr => ∃ (j : Nat) (t : T), j ≤ m ∧ i = .int .i64 j ∧ Hid (wr.heap[w.heap.size]? = some (.cells t.cells.toArray 32 (0, 0))) ∧ Hid (t.strip = readD n' (l.take j)) ∧ Hid (T.InP wr (fun b => b < w.heap.size ∨ (w.heap.size + 1 ≤ b ∧ b < wr.heap.size)) t) ∧ Hid (Below w.heap.size w wr)) (fun i _ => m - (intOf i).toNat)
 case atStart => exact ⟨0, .mk kn n0 n1 n2 n3 pn capn mnn mxn txn ksn, Nat.zero_le _, rfl, hbx, hs0, hid (hi0.out.imp fun b hb => .inl hb), hid hq0.out⟩
 case round =>
  clear hi0 hs0
  obtain ⟨j, t, hj, rfl, hx, hts, hti, hB⟩ := hrel
  have hsz := lt_box hx.out
  by_cases hlt : j < m
  ·have hjl : j < l.length := by omega
   obtain ⟨tb, toff, rfl, hat⟩ := (hs.out.bel (show Bel w wr from hB.out)).at (by omega)
   have t0' := hat j hjl
   clear hat
   have hc : l[j] ≤ 255 := hs.out.small _ (List.getElem_mem hjl)
   have cO := off_next hn.out hjl hc hts.out (fun b (hb : b < w.heap.size ∨ (w.heap.size + 1 ≤ b ∧ b < wr.heap.size)) => by omega) hti.out
   have hdead : Hid (kindT t = 0 → V = false) := hid fun h => by
    rw [hV.out]
    exact dead_take hn.out.fine.okd (by rw [← hts.out, kind_strip]; exact h) (by omega)
   generalize l[j] = cc at *
   obtain ⟨kt, t0, t1, t2, t3, pt, capt, mnt, mxt, txt, kst⟩ := t
   have hx1 := hx.out
   simp only [T.cells] at hx1 cO
   obtain ⟨x0, f0, x1, f1, x2, f2, x3, f3, x4, f4, x5, f5, x6, f6, x7, f7, x8, f8⟩ := d9 hx1
   replace cO := hid (cO wr (Below.refl _ _))
   by_cases hk : kt = 0
   ·have g0 : (kt == 0) = true := by rw [beq_iff_eq]; exact hk
    have hd := hid (hdead.out hk)
    clear hk hdead
    go_wp2
    go_ret
    exact ⟨by rw [hd.out]; rfl, hB.out⟩
   ·have g0 : (kt == 0) = false := by rw [beq_eq_false_iff_ne]; exact hk
    clear hk hdead
    replace hx1 := hid hx1
    go_wp2_with (go_at_call 28; (with_reducible refine cO.out.mono ?_); rintro e w1 ⟨⟨ke, e0, e1, e2, e3, pe, cape, mne, mxe, txe, kse⟩, rfl, hes, hei, hb1⟩; simp only [T.cells] at hei hes ⊢; have hx2 := hid (kept_row hx1.out hb1); obtain ⟨y0, g0, y1, g1, y2, g2, y3, g3, y4, g4, y5, g5, y6, g6, y7, g7, y8, g8⟩ := d9 hx2.out; replace hb1 := hid hb1; replace hes := hid hes; replace hei := hid hei)
    generalize hW : World.setCell _ (⟨w.heap.size, 8, none⟩ : Addr) _ = W at *
    obtain ⟨s1, s2, s3, s4⟩ := S7.set9 hx2.out W hW.symm
    have hz1 := hb1.out.size
    have hin := hid ((hei.out.keep (w' := W) fun b hb => s3 b (by
     rcases hb with (h | h) | h <;> omega)).imp (S' := fun b => b < w.heap.size ∨ (w.heap.size + 1 ≤ b ∧ b < W.heap.size)) fun b hb => by
     rcases hb with (h | h) | h <;> omega)
    have hBW := hid ((hB.out.trans (hb1.out.mono (by omega))).trans (s4 w.heap.size (Nat.le_refl _)))
    replace s1 := hid s1
    clear hx2 hei hb1 s3 s4 hW cO
    go_roundw
    case rel => exact ⟨j + 1, ⟨ke, e0, e1, e2, e3, pe, cape, mne, mxe, txe, kse⟩, by omega, by go_num, s1, hes, hin, hBW⟩
    case measure => simp [intOf]; omega
  ·obtain rfl : j = m := by omega
   have cN := null_next hn.out hts.out (hti.out.toIn fun b hb => by omega) wr (Bel.refl _)
   rw [← hV.out] at cN
   obtain ⟨kt, t0, t1, t2, t3, pt, capt, mnt, mxt, txt, kst⟩ := t
   have hx1 := hx.out
   simp only [T.cells] at hx1 cN
   obtain ⟨x0, x1, x2, x3, x4, x5, x6, x7, x8⟩ := c9 hx1
   replace cN := hid cN
   go_wp2_with (go_at_call 27; (with_reducible refine cN.out.mono ?_); rintro e w1 ⟨rfl, hb1⟩; replace hb1 := hid hb1)
   go_ret
   exact ⟨rfl, hB.out.trans (hb1.out.mono (by omega))⟩
end Go.Proofs.YtobbifhflnlplaaDoor
namespace Go.Proofs.YtobbifhflnlplaaDoor
open Lib (hid)
open Go.RowKit
open Go.Tree7
open S7
open S5 (nl nl_length nl_small at_nl nl_at Gives idx idx_at ix ix_no ix_yes)
def preL (t : T) (l : List Nat) (j : Nat) : List Nat := (List.range j).filter fun k => inL t (l.take k)
theorem preL_next (t : T) (l : List Nat) (j : Nat) : preL t l (j + 1) = preL t l j ++ (if inL t (l.take j) = true then [j] else []) := by
 unfold preL
 rw [List.range_succ, List.filter_append]
 congr 1
 simp only [List.filter_cons, List.filter_nil]
theorem preL_le (t : T) (l : List Nat) (j : Nat) : (preL t l j).length ≤ j := by
 unfold preL
 have := List.length_filter_le (fun k => inL t (l.take k)) (List.range j)
 rw [List.length_range] at this
 exact this
theorem ILst.lt {w : World} {B : Nat} {v : Value} {l : List Nat} (h : ILst w B v l) {g : Nat} (hg : v.ownBlock = some g) : B ≤ g ∧ g < w.heap.size := World.ownsRow.lt h g hg
set_option maxRecDepth 100000 in
set_option maxHeartbeats 4000000 in
theorem ref_ends {w : World} {n : T} (hT : T.In w w.heap.size n) (hn : Fine2 n.strip) {a : Option Addr} {m c : Nat} {l : List Nat} (hs : Src w a m c l) (hm : m ≤ 100000) {F : Nat} (hF : F ≤ m) :
  Calls Tryd.prog 13 #[.agg n.cells.toArray, .slice a m c, .int .i64 F] w fun e w' => ∃ v, e = .returned v ∧ ILst w' w.heap.size v ((lens n.strip (l.drop F)).map (· + F)) ∧ Below w.heap.size w w' := by
 have hbx := World.alloc_heap_new w (.cells n.cells.toArray 32)
 have hq0 := Bel.new w (.cells n.cells.toArray 32)
 have hlm := hs.len
 obtain ⟨i0, hi, hz0, hz1, hz2⟩ := info_parts infoI
 replace hi := hid hi
 replace hz0 := hid hz0
 replace hz1 := hid hz1
 replace hz2 := hid hz2
 obtain ⟨n', hn'⟩ : ∃ n', n' = n.strip := ⟨_, rfl⟩
 rw [← hn'] at hn ⊢
 have hs0 : Hid (n.strip = readD n' ((l.drop F).take (F - F))) := hid (by rw [Nat.sub_self, hn']; rfl)
 obtain ⟨L, hL⟩ : ∃ L, L = (lens n' (l.drop F)).map (· + F) := ⟨_, rfl⟩
 rw [← hL]
 have hL : Hid (L = (preL n' (l.drop F) (m - F + 1)).map (· + F)) := hid (by
  rw [hL]
  have e : (l.drop F).length = m - F := by rw [List.length_drop]; omega
  unfold lens
  rw [e]
  rfl)
 have hx0 : Hid (((w.alloc (.cells n.cells.toArray 32)).alloc (.cells #[] 3)).heap[w.heap.size]? = some (.cells n.cells.toArray 32 (0, 0))) := hid ((Below.heap_alloc _ _ _ (by simp)).trans hbx)
 have hi0 := hid (hT.toP.keep (w' := (w.alloc (.cells n.cells.toArray 32)).alloc (.cells #[] 3)) fun b hb => (Bel.alloc hq0 (.cells #[] 3) : Below w.heap.size w _).block b hb)
 have hv0 : Hid (ILst ((w.alloc (.cells n.cells.toArray 32)).alloc (.cells #[] 3)) (w.heap.size + 1) (.slice (some ⟨w.heap.size + 1, 0, none⟩) 0 0) []) := hid (by
  have := World.ownsRow_made (base := w.heap.size + 1) (e := 3) (size := 1) (w.alloc (.cells n.cells.toArray 32)) #[] 0 (by simp) (by decide) rfl
  rw [World.size_alloc] at this
  exact this)
 have hb0 : Hid (Below w.heap.size w ((w.alloc (.cells n.cells.toArray 32)).alloc (.cells #[] 3))) := hid (Bel.alloc hq0 (.cells #[] 3))
 clear hn' hT hbx
 replace hs := hid hs
 replace hn := hid hn
 obtain ⟨kn, n0, n1, n2, n3, pn, capn, mnn, mxn, txn, ksn⟩ := n
 simp only [T.cells] at hx0 hi0 hv0 hb0 hq0 ⊢
 clear hq0
 go_enter Tryd.func13, Tryd.ntmps13
 go_wp2
 go_loopw [7, 8] (fun v i wr => ∃ (E : Nat) (t : T), F ≤ E ∧ E ≤ m + 1 ∧ i = .int .i64 E ∧ Hid (ILst wr (w.heap.size + 1) v ((preL n' (l.drop F) (E - F)).map (· + F))) ∧ Hid (wr.heap[w.heap.size]? = some (.cells t.cells.toArray 32 (0, 0))) ∧ Hid (t.strip = readD n' ((l.drop F).take (E - F))) ∧ Hid (T.InP wr (fun b => (b < w.heap.size ∨ w.heap.size + 1 ≤ b) ∧ b < wr.heap.size ∧ v.ownBlock ≠ some b) t) ∧ Hid (Below w.heap.size w wr)) (fun _ i _ => m + 1 - (intOf i).toNat)
 case atStart =>
  refine ⟨F, .mk kn n0 n1 n2 n3 pn capn mnn mxn txn ksn, Nat.le_refl _, by omega, rfl, ?_, hx0, hs0, hid (hi0.out.imp fun b hb => ⟨.inl hb, by simp; omega, fun e => by simp only [Value.ownBlock, Option.some.injEq] at e; omega⟩), hb0⟩
  rw [Nat.sub_self]
  exact hv0
 case round =>
  clear hi0 hs0 hv0 hx0 hb0
  obtain ⟨E, t, hFE, hE, rfl, hv, hx, hts, hti, hB⟩ := hrel
  have hsz := lt_box hx.out
  by_cases hle : E ≤ m
  ·have cN := null_next hn.out hts.out (hti.out.toIn fun b hb => hb.2.1) wr (Bel.refl _)
   have hnx := preL_next n' (l.drop F) (E - F)
   have hrl : ((preL n' (l.drop F) (E - F)).map (· + F)).length ≤ m := by rw [List.length_map]; have := preL_le n' (l.drop F) (E - F); omega
   have hdead : Hid (kindT t = 0 → (preL n' (l.drop F) (E - F + 1)).map (· + F) = (preL n' (l.drop F) (m - F + 1)).map (· + F)) := hid fun h => by
    have := lens_dead (t := n') (l := l.drop F) (j := E - F) (m := m - F) (fun k h1 h2 => dead_take hn.out.fine.okd (j := E - F) (by rw [← hts.out, kind_strip]; exact h) (by omega)) (by omega)
    unfold lensTo at this
    unfold preL
    rw [this]
   have hoff : Hid (∀ (hlt : E < m), ∀ W0 P, (∀ b, P b → b < W0.heap.size) → T.InP W0 P t → ∀ W, Below W0.heap.size W0 W → Calls Tryd.prog 28 #[.agg t.cells.toArray, .int .i64 (l[E]'(by omega) : Nat)] W (GivesP P W (readD n' ((l.drop F).take (E - F + 1))))) := hid fun hlt W0 P hP hi W hb => by
    have e : (l.drop F)[E - F]'(by rw [List.length_drop]; omega) = l[E]'(by omega) := by rw [List.getElem_drop]; congr 1; omega
    have := off_next (wr := W0) hn.out (l := l.drop F) (j := E - F) (by rw [List.length_drop]; omega) (by rw [e]; exact hs.out.small _ (List.getElem_mem _)) hts.out hP hi W hb
    rw [e] at this
    exact this
   obtain ⟨kt, t0, t1, t2, t3, pt, capt, mnt, mxt, txt, kst⟩ := t
   have hx1 := hx.out
   simp only [T.cells] at hx1 cN hoff
   obtain ⟨x0, x1, x2, x3, x4, x5, x6, x7, x8⟩ := c9 hx1
   replace hx1 := hid hx1
   generalize inL n' ((l.drop F).take (E - F)) = R at *
   replace cN := hid cN
   replace hnx := hid hnx
   by_cases hlt : E < m
   ·have hEl : E < l.length := by omega
    have hatt : Hid (∃ tb toff, a = some ⟨tb, toff, none⟩ ∧ ∀ W, Below w.heap.size w W → W.cell? ⟨tb, toff + E, none⟩ = some (.int .u8 ((l[E] : Nat) : Int))) := hid (by
     obtain ⟨tb, toff, rfl, hat⟩ := hs.out.at (by omega)
     refine ⟨tb, toff, rfl, fun W hb => ?_⟩
     obtain ⟨tb', toff', e, hat2⟩ := (hs.out.bel (show Bel w W from hb)).at (by omega)
     cases e
     exact hat2 E hEl)
    obtain ⟨tb, toff, rfl, hat⟩ := hatt.out
    replace hat := hid hat
    have hoff := hid (hoff.out hlt)
    have hc : l[E] ≤ 255 := hs.out.small _ (List.getElem_mem hEl)
    clear hatt
    generalize l[E] = cc at *
    by_cases hk : kt = 0
    ·have g0 : (kt == 0) = true := by rw [beq_iff_eq]; exact hk
     have hend := hid (hdead.out hk)
     clear hk hdead
     cases R
     ·go_wp2_with ((go_at_call 27; (with_reducible refine cN.out.mono ?_); rintro e w1 ⟨rfl, hb1⟩; have hxA := hid (kept_row hx1.out hb1); have hvA := hid (hv.out.keep fun g _ hl => hb1.block g hl); have hzA := hb1.size; have hBA := hid (hB.out.trans (hb1.mono (by omega))); have htA := hid (hti.out.keep (w' := w1) fun b hb => hb1.block b hb.2.1); obtain ⟨x0, x1, x2, x3, x4, x5, x6, x7, x8⟩ := c9 hxA.out; clear hb1))
      have hv2 : Hid (ILst w1 (w.heap.size + 1) u7 ((preL n' (l.drop F) (E - F + 1)).map (· + F))) := hid (by
       rw [hnx.out, if_neg (by decide), List.append_nil]
       exact hvA.out)
      have hzB := hzA
      have htB := hid (htA.out.imp (S' := fun b => (b < w.heap.size ∨ w.heap.size + 1 ≤ b) ∧ b < w1.heap.size ∧ u7.ownBlock ≠ some b) fun b hb => ⟨hb.1, by omega, hb.2.2⟩)
      have hBB := hBA
      have hxB := hxA
      go_ret
      refine ⟨_, rfl, (ILst.low (B := w.heap.size + 1) ?_ (by omega)), hBB.out⟩
      rw [hL.out, ← hend.out]
      exact hv2.out
     ·go_wp2_with (first | (go_at_call 27; (with_reducible refine cN.out.mono ?_); rintro e w1 ⟨rfl, hb1⟩; have hxA := hid (kept_row hx1.out hb1); have hvA := hid (hv.out.keep fun g _ hl => hb1.block g hl); have hzA := hb1.size; have hBA := hid (hB.out.trans (hb1.mono (by omega))); have htA := hid (hti.out.keep (w' := w1) fun b hb => hb1.block b hb.2.1); obtain ⟨x0, x1, x2, x3, x4, x5, x6, x7, x8⟩ := c9 hxA.out; clear hb1) | (at_builtin; go_loud (refine wpList_append_own_at _ rfl _ _ 36 rfl (w.heap.size + 1) 3 i0 (.int .i64 0) 1 8 Tryd.underlying36 hi.out hz0.out hz1.out hz2.out rfl (by decide) _ _ _ rfl (World.ownsRow.alloc hvA.out _) ⟨_, 0, none⟩ 1 1 [_] rfl rfl (cell_one_new _ _ _) (by simp [Value.oneCell']) (by simp only [maxLen]; omega) (by omega) (by simp <;> omega) ?_; intro v' wA hown' hg' hnil' hat'; clear hnil'; have hxn' := hid ((hg'.block w.heap.size (by simp; omega) (fun e9 => by have := (hvA.out.lt (g := w.heap.size) e9.symm).1; omega)).trans ((Below.heap_alloc _ _ _ (by omega)).trans hxA.out)); have hfr := hid (((Fr.refl _ w1).alloc _).trans (Fr.of_grown (X := fun b => u7.ownBlock = some b) hg' (fun g e => e)) (fun b hb => .inl hb)); replace hown' := hid hown'; replace hat' := hid hat'; clear hg' x0 x1 x2 x3 x4 x5 x6 x7 x8; obtain ⟨x0, x1, x2, x3, x4, x5, x6, x7, x8⟩ := c9 hxn'.out)))
      have hv2 : Hid (ILst wA (w.heap.size + 1) v' ((preL n' (l.drop F) (E - F + 1)).map (· + F))) := hid (by
       rw [hnx.out, List.map_append]
       have h := hown'.out
       unfold ILst
       rw [List.length_append, List.map_append, List.length_map]
       rw [List.length_map] at h
       have e : ([E - F].map (· + F)).map encI = [.int .i64 (E : Int)] := by simp [encI]; omega
       rw [if_pos trivial, e]
       exact h)
      have hzB := hfr.out.size
      have htB := hid ((htA.out.keep (w' := wA) fun b hb => hfr.out.block b (by omega) (fun e9 => hb.2.2 e9)).imp (S' := fun b => (b < w.heap.size ∨ w.heap.size + 1 ≤ b) ∧ b < wA.heap.size ∧ v'.ownBlock ≠ some b) fun b hb => ⟨hb.1, by omega, fun e9 => by
       rcases hat'.out with h | h
       ·exact hb.2.2 (h ▸ e9)
       ·rw [h] at e9; simp only [Option.some.injEq, World.size_alloc] at e9; omega⟩)
      have hBB := hid (hBA.out.trans (hfr.out.below (n := w.heap.size) (by omega) fun g hg => by have := (hvA.out.lt hg).1; omega))
      have hxB := hid hxn'.out
      go_ret
      refine ⟨_, rfl, (ILst.low (B := w.heap.size + 1) ?_ (by omega)), hBB.out⟩
      rw [hL.out, ← hend.out]
      exact hv2.out
    ·have g0 : (kt == 0) = false := by rw [beq_eq_false_iff_ne]; exact hk
     clear hk hdead
     cases R
     ·go_upto_region 9 with ((go_at_call 27; (with_reducible refine cN.out.mono ?_); rintro e w1 ⟨rfl, hb1⟩; have hxA := hid (kept_row hx1.out hb1); have hvA := hid (hv.out.keep fun g _ hl => hb1.block g hl); have hzA := hb1.size; have hBA := hid (hB.out.trans (hb1.mono (by omega))); have htA := hid (hti.out.keep (w' := w1) fun b hb => hb1.block b hb.2.1); obtain ⟨x0, x1, x2, x3, x4, x5, x6, x7, x8⟩ := c9 hxA.out; clear hb1))
      have hv2 : Hid (ILst w1 (w.heap.size + 1) u7 ((preL n' (l.drop F) (E - F + 1)).map (· + F))) := hid (by
       rw [hnx.out, if_neg (by decide), List.append_nil]
       exact hvA.out)
      have hzB := hzA
      have htB := hid (htA.out.imp (S' := fun b => (b < w.heap.size ∨ w.heap.size + 1 ≤ b) ∧ b < w1.heap.size ∧ u7.ownBlock ≠ some b) fun b hb => ⟨hb.1, by omega, hb.2.2⟩)
      have hBB := hBA
      have hxB := hxA
      have cO := hoff.out w1 (fun b => (b < w.heap.size ∨ w.heap.size + 1 ≤ b) ∧ b < w1.heap.size ∧ u7.ownBlock ≠ some b) (fun b hb => hb.2.1) htB.out w1.drew (Below.refl _ _).drew
      have kW : IntKind.i64.wrap (cc : Int) = (cc : Int) := IntWalk.i64_in _ ⟨by omega, by omega⟩
      rw [← kW] at cO
      replace cO := hid cO
      clear kW
      have t0' := hat.out w1 hBB.out
      go_region_with (go_at_call 28; go_loud ((with_reducible refine cO.out.mono ?_); rintro e w3 ⟨⟨ke, e0, e1, e2, e3, pe, cape, mne, mxe, txe, kse⟩, rfl, hes, hei, hb3⟩; simp only [T.cells] at hei hes ⊢; have hb3K := hid (show Bel w1 w3 from Bel.step (Below.refl _ _).drew hb3); have hxC := hid (kept_row hxB.out hb3K.out); obtain ⟨y0, g0, y1, g1, y2, g2, y3, g3, y4, g4, y5, g5, y6, g6, y7, g7, y8, g8⟩ := d9 hxC.out; clear hb3; replace hes := hid hes; replace hei := hid hei))
      all_goals
       generalize hW : World.setCell _ (⟨w.heap.size, 8, none⟩ : Addr) _ = W at *
       obtain ⟨s1, s2, s3, s4⟩ := S7.set9 hxC.out W hW.symm
       have hz3 := hb3K.out.size
       have hin := hid ((hei.out.keep (w' := W) fun b hb => s3 b (by
        rcases hb with h | h
        ·omega
        ·have := h.1; simp only [World.drew] at this; omega)).imp (S' := fun b => (b < w.heap.size ∨ w.heap.size + 1 ≤ b) ∧ b < W.heap.size ∧ u7.ownBlock ≠ some b) fun b hb => by
        rcases hb with h | h
        ·exact ⟨h.1, by omega, h.2.2⟩
        ·have h1 := h.1
         simp only [World.drew] at h1
         exact ⟨by omega, by omega, fun e9 => by have := (hv2.out.lt e9).2; omega⟩)
       have hv3 := hid (hv2.out.keep (w' := W) fun g hg hl => (s3 g (by have := (hv2.out.lt hg).1; omega)).trans (hb3K.out.block g hl))
       have hBW := hid ((bel_bel hBB.out hb3K.out : Below w.heap.size w w3).trans (s4 w.heap.size (Nat.le_refl _)))
       replace s1 := hid s1
       clear hxC hei s3 s4 hW cO
       go_wp2
       go_roundw
       case rel => exact ⟨E + 1, ⟨ke, e0, e1, e2, e3, pe, cape, mne, mxe, txe, kse⟩, by omega, by omega, by go_num, by rw [Nat.sub_add_comm hFE]; exact hv3, s1, hid (by rw [Nat.sub_add_comm hFE]; exact hes.out), hin, hBW⟩
       case measure => simp [intOf]; omega
     ·go_upto_region 9 with (first | (go_at_call 27; (with_reducible refine cN.out.mono ?_); rintro e w1 ⟨rfl, hb1⟩; have hxA := hid (kept_row hx1.out hb1); have hvA := hid (hv.out.keep fun g _ hl => hb1.block g hl); have hzA := hb1.size; have hBA := hid (hB.out.trans (hb1.mono (by omega))); have htA := hid (hti.out.keep (w' := w1) fun b hb => hb1.block b hb.2.1); obtain ⟨x0, x1, x2, x3, x4, x5, x6, x7, x8⟩ := c9 hxA.out; clear hb1) | (at_builtin; go_loud (refine wpList_append_own_at _ rfl _ _ 36 rfl (w.heap.size + 1) 3 i0 (.int .i64 0) 1 8 Tryd.underlying36 hi.out hz0.out hz1.out hz2.out rfl (by decide) _ _ _ rfl (World.ownsRow.alloc hvA.out _) ⟨_, 0, none⟩ 1 1 [_] rfl rfl (cell_one_new _ _ _) (by simp [Value.oneCell']) (by simp only [maxLen]; omega) (by omega) (by simp <;> omega) ?_; intro v' wA hown' hg' hnil' hat'; clear hnil'; have hxn' := hid ((hg'.block w.heap.size (by simp; omega) (fun e9 => by have := (hvA.out.lt (g := w.heap.size) e9.symm).1; omega)).trans ((Below.heap_alloc _ _ _ (by omega)).trans hxA.out)); have hfr := hid (((Fr.refl _ w1).alloc _).trans (Fr.of_grown (X := fun b => u7.ownBlock = some b) hg' (fun g e => e)) (fun b hb => .inl hb)); replace hown' := hid hown'; replace hat' := hid hat'; clear hg' x0 x1 x2 x3 x4 x5 x6 x7 x8; obtain ⟨x0, x1, x2, x3, x4, x5, x6, x7, x8⟩ := c9 hxn'.out)))
      have hv2 : Hid (ILst wA (w.heap.size + 1) v' ((preL n' (l.drop F) (E - F + 1)).map (· + F))) := hid (by
       rw [hnx.out, List.map_append]
       have h := hown'.out
       unfold ILst
       rw [List.length_append, List.map_append, List.length_map]
       rw [List.length_map] at h
       have e : ([E - F].map (· + F)).map encI = [.int .i64 (E : Int)] := by simp [encI]; omega
       rw [if_pos trivial, e]
       exact h)
      have hzB := hfr.out.size
      have htB := hid ((htA.out.keep (w' := wA) fun b hb => hfr.out.block b (by omega) (fun e9 => hb.2.2 e9)).imp (S' := fun b => (b < w.heap.size ∨ w.heap.size + 1 ≤ b) ∧ b < wA.heap.size ∧ v'.ownBlock ≠ some b) fun b hb => ⟨hb.1, by omega, fun e9 => by
       rcases hat'.out with h | h
       ·exact hb.2.2 (h ▸ e9)
       ·rw [h] at e9; simp only [Option.some.injEq, World.size_alloc] at e9; omega⟩)
      have hBB := hid (hBA.out.trans (hfr.out.below (n := w.heap.size) (by omega) fun g hg => by have := (hvA.out.lt hg).1; omega))
      have hxB := hid hxn'.out
      have cO := hoff.out wA (fun b => (b < w.heap.size ∨ w.heap.size + 1 ≤ b) ∧ b < wA.heap.size ∧ v'.ownBlock ≠ some b) (fun b hb => hb.2.1) htB.out wA.drew (Below.refl _ _).drew
      have kW : IntKind.i64.wrap (cc : Int) = (cc : Int) := IntWalk.i64_in _ ⟨by omega, by omega⟩
      rw [← kW] at cO
      replace cO := hid cO
      clear kW
      have t0' := hat.out wA hBB.out
      go_region_with (go_at_call 28; go_loud ((with_reducible refine cO.out.mono ?_); rintro e w3 ⟨⟨ke, e0, e1, e2, e3, pe, cape, mne, mxe, txe, kse⟩, rfl, hes, hei, hb3⟩; simp only [T.cells] at hei hes ⊢; have hb3K := hid (show Bel wA w3 from Bel.step (Below.refl _ _).drew hb3); have hxC := hid (kept_row hxB.out hb3K.out); obtain ⟨y0, g0, y1, g1, y2, g2, y3, g3, y4, g4, y5, g5, y6, g6, y7, g7, y8, g8⟩ := d9 hxC.out; clear hb3; replace hes := hid hes; replace hei := hid hei))
      all_goals
       generalize hW : World.setCell _ (⟨w.heap.size, 8, none⟩ : Addr) _ = W at *
       obtain ⟨s1, s2, s3, s4⟩ := S7.set9 hxC.out W hW.symm
       have hz3 := hb3K.out.size
       have hin := hid ((hei.out.keep (w' := W) fun b hb => s3 b (by
        rcases hb with h | h
        ·omega
        ·have := h.1; simp only [World.drew] at this; omega)).imp (S' := fun b => (b < w.heap.size ∨ w.heap.size + 1 ≤ b) ∧ b < W.heap.size ∧ v'.ownBlock ≠ some b) fun b hb => by
        rcases hb with h | h
        ·exact ⟨h.1, by omega, h.2.2⟩
        ·have h1 := h.1
         simp only [World.drew] at h1
         exact ⟨by omega, by omega, fun e9 => by have := (hv2.out.lt e9).2; omega⟩)
       have hv3 := hid (hv2.out.keep (w' := W) fun g hg hl => (s3 g (by have := (hv2.out.lt hg).1; omega)).trans (hb3K.out.block g hl))
       have hBW := hid ((bel_bel hBB.out hb3K.out : Below w.heap.size w w3).trans (s4 w.heap.size (Nat.le_refl _)))
       replace s1 := hid s1
       clear hxC hei s3 s4 hW cO
       go_wp2
       go_roundw
       case rel => exact ⟨E + 1, ⟨ke, e0, e1, e2, e3, pe, cape, mne, mxe, txe, kse⟩, by omega, by omega, by go_num, by rw [Nat.sub_add_comm hFE]; exact hv3, s1, hid (by rw [Nat.sub_add_comm hFE]; exact hes.out), hin, hBW⟩
       case measure => simp [intOf]; omega
   ·obtain rfl : E = m := by omega
    clear hdead hoff
    cases R
    ·go_wp2_with ((go_at_call 27; (with_reducible refine cN.out.mono ?_); rintro e w1 ⟨rfl, hb1⟩; have hxA := hid (kept_row hx1.out hb1); have hvA := hid (hv.out.keep fun g _ hl => hb1.block g hl); have hzA := hb1.size; have hBA := hid (hB.out.trans (hb1.mono (by omega))); have htA := hid (hti.out.keep (w' := w1) fun b hb => hb1.block b hb.2.1); obtain ⟨x0, x1, x2, x3, x4, x5, x6, x7, x8⟩ := c9 hxA.out; clear hb1))
     have hv2 : Hid (ILst w1 (w.heap.size + 1) u7 ((preL n' (l.drop F) (E - F + 1)).map (· + F))) := hid (by
      rw [hnx.out, if_neg (by decide), List.append_nil]
      exact hvA.out)
     have hzB := hzA
     have htB := hid (htA.out.imp (S' := fun b => (b < w.heap.size ∨ w.heap.size + 1 ≤ b) ∧ b < w1.heap.size ∧ u7.ownBlock ≠ some b) fun b hb => ⟨hb.1, by omega, hb.2.2⟩)
     have hBB := hBA
     have hxB := hxA
     go_roundw
     case rel => exact ⟨E + 1, ⟨kt, t0, t1, t2, t3, pt, capt, mnt, mxt, txt, kst⟩, by omega, by omega, by go_num, by rw [Nat.sub_add_comm hFE]; exact hv2, hxB, hid (by rw [hts.out, List.take_of_length_le (by rw [List.length_drop]; omega), List.take_of_length_le (by rw [List.length_drop]; omega)]), htB, hBB⟩
     case measure => simp [intOf] <;> omega
    ·go_wp2_with (first | (go_at_call 27; (with_reducible refine cN.out.mono ?_); rintro e w1 ⟨rfl, hb1⟩; have hxA := hid (kept_row hx1.out hb1); have hvA := hid (hv.out.keep fun g _ hl => hb1.block g hl); have hzA := hb1.size; have hBA := hid (hB.out.trans (hb1.mono (by omega))); have htA := hid (hti.out.keep (w' := w1) fun b hb => hb1.block b hb.2.1); obtain ⟨x0, x1, x2, x3, x4, x5, x6, x7, x8⟩ := c9 hxA.out; clear hb1) | (at_builtin; go_loud (refine wpList_append_own_at _ rfl _ _ 36 rfl (w.heap.size + 1) 3 i0 (.int .i64 0) 1 8 Tryd.underlying36 hi.out hz0.out hz1.out hz2.out rfl (by decide) _ _ _ rfl (World.ownsRow.alloc hvA.out _) ⟨_, 0, none⟩ 1 1 [_] rfl rfl (cell_one_new _ _ _) (by simp [Value.oneCell']) (by simp only [maxLen]; omega) (by omega) (by simp <;> omega) ?_; intro v' wA hown' hg' hnil' hat'; clear hnil'; have hxn' := hid ((hg'.block w.heap.size (by simp; omega) (fun e9 => by have := (hvA.out.lt (g := w.heap.size) e9.symm).1; omega)).trans ((Below.heap_alloc _ _ _ (by omega)).trans hxA.out)); have hfr := hid (((Fr.refl _ w1).alloc _).trans (Fr.of_grown (X := fun b => u7.ownBlock = some b) hg' (fun g e => e)) (fun b hb => .inl hb)); replace hown' := hid hown'; replace hat' := hid hat'; clear hg' x0 x1 x2 x3 x4 x5 x6 x7 x8; obtain ⟨x0, x1, x2, x3, x4, x5, x6, x7, x8⟩ := c9 hxn'.out)))
     have hv2 : Hid (ILst wA (w.heap.size + 1) v' ((preL n' (l.drop F) (E - F + 1)).map (· + F))) := hid (by
      rw [hnx.out, List.map_append]
      have h := hown'.out
      unfold ILst
      rw [List.length_append, List.map_append, List.length_map]
      rw [List.length_map] at h
      have e : ([E - F].map (· + F)).map encI = [.int .i64 (E : Int)] := by simp [encI]; omega
      rw [if_pos trivial, e]
      exact h)
     have hzB := hfr.out.size
     have htB := hid ((htA.out.keep (w' := wA) fun b hb => hfr.out.block b (by omega) (fun e9 => hb.2.2 e9)).imp (S' := fun b => (b < w.heap.size ∨ w.heap.size + 1 ≤ b) ∧ b < wA.heap.size ∧ v'.ownBlock ≠ some b) fun b hb => ⟨hb.1, by omega, fun e9 => by
      rcases hat'.out with h | h
      ·exact hb.2.2 (h ▸ e9)
      ·rw [h] at e9; simp only [Option.some.injEq, World.size_alloc] at e9; omega⟩)
     have hBB := hid (hBA.out.trans (hfr.out.below (n := w.heap.size) (by omega) fun g hg => by have := (hvA.out.lt hg).1; omega))
     have hxB := hid hxn'.out
     go_roundw
     case rel => exact ⟨E + 1, ⟨kt, t0, t1, t2, t3, pt, capt, mnt, mxt, txt, kst⟩, by omega, by omega, by go_num, by rw [Nat.sub_add_comm hFE]; exact hv2, hxB, hid (by rw [hts.out, List.take_of_length_le (by rw [List.length_drop]; omega), List.take_of_length_le (by rw [List.length_drop]; omega)]), htB, hBB⟩
     case measure => simp [intOf] <;> omega
  ·obtain rfl : E = m + 1 := by omega
   go_wp2
   go_ret
   refine ⟨_, rfl, (ILst.low (B := w.heap.size + 1) ?_ (by omega)), hB.out⟩
   rw [hL.out, ← Nat.sub_add_comm hF]
   exact hv.out
end Go.Proofs.YtobbifhflnlplaaDoor
