/- RegexSimple, walked. -/
import Derived.Test.YtjlmeegaiagfpaaDoorW36
import Derived.Test.YtjlmeegaiagfpaaDoorW30
import Derived.Test.YtjlmeegaiagfpaaDoorS7E
import Derived.Test.YtjlmeegaiagfpaaDoorS7W38
namespace Go.Proofs.YtjlmeegaiagfpaaDoor
open Go.RowKit
open Go.Tree7
open S7
open S5 (nl nl_length nl_small at_nl nl_at Gives idx idx_at ix ix_no ix_yes)
theorem kept_alloc {W : World} {b : Nat} {o : Obj} (h : W.heap[b]? = some o) (p : Obj) : (W.alloc p).heap[b]? = some o := (Below.heap_alloc _ _ _ (Array.getElem?_eq_some_iff.1 h).1).trans h
theorem lt_of_box {W : World} {b : Nat} {o : Obj} (h : W.heap[b]? = some o) : b < W.heap.size := (Array.getElem?_eq_some_iff.1 h).1
theorem box_in {w : World} {c : Nat} {t : T} (h : T.InP w (fun b => c ≤ b ∧ b < w.heap.size) t) (o : Obj) : T.In (w.alloc o) (w.alloc o).heap.size t :=
  in_bel (h.toIn (B := w.heap.size) fun _ hb => hb.2) (Bel.new w o)
theorem in_wf4 {w : World} {B : Nat} : ∀ t : T, T.In w B t → T.All T.wf4 t := by
  refine T.ind fun k u0 u1 u2 u3 p cap mn mx tx ks ih h => ?_
  cases h with
  | mk h1 h2 h3 h4 h5 => exact .mk h3.2.1 fun t ht => ih t ht (h5 t ht)
theorem rightB_simp {w : World} {B : Nat} {t : T} (hT : T.In w B t) (h : rightB t = true) : rightB (T.simp t) = true ∧ (T.simp t).size ≤ t.size := by
  have hr := (rightB_iff t).1 h
  have hA := T.All.and (right_all hr).1 (in_wf4 t hT)
  obtain ⟨h1, h2, h3⟩ := simp_plain hA
  obtain ⟨h4, h5⟩ := small_of (deepOf_le.2 fun x hx => (hr.1 x hx).1) hr.2
  exact ⟨(rightB_iff _).2 (pl_right h1 (by omega) (by omega)), h3⟩
/-- What Of gives back of a small tree. -/
def GivesOf (st : T) (w : World) (e : Ending) (w' : World) : Prop :=
  ∃ (m : T) (d : Int), e = .returned (.tuple #[.agg m.cells.toArray, .int .i64 d]) ∧ Below w.heap.size w w' ∧ T.InP w' (fun b => w.heap.size ≤ b ∧ b < w'.heap.size) m ∧ m.strip = st
/-- What Of gives back, with what is left. -/
def GivesLeft (d : Int) (w : World) (e : Ending) (w' : World) : Prop :=
  ∃ m : T, e = .returned (.tuple #[.agg m.cells.toArray, .int .i64 d]) ∧ Below w.heap.size w w'
theorem of_left {w : World} {t : T} {n : Nat} {c : Int} (hT : T.In w w.heap.size t) (h1 : 1 ≤ n) (h2 : n ≤ 2000) (hc : c = (n : Int)) : ∀ w', Bel w w' → Calls Tryd.prog 10 #[.agg t.cells.toArray, .int .i64 c] w' (GivesLeft ((n - t.size : Nat) : Int) w') := fun w' hb => hc ▸
  (of_in (Nat.le_refl _) t n w' h1 h2 hT hb).mono fun e w'' h => by
    obtain ⟨m, h1, h2, -⟩ := h
    exact ⟨m, h1, h2⟩
theorem of_str {w : World} {t st : T} (hT : T.In w w.heap.size t) (hz : t.size < 2000) (hs : t.strip = st) : ∀ w', Bel w w' → Calls Tryd.prog 10 #[.agg t.cells.toArray, .int .i64 2000] w' (GivesOf st w') := fun w' hb =>
  (of_in (Nat.le_refl _) t 2000 w' (by decide) (by decide) hT hb).mono fun e w'' h => by
    obtain ⟨m, h1, h2, h3⟩ := h
    obtain ⟨h4, h5⟩ := h3 hz
    exact ⟨m, _, h1, h2, h4, h5.trans hs⟩
theorem rright_str {w : World} {m : T} {R : Bool} (hT : T.In w w.heap.size m) (hR : rightB m = R) : ∀ w', Bel w w' → Calls Tryd.prog 14 #[.agg m.cells.toArray] w' fun e w'' => e = .returned (.bool R) ∧ Below w'.heap.size w' w'' := fun w' hb => by
  have := rright_in (in_bel hT hb)
  rw [hR] at this
  exact this
theorem rsimple_str {w : World} {m n st : T} (hT : T.In w w.heap.size m) (hz : m.size ≤ 2000) (hs : m.strip = n.strip) (hn : T.simp n = st) : ∀ w', Bel w w' → Calls Tryd.prog 16 #[.agg m.cells.toArray] w' (GivesSimple w' st) := fun w' hb => by
  have := rsimple_in (Nat.le_refl _) m w' hz hT hb
  rw [simp_of_strip hs, hn] at this
  exact this
theorem rsame_str {w : World} {a b : T} {r : Bool} (hT : T.In w w.heap.size a) (hT' : T.In w w.heap.size b) (h : rsameT a b = r) : ∀ w', Bel w w' → Calls Tryd.prog 11 #[.agg a.cells.toArray, .agg b.cells.toArray] w' fun e w'' => e = .returned (.bool r) ∧ Below w'.heap.size w' w'' := fun w' hb => by
  have := rsame_in (in_bel hT hb) (in_bel hT' hb)
  rw [h] at this
  exact this
theorem rsame_yes {a b st : T} (ha : a.strip = st) (hb : b.strip = st) (h : rightB a = true) : rsameT a b = true := by
  rw [rsame_eq]
  unfold sameT
  rw [h, Bool.true_and, eqT_iff, ha, hb]
theorem rsame_plain {n st v m : T} (hn : T.simp n = st) (hr : rightB n = true) (hv : v.strip = st) (hm : m.strip = n.strip) (h : rightB v = true) : rsameT v m = plainT n := by
  rw [rsame_eq]
  unfold sameT plainT
  rw [h, hr, Bool.true_and, Bool.true_and, Bool.eq_iff_iff, eqT_iff, hv, hm, ← hn, simp_iff, ← padB_iff]
  simp
theorem rightB_of {a st : T} (ha : a.strip = st) (h : rightB st = true) : rightB a = true := by rw [← right_strip a, ha, h]
set_option maxRecDepth 100000 in
set_option maxHeartbeats 8000000 in
theorem regexSimple_in {n : T} {V : Nat → Value} (w : World) (hT : T.In w w.heap.size n) (hS : Six w V) : Calls Tryd.prog 4 #[.agg n.cells.toArray] w fun e w' => e = .returned (.bool true) ∧ Below w.heap.size w w' := by
  have hq0 : Bel w (w.alloc (.cells n.cells.toArray 28)) := Bel.new _ _
  have cA := Lib.hid (alive_in _ (hS.bel hq0))
  have hx0 := Lib.hid (World.alloc_heap_new w (.cells n.cells.toArray 28))
  obtain ⟨L, hL⟩ : ∃ L : Nat, L = 700 - n.size := ⟨_, rfl⟩
  have c7 := of_left (n := 700) (c := 700) hT (by decide) (by decide) rfl
  rw [← hL] at c7
  replace hq0 := Lib.hid hq0
  replace c7 := Lib.hid c7
  by_cases h7 : L = 0
  · subst h7
    have hTn := hT
    obtain ⟨k, u0, u1, u2, u3, p, cap, mn, mx, tx, ks⟩ := n
    clear hT hS hL hTn
    simp only [T.cells] at *
    go_enter Tryd.func4, Tryd.ntmps4
    go_wp2_with (first | (go_at_call 6; (with_reducible refine cA.out.mono ?_); rintro e w1 ⟨rfl, hb⟩; have hbn := Lib.hid (kept_row hx0.out hb); have hk := cells_of hbn.out; have y0 := (hk 0 _ rfl).1; have y1 := (hk 1 _ rfl).1; have y2 := (hk 2 _ rfl).1; have y3 := (hk 3 _ rfl).1; have y4 := (hk 4 _ rfl).1; have y5 := (hk 5 _ rfl).1; have y6 := (hk 6 _ rfl).1; have y7 := (hk 7 _ rfl).1; have y8 := (hk 8 _ rfl).1; clear hk; have hln := lt_of_box hbn.out; have hq1 := Lib.hid (Bel.step hq0.out hb); clear hb) | (go_at_call 10; (with_reducible refine (c7.out _ hq1.out).mono ?_); rintro e w2 ⟨⟨k7, u07, u17, u27, u37, p7, cap7, mn7, mx7, tx7, ks7⟩, rfl, hb⟩; simp only [T.cells]; clear y0 y1 y2 y3 y4 y5 y6 y7 y8; replace hbn := Lib.hid (kept_row hbn.out hb); have hk := cells_of hbn.out; have y0 := (hk 0 _ rfl).1; have y1 := (hk 1 _ rfl).1; have y2 := (hk 2 _ rfl).1; have y3 := (hk 3 _ rfl).1; have y4 := (hk 4 _ rfl).1; have y5 := (hk 5 _ rfl).1; have y6 := (hk 6 _ rfl).1; have y7 := (hk 7 _ rfl).1; have y8 := (hk 8 _ rfl).1; clear hk; have hln := lt_of_box hbn.out; replace hbn := Lib.hid (kept_alloc hbn.out (.cells #[.int .i64 k7, .int .u64 u07, .int .u64 u17, .int .u64 u27, .int .u64 u37, .slice p7 ks7.length cap7, .int .i64 mn7, .int .i64 mx7, .string tx7] 35)); have hq2 := Lib.hid (Bel.alloc (Bel.step hq1.out hb) (.cells #[.int .i64 k7, .int .u64 u07, .int .u64 u17, .int .u64 u27, .int .u64 u37, .slice p7 ks7.length cap7, .int .i64 mn7, .int .i64 mx7, .string tx7] 35)); clear hb hq1))
    go_ret
    exact ⟨rfl, hq2.out⟩
  have g7 : decide ((L : Int) ≤ 0) = false := by rw [decide_eq_false_iff_not]; omega
  generalize (L : Int) = d7 at *
  have hsz : n.size < 700 := by omega
  obtain ⟨ns, hns⟩ : ∃ ns, n.strip = ns := ⟨_, rfl⟩
  have hstr : Hid (ns = n.strip) := Lib.hid hns.symm
  have cO := of_str hT (by omega) hns
  have cP := fun w' (hb : Bel w w') => plain_in8 (in_bel hT hb)
  have cS := fun w' (hb : Bel w w') => simple_in (in_bel hT hb)
  have hszm : Hid (∀ m : T, m.strip = n.strip → m.size ≤ 2000) := Lib.hid fun m hm => by rw [← size_strip m, hm, size_strip]; omega
  obtain ⟨N, hN⟩ : ∃ N, N = n := ⟨_, rfl⟩
  by_cases hR : rightB n = true
  · obtain ⟨hrs, hsl⟩ := rightB_simp hT hR
    unfold simpT at cS
    rw [if_pos hR] at cS
    obtain ⟨st, hst⟩ : ∃ st, T.simp n = st := ⟨_, rfl⟩
    rw [hst] at cS hrs hsl
    have hszs : Hid (∀ s : T, s.strip = st → s.size < 2000) := Lib.hid fun s hs => by rw [← size_strip s, hs]; omega
    obtain ⟨E, hEE⟩ : ∃ E, plainT n = E := ⟨_, rfl⟩
    have cP2 := cP
    rw [hEE] at cP2
    clear cP
    rw [← hN] at hstr hszm
    have hR1 : Hid (rightB N = true) := Lib.hid (by rw [hN]; exact hR)
    have hn : Hid (T.simp N = st) := Lib.hid (by rw [hN]; exact hst)
    have hE1 : Hid (plainT N = E) := Lib.hid (by rw [hN]; exact hEE)
    replace hrs := Lib.hid hrs
    replace cO := Lib.hid cO
    replace cP2 := Lib.hid cP2
    replace cS := Lib.hid cS
    clear hT hS hL hst hEE hN hns hsz hsl h7 L
    obtain ⟨k, u0, u1, u2, u3, p, cap, mn, mx, tx, ks⟩ := n
    simp only [T.cells] at *
    have hR := hR1
    go_enter Tryd.func4, Tryd.ntmps4
    go_wp2_with (first | (go_at_call 6; (with_reducible refine cA.out.mono ?_); rintro e w1 ⟨rfl, hb⟩; have hbn := Lib.hid (kept_row hx0.out hb); have hk := cells_of hbn.out; have y0 := (hk 0 _ rfl).1; have y1 := (hk 1 _ rfl).1; have y2 := (hk 2 _ rfl).1; have y3 := (hk 3 _ rfl).1; have y4 := (hk 4 _ rfl).1; have y5 := (hk 5 _ rfl).1; have y6 := (hk 6 _ rfl).1; have y7 := (hk 7 _ rfl).1; have y8 := (hk 8 _ rfl).1; clear hk; have hln := lt_of_box hbn.out; have hq1 := Lib.hid (Bel.step hq0.out hb); clear hb) | (go_at_call 10; (with_reducible refine (c7.out _ hq1.out).mono ?_); rintro e w2 ⟨⟨k7, u07, u17, u27, u37, p7, cap7, mn7, mx7, tx7, ks7⟩, rfl, hb⟩; simp only [T.cells]; clear y0 y1 y2 y3 y4 y5 y6 y7 y8; replace hbn := Lib.hid (kept_row hbn.out hb); have hk := cells_of hbn.out; have y0 := (hk 0 _ rfl).1; have y1 := (hk 1 _ rfl).1; have y2 := (hk 2 _ rfl).1; have y3 := (hk 3 _ rfl).1; have y4 := (hk 4 _ rfl).1; have y5 := (hk 5 _ rfl).1; have y6 := (hk 6 _ rfl).1; have y7 := (hk 7 _ rfl).1; have y8 := (hk 8 _ rfl).1; clear hk; have hln := lt_of_box hbn.out; replace hbn := Lib.hid (kept_alloc hbn.out (.cells #[.int .i64 k7, .int .u64 u07, .int .u64 u17, .int .u64 u27, .int .u64 u37, .slice p7 ks7.length cap7, .int .i64 mn7, .int .i64 mx7, .string tx7] 35)); have hq2 := Lib.hid (Bel.alloc (Bel.step hq1.out hb) (.cells #[.int .i64 k7, .int .u64 u07, .int .u64 u17, .int .u64 u27, .int .u64 u37, .slice p7 ks7.length cap7, .int .i64 mn7, .int .i64 mx7, .string tx7] 35)); clear hb hq1) | (go_at_call 10; (with_reducible refine (cO.out _ hq2.out).mono ?_); rintro e w3 ⟨⟨km, u0m, u1m, u2m, u3m, pm, capm, mnm, mxm, txm, ksm⟩, d3, rfl, hb, hmi, hms⟩; simp only [T.cells]; clear y0 y1 y2 y3 y4 y5 y6 y7 y8; replace hbn := Lib.hid (kept_row hbn.out hb); have hln := lt_of_box hbn.out; replace hbn := Lib.hid (kept_alloc hbn.out (.cells #[.int .i64 km, .int .u64 u0m, .int .u64 u1m, .int .u64 u2m, .int .u64 u3m, .slice pm ksm.length capm, .int .i64 mnm, .int .i64 mxm, .string txm] 35)); have hbm := Lib.hid (World.alloc_heap_new w3 (.cells #[.int .i64 km, .int .u64 u0m, .int .u64 u1m, .int .u64 u2m, .int .u64 u3m, .slice pm ksm.length capm, .int .i64 mnm, .int .i64 mxm, .string txm] 35)); have hTm := Lib.hid (box_in hmi (.cells #[.int .i64 km, .int .u64 u0m, .int .u64 u1m, .int .u64 u2m, .int .u64 u3m, .slice pm ksm.length capm, .int .i64 mnm, .int .i64 mxm, .string txm] 35)); have cRr := rright_str hTm.out ((right_of_strip (hms.trans hstr.out)).trans hR.out); simp only [T.cells] at cRr; replace cRr := Lib.hid cRr; have hq3 := Lib.hid (Bel.alloc (Bel.step hq2.out hb) (.cells #[.int .i64 km, .int .u64 u0m, .int .u64 u1m, .int .u64 u2m, .int .u64 u3m, .slice pm ksm.length capm, .int .i64 mnm, .int .i64 mxm, .string txm] 35)); replace hms := Lib.hid (hms.trans hstr.out); clear hb hmi hq2) | (go_at_call 14; (with_reducible refine (cRr.out _ (Bel.refl _)).mono ?_); rintro e w4 ⟨rfl, hb⟩; replace hbn := Lib.hid (kept_row hbn.out hb); replace hbm := Lib.hid (kept_row hbm.out hb); have hk := cells_of hbn.out; have y0 := (hk 0 _ rfl).1; have y1 := (hk 1 _ rfl).1; have y2 := (hk 2 _ rfl).1; have y3 := (hk 3 _ rfl).1; have y4 := (hk 4 _ rfl).1; have y5 := (hk 5 _ rfl).1; have y6 := (hk 6 _ rfl).1; have y7 := (hk 7 _ rfl).1; have y8 := (hk 8 _ rfl).1; clear hk; have hln := lt_of_box hbn.out; have hlm := lt_of_box hbm.out; replace hTm := Lib.hid (in_bel hTm.out hb); have hq4 := Lib.hid (Bel.step hq3.out hb); clear hb hq3 cRr) | (go_at_call 15; (with_reducible refine (cS.out _ hq4.out).mono ?_); rintro e w5 ⟨⟨ks, u0s, u1s, u2s, u3s, ps, caps, mns, mxs, txs, kss⟩, rfl, hb, hsi, hss⟩; simp only [T.cells]; clear y0 y1 y2 y3 y4 y5 y6 y7 y8; replace hbn := Lib.hid (kept_row hbn.out hb); replace hbm := Lib.hid (kept_row hbm.out hb); have hln := lt_of_box hbn.out; have hlm := lt_of_box hbm.out; replace hbn := Lib.hid (kept_alloc hbn.out (.cells #[.int .i64 ks, .int .u64 u0s, .int .u64 u1s, .int .u64 u2s, .int .u64 u3s, .slice ps kss.length caps, .int .i64 mns, .int .i64 mxs, .string txs] 28)); replace hbm := Lib.hid (kept_alloc hbm.out (.cells #[.int .i64 ks, .int .u64 u0s, .int .u64 u1s, .int .u64 u2s, .int .u64 u3s, .slice ps kss.length caps, .int .i64 mns, .int .i64 mxs, .string txs] 28)); have hTs := Lib.hid (box_in hsi (.cells #[.int .i64 ks, .int .u64 u0s, .int .u64 u1s, .int .u64 u2s, .int .u64 u3s, .slice ps kss.length caps, .int .i64 mns, .int .i64 mxs, .string txs] 28)); replace hTm := Lib.hid (in_bel (in_bel hTm.out hb) (Bel.new _ (.cells #[.int .i64 ks, .int .u64 u0s, .int .u64 u1s, .int .u64 u2s, .int .u64 u3s, .slice ps kss.length caps, .int .i64 mns, .int .i64 mxs, .string txs] 28))); have cOX := of_str hTs.out (hszs.out _ hss) hss; simp only [T.cells] at cOX; replace cOX := Lib.hid cOX; have hq5 := Lib.hid (Bel.alloc (Bel.step hq4.out hb) (.cells #[.int .i64 ks, .int .u64 u0s, .int .u64 u1s, .int .u64 u2s, .int .u64 u3s, .slice ps kss.length caps, .int .i64 mns, .int .i64 mxs, .string txs] 28)); clear hb hsi hss hTs hq4) | (go_at_call 10; (with_reducible refine (cOX.out _ (Bel.refl _)).mono ?_); rintro e w6 ⟨⟨kx, u0x, u1x, u2x, u3x, px, capx, mnx, mxx, txx, ksx⟩, d6, rfl, hb, hxi, hxs⟩; simp only [T.cells]; replace hbn := Lib.hid (kept_row hbn.out hb); replace hbm := Lib.hid (kept_row hbm.out hb); have hk := cells_of hbm.out; have y0 := (hk 0 _ rfl).1; have y1 := (hk 1 _ rfl).1; have y2 := (hk 2 _ rfl).1; have y3 := (hk 3 _ rfl).1; have y4 := (hk 4 _ rfl).1; have y5 := (hk 5 _ rfl).1; have y6 := (hk 6 _ rfl).1; have y7 := (hk 7 _ rfl).1; have y8 := (hk 8 _ rfl).1; clear hk; have hln := lt_of_box hbn.out; have hlm := lt_of_box hbm.out; replace hbn := Lib.hid (kept_alloc hbn.out (.cells #[.int .i64 kx, .int .u64 u0x, .int .u64 u1x, .int .u64 u2x, .int .u64 u3x, .slice px ksx.length capx, .int .i64 mnx, .int .i64 mxx, .string txx] 35)); replace hbm := Lib.hid (kept_alloc hbm.out (.cells #[.int .i64 kx, .int .u64 u0x, .int .u64 u1x, .int .u64 u2x, .int .u64 u3x, .slice px ksx.length capx, .int .i64 mnx, .int .i64 mxx, .string txx] 35)); have hbx := Lib.hid (World.alloc_heap_new w6 (.cells #[.int .i64 kx, .int .u64 u0x, .int .u64 u1x, .int .u64 u2x, .int .u64 u3x, .slice px ksx.length capx, .int .i64 mnx, .int .i64 mxx, .string txx] 35)); have hTx := Lib.hid (box_in hxi (.cells #[.int .i64 kx, .int .u64 u0x, .int .u64 u1x, .int .u64 u2x, .int .u64 u3x, .slice px ksx.length capx, .int .i64 mnx, .int .i64 mxx, .string txx] 35)); replace hTm := Lib.hid (in_bel (in_bel hTm.out hb) (Bel.new _ (.cells #[.int .i64 kx, .int .u64 u0x, .int .u64 u1x, .int .u64 u2x, .int .u64 u3x, .slice px ksx.length capx, .int .i64 mnx, .int .i64 mxx, .string txx] 35))); have cRs := rsimple_str hTm.out (hszm.out _ hms.out) hms.out hn.out; simp only [T.cells] at cRs; replace cRs := Lib.hid cRs; have hq6 := Lib.hid (Bel.alloc (Bel.step hq5.out hb) (.cells #[.int .i64 kx, .int .u64 u0x, .int .u64 u1x, .int .u64 u2x, .int .u64 u3x, .slice px ksx.length capx, .int .i64 mnx, .int .i64 mxx, .string txx] 35)); replace hxs := Lib.hid hxs; clear hb hxi hq5 cOX) | (go_at_call 16; (with_reducible refine (cRs.out _ (Bel.refl _)).mono ?_); rintro e w7 ⟨⟨kv, u0v, u1v, u2v, u3v, pv, capv, mnv, mxv, txv, ksv⟩, rfl, hb, hvi, hvs⟩; simp only [T.cells]; clear y0 y1 y2 y3 y4 y5 y6 y7 y8; replace hbn := Lib.hid (kept_row hbn.out hb); replace hbm := Lib.hid (kept_row hbm.out hb); replace hbx := Lib.hid (kept_row hbx.out hb); have hk := cells_of hbn.out; have y0 := (hk 0 _ rfl).1; have y1 := (hk 1 _ rfl).1; have y2 := (hk 2 _ rfl).1; have y3 := (hk 3 _ rfl).1; have y4 := (hk 4 _ rfl).1; have y5 := (hk 5 _ rfl).1; have y6 := (hk 6 _ rfl).1; have y7 := (hk 7 _ rfl).1; have y8 := (hk 8 _ rfl).1; clear hk; have hln := lt_of_box hbn.out; have hlm := lt_of_box hbm.out; have hlx := lt_of_box hbx.out; replace hbn := Lib.hid (kept_alloc hbn.out (.cells #[.int .i64 kv, .int .u64 u0v, .int .u64 u1v, .int .u64 u2v, .int .u64 u3v, .slice pv ksv.length capv, .int .i64 mnv, .int .i64 mxv, .string txv] 35)); replace hbm := Lib.hid (kept_alloc hbm.out (.cells #[.int .i64 kv, .int .u64 u0v, .int .u64 u1v, .int .u64 u2v, .int .u64 u3v, .slice pv ksv.length capv, .int .i64 mnv, .int .i64 mxv, .string txv] 35)); replace hbx := Lib.hid (kept_alloc hbx.out (.cells #[.int .i64 kv, .int .u64 u0v, .int .u64 u1v, .int .u64 u2v, .int .u64 u3v, .slice pv ksv.length capv, .int .i64 mnv, .int .i64 mxv, .string txv] 35)); have hbv := Lib.hid (World.alloc_heap_new w7 (.cells #[.int .i64 kv, .int .u64 u0v, .int .u64 u1v, .int .u64 u2v, .int .u64 u3v, .slice pv ksv.length capv, .int .i64 mnv, .int .i64 mxv, .string txv] 35)); have hTv := Lib.hid (box_in hvi (.cells #[.int .i64 kv, .int .u64 u0v, .int .u64 u1v, .int .u64 u2v, .int .u64 u3v, .slice pv ksv.length capv, .int .i64 mnv, .int .i64 mxv, .string txv] 35)); replace hTm := Lib.hid (in_bel (in_bel hTm.out hb) (Bel.new _ (.cells #[.int .i64 kv, .int .u64 u0v, .int .u64 u1v, .int .u64 u2v, .int .u64 u3v, .slice pv ksv.length capv, .int .i64 mnv, .int .i64 mxv, .string txv] 35))); replace hTx := Lib.hid (in_bel (in_bel hTx.out hb) (Bel.new _ (.cells #[.int .i64 kv, .int .u64 u0v, .int .u64 u1v, .int .u64 u2v, .int .u64 u3v, .slice pv ksv.length capv, .int .i64 mnv, .int .i64 mxv, .string txv] 35))); have hq7 := Lib.hid (Bel.alloc (Bel.step hq6.out hb) (.cells #[.int .i64 kv, .int .u64 u0v, .int .u64 u1v, .int .u64 u2v, .int .u64 u3v, .slice pv ksv.length capv, .int .i64 mnv, .int .i64 mxv, .string txv] 35)); replace hvs := Lib.hid hvs; clear hb hvi hq6 cRs) | (go_at_call 10; (with_reducible refine (cO.out _ hq7.out).mono ?_); rintro e w8 ⟨⟨ky, u0y, u1y, u2y, u3y, py, capy, mny, mxy, txy, ksy⟩, d8, rfl, hb, hyi, hys⟩; simp only [T.cells]; clear y0 y1 y2 y3 y4 y5 y6 y7 y8; replace hbn := Lib.hid (kept_row hbn.out hb); replace hbm := Lib.hid (kept_row hbm.out hb); replace hbx := Lib.hid (kept_row hbx.out hb); replace hbv := Lib.hid (kept_row hbv.out hb); have hln := lt_of_box hbn.out; have hlm := lt_of_box hbm.out; have hlx := lt_of_box hbx.out; have hlv := lt_of_box hbv.out; replace hbn := Lib.hid (kept_alloc hbn.out (.cells #[.int .i64 ky, .int .u64 u0y, .int .u64 u1y, .int .u64 u2y, .int .u64 u3y, .slice py ksy.length capy, .int .i64 mny, .int .i64 mxy, .string txy] 35)); replace hbm := Lib.hid (kept_alloc hbm.out (.cells #[.int .i64 ky, .int .u64 u0y, .int .u64 u1y, .int .u64 u2y, .int .u64 u3y, .slice py ksy.length capy, .int .i64 mny, .int .i64 mxy, .string txy] 35)); replace hbx := Lib.hid (kept_alloc hbx.out (.cells #[.int .i64 ky, .int .u64 u0y, .int .u64 u1y, .int .u64 u2y, .int .u64 u3y, .slice py ksy.length capy, .int .i64 mny, .int .i64 mxy, .string txy] 35)); replace hbv := Lib.hid (kept_alloc hbv.out (.cells #[.int .i64 ky, .int .u64 u0y, .int .u64 u1y, .int .u64 u2y, .int .u64 u3y, .slice py ksy.length capy, .int .i64 mny, .int .i64 mxy, .string txy] 35)); have hby := Lib.hid (World.alloc_heap_new w8 (.cells #[.int .i64 ky, .int .u64 u0y, .int .u64 u1y, .int .u64 u2y, .int .u64 u3y, .slice py ksy.length capy, .int .i64 mny, .int .i64 mxy, .string txy] 35)); have hTy := Lib.hid (box_in hyi (.cells #[.int .i64 ky, .int .u64 u0y, .int .u64 u1y, .int .u64 u2y, .int .u64 u3y, .slice py ksy.length capy, .int .i64 mny, .int .i64 mxy, .string txy] 35)); replace hTm := Lib.hid (in_bel (in_bel hTm.out hb) (Bel.new _ (.cells #[.int .i64 ky, .int .u64 u0y, .int .u64 u1y, .int .u64 u2y, .int .u64 u3y, .slice py ksy.length capy, .int .i64 mny, .int .i64 mxy, .string txy] 35))); replace hTx := Lib.hid (in_bel (in_bel hTx.out hb) (Bel.new _ (.cells #[.int .i64 ky, .int .u64 u0y, .int .u64 u1y, .int .u64 u2y, .int .u64 u3y, .slice py ksy.length capy, .int .i64 mny, .int .i64 mxy, .string txy] 35))); replace hTv := Lib.hid (in_bel (in_bel hTv.out hb) (Bel.new _ (.cells #[.int .i64 ky, .int .u64 u0y, .int .u64 u1y, .int .u64 u2y, .int .u64 u3y, .slice py ksy.length capy, .int .i64 mny, .int .i64 mxy, .string txy] 35))); have hq8 := Lib.hid (Bel.alloc (Bel.step hq7.out hb) (.cells #[.int .i64 ky, .int .u64 u0y, .int .u64 u1y, .int .u64 u2y, .int .u64 u3y, .slice py ksy.length capy, .int .i64 mny, .int .i64 mxy, .string txy] 35)); replace hys := Lib.hid (hys.trans hstr.out); clear hb hyi hq7))
    have cXV := rsame_str hTx.out hTv.out (rsame_yes hxs.out hvs.out (rightB_of hxs.out hrs.out))
    have cYM := rsame_str hTy.out hTm.out (rsame_yes hys.out hms.out ((right_of_strip hys.out).trans hR.out))
    have cVM := rsame_str hTv.out hTm.out ((rsame_plain hn.out hR.out hvs.out hms.out (rightB_of hvs.out hrs.out)).trans hE1.out)
    have cPL := Lib.hid fun w' (hb : Bel _ w') => cP2.out w' (Bel.step hq8.out hb)
    simp only [T.cells] at cXV cYM cVM
    replace cXV := Lib.hid cXV
    replace cYM := Lib.hid cYM
    replace cVM := Lib.hid cVM
    clear cP2 cS cO c7 hTx hTm hTy hTv
    generalize w8.alloc (.cells #[.int .i64 ky, .int .u64 u0y, .int .u64 u1y, .int .u64 u2y, .int .u64 u3y, .slice py ksy.length capy, .int .i64 mny, .int .i64 mxy, .string txy] 35) = wk at *
    refine wp_region_held_drew (S := Bel wk) (by kernel_rfl) (Bel.drew (Bel.refl _)) (fun hHeld => ?_)
    refine wpAnyH_take (i := 0) (v := ?v0u1) rfl (by kernel_rfl) (by kernel_rfl) (by kernel_rfl) (fun _ _ _ h => h) (Or.inl ⟨by rfl, ?h0u1⟩) hHeld ?r0u1
    case h0u1 => (intro wq hSw; have hk := cells_of (kept_row hbx.out hSw); have y0 := (hk 0 _ rfl).1; have y1 := (hk 1 _ rfl).1; have y2 := (hk 2 _ rfl).1; have y3 := (hk 3 _ rfl).1; have y4 := (hk 4 _ rfl).1; have y5 := (hk 5 _ rfl).1; have y6 := (hk 6 _ rfl).1; have y7 := (hk 7 _ rfl).1; have y8 := (hk 8 _ rfl).1; clear hk; go_simp <;> with_reducible rfl)
    try simp only [Act.put, List.getElem_toArray, List.getElem_cons_zero, List.setIfInBounds_toArray, List.set_cons_zero, List.set_cons_succ]
    refine wpAnyH_take (i := 1) (v := ?v1u2) rfl (by kernel_rfl) (by kernel_rfl) (by kernel_rfl) (fun _ _ _ h => h) (Or.inl ⟨by rfl, ?h1u2⟩) hHeld ?r1u2
    case h1u2 => (intro wq hSw; have hk := cells_of (kept_row hbv.out hSw); have y0 := (hk 0 _ rfl).1; have y1 := (hk 1 _ rfl).1; have y2 := (hk 2 _ rfl).1; have y3 := (hk 3 _ rfl).1; have y4 := (hk 4 _ rfl).1; have y5 := (hk 5 _ rfl).1; have y6 := (hk 6 _ rfl).1; have y7 := (hk 7 _ rfl).1; have y8 := (hk 8 _ rfl).1; clear hk; go_simp <;> with_reducible rfl)
    try simp only [Act.put, List.getElem_toArray, List.getElem_cons_succ, List.getElem_cons_zero, List.setIfInBounds_toArray, List.set_cons_zero, List.set_cons_succ]
    refine wpAnyH_ready (rs := [2]) (by kernel_rfl) (by simp) ?_
    refine AllReadyH.cons (o := _) rfl (fun K hK => ?_) AllReadyH.nil
    go_simp
    (go_at_call 11; (with_reducible refine (cXV.out _ hHeld).mono ?_); rintro e w9 ⟨rfl, hb⟩)
    try dsimp only
    refine hK.out _ _ (Bel.step hHeld hb) (fun hHeld2 => ?_)
    clear hK K hHeld
    have hHeld := hHeld2
    clear hHeld2
    try simp only [Act.put, List.getElem_toArray, List.getElem_cons_succ, List.getElem_cons_zero, List.setIfInBounds_toArray, List.set_cons_zero, List.set_cons_succ]
    refine wpAnyH_take (i := 3) (v := ?v3u3) rfl (by kernel_rfl) (by kernel_rfl) (by kernel_rfl) (fun _ _ _ h => h) (Or.inl ⟨by rfl, ?h3u3⟩) hHeld ?r3u3
    case h3u3 => (intro wq hSw; go_simp <;> with_reducible rfl)
    try simp only [Act.put, List.getElem_toArray, List.getElem_cons_succ, List.getElem_cons_zero, List.setIfInBounds_toArray, List.set_cons_zero, List.set_cons_succ]
    refine wpAnyH_take (i := 4) (v := ?v4u4) rfl (by kernel_rfl) (by kernel_rfl) (by kernel_rfl) (fun _ _ _ h => h) (Or.inl ⟨by rfl, ?h4u4⟩) hHeld ?r4u4
    case h4u4 => (intro wq hSw; have hk := cells_of (kept_row hby.out hSw); have y0 := (hk 0 _ rfl).1; have y1 := (hk 1 _ rfl).1; have y2 := (hk 2 _ rfl).1; have y3 := (hk 3 _ rfl).1; have y4 := (hk 4 _ rfl).1; have y5 := (hk 5 _ rfl).1; have y6 := (hk 6 _ rfl).1; have y7 := (hk 7 _ rfl).1; have y8 := (hk 8 _ rfl).1; clear hk; go_simp <;> with_reducible rfl)
    try simp only [Act.put, List.getElem_toArray, List.getElem_cons_succ, List.getElem_cons_zero, List.setIfInBounds_toArray, List.set_cons_zero, List.set_cons_succ]
    refine wpAnyH_take (i := 5) (v := ?v5u5) rfl (by kernel_rfl) (by kernel_rfl) (by kernel_rfl) (fun _ _ _ h => h) (Or.inl ⟨by rfl, ?h5u5⟩) hHeld ?r5u5
    case h5u5 => (intro wq hSw; have hk := cells_of (kept_row hbm.out hSw); have y0 := (hk 0 _ rfl).1; have y1 := (hk 1 _ rfl).1; have y2 := (hk 2 _ rfl).1; have y3 := (hk 3 _ rfl).1; have y4 := (hk 4 _ rfl).1; have y5 := (hk 5 _ rfl).1; have y6 := (hk 6 _ rfl).1; have y7 := (hk 7 _ rfl).1; have y8 := (hk 8 _ rfl).1; clear hk; go_simp <;> with_reducible rfl)
    try simp only [Act.put, List.getElem_toArray, List.getElem_cons_succ, List.getElem_cons_zero, List.setIfInBounds_toArray, List.set_cons_zero, List.set_cons_succ]
    refine wpAnyH_ready (rs := [6]) (by kernel_rfl) (by simp) ?_
    refine AllReadyH.cons (o := _) rfl (fun K hK => ?_) AllReadyH.nil
    go_simp
    (go_at_call 11; (with_reducible refine (cYM.out _ hHeld).mono ?_); rintro e w9 ⟨rfl, hb⟩)
    try dsimp only
    refine hK.out _ _ (Bel.step hHeld hb) (fun hHeld2 => ?_)
    clear hK K hHeld
    have hHeld := hHeld2
    clear hHeld2
    try simp only [Act.put, List.getElem_toArray, List.getElem_cons_succ, List.getElem_cons_zero, List.setIfInBounds_toArray, List.set_cons_zero, List.set_cons_succ]
    refine wpAnyH_take (i := 7) (v := ?v7u6) rfl (by kernel_rfl) (by kernel_rfl) (by kernel_rfl) (fun _ _ _ h => h) (Or.inl ⟨by rfl, ?h7u6⟩) hHeld ?r7u6
    case h7u6 => (intro wq hSw; go_simp <;> with_reducible rfl)
    try simp only [Act.put, List.getElem_toArray, List.getElem_cons_succ, List.getElem_cons_zero, List.setIfInBounds_toArray, List.set_cons_zero, List.set_cons_succ]
    refine wpAnyH_take (i := 8) (v := ?v8u7) rfl (by kernel_rfl) (by kernel_rfl) (by kernel_rfl) (fun _ _ _ h => h) (Or.inl ⟨by rfl, ?h8u7⟩) hHeld ?r8u7
    case h8u7 => (intro wq hSw; go_simp <;> with_reducible rfl)
    try simp only [Act.put, List.getElem_toArray, List.getElem_cons_succ, List.getElem_cons_zero, List.setIfInBounds_toArray, List.set_cons_zero, List.set_cons_succ]
    refine wpAnyH_take (i := 9) (v := ?v9u8) rfl (by kernel_rfl) (by kernel_rfl) (by kernel_rfl) (fun _ _ _ h => h) (Or.inl ⟨by rfl, ?h9u8⟩) hHeld ?r9u8
    case h9u8 => (intro wq hSw; have hk := cells_of (kept_row hbn.out hSw); have y0 := (hk 0 _ rfl).1; have y1 := (hk 1 _ rfl).1; have y2 := (hk 2 _ rfl).1; have y3 := (hk 3 _ rfl).1; have y4 := (hk 4 _ rfl).1; have y5 := (hk 5 _ rfl).1; have y6 := (hk 6 _ rfl).1; have y7 := (hk 7 _ rfl).1; have y8 := (hk 8 _ rfl).1; clear hk; go_simp <;> with_reducible rfl)
    try simp only [Act.put, List.getElem_toArray, List.getElem_cons_succ, List.getElem_cons_zero, List.setIfInBounds_toArray, List.set_cons_zero, List.set_cons_succ]
    refine wpAnyH_take (i := 11) (v := ?v11u9) rfl (by kernel_rfl) (by kernel_rfl) (by kernel_rfl) (fun _ _ _ h => h) (Or.inl ⟨by rfl, ?h11u9⟩) hHeld ?r11u9
    case h11u9 => (intro wq hSw; have hk := cells_of (kept_row hbv.out hSw); have y0 := (hk 0 _ rfl).1; have y1 := (hk 1 _ rfl).1; have y2 := (hk 2 _ rfl).1; have y3 := (hk 3 _ rfl).1; have y4 := (hk 4 _ rfl).1; have y5 := (hk 5 _ rfl).1; have y6 := (hk 6 _ rfl).1; have y7 := (hk 7 _ rfl).1; have y8 := (hk 8 _ rfl).1; clear hk; go_simp <;> with_reducible rfl)
    try simp only [Act.put, List.getElem_toArray, List.getElem_cons_succ, List.getElem_cons_zero, List.setIfInBounds_toArray, List.set_cons_zero, List.set_cons_succ]
    refine wpAnyH_take (i := 12) (v := ?v12u10) rfl (by kernel_rfl) (by kernel_rfl) (by kernel_rfl) (fun _ _ _ h => h) (Or.inl ⟨by rfl, ?h12u10⟩) hHeld ?r12u10
    case h12u10 => (intro wq hSw; have hk := cells_of (kept_row hbm.out hSw); have y0 := (hk 0 _ rfl).1; have y1 := (hk 1 _ rfl).1; have y2 := (hk 2 _ rfl).1; have y3 := (hk 3 _ rfl).1; have y4 := (hk 4 _ rfl).1; have y5 := (hk 5 _ rfl).1; have y6 := (hk 6 _ rfl).1; have y7 := (hk 7 _ rfl).1; have y8 := (hk 8 _ rfl).1; clear hk; go_simp <;> with_reducible rfl)
    try simp only [Act.put, List.getElem_toArray, List.getElem_cons_succ, List.getElem_cons_zero, List.setIfInBounds_toArray, List.set_cons_zero, List.set_cons_succ]
    refine wpAnyH_ready (rs := [10]) (by kernel_rfl) (by simp) ?_
    refine AllReadyH.cons (o := _) rfl (fun K hK => ?_) AllReadyH.nil
    go_simp
    (go_at_call 13; (with_reducible refine (cPL.out _ hHeld).mono ?_); rintro e w9 ⟨rfl, hb⟩)
    try dsimp only
    refine hK.out _ _ (Bel.step hHeld hb) (fun hHeld2 => ?_)
    clear hK K hHeld
    have hHeld := hHeld2
    clear hHeld2
    try simp only [Act.put, List.getElem_toArray, List.getElem_cons_succ, List.getElem_cons_zero, List.setIfInBounds_toArray, List.set_cons_zero, List.set_cons_succ]
    refine wpAnyH_ready (rs := [13]) (by kernel_rfl) (by simp) ?_
    refine AllReadyH.cons (o := _) rfl (fun K hK => ?_) AllReadyH.nil
    go_simp
    (go_at_call 11; (with_reducible refine (cVM.out _ hHeld).mono ?_); rintro e w9 ⟨rfl, hb⟩)
    try dsimp only
    refine hK.out _ _ (Bel.step hHeld hb) (fun hHeld2 => ?_)
    clear hK K hHeld
    have hHeld := hHeld2
    clear hHeld2
    try simp only [Act.put, List.getElem_toArray, List.getElem_cons_succ, List.getElem_cons_zero, List.setIfInBounds_toArray, List.set_cons_zero, List.set_cons_succ]
    refine wpAnyH_take (i := 14) (v := ?v14u11) rfl (by kernel_rfl) (by kernel_rfl) (by kernel_rfl) (fun _ _ _ h => h) (Or.inl ⟨by rfl, ?h14u11⟩) hHeld ?r14u11
    case h14u11 => (intro wq hSw; go_simp <;> with_reducible rfl)
    try simp only [Act.put, List.getElem_toArray, List.getElem_cons_succ, List.getElem_cons_zero, List.setIfInBounds_toArray, List.set_cons_zero, List.set_cons_succ]
    refine wpAnyH_take (i := 15) (v := ?v15u12) rfl (by kernel_rfl) (by kernel_rfl) (by kernel_rfl) (fun _ _ _ h => h) (Or.inl ⟨by rfl, ?h15u12⟩) hHeld ?r15u12
    case h15u12 => (intro wq hSw; go_simp <;> with_reducible rfl)
    try simp only [Act.put, List.getElem_toArray, List.getElem_cons_succ, List.getElem_cons_zero, List.setIfInBounds_toArray, List.set_cons_zero, List.set_cons_succ]
    refine wpAnyH_take (i := 16) (v := ?v16u13) rfl (by kernel_rfl) (by kernel_rfl) (by kernel_rfl) (fun _ _ _ h => h) (Or.inl ⟨by rfl, ?h16u13⟩) hHeld ?r16u13
    case h16u13 => (intro wq hSw; go_simp <;> with_reducible rfl)
    try simp only [Act.put, List.getElem_toArray, List.getElem_cons_succ, List.getElem_cons_zero, List.setIfInBounds_toArray, List.set_cons_zero, List.set_cons_succ]
    refine wpAnyH_done (by kernel_rfl) ?_ _
    have hZ := Lib.hid hHeld
    go_wp2
    go_ret
    exact ⟨by cases E <;> rfl, Bel.step hq8.out hZ.out⟩

  · have hR0 : rightB n = false := by simpa using hR
    have e0 : plainT n = false := by unfold plainT; rw [hR0, Bool.false_and]
    rw [e0] at cP
    rw [← hN] at hstr
    have hR1 : Hid (rightB N = false) := Lib.hid (by rw [hN]; exact hR0)
    replace cO := Lib.hid cO
    replace cP := Lib.hid cP
    clear hT hS hL hN hns hsz h7 L cS hszm hR hR0 e0
    obtain ⟨k, u0, u1, u2, u3, p, cap, mn, mx, tx, ks⟩ := n
    simp only [T.cells] at *
    have hR := hR1
    go_enter Tryd.func4, Tryd.ntmps4
    go_wp2_with (first | (go_at_call 6; (with_reducible refine cA.out.mono ?_); rintro e w1 ⟨rfl, hb⟩; have hbn := Lib.hid (kept_row hx0.out hb); have hk := cells_of hbn.out; have y0 := (hk 0 _ rfl).1; have y1 := (hk 1 _ rfl).1; have y2 := (hk 2 _ rfl).1; have y3 := (hk 3 _ rfl).1; have y4 := (hk 4 _ rfl).1; have y5 := (hk 5 _ rfl).1; have y6 := (hk 6 _ rfl).1; have y7 := (hk 7 _ rfl).1; have y8 := (hk 8 _ rfl).1; clear hk; have hln := lt_of_box hbn.out; have hq1 := Lib.hid (Bel.step hq0.out hb); clear hb) | (go_at_call 10; (with_reducible refine (c7.out _ hq1.out).mono ?_); rintro e w2 ⟨⟨k7, u07, u17, u27, u37, p7, cap7, mn7, mx7, tx7, ks7⟩, rfl, hb⟩; simp only [T.cells]; clear y0 y1 y2 y3 y4 y5 y6 y7 y8; replace hbn := Lib.hid (kept_row hbn.out hb); have hk := cells_of hbn.out; have y0 := (hk 0 _ rfl).1; have y1 := (hk 1 _ rfl).1; have y2 := (hk 2 _ rfl).1; have y3 := (hk 3 _ rfl).1; have y4 := (hk 4 _ rfl).1; have y5 := (hk 5 _ rfl).1; have y6 := (hk 6 _ rfl).1; have y7 := (hk 7 _ rfl).1; have y8 := (hk 8 _ rfl).1; clear hk; have hln := lt_of_box hbn.out; replace hbn := Lib.hid (kept_alloc hbn.out (.cells #[.int .i64 k7, .int .u64 u07, .int .u64 u17, .int .u64 u27, .int .u64 u37, .slice p7 ks7.length cap7, .int .i64 mn7, .int .i64 mx7, .string tx7] 35)); have hq2 := Lib.hid (Bel.alloc (Bel.step hq1.out hb) (.cells #[.int .i64 k7, .int .u64 u07, .int .u64 u17, .int .u64 u27, .int .u64 u37, .slice p7 ks7.length cap7, .int .i64 mn7, .int .i64 mx7, .string tx7] 35)); clear hb hq1) | (go_at_call 10; (with_reducible refine (cO.out _ hq2.out).mono ?_); rintro e w3 ⟨⟨km, u0m, u1m, u2m, u3m, pm, capm, mnm, mxm, txm, ksm⟩, d3, rfl, hb, hmi, hms⟩; simp only [T.cells]; clear y0 y1 y2 y3 y4 y5 y6 y7 y8; replace hbn := Lib.hid (kept_row hbn.out hb); have hln := lt_of_box hbn.out; replace hbn := Lib.hid (kept_alloc hbn.out (.cells #[.int .i64 km, .int .u64 u0m, .int .u64 u1m, .int .u64 u2m, .int .u64 u3m, .slice pm ksm.length capm, .int .i64 mnm, .int .i64 mxm, .string txm] 35)); have hbm := Lib.hid (World.alloc_heap_new w3 (.cells #[.int .i64 km, .int .u64 u0m, .int .u64 u1m, .int .u64 u2m, .int .u64 u3m, .slice pm ksm.length capm, .int .i64 mnm, .int .i64 mxm, .string txm] 35)); have hTm := Lib.hid (box_in hmi (.cells #[.int .i64 km, .int .u64 u0m, .int .u64 u1m, .int .u64 u2m, .int .u64 u3m, .slice pm ksm.length capm, .int .i64 mnm, .int .i64 mxm, .string txm] 35)); have cRr := rright_str hTm.out ((right_of_strip (hms.trans hstr.out)).trans hR.out); simp only [T.cells] at cRr; replace cRr := Lib.hid cRr; have hq3 := Lib.hid (Bel.alloc (Bel.step hq2.out hb) (.cells #[.int .i64 km, .int .u64 u0m, .int .u64 u1m, .int .u64 u2m, .int .u64 u3m, .slice pm ksm.length capm, .int .i64 mnm, .int .i64 mxm, .string txm] 35)); replace hms := Lib.hid (hms.trans hstr.out); clear hb hmi hq2) | (go_at_call 14; (with_reducible refine (cRr.out _ (Bel.refl _)).mono ?_); rintro e w4 ⟨rfl, hb⟩; replace hbn := Lib.hid (kept_row hbn.out hb); replace hbm := Lib.hid (kept_row hbm.out hb); have hk := cells_of hbn.out; have y0 := (hk 0 _ rfl).1; have y1 := (hk 1 _ rfl).1; have y2 := (hk 2 _ rfl).1; have y3 := (hk 3 _ rfl).1; have y4 := (hk 4 _ rfl).1; have y5 := (hk 5 _ rfl).1; have y6 := (hk 6 _ rfl).1; have y7 := (hk 7 _ rfl).1; have y8 := (hk 8 _ rfl).1; clear hk; have hln := lt_of_box hbn.out; have hlm := lt_of_box hbm.out; replace hTm := Lib.hid (in_bel hTm.out hb); have hq4 := Lib.hid (Bel.step hq3.out hb); clear hb hq3 cRr) | (go_at_call 13; (with_reducible refine (cP.out _ hq4.out).mono ?_); rintro e w5 ⟨rfl, hb⟩; have hq5 := Lib.hid (Bel.step hq4.out hb); clear hb))
    go_ret
    exact ⟨rfl, hq5.out⟩
end Go.Proofs.YtjlmeegaiagfpaaDoor
