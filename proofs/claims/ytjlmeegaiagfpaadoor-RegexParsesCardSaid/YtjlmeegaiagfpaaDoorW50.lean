/- RegexParses, walked. -/
import Derived.Test.YtjlmeegaiagfpaaDoorW37s
import Derived.Test.YtjlmeegaiagfpaaDoorWK
namespace Go.Proofs.YtjlmeegaiagfpaaDoor
open Go.RowKit
open Go.Tree7
open S7
open S5 (nl nl_length nl_small at_nl nl_at Gives idx idx_at ix ix_no ix_yes)
theorem num_nil8 (w : World) : Calls Tryd.prog 9 #[.nilIface] w fun e w' => e = .returned (.int .i64 0) ∧ w = w' := by
  go_enter Tryd.func9, Tryd.ntmps9
  go_wp2
  go_ret
  exact ⟨rfl, rfl⟩
theorem num_err8 {A : Nat → Addr} {er : Nat} (h : er = 1 ∨ er = 2 ∨ er = 4 ∨ er = 5 ∨ er = 7 ∨ er = 9) (w : World) (hE : Errs w A) :
    Calls Tryd.prog 9 #[.iface 139 (VA A er)] w fun e w' => e = .returned (.int .i64 er) ∧ Below w.heap.size w w' := by
  rcases h with rfl | rfl | rfl | rfl | rfl | rfl
  · exact (num_in A 0 (by decide) w hE).mono fun _ _ h => ⟨by rw [h.1]; rfl, h.2⟩
  · exact (num_in A 1 (by decide) w hE).mono fun _ _ h => ⟨by rw [h.1]; rfl, h.2⟩
  · exact (num_in A 3 (by decide) w hE).mono fun _ _ h => ⟨by rw [h.1]; rfl, h.2⟩
  · exact (num_in A 4 (by decide) w hE).mono fun _ _ h => ⟨by rw [h.1]; rfl, h.2⟩
  · exact (num_in A 6 (by decide) w hE).mono fun _ _ h => ⟨by rw [h.1]; rfl, h.2⟩
  · exact (num_in A 8 (by decide) w hE).mono fun _ _ h => ⟨by rw [h.1]; rfl, h.2⟩
theorem bd_err {l : List Nat} {k n e : Nat} {a b : Int} (h : Bd l k a b n e) : e = 0 ∨ e = 1 ∨ e = 2 ∨ e = 4 := by cases h <;> simp
theorem atm_err {l : List Nat} {k e : Nat} {n : Int} (h : AtmBad l k n e) : e = 1 ∨ e = 2 ∨ e = 4 ∨ e = 5 := by
  cases h with
  | form => simp
  | br f _ _ h1 h2 h3 => rcases br_err8 h2 with h | h | h | h <;> omega
  | short => simp
  | name => simp
  | byte c d _ _ h1 h2 h3 h4 => rcases rd_err h3 with h | h | h <;> omega
theorem run_err {l : List Nat} {p : List Op} {b : Bool} {k er : Nat} {n : Int} {out : Out} (h : Run l p b k out) (ho : out = .bad n er) : er = 1 ∨ er = 2 ∨ er = 4 ∨ er = 5 ∨ er = 7 ∨ er = 9 := by
  induction h with
  | step _ _ ih => exact ih ho
  | tree => cases ho
  | short => cases ho; simp
  | mark _ _ _ _ _ _ h he =>
    cases ho
    cases h with
    | star => exact absurd rfl he
    | plus => exact absurd rfl he
    | opt => exact absurd rfl he
    | bounds _ _ _ _ _ _ hb => rcases bd_err hb with h | h | h | h <;> omega
  | close => cases ho; simp
  | atom _ _ _ _ _ _ h => cases ho; rcases atm_err h with h | h | h | h <;> omega
/-- Where there is no tree, both tell the same place and the same error. -/
theorem both_err {s : ByteArray} {out : Out} (hrun : Run (nl s) [([], [])] false 0 out) (hf : ¬ Fine out) (hm : s.size ≤ 700) : ∃ (n : Int) (er : Nat), (er = 1 ∨ er = 2 ∨ er = 4 ∨ er = 5 ∨ er = 7 ∨ er = 9) ∧
    (∀ (V : Nat → Value) (w : World), Six w V → Calls Tryd.prog 7 #[.string s] w fun e w' => e = .returned (.tuple #[.agg #[.int .i64 0, .int .u64 0, .int .u64 0, .int .u64 0, .int .u64 0, .slice none 0 0, .int .i64 0, .int .i64 0, .string ⟨#[]⟩], .int .i64 n, .iface 139 (V er)]) ∧ Below w.heap.size w w') ∧
    (∀ w : World, Calls Tryd.prog 8 #[.string s] w fun e w' => e = .returned (.tuple #[.agg #[.int .i64 0, .int .u64 0, .int .u64 0, .int .u64 0, .int .u64 0, .slice none 0 0, .int .i64 0, .int .i64 0, .string ⟨#[]⟩], .int .i64 n, .int .i64 er]) ∧ Below w.heap.size w w') := by
  have h1 := fun (V : Nat → Value) (w : World) (hS : Six w V) => parse_in hrun (by omega) w hS
  have h2 := fun (w : World) => rparse_in hrun hm w
  cases out with
  | bad n er => exact ⟨n, er, run_err hrun rfl, fun V w hS => (h1 V w hS).mono fun e w' h => ⟨h.2, h.1⟩, fun w => (h2 w).mono fun e w' h => ⟨h.2, h.1⟩⟩
  | tree t =>
    by_cases hd : 24 < deepOf (allT t)
    · refine ⟨0, 7, by simp, fun V w hS => (h1 V w hS).mono fun e w' h => ⟨?_, h.1⟩, fun w => (h2 w).mono fun e w' h => ⟨?_, h.1⟩⟩
      · rcases h.2 with ⟨-, h⟩ | ⟨h, -⟩ | ⟨h, -⟩
        · exact h
        · omega
        · omega
      · rcases h.2 with ⟨-, h⟩ | ⟨h, -⟩ | ⟨h, -⟩
        · exact h
        · omega
        · omega
    · have hc : 600 < (allT t).length := by
        refine Nat.lt_of_not_le fun hc => hf ⟨t, rfl, by omega, hc⟩
      refine ⟨0, 9, by simp, fun V w hS => (h1 V w hS).mono fun e w' h => ⟨?_, h.1⟩, fun w => (h2 w).mono fun e w' h => ⟨?_, h.1⟩⟩
      · rcases h.2 with ⟨h, -⟩ | ⟨-, -, h⟩ | ⟨-, h, -⟩
        · omega
        · exact h
        · omega
      · rcases h.2 with ⟨h, -⟩ | ⟨-, -, h⟩ | ⟨-, h, -⟩
        · omega
        · exact h
        · omega
theorem rparse_tree {s : ByteArray} {t : T} (hrun : Run (nl s) [([], [])] false 0 (.tree t)) (h1 : deepOf (allT t) ≤ 24) (h2 : (allT t).length ≤ 600) (hm : s.size ≤ 700) (w : World) :
    Calls Tryd.prog 8 #[.string s] w fun e w' => Below w.heap.size w w' ∧ ∃ m : T, m.strip = t ∧ T.In w' w'.heap.size m ∧ e = .returned (.tuple #[.agg m.cells.toArray, .int .i64 s.size, .int .i64 0]) := by
  refine (rparse_in hrun hm w).mono ?_
  rintro e w' ⟨hb, h⟩
  refine ⟨hb, ?_⟩
  rcases h with ⟨h, -⟩ | ⟨-, h, -⟩ | ⟨-, -, h⟩
  · omega
  · omega
  · exact h
theorem right_tree {t a : T} (hp : Pl t) (h1 : deepOf (allT t) ≤ 24) (h2 : (allT t).length ≤ 600) (ha : a.strip = t.strip) : rightB a = true := by
  obtain ⟨h3, h4⟩ := small_of h1 h2
  rw [right_of_strip ha, rightB_iff]
  exact pl_right hp h3 h4
theorem plain_tree {t a : T} (hp : Pl t) (h1 : deepOf (allT t) ≤ 24) (h2 : (allT t).length ≤ 600) (ha : a.strip = t.strip) : plainT a = true := by
  unfold plainT
  have h : padB a = false := by
    rw [padB_iff, ← simp_iff, simp_of_strip ha, ha]
    exact (simp_iff t).2 (pl_all hp).1
  rw [right_tree hp h1 h2 ha, h]
  rfl
theorem rt_yes {w : World} {t : T} (hT : T.In w w.heap.size t) (h : rightB t = true) : Calls Tryd.prog 12 #[.agg t.cells.toArray] w fun e w' => e = .returned (.bool true) ∧ Below w.heap.size w w' := by
  have := right_in hT
  rw [h] at this
  exact this
theorem pl_yes {w : World} {t : T} (hT : T.In w w.heap.size t) (h : plainT t = true) : Calls Tryd.prog 13 #[.agg t.cells.toArray] w fun e w' => e = .returned (.bool true) ∧ Below w.heap.size w w' := by
  have := plain_in8 hT
  rw [h] at this
  exact this
set_option maxRecDepth 100000 in
set_option maxHeartbeats 8000000 in
theorem regexParses_in {s : ByteArray} (hsm : s.size ≤ maxLen) {A : Nat → Addr} (w : World) (hE : Errs w A) : Calls Tryd.prog 3 #[.string s] w fun e w' => e = .returned (.bool true) ∧ Below w.heap.size w w' := by
  have hS := six_of hE
  have cA := Lib.hid (alive_in w hS)
  by_cases h7 : 700 < s.size
  · have g1 : decide ((700 : Int) < (s.size : Int)) = true := by rw [decide_eq_true_eq]; omega
    have hs2 : s.size ≤ 9223372036854775807 := by unfold maxLen at hsm; omega
    clear hS hE hsm
    go_enter Tryd.func3, Tryd.ntmps3
    go_wp2_with (go_at_call 6; (with_reducible refine cA.out.mono ?_); rintro e w1 ⟨rfl, hb⟩; have hq1 := Lib.hid (show Bel w w1 from hb); clear hb)
    go_ret
    exact ⟨rfl, hq1.out⟩
  have g1 : decide ((700 : Int) < (s.size : Int)) = false := by rw [decide_eq_false_iff_not]; omega
  have hs7 : s.size ≤ 700 := by omega
  obtain ⟨out, hrun⟩ := run_some (nl_small s) _ [([], [])] false 0 (Nat.le_refl _) (Nat.zero_le _) ⟨_, _, rfl, fun h => by cases h⟩
  by_cases hf : Fine out
  · obtain ⟨t, rfl, hd, hc⟩ := hf
    have hpl := run_plain hrun
    have ht : t.strip = t := (pl_all hpl).2.2
    obtain ⟨hs3, hs4⟩ := small_of hd hc
    have cP := Lib.hid (fun w' (hb : Bel w w') => parse_tree hrun hd hc (by omega) w' (hS.bel hb))
    have cR := Lib.hid (fun w' => rparse_tree hrun hd hc hs7 w')
    rw [ht] at cP
    have cN := Lib.hid (fun w' => num_nil8 w')
    have hszp : Hid (∀ m : T, m.strip = t → m.size < 2000) := Lib.hid fun m hm => by rw [← size_strip m, hm]; omega
    have hrt : Hid (∀ m : T, m.strip = t → rightB m = true) := Lib.hid fun m hm => right_tree hpl hd hc (by rw [ht]; exact hm)
    have hpt : Hid (∀ m : T, m.strip = t → plainT m = true) := Lib.hid fun m hm => plain_tree hpl hd hc (by rw [ht]; exact hm)
    have gn : ((s.size : Int) != (s.size : Int)) = false := by simp
    clear hS hE hsm hrun hd hc hpl ht hs3 hs4
    go_enter Tryd.func3, Tryd.ntmps3
    go_wp2_with (first | (go_at_call 6; (with_reducible refine cA.out.mono ?_); rintro e w1 ⟨rfl, hb⟩; have hq1 := Lib.hid (show Bel w w1 from hb); clear hb) | (go_at_call 7; (with_reducible refine (cP.out _ hq1.out).mono ?_); rintro e w2 ⟨hb, m, hm1, hm2, rfl⟩; obtain ⟨kp, u0p, u1p, u2p, u3p, pp, capp, mnp, mxp, txp, ksp⟩ := m; simp only [T.cells]; have hbp := Lib.hid (World.alloc_heap_new w2 (.cells #[.int .i64 kp, .int .u64 u0p, .int .u64 u1p, .int .u64 u2p, .int .u64 u3p, .slice pp ksp.length capp, .int .i64 mnp, .int .i64 mxp, .string txp] 28)); have hTp := Lib.hid (in_bel hm2 (Bel.new w2 (.cells #[.int .i64 kp, .int .u64 u0p, .int .u64 u1p, .int .u64 u2p, .int .u64 u3p, .slice pp ksp.length capp, .int .i64 mnp, .int .i64 mxp, .string txp] 28))); have hq2 := Lib.hid (Bel.alloc (Bel.step hq1.out hb) (.cells #[.int .i64 kp, .int .u64 u0p, .int .u64 u1p, .int .u64 u2p, .int .u64 u3p, .slice pp ksp.length capp, .int .i64 mnp, .int .i64 mxp, .string txp] 28)); replace hm1 := Lib.hid hm1; clear hb hm2 hq1) | (go_at_call 8; (with_reducible refine (cR.out _).mono ?_); rintro e w3 ⟨hb, m, hm3, hm4, rfl⟩; obtain ⟨kr, u0r, u1r, u2r, u3r, pr, capr, mnr, mxr, txr, ksr⟩ := m; simp only [T.cells]; replace hbp := Lib.hid (kept_row hbp.out hb); have hk := cells_of hbp.out; have y0 := (hk 0 _ rfl).1; have y1 := (hk 1 _ rfl).1; have y2 := (hk 2 _ rfl).1; have y3 := (hk 3 _ rfl).1; have y4 := (hk 4 _ rfl).1; have y5 := (hk 5 _ rfl).1; have y6 := (hk 6 _ rfl).1; have y7 := (hk 7 _ rfl).1; have y8 := (hk 8 _ rfl).1; clear hk; have hlp := lt_of_box hbp.out; replace hbp := Lib.hid (kept_alloc hbp.out (.cells #[.int .i64 kr, .int .u64 u0r, .int .u64 u1r, .int .u64 u2r, .int .u64 u3r, .slice pr ksr.length capr, .int .i64 mnr, .int .i64 mxr, .string txr] 35)); replace hTp := Lib.hid (in_bel (in_bel hTp.out hb) (Bel.new _ (.cells #[.int .i64 kr, .int .u64 u0r, .int .u64 u1r, .int .u64 u2r, .int .u64 u3r, .slice pr ksr.length capr, .int .i64 mnr, .int .i64 mxr, .string txr] 35))); have hbr := Lib.hid (World.alloc_heap_new w3 (.cells #[.int .i64 kr, .int .u64 u0r, .int .u64 u1r, .int .u64 u2r, .int .u64 u3r, .slice pr ksr.length capr, .int .i64 mnr, .int .i64 mxr, .string txr] 35)); have hTr := Lib.hid (in_bel hm4 (Bel.new w3 (.cells #[.int .i64 kr, .int .u64 u0r, .int .u64 u1r, .int .u64 u2r, .int .u64 u3r, .slice pr ksr.length capr, .int .i64 mnr, .int .i64 mxr, .string txr] 35))); have hq3 := Lib.hid (Bel.alloc (Bel.step hq2.out hb) (.cells #[.int .i64 kr, .int .u64 u0r, .int .u64 u1r, .int .u64 u2r, .int .u64 u3r, .slice pr ksr.length capr, .int .i64 mnr, .int .i64 mxr, .string txr] 35)); have cO := of_str hTp.out (hszp.out _ hm1.out) hm1.out; simp only [T.cells] at cO; replace cO := Lib.hid cO; replace hm3 := Lib.hid hm3; clear hb hm4 hq2) | (go_at_call 9; (with_reducible refine (cN.out _).mono ?_); rintro e w' ⟨rfl, rfl⟩) | (go_at_call 10; (with_reducible refine (cO.out _ (Bel.refl _)).mono ?_); rintro e w4 ⟨⟨kx, u0x, u1x, u2x, u3x, px, capx, mnx, mxx, txx, ksx⟩, d4, rfl, hb, hxi, hxs⟩; simp only [T.cells]; clear y0 y1 y2 y3 y4 y5 y6 y7 y8; replace hbp := Lib.hid (kept_row hbp.out hb); replace hbr := Lib.hid (kept_row hbr.out hb); have hk := cells_of hbr.out; have y0 := (hk 0 _ rfl).1; have y1 := (hk 1 _ rfl).1; have y2 := (hk 2 _ rfl).1; have y3 := (hk 3 _ rfl).1; have y4 := (hk 4 _ rfl).1; have y5 := (hk 5 _ rfl).1; have y6 := (hk 6 _ rfl).1; have y7 := (hk 7 _ rfl).1; have y8 := (hk 8 _ rfl).1; clear hk; have hlp := lt_of_box hbp.out; have hlr := lt_of_box hbr.out; replace hbp := Lib.hid (kept_alloc hbp.out (.cells #[.int .i64 kx, .int .u64 u0x, .int .u64 u1x, .int .u64 u2x, .int .u64 u3x, .slice px ksx.length capx, .int .i64 mnx, .int .i64 mxx, .string txx] 35)); replace hbr := Lib.hid (kept_alloc hbr.out (.cells #[.int .i64 kx, .int .u64 u0x, .int .u64 u1x, .int .u64 u2x, .int .u64 u3x, .slice px ksx.length capx, .int .i64 mnx, .int .i64 mxx, .string txx] 35)); have hbx := Lib.hid (World.alloc_heap_new w4 (.cells #[.int .i64 kx, .int .u64 u0x, .int .u64 u1x, .int .u64 u2x, .int .u64 u3x, .slice px ksx.length capx, .int .i64 mnx, .int .i64 mxx, .string txx] 35)); have hTx := Lib.hid (box_in hxi (.cells #[.int .i64 kx, .int .u64 u0x, .int .u64 u1x, .int .u64 u2x, .int .u64 u3x, .slice px ksx.length capx, .int .i64 mnx, .int .i64 mxx, .string txx] 35)); replace hTp := Lib.hid (in_bel (in_bel hTp.out hb) (Bel.new _ (.cells #[.int .i64 kx, .int .u64 u0x, .int .u64 u1x, .int .u64 u2x, .int .u64 u3x, .slice px ksx.length capx, .int .i64 mnx, .int .i64 mxx, .string txx] 35))); replace hTr := Lib.hid (in_bel (in_bel hTr.out hb) (Bel.new _ (.cells #[.int .i64 kx, .int .u64 u0x, .int .u64 u1x, .int .u64 u2x, .int .u64 u3x, .slice px ksx.length capx, .int .i64 mnx, .int .i64 mxx, .string txx] 35))); have hq4 := Lib.hid (Bel.alloc (Bel.step hq3.out hb) (.cells #[.int .i64 kx, .int .u64 u0x, .int .u64 u1x, .int .u64 u2x, .int .u64 u3x, .slice px ksx.length capx, .int .i64 mnx, .int .i64 mxx, .string txx] 35)); have cS := rsame_str hTx.out hTr.out (rsame_yes hxs hm3.out (hrt.out _ hxs)); simp only [T.cells] at cS; replace cS := Lib.hid cS; clear hb hxi hq3 cO hxs) | (go_at_call 11; (with_reducible refine (cS.out _ (Bel.refl _)).mono ?_); rintro e w5 ⟨rfl, hb⟩; clear y0 y1 y2 y3 y4 y5 y6 y7 y8; replace hbp := Lib.hid (kept_row hbp.out hb); have hk := cells_of hbp.out; have y0 := (hk 0 _ rfl).1; have y1 := (hk 1 _ rfl).1; have y2 := (hk 2 _ rfl).1; have y3 := (hk 3 _ rfl).1; have y4 := (hk 4 _ rfl).1; have y5 := (hk 5 _ rfl).1; have y6 := (hk 6 _ rfl).1; have y7 := (hk 7 _ rfl).1; have y8 := (hk 8 _ rfl).1; clear hk; replace hTp := Lib.hid (in_bel hTp.out hb); have cT := rt_yes hTp.out (hrt.out _ hm1.out); simp only [T.cells] at cT; replace cT := Lib.hid cT; have hq5 := Lib.hid (Bel.step hq4.out hb); clear hb hq4 cS) | (go_at_call 12; (with_reducible refine cT.out.mono ?_); rintro e w6 ⟨rfl, hb⟩; clear y0 y1 y2 y3 y4 y5 y6 y7 y8; replace hbp := Lib.hid (kept_row hbp.out hb); have hk := cells_of hbp.out; have y0 := (hk 0 _ rfl).1; have y1 := (hk 1 _ rfl).1; have y2 := (hk 2 _ rfl).1; have y3 := (hk 3 _ rfl).1; have y4 := (hk 4 _ rfl).1; have y5 := (hk 5 _ rfl).1; have y6 := (hk 6 _ rfl).1; have y7 := (hk 7 _ rfl).1; have y8 := (hk 8 _ rfl).1; clear hk; replace hTp := Lib.hid (in_bel hTp.out hb); have cL := pl_yes hTp.out (hpt.out _ hm1.out); simp only [T.cells] at cL; replace cL := Lib.hid cL; have hq6 := Lib.hid (Bel.step hq5.out hb); clear hb hq5 cT) | (go_at_call 13; (with_reducible refine cL.out.mono ?_); rintro e w7 ⟨rfl, hb⟩; have hq7 := Lib.hid (Bel.step hq6.out hb); clear hb hq6 cL))
    go_ret
    exact ⟨rfl, hq7.out⟩
  · obtain ⟨n, er, her, hP, hR⟩ := both_err hrun hf hs7
    have cP := Lib.hid (fun w' (hb : Bel w w') => hP _ w' (hS.bel hb))
    have cR := Lib.hid hR
    have cN := Lib.hid (fun w' (hb : Bel w w') => num_err8 her w' (hE.bel hb))
    have gn : (n != n) = false := by simp
    have ge : ((er : Int) != (er : Int)) = false := by simp
    have g0 : ((er : Int) != 0) = true := by rw [bne_iff_ne]; omega
    clear hS hE hsm hrun hf hP hR her
    generalize VA A er = ev at *
    generalize (er : Int) = e9 at *
    go_enter Tryd.func3, Tryd.ntmps3
    go_wp2_with (first | (go_at_call 6; (with_reducible refine cA.out.mono ?_); rintro e w1 ⟨rfl, hb⟩; have hq1 := Lib.hid (show Bel w w1 from hb); clear hb) | (go_at_call 7; (with_reducible refine (cP.out _ hq1.out).mono ?_); rintro e w2 ⟨rfl, hb⟩; have hbp := Lib.hid (World.alloc_heap_new w2 (.cells #[.int .i64 0, .int .u64 0, .int .u64 0, .int .u64 0, .int .u64 0, .slice none 0 0, .int .i64 0, .int .i64 0, .string ⟨#[]⟩] 28)); have hq2 := Lib.hid (Bel.alloc (Bel.step hq1.out hb) (.cells #[.int .i64 0, .int .u64 0, .int .u64 0, .int .u64 0, .int .u64 0, .slice none 0 0, .int .i64 0, .int .i64 0, .string ⟨#[]⟩] 28)); clear hb hq1) | (go_at_call 8; (with_reducible refine (cR.out _).mono ?_); rintro e w3 ⟨rfl, hb⟩; replace hbp := Lib.hid (kept_row hbp.out hb); have hlp := lt_of_box hbp.out; replace hbp := Lib.hid (kept_alloc hbp.out (.cells #[.int .i64 0, .int .u64 0, .int .u64 0, .int .u64 0, .int .u64 0, .slice none 0 0, .int .i64 0, .int .i64 0, .string ⟨#[]⟩] 35)); have hq3 := Lib.hid (Bel.alloc (Bel.step hq2.out hb) (.cells #[.int .i64 0, .int .u64 0, .int .u64 0, .int .u64 0, .int .u64 0, .slice none 0 0, .int .i64 0, .int .i64 0, .string ⟨#[]⟩] 35)); clear hb hq2) | (go_at_call 9; (with_reducible refine (cN.out _ hq3.out).mono ?_); rintro e w4 ⟨rfl, hb⟩; replace hbp := Lib.hid (kept_row hbp.out hb); have hk := cells_of hbp.out; have y0 := (hk 0 _ rfl).1; have y5 := (hk 5 _ rfl).1; clear hk; have hq4 := Lib.hid (Bel.step hq3.out hb); clear hb hq3))
    go_ret
    exact ⟨rfl, hq4.out⟩
end Go.Proofs.YtjlmeegaiagfpaaDoor
