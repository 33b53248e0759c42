/- RegexOpen, walked. -/
import Derived.Test.YtjlmeegaiagfpaaDoorW29
import Derived.Test.YtjlmeegaiagfpaaDoorS7E
import Derived.Test.YtjlmeegaiagfpaaDoorLE
namespace Go.Proofs.YtjlmeegaiagfpaaDoor
open Go.RowKit
open Go.Tree7
open S7
open S5 (nl nl_length nl_small at_nl nl_at Gives idx idx_at ix ix_no ix_yes)
/-- The error values by their numbers. -/
abbrev VA (A : Nat → Addr) : Nat → Value := fun e => .pointer (some (A (e - 1)))
theorem six_of {w : World} {A : Nat → Addr} (h : Errs w A) : Six w (VA A) := ⟨h.var 0 (by decide), h.var 1 (by decide), h.var 3 (by decide), h.var 4 (by decide), h.var 6 (by decide), h.var 8 (by decide)⟩
theorem sts_run {l : List Nat} {p p' : List Op} {b b' : Bool} {k k' : Nat} {out : Out} (h : Sts l p b k p' b' k') (hr : Run l p' b' k' out) : Run l p b k out := by
  induction h with
  | refl => exact hr
  | head h _ ih => exact .step h (ih hr)
theorem run_sts {l : List Nat} {p : List Op} {b : Bool} {k : Nat} {t : T} (h : Run l p b k (.tree t)) : ∃ o b', t = closedT o ∧ Sts l p b k [o] b' l.length := by
  generalize ho : Out.tree t = out at h
  induction h with
  | step hst _ ih => obtain ⟨o, b', h1, h2⟩ := ih ho; exact ⟨o, b', h1, .head hst h2⟩
  | tree o b k hk => cases ho; subst hk; exact ⟨o, b, rfl, .refl ..⟩
  | short => cases ho
  | mark => cases ho
  | close => cases ho
  | atom => cases ho
theorem run_plain {l : List Nat} {t : T} (h : Run l [([], [])] false 0 (.tree t)) : Pl t := by
  obtain ⟨o, b', rfl, h2⟩ := run_sts h
  exact pl_closed (sts_plain h2 (fun o ho => by simp at ho; subst ho; exact ⟨fun t ht => by simp at ht, fun t ht => by simp at ht⟩) o (by simp))
/-- Within the limits, or not. -/
def Fine (out : Out) : Prop := ∃ t, out = .tree t ∧ deepOf (allT t) ≤ 24 ∧ (allT t).length ≤ 600
theorem parse_err {s : ByteArray} {out : Out} (hrun : Run (nl s) [([], [])] false 0 out) (hf : ¬ Fine out) (hm : s.size ≤ 99990) {V : Nat → Value} (w : World) (hS : Six w V) :
    Calls Tryd.prog 7 #[.string s] w fun e w' => (∃ (n : Int) (er : Nat), e = .returned (.tuple #[.agg #[.int .i64 0, .int .u64 0, .int .u64 0, .int .u64 0, .int .u64 0, .slice none 0 0, .int .i64 0, .int .i64 0, .string ⟨#[]⟩], .int .i64 n, .iface 139 (V er)])) ∧ Below w.heap.size w w' := by
  refine (parse_in hrun hm w hS).mono ?_
  rintro e w' ⟨hb, h⟩
  refine ⟨?_, hb⟩
  cases out with
  | bad n er => exact ⟨n, er, h⟩
  | tree t =>
    rcases h with ⟨h, h2⟩ | ⟨h0, h, h2⟩ | ⟨h1, h2, -⟩
    · exact ⟨_, _, h2⟩
    · exact ⟨_, _, h2⟩
    · exact absurd ⟨t, rfl, h1, h2⟩ hf
theorem parse_bad {s : ByteArray} {n : Int} {er : Nat} (hrun : Run (nl s) [([], [])] false 0 (.bad n er)) (hm : s.size ≤ 99990) {V : Nat → Value} (w : World) (hS : Six w V) :
    Calls Tryd.prog 7 #[.string s] w fun e w' => e = .returned (.tuple #[.agg #[.int .i64 0, .int .u64 0, .int .u64 0, .int .u64 0, .int .u64 0, .slice none 0 0, .int .i64 0, .int .i64 0, .string ⟨#[]⟩], .int .i64 n, .iface 139 (V er)]) ∧ Below w.heap.size w w' :=
  (parse_in hrun hm w hS).mono fun _ _ h => ⟨h.2, h.1⟩
theorem same_of {t a b : T} (hp : Pl t) (h1 : deepOf (allT t) ≤ 24) (h2 : (allT t).length ≤ 600) (ha : a.strip = t.strip) (hb : b.strip = t.strip) : sameT a b = true := by
  obtain ⟨h3, h4⟩ := small_of h1 h2
  unfold sameT
  rw [Bool.and_eq_true, right_of_strip ha, rightB_iff, eqT_iff, ha, hb]
  exact ⟨pl_right hp h3 h4, rfl⟩
set_option maxRecDepth 100000 in
set_option maxHeartbeats 8000000 in
theorem regexOpen_in {s : ByteArray} (hsm : s.size ≤ maxLen) {A : Nat → Addr} (w : World) (hE : Errs w A) : Calls Tryd.prog 5 #[.string s] w fun e w' => e = .returned (.bool true) ∧ Below w.heap.size w w' := by
  have hS := six_of hE
  have cA := Lib.hid (alive_in w hS)
  by_cases h7 : 700 < s.size
  · have g1 : decide ((700 : Int) < (s.size : Int)) = true := by rw [decide_eq_true_eq]; omega
    have hs2 : s.size ≤ 9223372036854775807 := by unfold maxLen at hsm; omega
    clear hS hE hsm
    go_enter Tryd.func5, Tryd.ntmps5
    go_wp2_with (go_at_call 6; (with_reducible refine cA.out.mono ?_); rintro e w1 ⟨rfl, hb1⟩; have hq1 : Bel w w1 := hb1; replace hb1 := Lib.hid hq1)
    go_ret
    exact ⟨rfl, hb1.out⟩
  have g1 : decide ((700 : Int) < (s.size : Int)) = false := by rw [decide_eq_false_iff_not]; omega
  obtain ⟨out, hrun⟩ := run_some (nl_small s) _ [([], [])] false 0 (Nat.le_refl _) (Nat.zero_le _) ⟨_, _, rfl, fun h => by cases h⟩
  by_cases hf : Fine out
  · obtain ⟨t, rfl, hd, hc⟩ := hf
    have hpl := run_plain hrun
    obtain ⟨o, b', rfl, hsts⟩ := run_sts hrun
    rw [nl_length] at hsts
    have hbr := in_brackets (s := nl s) (by rw [nl_length]; exact hsts)
    have e1 : nl ((⟨#[40]⟩ : ByteArray) ++ s ++ ⟨#[41]⟩) = [40] ++ nl s ++ [41] := by rw [S5.nl_append, S5.nl_append]; rfl
    have e2 : nl ((⟨#[40]⟩ : ByteArray) ++ s) = [40] ++ nl s := by rw [S5.nl_append]; rfl
    have z1 : ((⟨#[40]⟩ : ByteArray) ++ s ++ ⟨#[41]⟩).size = s.size + 2 := by rw [← nl_length, e1]; simp [nl_length] <;> omega
    have z2 : ((⟨#[40]⟩ : ByteArray) ++ s).size = s.size + 1 := by rw [← nl_length, e2]; simp [nl_length] <;> omega
    have r1 : Run (nl ((⟨#[40]⟩ : ByteArray) ++ s ++ ⟨#[41]⟩)) [([], [])] false 0 (.tree (closedT o)) := by
      rw [e1]
      refine sts_run hbr.1 ?_
      have := Run.tree (l := [40] ++ nl s ++ [41]) (([], [closedT o]) : Op) true (nl s).length.succ.succ (by simp [nl_length] <;> omega)
      exact this
    have r2 : Run (nl ((⟨#[40]⟩ : ByteArray) ++ s)) [([], [])] false 0 (.bad ((s.size + 1 : Nat) : Int) 2) := by
      rw [e2]
      refine sts_run hbr.2 ?_
      have := Run.short (l := [40] ++ nl s) o ([], []) [] b' ((nl s).length + 1) (by simp [nl_length] <;> omega)
      have e3 : ([40] ++ nl s).length = s.size + 1 := by rw [List.length_append, nl_length]; simp only [List.length_cons, List.length_nil]; omega
      rw [e3] at this
      exact this
    have hs7 : s.size ≤ 700 := by omega
    have cP := Lib.hid (fun w' (hb : Bel w w') => parse_tree hrun hd hc (by omega) w' (hS.bel hb))
    have cP2 := Lib.hid (fun w' (hb : Bel w w') => parse_tree r1 hd hc (by rw [z1]; omega) w' (hS.bel hb))
    have cP3 := Lib.hid (fun w' (hb : Bel w w') => parse_bad r2 (by rw [z2]; omega) w' (hS.bel hb))
    have cN := Lib.hid (fun w' (hb : Bel w w') => num_in A 1 (by decide) w' (hE.bel hb))
    have hsame : Hid (∀ a b : T, a.strip = (closedT o).strip → b.strip = (closedT o).strip → sameT a b = true) := Lib.hid fun a b ha hb => same_of hpl hd hc ha hb
    rw [z1] at cP2
    clear hS hE hsm hrun hd hc hpl hsts hbr e1 e2 r1 r2
    go_enter Tryd.func5, Tryd.ntmps5
    go_wp2_with (first | (go_at_call 6; (with_reducible refine cA.out.mono ?_); rintro e w1 ⟨rfl, hb1⟩; have hq1 : Bel w w1 := hb1; replace hb1 := Lib.hid hq1) | (go_at_call 7; (with_reducible refine (cP.out _ hq1).mono ?_); rintro e w2 ⟨hb2, m, hm1, hm2, rfl⟩; obtain ⟨kp, u0p, u1p, u2p, u3p, pp, capp, mnp, mxp, txp, ksp⟩ := m; simp only [T.cells]; have hq2 : Bel w (w2.alloc (.cells #[.int .i64 kp, .int .u64 u0p, .int .u64 u1p, .int .u64 u2p, .int .u64 u3p, .slice pp ksp.length capp, .int .i64 mnp, .int .i64 mxp, .string txp] 28)) := Below.alloc (Bel.step hq1 hb2) ((Bel.step hq1 hb2).size) _; have hz2 : w.heap.size ≤ w2.heap.size := (Bel.step hq1 hb2).size; have hx2 := Lib.hid (World.alloc_heap_new w2 (.cells #[.int .i64 kp, .int .u64 u0p, .int .u64 u1p, .int .u64 u2p, .int .u64 u3p, .slice pp ksp.length capp, .int .i64 mnp, .int .i64 mxp, .string txp] 28)); have hT2 := Lib.hid (in_bel hm2 ((Below.refl w2.heap.size w2).alloc (Nat.le_refl _) (.cells #[.int .i64 kp, .int .u64 u0p, .int .u64 u1p, .int .u64 u2p, .int .u64 u3p, .slice pp ksp.length capp, .int .i64 mnp, .int .i64 mxp, .string txp] 28))); replace hm1 := Lib.hid hm1; clear hm2 hb2) | (go_at_call 7; (with_reducible refine (cP2.out _ hq2).mono ?_); rintro e w3 ⟨hb3, m, hm3, hm4, rfl⟩; obtain ⟨kr, u0r, u1r, u2r, u3r, pr, capr, mnr, mxr, txr, ksr⟩ := m; simp only [T.cells]; have hx3 := Lib.hid (kept_row hx2.out hb3); have hT3 := Lib.hid (in_bel (in_bel hT2.out hb3) ((Below.refl w3.heap.size w3).alloc (Nat.le_refl _) (.cells #[.int .i64 kr, .int .u64 u0r, .int .u64 u1r, .int .u64 u2r, .int .u64 u3r, .slice pr ksr.length capr, .int .i64 mnr, .int .i64 mxr, .string txr] 28))); have hT4 := Lib.hid (in_bel hm4 ((Below.refl w3.heap.size w3).alloc (Nat.le_refl _) (.cells #[.int .i64 kr, .int .u64 u0r, .int .u64 u1r, .int .u64 u2r, .int .u64 u3r, .slice pr ksr.length capr, .int .i64 mnr, .int .i64 mxr, .string txr] 28))); have hq3 : Bel w (w3.alloc (.cells #[.int .i64 kr, .int .u64 u0r, .int .u64 u1r, .int .u64 u2r, .int .u64 u3r, .slice pr ksr.length capr, .int .i64 mnr, .int .i64 mxr, .string txr] 28)) := Below.alloc (Bel.step hq2 hb3) ((Bel.step hq2 hb3).size) _; have hz3 : w2.heap.size < w3.heap.size := (Array.getElem?_eq_some_iff.1 hx3.out).1; have hkx := cells_of hx3.out; obtain ⟨y0, -⟩ := hkx 0 _ rfl; obtain ⟨y1, -⟩ := hkx 1 _ rfl; obtain ⟨y2, -⟩ := hkx 2 _ rfl; obtain ⟨y3, -⟩ := hkx 3 _ rfl; obtain ⟨y4, -⟩ := hkx 4 _ rfl; obtain ⟨y5, -⟩ := hkx 5 _ rfl; obtain ⟨y6, -⟩ := hkx 6 _ rfl; obtain ⟨y7, -⟩ := hkx 7 _ rfl; obtain ⟨y8, -⟩ := hkx 8 _ rfl; clear hkx hb3 hm4; have cS := same_in hT3.out hT4.out; rw [hsame.out _ _ hm1.out hm3] at cS; simp only [T.cells] at cS; replace cS := Lib.hid cS) | (go_at_call 7; (with_reducible refine (cP3.out _ hq4).mono ?_); rintro e w5 ⟨rfl, hb5⟩; have hq5 : Bel w w5 := Bel.step hq4 hb5; clear hb5) | (go_at_call 17; (with_reducible refine cS.out.mono ?_); rintro e w4 ⟨rfl, hb4⟩; have hq4 : Bel w w4 := Bel.step hq3 hb4; clear hb4) | (go_at_call 9; (with_reducible refine (cN.out _ hq5).mono ?_); rintro e w6 ⟨rfl, hb6⟩; have hq6 := Lib.hid (Bel.step hq5 hb6); clear hb6))
    go_ret
    exact ⟨rfl, hq6.out⟩
  · have cP := Lib.hid (fun w' (hb : Bel w w') => parse_err hrun hf (by omega) w' (hS.bel hb))
    have hs7 : s.size ≤ 700 := by omega
    clear hS hE hsm hrun hf
    go_enter Tryd.func5, Tryd.ntmps5
    go_wp2_with (first | (go_at_call 6; (with_reducible refine cA.out.mono ?_); rintro e w1 ⟨rfl, hb1⟩; have hq1 : Bel w w1 := hb1; replace hb1 := Lib.hid hq1) | (go_at_call 7; (with_reducible refine (cP.out _ hq1).mono ?_); rintro e w2 ⟨⟨n, er, rfl⟩, hb2⟩; replace hb2 := Lib.hid (Bel.step hq1 hb2)))
    go_ret
    exact ⟨rfl, Below.alloc hb2.out hb2.out.size _⟩
end Go.Proofs.YtjlmeegaiagfpaaDoor
