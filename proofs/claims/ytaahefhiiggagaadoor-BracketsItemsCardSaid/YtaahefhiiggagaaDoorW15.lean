/- Of, for a list that came in; together. -/
import Derived.Test.YtaahefhiiggagaaDoorW12
namespace Go.Proofs.YtaahefhiiggagaaDoor
open Go.RowKit
open S5 (nl nl_length nl_small at_nl nl_at Rd Sp Gives Two errV nl_strN nl_inj nl_append sp_small Bld)
open S1 (Blk4 SetBox wd noS oneS spanS orS notS minusS listS spU eqB el spAll spCells)
set_option maxHeartbeats 1000000 in
theorem of_src {w : World} {a : Option Addr} {n cc : Nat} {l : List Nat} (hs : Src w a n cc l) (hmax : n ≤ 9223372036854775807) :
    Calls Tryd.prog 17 #[.slice a n cc] w fun e w' => e = .returned (.agg #[.int .u64 (S1.wd (S1.listS l) 0), .int .u64 (S1.wd (S1.listS l) 1), .int .u64 (S1.wd (S1.listS l) 2), .int .u64 (S1.wd (S1.listS l) 3)]) ∧ Below w.heap.size w w' := by
  have hl := hs.small
  obtain rfl : l.length = n := hs.len
  have hptr : ∀ k (h : k < l.length), ∃ g o, a = some ⟨g, o, none⟩ ∧ g < w.heap.size ∧ w.cell? ⟨g, o + k, none⟩ = some (.int .u8 ((l[k] : Nat) : Int)) ∧ l.length ≤ cc := fun k h => by
    obtain ⟨g, o, e, hc⟩ := hs.at (by omega)
    have := hc k h
    exact ⟨g, o, e, World.block_lt_of_cell? _ _ this, this, hs.cap⟩
  clear hs
  go_enter Tryd.func17, Tryd.ntmps17
  go_wp2
  obtain ⟨W, hW, br, bs, hB⟩ := S1.boxes2 w 24 24 (.int .u64 0) (.int .u64 0) (.int .u64 0) (.int .u64 0) (.int .u64 0) (.int .u64 0) (.int .u64 0) (.int .u64 0)
  rw [hW]
  clear hW
  have bs0 : S1.SetBox W (w.heap.size + 1) 24 (S1.listS (l.take 0)) := by
    have : S1.SetBox W (w.heap.size + 1) 24 S1.noS := by unfold S1.SetBox; simp only [S1.no_wd]; exact bs
    exact this.congr fun c _ => by simp [S1.noS, S1.listS]
  go_loopw [8] (fun i wr => ∃ k : Nat, k ≤ l.length ∧ i = .int .i64 k ∧ S1.Blk4 wr w.heap.size 24 (.int .u64 0) (.int .u64 0) (.int .u64 0) (.int .u64 0) ∧ S1.SetBox wr (w.heap.size + 1) 24 (S1.listS (l.take k)) ∧ Below w.heap.size w wr) (fun i _ => l.length - (intOf i).toNat)
  case atStart => exact ⟨0, Nat.zero_le _, rfl, br, bs0, hB⟩
  case round =>
    clear br bs bs0 hB
    obtain ⟨k, hk, rfl, br, bs, hB⟩ := hrel
    by_cases hlt : k < l.length
    · obtain ⟨g, o, rfl, hgw, hcell, hcap⟩ := hptr k hlt
      have hcell := (hB.cell (p := ⟨g, o + k, none⟩) hgw).trans hcell
      have hc8 := hl l[k] (List.getElem_mem hlt)
      have hsn := fun c (_ : c < 256) => S1.listS_snoc hlt c
      clear hptr hl
      generalize l[k] = c at *
      obtain ⟨f0, f1, f2, f3⟩ := bs.blk.all
      have hsn := Lib.hid hsn
      go_wp2_with fail
      refine S1.wp_region_bel_tail 4 (by kernel_rfl) (by kernel_rfl) ?_
      simp only [List.take_succ_cons, List.take_zero, List.drop_succ_cons, List.drop_zero]
      repeat (first
        | go_big_quiet_skip
        | (go_big_quiet_want
           first
             | (refine BigFrame.quiet_move _ rfl ?_
                simp only [Act.put, Act.eval, List.setIfInBounds_toArray, List.set_cons_zero, List.set_cons_succ, List.getD_toArray, List.getD_cons_zero, List.getD_cons_succ]
                go_big_quiet_on)
             | (refine BigFrame.quiet_assign _ rfl ?_
                simp only [Act.put, Act.eval, List.setIfInBounds_toArray, List.set_cons_zero, List.set_cons_succ, List.getD_toArray, List.getD_cons_zero, List.getD_cons_succ]
                go_big_quiet_on)
             | (refine S1.quiet_call 15 ?_
                apply Exists.intro
                refine ⟨fun w' hC => ?_, ?_⟩
                · go_simp
                  with_reducible rfl
                refine ⟨_, fun w' hC => S1.Calls.bel hC (S1.one_in c hc8 _), ?_⟩
                simp only [Act.put, List.setIfInBounds_toArray, List.set_cons_zero, List.set_cons_succ]
                go_big_quiet_on)
             | (refine S1.quiet_call 34 ?_
                apply Exists.intro
                refine ⟨fun w' hC => ?_, ?_⟩
                · go_simp
                  with_reducible rfl
                refine ⟨_, fun w' hC => S1.Calls.bel hC (S1.or_in (S1.listS (l.take k)) (S1.oneS c) _), ?_⟩
                simp only [Act.put, List.setIfInBounds_toArray, List.set_cons_zero, List.set_cons_succ]
                go_big_quiet_on)
             | (refine S1.quiet_val ?_
                apply Exists.intro
                refine ⟨fun w' hC => ?_, ?_⟩
                · go_simp
                  with_reducible rfl
                simp only [Act.put, List.setIfInBounds_toArray, List.set_cons_zero, List.set_cons_succ]
                go_big_quiet_on)))
      refine wpQuiet_nil ?_
      intro wq hq

      obtain ⟨⟨r0, r1, r2, r3⟩, z0, z1, z2, z3⟩ := (bs.blk.bel hq).facts
      have hfin := S1.below_set4 (hB.trans (hq.mono hB.size)) (b := w.heap.size + 1) (by omega) (.int .u64 (S1.wd (S1.orS (S1.listS (l.take k)) (S1.oneS c)) 0)) (.int .u64 (S1.wd (S1.orS (S1.listS (l.take k)) (S1.oneS c)) 1)) (.int .u64 (S1.wd (S1.orS (S1.listS (l.take k)) (S1.oneS c)) 2)) (.int .u64 (S1.wd (S1.orS (S1.listS (l.take k)) (S1.oneS c)) 3))
      have hbx : S1.SetBox _ (w.heap.size + 1) 24 (S1.orS (S1.listS (l.take k)) (S1.oneS c)) := (bs.blk.bel hq).set (.int .u64 (S1.wd (S1.orS (S1.listS (l.take k)) (S1.oneS c)) 0)) (.int .u64 (S1.wd (S1.orS (S1.listS (l.take k)) (S1.oneS c)) 1)) (.int .u64 (S1.wd (S1.orS (S1.listS (l.take k)) (S1.oneS c)) 2)) (.int .u64 (S1.wd (S1.orS (S1.listS (l.take k)) (S1.oneS c)) 3))
      have hbx := hbx.congr (g := S1.listS (l.take (k + 1))) hsn.out
      have hbr := (br.bel hq).other (b' := w.heap.size + 1) (by omega) (.int .u64 (S1.wd (S1.orS (S1.listS (l.take k)) (S1.oneS c)) 0)) (.int .u64 (S1.wd (S1.orS (S1.listS (l.take k)) (S1.oneS c)) 1)) (.int .u64 (S1.wd (S1.orS (S1.listS (l.take k)) (S1.oneS c)) 2)) (.int .u64 (S1.wd (S1.orS (S1.listS (l.take k)) (S1.oneS c)) 3))
      have h1 := Lib.hid hfin
      have h2 := Lib.hid hbx
      have h3 := Lib.hid hbr
      clear hfin hbx hbr f0 f1 f2 f3 br bs hB
      go_wp2
      go_roundw
      case rel => exact ⟨k + 1, by omega, by go_num, h3.out, h2.out, h1.out⟩
      case measure => simp [intOf]; omega
    · obtain ⟨⟨f0, f1, f2, f3⟩, z0, z1, z2, z3⟩ := bs.blk.facts
      obtain ⟨⟨r0, r1, r2, r3⟩, y0, y1, y2, y3⟩ := br.facts
      have e : l.take k = l := List.take_of_length_le (by omega)
      rw [e] at bs f0 f1 f2 f3
      clear e
      have hx := ((br.set (.int .u64 (S1.wd (S1.listS l) 0)) (.int .u64 (S1.wd (S1.listS l) 1)) (.int .u64 (S1.wd (S1.listS l) 2)) (.int .u64 (S1.wd (S1.listS l) 3)))).facts.1
      have h1 := Lib.hid hx
      have h2 := Lib.hid hB
      clear hx br bs hB hptr hl
      go_wp2
      exact bodyPost_ret (v := (.agg #[.int .u64 (S1.wd (S1.listS l) 0), .int .u64 (S1.wd (S1.listS l) 1), .int .u64 (S1.wd (S1.listS l) 2), .int .u64 (S1.wd (S1.listS l) 3)])) (by simp [results, Tryd.results17, go_sem, h1.out.1, h1.out.2.1, h1.out.2.2.1, h1.out.2.2.2]) rfl ⟨rfl, S1.below_set4 h2.out (Nat.le_refl _) _ _ _ _⟩


/-- The texts of single bytes, one behind the other. -/
def cat (ys : List Nat) : List Nat := ys.flatMap fun c => txtB (oneS c)
theorem cat_len {ys : List Nat} : (cat ys).length ≤ 2400 * ys.length := by
  induction ys with
  | nil => simp [cat]
  | cons y ys ih =>
    have h1 := txtB_len (oneS y)
    have e : cat (y :: ys) = txtB (oneS y) ++ cat ys := by simp [cat]
    rw [e, List.length_append, List.length_cons]
    omega
theorem cat_small {ys : List Nat} : ∀ x ∈ cat ys, x ≤ 255 := by
  intro x hx
  obtain ⟨c, _, hx⟩ := List.mem_flatMap.1 hx
  exact txtB_small _ x hx
theorem cat_take {ys : List Nat} {i : Nat} (h : i < ys.length) : cat (ys.take (i + 1)) = cat (ys.take i) ++ txtB (oneS ys[i]) := by
  rw [List.take_succ_eq_append_getElem h]
  unfold cat
  rw [List.flatMap_append, List.flatMap_cons, List.flatMap_nil, List.append_nil]
theorem cat_app (a b : List Nat) : cat (a ++ b) = cat a ++ cat b := List.flatMap_append
theorem cat_split {ys : List Nat} {i : Nat} (h : i < ys.length) : cat ys = cat (ys.take i) ++ txtB (oneS ys[i]) ++ cat (ys.drop (i + 1)) := by
  have e := cat_take h
  have e2 := cat_app (ys.take (i + 1)) (ys.drop (i + 1))
  rw [List.take_append_drop, e] at e2
  exact e2
theorem txtB_pos (f : Nat → Bool) : 2 ≤ (txtB f).length := by
  unfold txtB
  simp
  omega
set_option maxRecDepth 10000 in
set_option maxHeartbeats 4000000 in
theorem together_in {ys : List Nat} (hn : ys.length ≤ 40) {E1 E2 E4 : Value} (w : World) (hT : Thr w E1 E2 E4) :
    Calls Tryd.prog 16 #[.string (strN (cat ys))] w fun e w' => e = .returned (.tuple #[(.agg #[.int .u64 (S1.wd (listS ys) 0), .int .u64 (S1.wd (listS ys) 1), .int .u64 (S1.wd (listS ys) 2), .int .u64 (S1.wd (listS ys) 3)]), .bool true]) ∧ Below w.heap.size w w' := by
  have hsz : (strN (cat ys)).size = (cat ys).length := strN_size _
  have hln := cat_len (ys := ys)
  have hnl : nl (strN (cat ys)) = cat ys := nl_strN cat_small
  generalize strN (cat ys) = s at *
  have hsb : s.size ≤ 99990 := by omega
  replace hnl := Lib.hid hnl
  replace hsz := Lib.hid hsz
  replace hT := Lib.hid hT
  go_enter Tryd.func16, Tryd.ntmps16
  go_wp2
  obtain ⟨W, hW, b0, b1, hB⟩ := S1.boxes2 w 24 24 (.int .u64 0) (.int .u64 0) (.int .u64 0) (.int .u64 0) (.int .u64 0) (.int .u64 0) (.int .u64 0) (.int .u64 0)
  rw [hW]
  clear hW
  have b1 : SetBox W (w.heap.size + 1) 24 (listS (ys.take 0)) := by
    have : SetBox W (w.heap.size + 1) 24 noS := by unfold SetBox; simp only [S1.no_wd]; exact b1
    exact this.congr fun c _ => by simp [noS, listS]
  go_loopw [5] (fun v wr => ∃ i m : Nat, i ≤ ys.length ∧ Hid (m = (cat (ys.take i)).length) ∧ v = .int .i64 m ∧ Blk4 wr w.heap.size 24 (.int .u64 0) (.int .u64 0) (.int .u64 0) (.int .u64 0) ∧ SetBox wr (w.heap.size + 1) 24 (listS (ys.take i)) ∧ Below w.heap.size w wr) (fun v _ => s.size - (intOf v).toNat)
  case atStart => exact ⟨0, 0, Nat.zero_le _, Lib.hid (by simp [cat]), by go_num, b0, b1, hB⟩
  case round =>
    clear b0 b1 hB
    obtain ⟨i, m, hi, hm, rfl, b0, b1, hB⟩ := hrel
    obtain ⟨⟨f0, f1, f2, f3⟩, z0, z1, z2, z3⟩ := b1.blk.facts
    obtain ⟨⟨g0, g1, g2, g3⟩, y0, y1, y2, y3⟩ := b0.facts
    by_cases hlt : i < ys.length
    · obtain ⟨f', hf, hR⟩ := br_text (oneS ys[i]) (cat (ys.take i)) (cat (ys.drop (i + 1)))
      rw [← cat_split hlt, ← hnl.out, ← hm.out] at hR
      have htk := Lib.hid (cat_take hlt)
      have hsp := cat_split hlt
      have hsn := Lib.hid (fun c (_ : c < 256) => S1.listS_snoc hlt c)
      have hpos := txtB_pos (oneS ys[i])
      obtain ⟨q, hq⟩ : ∃ q, (txtB (oneS ys[i])).length = q := ⟨_, rfl⟩
      rw [hq] at hR hpos
      have hms : m + q ≤ s.size := by
        have := congrArg List.length hsp
        rw [← hsz.out] at this
        simp only [List.length_append, ← hm.out, hq] at this
        omega
      have hmq := Lib.hid (show m + q = (cat (ys.take (i + 1))).length by rw [htk.out, List.length_append, ← hm.out, hq])
      have cR := fun w' (hb : Below w.heap.size w w') => bread_in hsb hR w' (hT.out.bel hb)
      simp only [outV_ok _ _ _ hf, Gives] at cR
      rw [show ((m + q : Nat) : Int) = (m : Int) + q by omega] at cR
      replace cR := Lib.hid cR
      have cO := Lib.hid (fun w => S1.or_in (listS (ys.take i)) (oneS ys[i]) w)
      clear hsp hq hf hR
      generalize ys[i] = y at *
      go_wp2_with (first | (go_at_call 8; (with_reducible refine (cR.out _ hB).mono ?_); rintro e w1 ⟨rfl, h1⟩; replace b0 := b0.bel h1; replace b1 := S1.Blk4.bel b1 h1; replace hB := hB.trans (h1.mono hB.size); clear h1; replace b0 := b0.alloc (.cells #[.int .u64 (S1.wd (oneS y) 0), .int .u64 (S1.wd (oneS y) 1), .int .u64 (S1.wd (oneS y) 2), .int .u64 (S1.wd (oneS y) 3)] 24); replace b1 := S1.Blk4.alloc b1 (.cells #[.int .u64 (S1.wd (oneS y) 0), .int .u64 (S1.wd (oneS y) 1), .int .u64 (S1.wd (oneS y) 2), .int .u64 (S1.wd (oneS y) 3)] 24); replace hB := hB.alloc hB.size (.cells #[.int .u64 (S1.wd (oneS y) 0), .int .u64 (S1.wd (oneS y) 1), .int .u64 (S1.wd (oneS y) 2), .int .u64 (S1.wd (oneS y) 3)] 24); clear f0 f1 f2 f3 z0 z1 z2 z3 g0 g1 g2 g3 y0 y1 y2 y3; obtain ⟨⟨f0, f1, f2, f3⟩, z0, z1, z2, z3⟩ := S1.Blk4.facts b1; obtain ⟨⟨g0, g1, g2, g3⟩, y0, y1, y2, y3⟩ := b0.facts) | (go_at_call 34; (with_reducible refine (cO.out _).mono ?_); rintro e w2 ⟨rfl, h1⟩; replace b0 := b0.bel h1; replace b1 := S1.Blk4.bel b1 h1; replace hB := hB.trans (h1.mono hB.size); clear h1; clear f0 f1 f2 f3 z0 z1 z2 z3 g0 g1 g2 g3 y0 y1 y2 y3; obtain ⟨⟨f0, f1, f2, f3⟩, z0, z1, z2, z3⟩ := S1.Blk4.facts b1; obtain ⟨⟨g0, g1, g2, g3⟩, y0, y1, y2, y3⟩ := b0.facts))
      have hfin := below_set4' hB (b := w.heap.size + 1) (by omega) (.int .u64 (S1.wd (orS (listS (ys.take i)) (oneS y)) 0)) (.int .u64 (S1.wd (orS (listS (ys.take i)) (oneS y)) 1)) (.int .u64 (S1.wd (orS (listS (ys.take i)) (oneS y)) 2)) (.int .u64 (S1.wd (orS (listS (ys.take i)) (oneS y)) 3))
      have hbx : SetBox _ (w.heap.size + 1) 24 (listS (ys.take (i + 1))) := SetBox.congr (f := orS (listS (ys.take i)) (oneS y)) (S1.Blk4.set b1 (.int .u64 (S1.wd (orS (listS (ys.take i)) (oneS y)) 0)) (.int .u64 (S1.wd (orS (listS (ys.take i)) (oneS y)) 1)) (.int .u64 (S1.wd (orS (listS (ys.take i)) (oneS y)) 2)) (.int .u64 (S1.wd (orS (listS (ys.take i)) (oneS y)) 3))) hsn.out
      have hb0 := b0.other (b' := w.heap.size + 1) (by omega) (.int .u64 (S1.wd (orS (listS (ys.take i)) (oneS y)) 0)) (.int .u64 (S1.wd (orS (listS (ys.take i)) (oneS y)) 1)) (.int .u64 (S1.wd (orS (listS (ys.take i)) (oneS y)) 2)) (.int .u64 (S1.wd (orS (listS (ys.take i)) (oneS y)) 3))
      go_roundw
      case rel => exact ⟨i + 1, m + q, by omega, hmq, by go_num, hb0, hbx, hfin⟩
      case measure => simp [intOf]; omega
    · obtain rfl : i = ys.length := by omega
      rw [List.take_of_length_le (Nat.le_refl _)] at hm b1 f0 f1 f2 f3
      have hms : m = s.size := by rw [hm.out, hsz.out]
      clear hm hnl hsz
      subst hms
      go_wp2
      obtain ⟨W3, hW3, hb3, hB3⟩ := stored b0 hB (Nat.le_refl _) (.int .u64 (S1.wd (listS ys) 0)) (.int .u64 (S1.wd (listS ys) 1)) (.int .u64 (S1.wd (listS ys) 2)) (.int .u64 (S1.wd (listS ys) 3))
      obtain ⟨⟨c0, c1, c2, c3⟩, -⟩ := hb3.facts
      rw [hW3]
      refine bodyPost_ret (v := .tuple #[(.agg #[.int .u64 (S1.wd (listS ys) 0), .int .u64 (S1.wd (listS ys) 1), .int .u64 (S1.wd (listS ys) 2), .int .u64 (S1.wd (listS ys) 3)]), .bool true]) (by simp [results, Tryd.results16, go_sem, c0, c1, c2, c3]) rfl ?_
      exact ⟨rfl, hB3⟩
end Go.Proofs.YtaahefhiiggagaaDoor
