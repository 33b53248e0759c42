/- A step of the reading: an atom. -/
import Derived.Test.YtjlmeegaiagfpaaDoorWF
namespace Go.Proofs.YtjlmeegaiagfpaaDoor
open Go.RowKit
open Go.Tree7
open S7
open S5 (nl nl_length nl_small at_nl nl_at Gives idx idx_at ix ix_no ix_yes)
section
variable {w0 : World} {B br : Nat} {s : ByteArray} {w : World} {gb gc : Nat} {g : Gr} {rest : List Gr} {V : Nat → Value}
set_option maxRecDepth 100000 in
set_option maxHeartbeats 16000000 in
theorem step_atom {bs ps : List T} {x : T} {p : List Op} {k n : Nat} (hk : Atm (nl s) k x n) (hm : s.size ≤ 99990) (hS : Six w V) (h : Rdr w0 B br s w gb gc (g :: rest) ((bs, ps) :: p)) (hno : g.ps.length = 0 ∨ ¬ IsMark (nl s) k) :
    Calls Tryd.prog 18 #[.pointer (some ⟨br, 0, none⟩), .int .i64 k] w (GivesSt w0 B br s n ((bs, ps ++ [x]) :: p)) := by
  obtain ⟨c, h0, n1, n2, n3⟩ := atm_c hk
  have g1 : ((c : Int) == 124) = false := by rw [beq_eq_false_iff_ne]; omega
  have g2 : ((c : Int) == 40) = false := by rw [beq_eq_false_iff_ne]; omega
  have g3 : ((c : Int) == 41) = false := by rw [beq_eq_false_iff_ne]; omega
  have g5 : decide (0 < g.ps.length) = false ∨ (decide (0 < g.ps.length) = true ∧ ¬ IsMark (nl s) k) := by
    rcases hno with e | e
    · exact .inl (by rw [decide_eq_false_iff_not]; omega)
    · by_cases h9 : 0 < g.ps.length
      · exact .inr ⟨by rw [decide_eq_true_eq]; exact h9, e⟩
      · exact .inl (by rw [decide_eq_false_iff_not]; exact h9)
  have hsf : Hid (∀ w', Bel w w' → Gives 41 #[.string s, .int .i64 k] (.tuple #[.agg x.cells.toArray, .int .i64 n, .nilIface]) w') := Lib.hid fun w' hb => atom_in hk hm w' (hS.bel hb)
  have hat3 : Hid (∀ W S, T.InP W S x) := Lib.hid fun W S => atm_tree hk W S
  have hstr : Hid (x.strip = x ∧ cutT x = x) := Lib.hid ⟨atm_plainT hk, cutT_atom hk⟩
  have hSy := Lib.hid (fun (h : ¬ IsMark (nl s) k) w => suffixed_no h0 h hm w)
  clear hk n1 n2 n3 hS hno
  obtain ⟨hlt, hat⟩ := at_nl h0
  have hkb : k ≤ 99990 := by omega
  obtain ⟨r, hr⟩ : ∃ r, r = rest.length := ⟨_, rfl⟩
  have x0 : w.cell? ⟨br, 0, none⟩ = some (.string s) := (cells_of h.box 0 _ rfl).1
  have x1 : w.cell? ⟨br, 1, none⟩ = some (.slice (some ⟨gb, 0, none⟩) (rest.length + 1) gc) := (cells_of h.box 1 _ rfl).1
  obtain ⟨hn1, hn2⟩ := h.size_le
  rw [List.length_cons] at hn1
  rw [← hr] at x1 hn1
  have hgc : gc ≤ 9223372036854775807 := by unfold maxLen at hn2; omega
  replace hr := Lib.hid hr
  have hnx := Lib.hid (fun w' (hb : Bel w w') => h.next hb)
  clear h h0 hn2 hm
  go_enter Tryd.func18, Tryd.ntmps18
  go_wp2
  go_quiet (fail)
  generalize hwq : World.drewN w _ = wq at *
  have hbq : Bel w wq := by rw [← hwq]; exact below_drewN (Below.refl _ _) _
  have hce : ∀ a, wq.cell? a = w.cell? a := fun a => by rw [← hwq]; rfl
  replace x0 := (hce _).trans x0
  replace x1 := (hce _).trans x1
  have hR := Lib.hid (hnx.out wq hbq)
  clear hwq hce hnx
  replace hbq := Lib.hid hbq
  obtain ⟨cur0, hcur0, -, hcp0, -⟩ := hR.out.row.top
  rw [← hr.out] at hcp0
  have y4 : wq.cell? ⟨gb, r * 2 + 1, none⟩ = some (.slice g.pp g.ps.length g.pc) := (cells_of hcur0 (r * 2 + 1) _ hcp0).1
  clear hcur0 hcp0
  have cA := hsf.out wq hbq.out
  obtain ⟨k9, u0, u1, u2, u3, px, cx, mn, mx, tx, ts⟩ := x
  unfold Gives at cA
  simp only [T.cells] at cA
  replace cA := Lib.hid cA
  clear hsf
  rcases g5 with g5 | ⟨g5, g6⟩
  · go_wp2_with (go_at_call 41; (with_reducible refine cA.out.mono ?_); rintro e w1 ⟨rfl, hb1⟩; replace hb1 := Lib.hid hb1)
    obtain ⟨W, hW⟩ : ∃ W, W = w1.alloc (.cells #[.int .i64 k9, .int .u64 u0, .int .u64 u1, .int .u64 u2, .int .u64 u3, .slice px ts.length cx, .int .i64 mn, .int .i64 mx, .string tx] 28) := ⟨_, rfl⟩
    have hAl : Bel wq W := by rw [hW]; exact Below.alloc hb1.out hb1.out.size _
    have hbx : W.heap[w1.heap.size]? = some (.cells #[.int .i64 k9, .int .u64 u0, .int .u64 u1, .int .u64 u2, .int .u64 u3, .slice px ts.length cx, .int .i64 mn, .int .i64 mx, .string tx] 28 (0, 0)) := by rw [hW]; exact World.alloc_heap_new _ _
    rw [← hW]
    clear hW
    have hR3 := hR.out.next hAl
    have hT3 : T.InP W (Free W B (Rb br gb (g :: rest))) _ := hat3.out W _
    clear y4
    obtain ⟨cur, hcur, hcb, hcp, hrow⟩ := hR3.row.top
    rw [← hr.out] at hcb hcp
    clear hrow
    have hg2 := hR3.each g (by simp)
    obtain ⟨a1, a2, a3, a4⟩ := hR3.apart
    have hgbl := (Array.getElem?_eq_some_iff.1 hcur).1
    have hgbX : Hid (¬ g.pv.ownBlock = some gb) := Lib.hid fun e => (a2 gb (mem_blks.2 (.inr e))).1 rfl
    have y4 : W.cell? ⟨gb, r * 2 + 1, none⟩ = some (Value.slice g.pp g.ps.length g.pc) := (cells_of hcur (r * 2 + 1) _ hcp).1
    have hkb := cells_of hbx
    obtain ⟨z0, -⟩ := hkb 0 _ rfl; obtain ⟨z1, -⟩ := hkb 1 _ rfl; obtain ⟨z2, -⟩ := hkb 2 _ rfl; obtain ⟨z3, -⟩ := hkb 3 _ rfl; obtain ⟨z4, -⟩ := hkb 4 _ rfl; obtain ⟨z5, -⟩ := hkb 5 _ rfl; obtain ⟨z6, -⟩ := hkb 6 _ rfl; obtain ⟨z7, -⟩ := hkb 7 _ rfl; obtain ⟨z8, -⟩ := hkb 8 _ rfl
    clear hkb
    obtain ⟨L2, hL2e⟩ : ∃ L, L = g.ps.take 600 ++ [T.mk k9 u0 u1 u2 u3 px cx mn mx tx ts] := ⟨_, rfl⟩
    have cW : ∀ w', Bel W w' → Calls Tryd.prog 42 #[(Value.slice g.pp g.ps.length g.pc), .agg #[.int .i64 k9, .int .u64 u0, .int .u64 u1, .int .u64 u2, .int .u64 u3, .slice px ts.length cx, .int .i64 mn, .int .i64 mx, .string tx]] w' (GivesLst B (Value.slice g.pp g.ps.length g.pc) L2 w') := fun w' hb => by
      rw [hL2e]
      exact with_in (T.mk k9 u0 u1 u2 u3 px cx mn mx tx ts) w' (hg2.pl.bel hb) (Nat.le_trans hR3.base hb.size) hg2.pn
    replace cW := Lib.hid cW
    replace hL2e := Lib.hid hL2e
    replace hR3 := Lib.hid hR3
    replace hT3 := Lib.hid hT3
    replace hcp := Lib.hid hcp
    replace hcur := Lib.hid hcur
    have hq := Lib.hid (show Bel W W.drew from (Below.refl _ _).drew)
    clear hbx hcb hg2 a1 a2 a3 a4
    go_region_with (go_at_call 42; (with_reducible refine (cW.out _ hq.out).mono ?_); rintro e w3 ⟨v3, rfl, hL3, hF3, hN3⟩; obtain ⟨pv3, cv3, rfl, -⟩ := row_form hL3; have hk3 : w3.heap[gb]? = some (.cells cur 54 (0, 0)) := (hF3.block gb hgbl hgbX.out).trans hcur.out; obtain ⟨y6, f6⟩ := cells_of hk3 (r * 2 + 1) _ hcp.out; replace hL3 := Lib.hid hL3; replace hF3 := Lib.hid hF3; replace hN3 := Lib.hid hN3; clear hk3)
    all_goals
      go_wp2
      refine bodyPost_ret (v := .tuple #[.int .i64 n, .nilIface]) (by simp [results, Tryd.results18, go_sem]) rfl ?_
      have hRd := hR3.out.next hq.out
      have hTd : T.InP W.drew (Free W.drew B (Rb br gb (g :: rest))) (T.mk k9 u0 u1 u2 u3 px cx mn mx tx ts) := hat3.out _ _
      have e := hL2e.out
      subst e
      obtain ⟨g', hfin⟩ := hRd.add (x := T.mk k9 u0 u1 u2 u3 px cx mn mx tx ts) hL3.out hF3.out hN3.out hTd (hstr.out.1.trans hstr.out.2.symm)
      rw [← hr.out] at hfin
      exact ⟨gb, gc, _, rfl, hfin⟩
  · have cSy := Lib.hid (hSy.out g6)
    clear g6
    go_wp2_with (first | (go_at_call 38; (with_reducible refine (cSy.out _).mono ?_); rintro e w' ⟨rfl, rfl⟩) | (go_at_call 41; (with_reducible refine cA.out.mono ?_); rintro e w1 ⟨rfl, hb1⟩; replace hb1 := Lib.hid hb1))
    obtain ⟨W, hW⟩ : ∃ W, W = w1.alloc (.cells #[.int .i64 k9, .int .u64 u0, .int .u64 u1, .int .u64 u2, .int .u64 u3, .slice px ts.length cx, .int .i64 mn, .int .i64 mx, .string tx] 28) := ⟨_, rfl⟩
    have hAl : Bel wq W := by rw [hW]; exact Below.alloc hb1.out hb1.out.size _
    have hbx : W.heap[w1.heap.size]? = some (.cells #[.int .i64 k9, .int .u64 u0, .int .u64 u1, .int .u64 u2, .int .u64 u3, .slice px ts.length cx, .int .i64 mn, .int .i64 mx, .string tx] 28 (0, 0)) := by rw [hW]; exact World.alloc_heap_new _ _
    rw [← hW]
    clear hW
    have hR3 := hR.out.next hAl
    have hT3 : T.InP W (Free W B (Rb br gb (g :: rest))) _ := hat3.out W _
    clear y4
    obtain ⟨cur, hcur, hcb, hcp, hrow⟩ := hR3.row.top
    rw [← hr.out] at hcb hcp
    clear hrow
    have hg2 := hR3.each g (by simp)
    obtain ⟨a1, a2, a3, a4⟩ := hR3.apart
    have hgbl := (Array.getElem?_eq_some_iff.1 hcur).1
    have hgbX : Hid (¬ g.pv.ownBlock = some gb) := Lib.hid fun e => (a2 gb (mem_blks.2 (.inr e))).1 rfl
    have y4 : W.cell? ⟨gb, r * 2 + 1, none⟩ = some (Value.slice g.pp g.ps.length g.pc) := (cells_of hcur (r * 2 + 1) _ hcp).1
    have hkb := cells_of hbx
    obtain ⟨z0, -⟩ := hkb 0 _ rfl; obtain ⟨z1, -⟩ := hkb 1 _ rfl; obtain ⟨z2, -⟩ := hkb 2 _ rfl; obtain ⟨z3, -⟩ := hkb 3 _ rfl; obtain ⟨z4, -⟩ := hkb 4 _ rfl; obtain ⟨z5, -⟩ := hkb 5 _ rfl; obtain ⟨z6, -⟩ := hkb 6 _ rfl; obtain ⟨z7, -⟩ := hkb 7 _ rfl; obtain ⟨z8, -⟩ := hkb 8 _ rfl
    clear hkb
    obtain ⟨L2, hL2e⟩ : ∃ L, L = g.ps.take 600 ++ [T.mk k9 u0 u1 u2 u3 px cx mn mx tx ts] := ⟨_, rfl⟩
    have cW : ∀ w', Bel W w' → Calls Tryd.prog 42 #[(Value.slice g.pp g.ps.length g.pc), .agg #[.int .i64 k9, .int .u64 u0, .int .u64 u1, .int .u64 u2, .int .u64 u3, .slice px ts.length cx, .int .i64 mn, .int .i64 mx, .string tx]] w' (GivesLst B (Value.slice g.pp g.ps.length g.pc) L2 w') := fun w' hb => by
      rw [hL2e]
      exact with_in (T.mk k9 u0 u1 u2 u3 px cx mn mx tx ts) w' (hg2.pl.bel hb) (Nat.le_trans hR3.base hb.size) hg2.pn
    replace cW := Lib.hid cW
    replace hL2e := Lib.hid hL2e
    replace hR3 := Lib.hid hR3
    replace hT3 := Lib.hid hT3
    replace hcp := Lib.hid hcp
    replace hcur := Lib.hid hcur
    have hq := Lib.hid (show Bel W W.drew from (Below.refl _ _).drew)
    clear hbx hcb hg2 a1 a2 a3 a4
    go_region_with (go_at_call 42; (with_reducible refine (cW.out _ hq.out).mono ?_); rintro e w3 ⟨v3, rfl, hL3, hF3, hN3⟩; obtain ⟨pv3, cv3, rfl, -⟩ := row_form hL3; have hk3 : w3.heap[gb]? = some (.cells cur 54 (0, 0)) := (hF3.block gb hgbl hgbX.out).trans hcur.out; obtain ⟨y6, f6⟩ := cells_of hk3 (r * 2 + 1) _ hcp.out; replace hL3 := Lib.hid hL3; replace hF3 := Lib.hid hF3; replace hN3 := Lib.hid hN3; clear hk3)
    all_goals
      go_wp2
      refine bodyPost_ret (v := .tuple #[.int .i64 n, .nilIface]) (by simp [results, Tryd.results18, go_sem]) rfl ?_
      have hRd := hR3.out.next hq.out
      have hTd : T.InP W.drew (Free W.drew B (Rb br gb (g :: rest))) (T.mk k9 u0 u1 u2 u3 px cx mn mx tx ts) := hat3.out _ _
      have e := hL2e.out
      subst e
      obtain ⟨g', hfin⟩ := hRd.add (x := T.mk k9 u0 u1 u2 u3 px cx mn mx tx ts) hL3.out hF3.out hN3.out hTd (hstr.out.1.trans hstr.out.2.symm)
      rw [← hr.out] at hfin
      exact ⟨gb, gc, _, rfl, hfin⟩
end
end Go.Proofs.YtjlmeegaiagfpaaDoor
