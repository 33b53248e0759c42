/- Texts merged: W22, W23, W24, W25, W26. -/

import Derived.Test.YtobbifhflnlplaaDoorWE
namespace Go.Proofs.YtobbifhflnlplaaDoor
open Lib (hid)
open Go.RowKit
open Go.Tree7
open S7
open S5 (nl nl_length nl_small at_nl nl_at Gives idx idx_at ix ix_no ix_yes)
def GivesSt (w0 : World) (B br : Nat) (s : ByteArray) (n : Nat) (p : List Op) (e : Ending) (w : World) : Prop :=
 ∃ gb gc gl, e = .returned (.tuple #[.int .i64 n, .nilIface]) ∧ Rdr w0 B br s w gb gc gl p
section
variable {w0 : World} {B br : Nat} {s : ByteArray} {w : World} {gb gc : Nat}
theorem Rdr.size_le {gl : List Gr} {p : List Op} (h : Rdr w0 B br s w gb gc gl p) : gl.length ≤ gc ∧ gc ≤ maxLen := by
 obtain ⟨cur, -, -, h1, h2, -⟩ := h.row
 exact ⟨h1, h2⟩
theorem Pop.cell {rest : List Gr} {p : List Op} {t : T} (h : Pop w0 B br s w gb gc rest p t) : w.cell? ⟨br, 1, none⟩ = some (.slice (some ⟨gb, 0, none⟩) (rest.length + 1) gc) ∧ w.frozen? ⟨br, 1, none⟩ = false := cells_of h.box 1 _ rfl
set_option maxRecDepth 100000 in
set_option maxHeartbeats 8000000 in
theorem shut_err {g : Gr} {o : Op} {p : List Op} (k : Nat) (_ : k ≤ 99990) (h : Rdr w0 B br s w gb gc [g] (o :: p)) {E : Value} (hE : w.cell? ⟨3, 0, none⟩ = some E) :
  Calls Tryd.prog 47 #[.pointer (some ⟨br, 0, none⟩), .int .i64 k] w fun e w' => e = .returned (.tuple #[.int .i64 k, E]) ∧ Bel w w' := by
 have x1 : w.cell? ⟨br, 1, none⟩ = some (.slice (some ⟨gb, 0, none⟩) 1 gc) := (cells_of h.box 1 _ rfl).1
 clear h
 go_enter Tryd.func47, Tryd.ntmps47
 go_wp2
 go_quiet (fail)
 go_wp2
 refine bodyPost_ret (v := .tuple #[.int .i64 k, E]) (by simp [results, Tryd.results47, go_sem]) rfl ?_
 exact ⟨rfl, below_drewN (Below.refl _ _) _⟩
set_option maxRecDepth 100000 in
set_option maxHeartbeats 8000000 in
theorem shut_ok {g1 g2 : Gr} {rest : List Gr} {o : Op} {bs ps : List T} {p : List Op} (k : Nat) (hk : k ≤ 99990) (h : Rdr w0 B br s w gb gc (g1 :: g2 :: rest) (o :: (bs, ps) :: p)) :
  Calls Tryd.prog 47 #[.pointer (some ⟨br, 0, none⟩), .int .i64 k] w (GivesSt w0 B br s (k + 1) ((bs, ps ++ [closedT o]) :: p)) := by
 have x1 : w.cell? ⟨br, 1, none⟩ = some (.slice (some ⟨gb, 0, none⟩) (rest.length + 1 + 1) gc) := (cells_of h.box 1 _ rfl).1
 obtain ⟨hn1, hn2⟩ := h.size_le
 have cWh := h.whole_in
 obtain ⟨r2, hr2⟩ : ∃ r2, r2 = rest.length := ⟨_, rfl⟩
 simp only [List.length_cons] at hn1 cWh
 rw [← hr2] at x1 hn1 cWh
 have hr : r2 ≤ 9223372036854775807 := by unfold maxLen at hn2; omega
 have hgc : gc ≤ 9223372036854775807 := by unfold maxLen at hn2; omega
 replace cWh := hid cWh
 replace hr2 := hid hr2
 clear hn2 h
 go_enter Tryd.func47, Tryd.ntmps47
 go_wp2_with (go_at_call 32; (with_reducible refine cWh.out.mono ?_); rintro e w1 ⟨t, rfl, hstr, hpop⟩; obtain ⟨k9, u0, u1, u2, u3, px, cx, mn, mx, tx, ts⟩ := t; simp only [T.cells]; have hz := hpop.cell; rw [List.length_cons, ← hr2.out] at hz; obtain ⟨z1, f1⟩ := hz; have hbr := (Array.getElem?_eq_some_iff.1 hpop.box).1; replace hpop := hid hpop; replace hstr := hid hstr)
 obtain ⟨hR2, hT2⟩ := hpop.out.known
 rw [List.length_cons, ← hr2.out] at hR2 hT2
 have hAl : Bel (w1.setCell ⟨br, 1, none⟩ (.slice (some ⟨gb, 0, none⟩) (r2 + 1) gc)) ((w1.setCell ⟨br, 1, none⟩ (.slice (some ⟨gb, 0, none⟩) (r2 + 1) gc)).alloc (.cells #[.int .i64 k9, .int .u64 u0, .int .u64 u1, .int .u64 u2, .int .u64 u3, .slice px ts.length cx, .int .i64 mn, .int .i64 mx, .string tx] 27)) := (Below.refl _ _).alloc (Nat.le_refl _) _
 have hR3 := hR2.next hAl
 have hT3 : T.InP _ _ _ := inP_fr (X := fun _ => False) (R' := Rb br gb (g2 :: rest)) hT2 (Fr.of_bel hAl) (fun _ h => h.elim) (fun b hb => .inl hb)
 have hbx : ((w1.setCell ⟨br, 1, none⟩ (.slice (some ⟨gb, 0, none⟩) (r2 + 1) gc)).alloc (.cells #[.int .i64 k9, .int .u64 u0, .int .u64 u1, .int .u64 u2, .int .u64 u3, .slice px ts.length cx, .int .i64 mn, .int .i64 mx, .string tx] 27)).heap[w1.heap.size]? = some (.cells #[.int .i64 k9, .int .u64 u0, .int .u64 u1, .int .u64 u2, .int .u64 u3, .slice px ts.length cx, .int .i64 mn, .int .i64 mx, .string tx] 27 (0, 0)) := by
  have := World.alloc_heap_new (w1.setCell ⟨br, 1, none⟩ (.slice (some ⟨gb, 0, none⟩) (r2 + 1) gc)) (.cells #[.int .i64 k9, .int .u64 u0, .int .u64 u1, .int .u64 u2, .int .u64 u3, .slice px ts.length cx, .int .i64 mn, .int .i64 mx, .string tx] 27)
  rw [size_set] at this
  exact this
 generalize World.alloc (World.setCell w1 _ _) _ = W at *
 obtain ⟨cur, hcur, hcb, hcp, hrow⟩ := hR3.row.top
 rw [← hr2.out] at hcb hcp
 clear hrow hR2 hT2 hAl z1 f1 hbr hpop cWh x1
 have hg2 := hR3.each g2 (by simp)
 obtain ⟨a1, a2, a3, a4⟩ := hR3.apart
 have hgbl := (Array.getElem?_eq_some_iff.1 hcur).1
 have hgbX : Hid (¬ g2.pv.ownBlock = some gb) := hid fun e => (a2 gb (mem_blks.2 (.inr e))).1 rfl
 have y4 : W.cell? ⟨gb, r2 * 2 + 1, none⟩ = some (Value.slice g2.pp g2.ps.length g2.pc) := (cells_of hcur (r2 * 2 + 1) _ hcp).1
 have hkb := cells_of hbx
 obtain ⟨z0, -⟩ := hkb 0 _ rfl; obtain ⟨z1, -⟩ := hkb 1 _ rfl; obtain ⟨z2, -⟩ := hkb 2 _ rfl; obtain ⟨z3, -⟩ := hkb 3 _ rfl; obtain ⟨z4, -⟩ := hkb 4 _ rfl; obtain ⟨z5, -⟩ := hkb 5 _ rfl; obtain ⟨z6, -⟩ := hkb 6 _ rfl; obtain ⟨z7, -⟩ := hkb 7 _ rfl; obtain ⟨z8, -⟩ := hkb 8 _ rfl
 clear hkb
 obtain ⟨L2, hL2e⟩ : ∃ L, L = g2.ps.take 600 ++ [T.mk k9 u0 u1 u2 u3 px cx mn mx tx ts] := ⟨_, rfl⟩
 have cW : ∀ w', Bel W w' → Calls Tryd.prog 52 #[(Value.slice g2.pp g2.ps.length g2.pc), .agg #[.int .i64 k9, .int .u64 u0, .int .u64 u1, .int .u64 u2, .int .u64 u3, .slice px ts.length cx, .int .i64 mn, .int .i64 mx, .string tx]] w' (GivesLst B (Value.slice g2.pp g2.ps.length g2.pc) L2 w') := fun w' hb => by
  rw [hL2e]
  exact with_in (T.mk k9 u0 u1 u2 u3 px cx mn mx tx ts) w' (hg2.pl.bel hb) (Nat.le_trans hR3.base hb.size) hg2.pn
 replace cW := hid cW
 replace hL2e := hid hL2e
 replace hR3 := hid hR3
 replace hT3 := hid hT3
 replace hcp := hid hcp
 replace hcur := hid hcur
 have hq := hid (show Bel W W.drew from (Below.refl _ _).drew)
 clear hbx hcb hg2 a1 a2 a3 a4
 go_region_with (go_at_call 52; (with_reducible refine (cW.out _ hq.out).mono ?_); rintro e w3 ⟨v3, rfl, hL3, hF3, hN3⟩; obtain ⟨pv3, cv3, rfl, -⟩ := row_form hL3; have hk3 : w3.heap[gb]? = some (.cells cur 70 (0, 0)) := (hF3.block gb hgbl hgbX.out).trans hcur.out; obtain ⟨y6, f6⟩ := cells_of hk3 (r2 * 2 + 1) _ hcp.out; replace hL3 := hid hL3; replace hF3 := hid hF3; replace hN3 := hid hN3; clear hk3)
 all_goals
  go_wp2
  refine bodyPost_ret (v := .tuple #[.int .i64 ((k : Int) + 1), .nilIface]) (by simp [results, Tryd.results47, go_sem]) rfl ?_
  have hRd := hR3.out.next hq.out
  have hTd : T.InP _ _ _ := inP_fr (X := fun _ => False) (R' := Rb br gb (g2 :: rest)) hT3.out (Fr.of_bel hq.out) (fun _ h => h.elim) (fun b hb => .inl hb)
  have e := hL2e.out
  subst e
  obtain ⟨g', hfin⟩ := hRd.add (x := closedT o) hL3.out hF3.out hN3.out hTd hstr.out
  rw [← hr2.out] at hfin
  exact ⟨gb, gc, _, by rw [Int.natCast_add]; rfl, hfin⟩
end
end Go.Proofs.YtobbifhflnlplaaDoor
namespace Go.Proofs.YtobbifhflnlplaaDoor
open Lib (hid)
open Go.RowKit
open Go.Tree7
open S7
open S5 (nl nl_length nl_small at_nl nl_at Gives idx idx_at ix ix_no ix_yes)
theorem infoG : (Tryd.prog.info? 70).map (fun i => (i.zero, i.size, i.bytes)) = some (some (.agg #[.slice none 0 0, .slice none 0 0]), 2, 48) := by kernel_rfl
section
variable {w0 : World} {B br : Nat} {s : ByteArray} {w : World} {gb gc : Nat} {g : Gr} {rest : List Gr}
set_option maxRecDepth 100000 in
set_option maxHeartbeats 8000000 in
theorem step_bar {bs ps : List T} {p : List Op} {k : Nat} (h0 : (nl s)[k]? = some 124) (hm : s.size ≤ 99990) (h : Rdr w0 B br s w gb gc (g :: rest) ((bs, ps) :: p)) :
  Calls Tryd.prog 31 #[.pointer (some ⟨br, 0, none⟩), .int .i64 k] w (GivesSt w0 B br s (k + 1) ((bs ++ [catT ps], []) :: p)) := by
 obtain ⟨hlt, hat⟩ := at_nl h0
 have hkb : k ≤ 99990 := by omega
 obtain ⟨r, hr⟩ : ∃ r, r = rest.length := ⟨_, rfl⟩
 have x0 : w.cell? ⟨br, 0, none⟩ = some (.string s) := (cells_of h.box 0 _ rfl).1
 have x1 : w.cell? ⟨br, 1, none⟩ = some (.slice (some ⟨gb, 0, none⟩) (rest.length + 1) gc) := (cells_of h.box 1 _ rfl).1
 obtain ⟨hn1, hn2⟩ := h.size_le
 rw [List.length_cons] at hn1
 rw [← hr] at x1 hn1
 have hgc : gc ≤ 9223372036854775807 := by unfold maxLen at hn2; omega
 replace hr := hid hr
 have hnx := hid (fun w' (hb : Bel w w') => h.next hb)
 clear h h0 hn2 hm
 go_enter Tryd.func31, Tryd.ntmps31
 go_wp2
 go_quiet (fail)
 generalize hwq : World.drewN w _ = wq at *
 have hbq : Bel w wq := by rw [← hwq]; exact below_drewN (Below.refl _ _) _
 have hce : ∀ a, wq.cell? a = w.cell? a := fun a => by rw [← hwq]; rfl
 replace x0 := (hce _).trans x0
 replace x1 := (hce _).trans x1
 have hR := hid (hnx.out wq hbq)
 clear hwq hce hnx
 replace hbq := hid hbq
 have cC := hR.out.cut_in
 rw [← hr.out] at cC
 replace cC := hid cC
 go_wp2_with (go_at_call 46; (with_reducible refine cC.out.mono ?_); rintro e w1 ⟨rfl, g', hR1⟩; replace hR1 := hid hR1)
 refine bodyPost_ret (v := .tuple #[.int .i64 ((k : Int) + 1), .nilIface]) (by simp [results, Tryd.results31, go_sem]) rfl ?_
 exact ⟨gb, gc, _, by rw [Int.natCast_add]; rfl, hR1.out⟩
set_option maxRecDepth 100000 in
set_option maxHeartbeats 8000000 in
theorem step_close {g2 : Gr} {o : Op} {bs ps : List T} {p : List Op} {k : Nat} (h0 : (nl s)[k]? = some 41) (hm : s.size ≤ 99990) (h : Rdr w0 B br s w gb gc (g :: g2 :: rest) (o :: (bs, ps) :: p)) :
  Calls Tryd.prog 31 #[.pointer (some ⟨br, 0, none⟩), .int .i64 k] w (GivesSt w0 B br s (k + 1) ((bs, ps ++ [closedT o]) :: p)) := by
 obtain ⟨hlt, hat⟩ := at_nl h0
 have hkb : k ≤ 99990 := by omega
 obtain ⟨r, hr⟩ : ∃ r, r = (g2 :: rest).length := ⟨_, rfl⟩
 have x0 : w.cell? ⟨br, 0, none⟩ = some (.string s) := (cells_of h.box 0 _ rfl).1
 have x1 : w.cell? ⟨br, 1, none⟩ = some (.slice (some ⟨gb, 0, none⟩) ((g2 :: rest).length + 1) gc) := (cells_of h.box 1 _ rfl).1
 obtain ⟨hn1, hn2⟩ := h.size_le
 rw [List.length_cons] at hn1
 rw [← hr] at x1 hn1
 have hgc : gc ≤ 9223372036854775807 := by unfold maxLen at hn2; omega
 replace hr := hid hr
 have hnx := hid (fun w' (hb : Bel w w') => h.next hb)
 clear h h0 hn2 hm
 go_enter Tryd.func31, Tryd.ntmps31
 go_wp2
 go_quiet (fail)
 generalize hwq : World.drewN w _ = wq at *
 have hbq : Bel w wq := by rw [← hwq]; exact below_drewN (Below.refl _ _) _
 have hce : ∀ a, wq.cell? a = w.cell? a := fun a => by rw [← hwq]; rfl
 replace x0 := (hce _).trans x0
 replace x1 := (hce _).trans x1
 have hR := hid (hnx.out wq hbq)
 clear hwq hce hnx
 replace hbq := hid hbq
 have cS := hid (shut_ok k hkb hR.out)
 unfold GivesSt at cS
 go_wp2_with (go_at_call 47; (with_reducible refine cS.out.mono ?_); rintro e w1 ⟨gb1, gc1, gl1, rfl, hR1⟩; replace hR1 := hid hR1)
 refine bodyPost_ret (v := .tuple #[.int .i64 ((k + 1 : Nat) : Int), .nilIface]) (by simp [results, Tryd.results31, go_sem]) rfl ?_
 exact ⟨gb1, gc1, gl1, rfl, hR1.out⟩
set_option maxRecDepth 100000 in
set_option maxHeartbeats 8000000 in
theorem step_noopen {o : Op} {p : List Op} {k : Nat} (h0 : (nl s)[k]? = some 41) (hm : s.size ≤ 99990) (h : Rdr w0 B br s w gb gc [g] (o :: p)) {E : Value} (hE : w.cell? ⟨3, 0, none⟩ = some E) :
  Calls Tryd.prog 31 #[.pointer (some ⟨br, 0, none⟩), .int .i64 k] w fun e w' => e = .returned (.tuple #[.int .i64 k, E]) ∧ Bel w w' := by
 obtain ⟨hlt, hat⟩ := at_nl h0
 have hkb : k ≤ 99990 := by omega
 obtain ⟨r, hr⟩ : ∃ r, r = ([] : List Gr).length := ⟨_, rfl⟩
 have x0 : w.cell? ⟨br, 0, none⟩ = some (.string s) := (cells_of h.box 0 _ rfl).1
 have x1 : w.cell? ⟨br, 1, none⟩ = some (.slice (some ⟨gb, 0, none⟩) (([] : List Gr).length + 1) gc) := (cells_of h.box 1 _ rfl).1
 obtain ⟨hn1, hn2⟩ := h.size_le
 rw [List.length_cons] at hn1
 rw [← hr] at x1 hn1
 have hgc : gc ≤ 9223372036854775807 := by unfold maxLen at hn2; omega
 replace hr := hid hr
 have hnx := hid (fun w' (hb : Bel w w') => h.next hb)
 clear h h0 hn2 hm
 go_enter Tryd.func31, Tryd.ntmps31
 go_wp2
 go_quiet (fail)
 generalize hwq : World.drewN w _ = wq at *
 have hbq : Bel w wq := by rw [← hwq]; exact below_drewN (Below.refl _ _) _
 have hce : ∀ a, wq.cell? a = w.cell? a := fun a => by rw [← hwq]; rfl
 replace x0 := (hce _).trans x0
 replace x1 := (hce _).trans x1
 have hR := hid (hnx.out wq hbq)
 replace hE := (hce _).trans hE
 clear hwq hce hnx
 replace hbq := hid hbq
 have cS := hid (shut_err k hkb hR.out hE)
 go_wp2_with (go_at_call 47; (with_reducible refine cS.out.mono ?_); rintro e w1 ⟨rfl, hb1⟩; replace hb1 := hid hb1)
 refine bodyPost_ret (v := .tuple #[.int .i64 k, E]) (by simp [results, Tryd.results31, go_sem]) rfl ?_
 exact ⟨rfl, Bel.step hbq.out hb1.out⟩
set_option maxRecDepth 100000 in
set_option maxHeartbeats 8000000 in
theorem step_open {p : List Op} {k : Nat} (h0 : (nl s)[k]? = some 40) (hm : s.size ≤ 99990) (hd : rest.length ≤ 99990) (h : Rdr w0 B br s w gb gc (g :: rest) p) :
  Calls Tryd.prog 31 #[.pointer (some ⟨br, 0, none⟩), .int .i64 k] w (GivesSt w0 B br s (k + 1) (([], []) :: p)) := by
 obtain ⟨hlt, hat⟩ := at_nl h0
 have hkb : k ≤ 99990 := by omega
 obtain ⟨r, hr⟩ : ∃ r, r = rest.length := ⟨_, rfl⟩
 have x0 : w.cell? ⟨br, 0, none⟩ = some (.string s) := (cells_of h.box 0 _ rfl).1
 have x1 : w.cell? ⟨br, 1, none⟩ = some (.slice (some ⟨gb, 0, none⟩) (rest.length + 1) gc) := (cells_of h.box 1 _ rfl).1
 obtain ⟨hn1, hn2⟩ := h.size_le
 rw [List.length_cons] at hn1
 rw [← hr] at x1 hn1
 have hgc : gc ≤ 9223372036854775807 := by unfold maxLen at hn2; omega
 replace hr := hid hr
 have hnx := hid (fun w' (hb : Bel w w') => h.next hb)
 clear h h0 hn2 hm
 go_enter Tryd.func31, Tryd.ntmps31
 go_wp2
 go_quiet (fail)
 generalize hwq : World.drewN w _ = wq at *
 have hbq : Bel w wq := by rw [← hwq]; exact below_drewN (Below.refl _ _) _
 have hce : ∀ a, wq.cell? a = w.cell? a := fun a => by rw [← hwq]; rfl
 replace x0 := (hce _).trans x0
 replace x1 := (hce _).trans x1
 have hR := hid (hnx.out wq hbq)
 clear hwq hce hnx
 replace hbq := hid hbq
 obtain ⟨i0, hi, hz0, hz1, hz2⟩ := info_parts infoG
 replace hi := hid hi
 replace hz0 := hid hz0
 replace hz1 := hid hz1
 replace hz2 := hid hz2
 obtain ⟨gl, hgl⟩ : ∃ gl, gl = g :: rest := ⟨_, rfl⟩
 have hgll : gl.length = r + 1 := by rw [hgl, List.length_cons, hr.out]
 have hlr : r ≤ 99990 := by rw [hr.out]; exact hd
 rw [← hgl] at hR
 have hgn : Hid (gl ≠ []) := hid (by rw [hgl]; simp)
 have hown := hR.out.row.owns
 have hbx := hR.out.box
 rw [hgll] at hown hbx
 have hbr := (Array.getElem?_eq_some_iff.1 hbx).1
 have hsep := hR.out.sep
 unfold Rb at hsep
 simp only [List.nodup_cons, List.mem_cons, not_or] at hsep
 have hbg : Hid (br ≠ gb) := hid fun e => hsep.1.1 e.symm
 have hBw := hR.out.base
 replace hown := hid hown
 replace hbx := hid hbx
 replace hgll := hid hgll
 clear hsep hgl hd hr
 go_wp2_with (at_builtin; refine wpList_append_own_at _ rfl _ _ 64 rfl B 70 i0 (.agg #[.slice none 0 0, .slice none 0 0]) 2 48 Tryd.underlying64 hi.out hz0.out hz1.out hz2.out rfl (by decide) _ (r + 1) (gl.reverse.flatMap Gr.cells) rfl (hown.out.alloc _) ⟨_, 0, none⟩ 1 1 [.slice none 0 0, .slice none 0 0] rfl rfl (cells_new rfl) (by simp [Value.oneCell']) (by simp only [maxLen]; omega) (by omega) (by simp; omega) ?_; intro v' w9 hown' hgrow hnil hat9; clear hnil; obtain ⟨pv2, cv2, rfl, -⟩ := row_form hown'; have hk9 : w9.heap[br]? = some (.cells #[.string s, .slice (some ⟨gb, 0, none⟩) (r + 1) gc] 66 (0, 0)) := (hgrow.block br (by simp; omega) (fun e => hbg.out (Option.some.inj e))).trans ((Below.heap_alloc _ _ _ hbr).trans hbx.out); obtain ⟨z1, f1⟩ : w9.cell? ⟨br, 1, none⟩ = some (.slice (some ⟨gb, 0, none⟩) (r + 1) gc) ∧ w9.frozen? ⟨br, 1, none⟩ = false := cells_of hk9 1 _ rfl; clear hk9; replace hown' := hid hown'; replace hat9 := hid hat9; have hgr : World.grownBy (wq.alloc (.cells #[.slice none 0 0, .slice none 0 0] 70)) w9 (Value.slice (some ⟨gb, 0, none⟩) (r + 1) gc).ownBlock := hgrow; clear hgrow; replace hgr := hid hgr)
 refine bodyPost_ret (v := .tuple #[.int .i64 ((k : Int) + 1), .nilIface]) (by simp [results, Tryd.results31, go_sem]) rfl ?_
 have hRA := hR.out.next ((Below.refl wq.heap.size wq).alloc (Nat.le_refl _) (.cells #[.slice none 0 0, .slice none 0 0] 70))
 obtain ⟨gb', gc', hfin⟩ := hRA.opened hgn.out (by rw [hgll.out]; exact hown'.out) (Fr.of_grown hgr.out (fun g e => (Option.some.inj e).symm)) (by
  rcases hat9.out with e | e
  ·exact .inl e
  ·exact .inr ⟨_, e, Nat.le_refl _⟩)
 exact ⟨gb', gc', _, by rw [Int.natCast_add]; rfl, hfin⟩
end
end Go.Proofs.YtobbifhflnlplaaDoor
namespace Go.Proofs.YtobbifhflnlplaaDoor
open Lib (hid)
open Go.RowKit
open Go.Tree7
open S7
open S5 (nl nl_length nl_small at_nl nl_at Gives idx idx_at ix ix_no ix_yes)
theorem mk_at {l : List Nat} {k n e : Nat} {a b : Int} (h : Mk l k a b n e) : ∃ c, l[k]? = some c ∧ c ≠ 40 ∧ c ≠ 41 ∧ c ≠ 124 ∧ IsMark l k := by
 cases h with
 | star h => exact ⟨42, h, by decide, by decide, by decide, .inl h⟩
 | plus h => exact ⟨43, h, by decide, by decide, by decide, .inr (.inl h)⟩
 | opt h => exact ⟨63, h, by decide, by decide, by decide, .inr (.inr (.inl h))⟩
 | bounds _ _ _ _ h h2 h3 => exact ⟨123, h, by decide, by decide, by decide, .inr (.inr (.inr ⟨h, h2⟩))⟩
theorem atm_c {l : List Nat} {k n : Nat} {t : T} (h : Atm l k t n) : ∃ c, l[k]? = some c ∧ c ≠ 40 ∧ c ≠ 41 ∧ c ≠ 124 := by
 cases h with
 | br _ _ h => exact ⟨91, h, by decide, by decide, by decide⟩
 | dot h => exact ⟨46, h, by decide, by decide, by decide⟩
 | name _ h => exact ⟨123, h, by decide, by decide, by decide⟩
 | byte c _ _ h h2 => simp at h2; exact ⟨c, h, by omega, by omega, by omega⟩
theorem atmbad_c {l : List Nat} {k : Nat} {n : Int} {e : Nat} (h : AtmBad l k n e) : ∃ c, l[k]? = some c ∧ c ≠ 40 ∧ c ≠ 41 ∧ c ≠ 124 := by
 cases h with
 | form c h h2 => simp at h2; exact ⟨c, h, by omega, by omega, by omega⟩
 | br _ _ _ h => exact ⟨91, h, by decide, by decide, by decide⟩
 | short h => exact ⟨123, h, by decide, by decide, by decide⟩
 | name _ h => exact ⟨123, h, by decide, by decide, by decide⟩
 | byte c _ _ _ h h2 => simp at h2; exact ⟨c, h, by omega, by omega, by omega⟩
theorem atm_tree {l : List Nat} {k n : Nat} {t : T} (h : Atm l k t n) (w : World) (S : Nat → Prop) : T.InP w S t := by
 have leaf : ∀ f : Nat → Bool, T.InP w S (leafT f) := fun f => .mk (Nat.le_refl _) (Nat.zero_le _) ⟨by decide, ⟨wf_nat (S1.wd_lt f 0), wf_nat (S1.wd_lt f 1), wf_nat (S1.wd_lt f 2), wf_nat (S1.wd_lt f 3)⟩, by decide, by decide, by decide⟩ (fun i hi => by simp at hi) (fun t ht => by simp at ht)
 cases h with
 | br => exact leaf _
 | dot => exact leaf _
 | name tx _ _ _ h =>
  refine .mk (Nat.le_refl _) (Nat.zero_le _) ⟨by decide, ⟨by decide, by decide, by decide, by decide⟩, by decide, by decide, ?_⟩ (fun i hi => by simp at hi) (fun t ht => by simp at ht)
  have := h.2.1
  rw [nl_length] at this
  unfold maxLen
  omega
 | byte => exact leaf _
theorem atm_plainT {l : List Nat} {k n : Nat} {t : T} (h : Atm l k t n) : t.strip = t := by
 have leaf : ∀ f : Nat → Bool, (leafT f).strip = leafT f := fun f => by unfold leafT; rw [T.strip_mk]; rfl
 cases h with
 | br => exact leaf _
 | dot => exact leaf _
 | name => unfold tN; rw [T.strip_mk]; rfl
 | byte => exact leaf _
section
variable {w0 : World} {B br : Nat} {s : ByteArray} {w : World} {gb gc : Nat} {g : Gr} {rest : List Gr} {V : Nat → Value}
theorem Rdr.some {bs ps : List T} {x : T} {p : List Op} (h : Rdr w0 B br s w gb gc (g :: rest) ((bs, ps ++ [x]) :: p)) : 0 < g.ps.length := by
 have := congrArg List.length h.rel.1.2
 simp only [List.map_append, List.map_cons, List.map_nil] at this
 rw [cutL_snoc, List.length_map, List.length_append] at this
 simp only [List.length_cons, List.length_nil] at this
 omega
theorem Rdr.none {bs : List T} {p : List Op} (h : Rdr w0 B br s w gb gc (g :: rest) ((bs, []) :: p)) : g.ps.length = 0 := by
 have := congrArg List.length h.rel.1.2
 rw [List.length_map] at this
 exact this
set_option maxRecDepth 100000 in
set_option maxHeartbeats 8000000 in
theorem step_mark {bs ps : List T} {x : T} {p : List Op} {k n : Nat} {a b : Int} (hk : Mk (nl s) k a b n 0) (hm : s.size ≤ 99990) (hS : Six w V) (h : Rdr w0 B br s w gb gc (g :: rest) ((bs, ps ++ [x]) :: p)) :
  Calls Tryd.prog 31 #[.pointer (some ⟨br, 0, none⟩), .int .i64 k] w (GivesSt w0 B br s n ((bs, ps ++ [tR a b x]) :: p)) := by
 obtain ⟨c, h0, n1, n2, n3, hmk⟩ := mk_at hk
 have g1 : ((c : Int) == 124) = false := by rw [beq_eq_false_iff_ne]; omega
 have g2 : ((c : Int) == 40) = false := by rw [beq_eq_false_iff_ne]; omega
 have g3 : ((c : Int) == 41) = false := by rw [beq_eq_false_iff_ne]; omega
 have hps := h.some
 have g4 : decide (0 < g.ps.length) = true := by rw [decide_eq_true_eq]; exact hps
 have cSy := hid (fun w => suffixed_yes hmk hm w)
 obtain ⟨ha, hb, hab⟩ : 0 ≤ a ∧ a ≤ 40 ∧ (b = -1 ∨ a ≤ b ∧ 1 ≤ b ∧ b ≤ 40) := ⟨(mk_ok hk).1, (mk_ok hk).2.1, (mk_ok hk).2.2.1⟩
 have hwa : (Lit.int .i64 a).wf = true := WalkArith.wf_i64 (by omega)
 have hwb : (Lit.int .i64 b).wf = true := WalkArith.wf_i64 (by omega)
 have hsf : Hid (∀ w', Bel w w' → Gives 49 #[.string s, .int .i64 k] (.tuple #[.int .i64 a, .int .i64 b, .int .i64 n, .nilIface]) w') := hid fun w' hb => suffix_in hk hm w' (hS.bel hb)
 replace hwa := hid hwa
 replace hwb := hid hwb
 clear hk hmk n1 n2 n3 ha hb hab hS
 obtain ⟨hlt, hat⟩ := at_nl h0
 have hkb : k ≤ 99990 := by omega
 obtain ⟨r, hr⟩ : ∃ r, r = rest.length := ⟨_, rfl⟩
 have x0 : w.cell? ⟨br, 0, none⟩ = some (.string s) := (cells_of h.box 0 _ rfl).1
 have x1 : w.cell? ⟨br, 1, none⟩ = some (.slice (some ⟨gb, 0, none⟩) (rest.length + 1) gc) := (cells_of h.box 1 _ rfl).1
 obtain ⟨hn1, hn2⟩ := h.size_le
 rw [List.length_cons] at hn1
 rw [← hr] at x1 hn1
 have hgc : gc ≤ 9223372036854775807 := by unfold maxLen at hn2; omega
 replace hr := hid hr
 have hnx := hid (fun w' (hb : Bel w w') => h.next hb)
 clear h h0 hn2 hm
 go_enter Tryd.func31, Tryd.ntmps31
 go_wp2
 go_quiet (fail)
 generalize hwq : World.drewN w _ = wq at *
 have hbq : Bel w wq := by rw [← hwq]; exact below_drewN (Below.refl _ _) _
 have hce : ∀ a, wq.cell? a = w.cell? a := fun a => by rw [← hwq]; rfl
 replace x0 := (hce _).trans x0
 replace x1 := (hce _).trans x1
 have hR := hid (hnx.out wq hbq)
 clear hwq hce hnx
 replace hbq := hid hbq
 obtain ⟨cur0, hcur0, -, hcp0, -⟩ := hR.out.row.top
 rw [← hr.out] at hcp0
 have y4 : wq.cell? ⟨gb, r * 2 + 1, none⟩ = some (.slice g.pp g.ps.length g.pc) := (cells_of hcur0 (r * 2 + 1) _ hcp0).1
 clear hcur0 hcp0
 have cSf := hsf.out wq hbq.out
 unfold Gives at cSf
 replace cSf := hid cSf
 have cRp := hid (fun w' (hb : Bel wq w') => hr.out ▸ (hR.out.next hb).rep_in hwa.out hwb.out)
 clear hsf
 go_wp2_with (first | (go_at_call 48; (with_reducible refine (cSy.out _).mono ?_); rintro e w' ⟨rfl, rfl⟩) | (go_at_call 49; (with_reducible refine cSf.out.mono ?_); rintro e w1 ⟨rfl, hb1⟩; replace hb1 := hid hb1) | (go_at_call 50; have cR := cRp.out w1 hb1.out; (with_reducible refine cR.mono ?_); rintro e w2 ⟨rfl, g', hR2⟩; clear cR; replace hR2 := hid hR2))
 refine bodyPost_ret (v := .tuple #[.int .i64 n, .nilIface]) (by simp [results, Tryd.results31, go_sem]) rfl ?_
 exact ⟨gb, gc, _, rfl, hR2.out⟩
end
end Go.Proofs.YtobbifhflnlplaaDoor
namespace Go.Proofs.YtobbifhflnlplaaDoor
open Lib (hid)
open Go.RowKit
open Go.Tree7
open S7
open S5 (nl nl_length nl_small at_nl nl_at Gives idx idx_at ix ix_no ix_yes)
section
variable {w0 : World} {B br : Nat} {s : ByteArray} {w : World} {gb gc : Nat} {g : Gr} {rest : List Gr} {V : Nat → Value}
set_option maxRecDepth 100000 in
set_option maxHeartbeats 8000000 in
theorem step_markbad {bs ps : List T} {x : T} {p : List Op} {k n e : Nat} {a b : Int} (hk : Mk (nl s) k a b n e) (he : e ≠ 0) (hm : s.size ≤ 99990) (hS : Six w V) (h : Rdr w0 B br s w gb gc (g :: rest) ((bs, ps ++ [x]) :: p)) :
  Calls Tryd.prog 31 #[.pointer (some ⟨br, 0, none⟩), .int .i64 k] w fun en w' => en = .returned (.tuple #[.int .i64 n, .iface 135 (V e)]) ∧ Bel w w' := by
 obtain ⟨c, h0, n1, n2, n3, hmk⟩ := mk_at hk
 have g1 : ((c : Int) == 124) = false := by rw [beq_eq_false_iff_ne]; omega
 have g2 : ((c : Int) == 40) = false := by rw [beq_eq_false_iff_ne]; omega
 have g3 : ((c : Int) == 41) = false := by rw [beq_eq_false_iff_ne]; omega
 have hps := h.some
 have g4 : decide (0 < g.ps.length) = true := by rw [decide_eq_true_eq]; exact hps
 have cSy := hid (fun w => suffixed_yes hmk hm w)
 have hsf : Hid (∀ w', Bel w w' → Gives 49 #[.string s, .int .i64 k] (.tuple #[.int .i64 a, .int .i64 b, .int .i64 n, .iface 135 (V e)]) w') := hid fun w' hb => by
  have := suffix_in hk hm w' (hS.bel hb)
  unfold errX at this
  rwa [if_neg he] at this
 clear hk hmk n1 n2 n3 hS he
 obtain ⟨hlt, hat⟩ := at_nl h0
 have hkb : k ≤ 99990 := by omega
 obtain ⟨r, hr⟩ : ∃ r, r = rest.length := ⟨_, rfl⟩
 have x0 : w.cell? ⟨br, 0, none⟩ = some (.string s) := (cells_of h.box 0 _ rfl).1
 have x1 : w.cell? ⟨br, 1, none⟩ = some (.slice (some ⟨gb, 0, none⟩) (rest.length + 1) gc) := (cells_of h.box 1 _ rfl).1
 obtain ⟨hn1, hn2⟩ := h.size_le
 rw [List.length_cons] at hn1
 rw [← hr] at x1 hn1
 have hgc : gc ≤ 9223372036854775807 := by unfold maxLen at hn2; omega
 replace hr := hid hr
 have hnx := hid (fun w' (hb : Bel w w') => h.next hb)
 clear h h0 hn2 hm
 go_enter Tryd.func31, Tryd.ntmps31
 go_wp2
 go_quiet (fail)
 generalize hwq : World.drewN w _ = wq at *
 have hbq : Bel w wq := by rw [← hwq]; exact below_drewN (Below.refl _ _) _
 have hce : ∀ a, wq.cell? a = w.cell? a := fun a => by rw [← hwq]; rfl
 replace x0 := (hce _).trans x0
 replace x1 := (hce _).trans x1
 have hR := hid (hnx.out wq hbq)
 clear hwq hce hnx
 replace hbq := hid hbq
 obtain ⟨cur0, hcur0, -, hcp0, -⟩ := hR.out.row.top
 rw [← hr.out] at hcp0
 have y4 : wq.cell? ⟨gb, r * 2 + 1, none⟩ = some (.slice g.pp g.ps.length g.pc) := (cells_of hcur0 (r * 2 + 1) _ hcp0).1
 clear hcur0 hcp0
 have cSf := hsf.out wq hbq.out
 unfold Gives at cSf
 replace cSf := hid cSf
 clear hsf
 go_wp2_with (first | (go_at_call 48; (with_reducible refine (cSy.out _).mono ?_); rintro e w' ⟨rfl, rfl⟩) | (go_at_call 49; (with_reducible refine cSf.out.mono ?_); rintro e w1 ⟨rfl, hb1⟩; replace hb1 := hid hb1))
 refine bodyPost_ret (v := .tuple #[.int .i64 n, .iface 135 (V e)]) (by simp [results, Tryd.results31, go_sem]) rfl ?_
 exact ⟨rfl, Bel.step hbq.out hb1.out⟩
set_option maxRecDepth 100000 in
set_option maxHeartbeats 8000000 in
theorem step_atombad {o : Op} {p : List Op} {k e : Nat} {n : Int} (hk : AtmBad (nl s) k n e) (hm : s.size ≤ 99990) (hS : Six w V) (h : Rdr w0 B br s w gb gc (g :: rest) (o :: p)) (hno : g.ps.length = 0 ∨ ¬ IsMark (nl s) k) :
  Calls Tryd.prog 31 #[.pointer (some ⟨br, 0, none⟩), .int .i64 k] w fun en w' => en = .returned (.tuple #[.int .i64 n, .iface 135 (V e)]) ∧ Bel w w' := by
 obtain ⟨c, h0, n1, n2, n3⟩ := atmbad_c hk
 have g1 : ((c : Int) == 124) = false := by rw [beq_eq_false_iff_ne]; omega
 have g2 : ((c : Int) == 40) = false := by rw [beq_eq_false_iff_ne]; omega
 have g3 : ((c : Int) == 41) = false := by rw [beq_eq_false_iff_ne]; omega
 have g5 : decide (0 < g.ps.length) = false ∨ (decide (0 < g.ps.length) = true ∧ ¬ IsMark (nl s) k) := by
  rcases hno with e | e
  ·exact .inl (by rw [decide_eq_false_iff_not]; omega)
  ·by_cases h9 : 0 < g.ps.length
   ·exact .inr ⟨by rw [decide_eq_true_eq]; exact h9, e⟩
   ·exact .inl (by rw [decide_eq_false_iff_not]; exact h9)
 have hsf : Hid (∀ w', Bel w w' → ∃ t : T, Gives 51 #[.string s, .int .i64 k] (.tuple #[.agg t.cells.toArray, .int .i64 n, .iface 135 (V e)]) w') := hid fun w' hb => atom_bad hk hm w' (hS.bel hb)
 have hSy := hid (fun (h : ¬ IsMark (nl s) k) w => suffixed_no h0 h hm w)
 clear hk n1 n2 n3 hS hno
 obtain ⟨hlt, hat⟩ := at_nl h0
 have hkb : k ≤ 99990 := by omega
 obtain ⟨r, hr⟩ : ∃ r, r = rest.length := ⟨_, rfl⟩
 have x0 : w.cell? ⟨br, 0, none⟩ = some (.string s) := (cells_of h.box 0 _ rfl).1
 have x1 : w.cell? ⟨br, 1, none⟩ = some (.slice (some ⟨gb, 0, none⟩) (rest.length + 1) gc) := (cells_of h.box 1 _ rfl).1
 obtain ⟨hn1, hn2⟩ := h.size_le
 rw [List.length_cons] at hn1
 rw [← hr] at x1 hn1
 have hgc : gc ≤ 9223372036854775807 := by unfold maxLen at hn2; omega
 replace hr := hid hr
 have hnx := hid (fun w' (hb : Bel w w') => h.next hb)
 clear h h0 hn2 hm
 go_enter Tryd.func31, Tryd.ntmps31
 go_wp2
 go_quiet (fail)
 generalize hwq : World.drewN w _ = wq at *
 have hbq : Bel w wq := by rw [← hwq]; exact below_drewN (Below.refl _ _) _
 have hce : ∀ a, wq.cell? a = w.cell? a := fun a => by rw [← hwq]; rfl
 replace x0 := (hce _).trans x0
 replace x1 := (hce _).trans x1
 have hR := hid (hnx.out wq hbq)
 clear hwq hce hnx
 replace hbq := hid hbq
 obtain ⟨cur0, hcur0, -, hcp0, -⟩ := hR.out.row.top
 rw [← hr.out] at hcp0
 have y4 : wq.cell? ⟨gb, r * 2 + 1, none⟩ = some (.slice g.pp g.ps.length g.pc) := (cells_of hcur0 (r * 2 + 1) _ hcp0).1
 clear hcur0 hcp0
 obtain ⟨t, cA⟩ := hsf.out wq hbq.out
 obtain ⟨k9, u0, u1, u2, u3, px, cx, mn, mx, tx, ts⟩ := t
 unfold Gives at cA
 simp only [T.cells] at cA
 replace cA := hid cA
 clear hsf
 rcases g5 with g5 | ⟨g5, g6⟩
 ·go_wp2_with (go_at_call 51; (with_reducible refine cA.out.mono ?_); rintro e w1 ⟨rfl, hb1⟩; replace hb1 := hid hb1)
  refine bodyPost_ret (v := .tuple #[.int .i64 n, .iface 135 (V e)]) (by simp [results, Tryd.results31, go_sem]) rfl ?_
  exact ⟨rfl, Bel.step hbq.out (Below.alloc hb1.out (hb1.out.size) _)⟩
 ·have cSy := hid (hSy.out g6)
  clear g6
  go_wp2_with (first | (go_at_call 48; (with_reducible refine (cSy.out _).mono ?_); rintro e w' ⟨rfl, rfl⟩) | (go_at_call 51; (with_reducible refine cA.out.mono ?_); rintro e w1 ⟨rfl, hb1⟩; replace hb1 := hid hb1))
  refine bodyPost_ret (v := .tuple #[.int .i64 n, .iface 135 (V e)]) (by simp [results, Tryd.results31, go_sem]) rfl ?_
  exact ⟨rfl, Bel.step hbq.out (Below.alloc hb1.out (hb1.out.size) _)⟩
end
end Go.Proofs.YtobbifhflnlplaaDoor
namespace Go.Proofs.YtobbifhflnlplaaDoor
open Lib (hid)
open Go.RowKit
open Go.Tree7
open S7
open S5 (nl nl_length nl_small at_nl nl_at Gives idx idx_at ix ix_no ix_yes)
section
variable {w0 : World} {B br : Nat} {s : ByteArray} {w : World} {gb gc : Nat} {g : Gr} {rest : List Gr} {V : Nat → Value}
set_option maxRecDepth 100000 in
set_option maxHeartbeats 16000000 in
theorem step_atom {bs ps : List T} {x : T} {p : List Op} {k n : Nat} (hk : Atm (nl s) k x n) (hm : s.size ≤ 99990) (hS : Six w V) (h : Rdr w0 B br s w gb gc (g :: rest) ((bs, ps) :: p)) (hno : g.ps.length = 0 ∨ ¬ IsMark (nl s) k) :
  Calls Tryd.prog 31 #[.pointer (some ⟨br, 0, none⟩), .int .i64 k] w (GivesSt w0 B br s n ((bs, ps ++ [x]) :: p)) := by
 obtain ⟨c, h0, n1, n2, n3⟩ := atm_c hk
 have g1 : ((c : Int) == 124) = false := by rw [beq_eq_false_iff_ne]; omega
 have g2 : ((c : Int) == 40) = false := by rw [beq_eq_false_iff_ne]; omega
 have g3 : ((c : Int) == 41) = false := by rw [beq_eq_false_iff_ne]; omega
 have g5 : decide (0 < g.ps.length) = false ∨ (decide (0 < g.ps.length) = true ∧ ¬ IsMark (nl s) k) := by
  rcases hno with e | e
  ·exact .inl (by rw [decide_eq_false_iff_not]; omega)
  ·by_cases h9 : 0 < g.ps.length
   ·exact .inr ⟨by rw [decide_eq_true_eq]; exact h9, e⟩
   ·exact .inl (by rw [decide_eq_false_iff_not]; exact h9)
 have hsf : Hid (∀ w', Bel w w' → Gives 51 #[.string s, .int .i64 k] (.tuple #[.agg x.cells.toArray, .int .i64 n, .nilIface]) w') := hid fun w' hb => atom_in hk hm w' (hS.bel hb)
 have hat3 : Hid (∀ W S, T.InP W S x) := hid fun W S => atm_tree hk W S
 have hstr : Hid (x.strip = x ∧ cutT x = x) := hid ⟨atm_plainT hk, cutT_atom hk⟩
 have hSy := hid (fun (h : ¬ IsMark (nl s) k) w => suffixed_no h0 h hm w)
 clear hk n1 n2 n3 hS hno
 obtain ⟨hlt, hat⟩ := at_nl h0
 have hkb : k ≤ 99990 := by omega
 obtain ⟨r, hr⟩ : ∃ r, r = rest.length := ⟨_, rfl⟩
 have x0 : w.cell? ⟨br, 0, none⟩ = some (.string s) := (cells_of h.box 0 _ rfl).1
 have x1 : w.cell? ⟨br, 1, none⟩ = some (.slice (some ⟨gb, 0, none⟩) (rest.length + 1) gc) := (cells_of h.box 1 _ rfl).1
 obtain ⟨hn1, hn2⟩ := h.size_le
 rw [List.length_cons] at hn1
 rw [← hr] at x1 hn1
 have hgc : gc ≤ 9223372036854775807 := by unfold maxLen at hn2; omega
 replace hr := hid hr
 have hnx := hid (fun w' (hb : Bel w w') => h.next hb)
 clear h h0 hn2 hm
 go_enter Tryd.func31, Tryd.ntmps31
 go_wp2
 go_quiet (fail)
 generalize hwq : World.drewN w _ = wq at *
 have hbq : Bel w wq := by rw [← hwq]; exact below_drewN (Below.refl _ _) _
 have hce : ∀ a, wq.cell? a = w.cell? a := fun a => by rw [← hwq]; rfl
 replace x0 := (hce _).trans x0
 replace x1 := (hce _).trans x1
 have hR := hid (hnx.out wq hbq)
 clear hwq hce hnx
 replace hbq := hid hbq
 obtain ⟨cur0, hcur0, -, hcp0, -⟩ := hR.out.row.top
 rw [← hr.out] at hcp0
 have y4 : wq.cell? ⟨gb, r * 2 + 1, none⟩ = some (.slice g.pp g.ps.length g.pc) := (cells_of hcur0 (r * 2 + 1) _ hcp0).1
 clear hcur0 hcp0
 have cA := hsf.out wq hbq.out
 obtain ⟨k9, u0, u1, u2, u3, px, cx, mn, mx, tx, ts⟩ := x
 unfold Gives at cA
 simp only [T.cells] at cA
 replace cA := hid cA
 clear hsf
 rcases g5 with g5 | ⟨g5, g6⟩
 ·go_wp2_with (go_at_call 51; (with_reducible refine cA.out.mono ?_); rintro e w1 ⟨rfl, hb1⟩; replace hb1 := hid hb1)
  obtain ⟨W, hW⟩ : ∃ W, W = w1.alloc (.cells #[.int .i64 k9, .int .u64 u0, .int .u64 u1, .int .u64 u2, .int .u64 u3, .slice px ts.length cx, .int .i64 mn, .int .i64 mx, .string tx] 27) := ⟨_, rfl⟩
  have hAl : Bel wq W := by rw [hW]; exact Below.alloc hb1.out hb1.out.size _
  have hbx : W.heap[w1.heap.size]? = some (.cells #[.int .i64 k9, .int .u64 u0, .int .u64 u1, .int .u64 u2, .int .u64 u3, .slice px ts.length cx, .int .i64 mn, .int .i64 mx, .string tx] 27 (0, 0)) := by rw [hW]; exact World.alloc_heap_new _ _
  rw [← hW]
  clear hW
  have hR3 := hR.out.next hAl
  have hT3 : T.InP W (Free W B (Rb br gb (g :: rest))) _ := hat3.out W _
  clear y4
  obtain ⟨cur, hcur, hcb, hcp, hrow⟩ := hR3.row.top
  rw [← hr.out] at hcb hcp
  clear hrow
  have hg2 := hR3.each g (by simp)
  obtain ⟨a1, a2, a3, a4⟩ := hR3.apart
  have hgbl := (Array.getElem?_eq_some_iff.1 hcur).1
  have hgbX : Hid (¬ g.pv.ownBlock = some gb) := hid fun e => (a2 gb (mem_blks.2 (.inr e))).1 rfl
  have y4 : W.cell? ⟨gb, r * 2 + 1, none⟩ = some (Value.slice g.pp g.ps.length g.pc) := (cells_of hcur (r * 2 + 1) _ hcp).1
  have hkb := cells_of hbx
  obtain ⟨z0, -⟩ := hkb 0 _ rfl; obtain ⟨z1, -⟩ := hkb 1 _ rfl; obtain ⟨z2, -⟩ := hkb 2 _ rfl; obtain ⟨z3, -⟩ := hkb 3 _ rfl; obtain ⟨z4, -⟩ := hkb 4 _ rfl; obtain ⟨z5, -⟩ := hkb 5 _ rfl; obtain ⟨z6, -⟩ := hkb 6 _ rfl; obtain ⟨z7, -⟩ := hkb 7 _ rfl; obtain ⟨z8, -⟩ := hkb 8 _ rfl
  clear hkb
  obtain ⟨L2, hL2e⟩ : ∃ L, L = g.ps.take 600 ++ [T.mk k9 u0 u1 u2 u3 px cx mn mx tx ts] := ⟨_, rfl⟩
  have cW : ∀ w', Bel W w' → Calls Tryd.prog 52 #[(Value.slice g.pp g.ps.length g.pc), .agg #[.int .i64 k9, .int .u64 u0, .int .u64 u1, .int .u64 u2, .int .u64 u3, .slice px ts.length cx, .int .i64 mn, .int .i64 mx, .string tx]] w' (GivesLst B (Value.slice g.pp g.ps.length g.pc) L2 w') := fun w' hb => by
   rw [hL2e]
   exact with_in (T.mk k9 u0 u1 u2 u3 px cx mn mx tx ts) w' (hg2.pl.bel hb) (Nat.le_trans hR3.base hb.size) hg2.pn
  replace cW := hid cW
  replace hL2e := hid hL2e
  replace hR3 := hid hR3
  replace hT3 := hid hT3
  replace hcp := hid hcp
  replace hcur := hid hcur
  have hq := hid (show Bel W W.drew from (Below.refl _ _).drew)
  clear hbx hcb hg2 a1 a2 a3 a4
  go_region_with (go_at_call 52; (with_reducible refine (cW.out _ hq.out).mono ?_); rintro e w3 ⟨v3, rfl, hL3, hF3, hN3⟩; obtain ⟨pv3, cv3, rfl, -⟩ := row_form hL3; have hk3 : w3.heap[gb]? = some (.cells cur 70 (0, 0)) := (hF3.block gb hgbl hgbX.out).trans hcur.out; obtain ⟨y6, f6⟩ := cells_of hk3 (r * 2 + 1) _ hcp.out; replace hL3 := hid hL3; replace hF3 := hid hF3; replace hN3 := hid hN3; clear hk3)
  all_goals
   go_wp2
   refine bodyPost_ret (v := .tuple #[.int .i64 n, .nilIface]) (by simp [results, Tryd.results31, go_sem]) rfl ?_
   have hRd := hR3.out.next hq.out
   have hTd : T.InP W.drew (Free W.drew B (Rb br gb (g :: rest))) (T.mk k9 u0 u1 u2 u3 px cx mn mx tx ts) := hat3.out _ _
   have e := hL2e.out
   subst e
   obtain ⟨g', hfin⟩ := hRd.add (x := T.mk k9 u0 u1 u2 u3 px cx mn mx tx ts) hL3.out hF3.out hN3.out hTd (hstr.out.1.trans hstr.out.2.symm)
   rw [← hr.out] at hfin
   exact ⟨gb, gc, _, rfl, hfin⟩
 ·have cSy := hid (hSy.out g6)
  clear g6
  go_wp2_with (first | (go_at_call 48; (with_reducible refine (cSy.out _).mono ?_); rintro e w' ⟨rfl, rfl⟩) | (go_at_call 51; (with_reducible refine cA.out.mono ?_); rintro e w1 ⟨rfl, hb1⟩; replace hb1 := hid hb1))
  obtain ⟨W, hW⟩ : ∃ W, W = w1.alloc (.cells #[.int .i64 k9, .int .u64 u0, .int .u64 u1, .int .u64 u2, .int .u64 u3, .slice px ts.length cx, .int .i64 mn, .int .i64 mx, .string tx] 27) := ⟨_, rfl⟩
  have hAl : Bel wq W := by rw [hW]; exact Below.alloc hb1.out hb1.out.size _
  have hbx : W.heap[w1.heap.size]? = some (.cells #[.int .i64 k9, .int .u64 u0, .int .u64 u1, .int .u64 u2, .int .u64 u3, .slice px ts.length cx, .int .i64 mn, .int .i64 mx, .string tx] 27 (0, 0)) := by rw [hW]; exact World.alloc_heap_new _ _
  rw [← hW]
  clear hW
  have hR3 := hR.out.next hAl
  have hT3 : T.InP W (Free W B (Rb br gb (g :: rest))) _ := hat3.out W _
  clear y4
  obtain ⟨cur, hcur, hcb, hcp, hrow⟩ := hR3.row.top
  rw [← hr.out] at hcb hcp
  clear hrow
  have hg2 := hR3.each g (by simp)
  obtain ⟨a1, a2, a3, a4⟩ := hR3.apart
  have hgbl := (Array.getElem?_eq_some_iff.1 hcur).1
  have hgbX : Hid (¬ g.pv.ownBlock = some gb) := hid fun e => (a2 gb (mem_blks.2 (.inr e))).1 rfl
  have y4 : W.cell? ⟨gb, r * 2 + 1, none⟩ = some (Value.slice g.pp g.ps.length g.pc) := (cells_of hcur (r * 2 + 1) _ hcp).1
  have hkb := cells_of hbx
  obtain ⟨z0, -⟩ := hkb 0 _ rfl; obtain ⟨z1, -⟩ := hkb 1 _ rfl; obtain ⟨z2, -⟩ := hkb 2 _ rfl; obtain ⟨z3, -⟩ := hkb 3 _ rfl; obtain ⟨z4, -⟩ := hkb 4 _ rfl; obtain ⟨z5, -⟩ := hkb 5 _ rfl; obtain ⟨z6, -⟩ := hkb 6 _ rfl; obtain ⟨z7, -⟩ := hkb 7 _ rfl; obtain ⟨z8, -⟩ := hkb 8 _ rfl
  clear hkb
  obtain ⟨L2, hL2e⟩ : ∃ L, L = g.ps.take 600 ++ [T.mk k9 u0 u1 u2 u3 px cx mn mx tx ts] := ⟨_, rfl⟩
  have cW : ∀ w', Bel W w' → Calls Tryd.prog 52 #[(Value.slice g.pp g.ps.length g.pc), .agg #[.int .i64 k9, .int .u64 u0, .int .u64 u1, .int .u64 u2, .int .u64 u3, .slice px ts.length cx, .int .i64 mn, .int .i64 mx, .string tx]] w' (GivesLst B (Value.slice g.pp g.ps.length g.pc) L2 w') := fun w' hb => by
   rw [hL2e]
   exact with_in (T.mk k9 u0 u1 u2 u3 px cx mn mx tx ts) w' (hg2.pl.bel hb) (Nat.le_trans hR3.base hb.size) hg2.pn
  replace cW := hid cW
  replace hL2e := hid hL2e
  replace hR3 := hid hR3
  replace hT3 := hid hT3
  replace hcp := hid hcp
  replace hcur := hid hcur
  have hq := hid (show Bel W W.drew from (Below.refl _ _).drew)
  clear hbx hcb hg2 a1 a2 a3 a4
  go_region_with (go_at_call 52; (with_reducible refine (cW.out _ hq.out).mono ?_); rintro e w3 ⟨v3, rfl, hL3, hF3, hN3⟩; obtain ⟨pv3, cv3, rfl, -⟩ := row_form hL3; have hk3 : w3.heap[gb]? = some (.cells cur 70 (0, 0)) := (hF3.block gb hgbl hgbX.out).trans hcur.out; obtain ⟨y6, f6⟩ := cells_of hk3 (r * 2 + 1) _ hcp.out; replace hL3 := hid hL3; replace hF3 := hid hF3; replace hN3 := hid hN3; clear hk3)
  all_goals
   go_wp2
   refine bodyPost_ret (v := .tuple #[.int .i64 n, .nilIface]) (by simp [results, Tryd.results31, go_sem]) rfl ?_
   have hRd := hR3.out.next hq.out
   have hTd : T.InP W.drew (Free W.drew B (Rb br gb (g :: rest))) (T.mk k9 u0 u1 u2 u3 px cx mn mx tx ts) := hat3.out _ _
   have e := hL2e.out
   subst e
   obtain ⟨g', hfin⟩ := hRd.add (x := T.mk k9 u0 u1 u2 u3 px cx mn mx tx ts) hL3.out hF3.out hN3.out hTd (hstr.out.1.trans hstr.out.2.symm)
   rw [← hr.out] at hfin
   exact ⟨gb, gc, _, rfl, hfin⟩
end
end Go.Proofs.YtobbifhflnlplaaDoor
