/- The program's shut. -/
import Derived.Test.YtjlmeegaiagfpaaDoorWE
namespace Go.Proofs.YtjlmeegaiagfpaaDoor
open Go.RowKit
open Go.Tree7
open S7
open S5 (nl nl_length nl_small at_nl nl_at Gives idx idx_at ix ix_no ix_yes)
/-- What a step gives back: the place behind, and what is open then. -/
def GivesSt (w0 : World) (B br : Nat) (s : ByteArray) (n : Nat) (p : List Op) (e : Ending) (w : World) : Prop :=
  ∃ gb gc gl, e = .returned (.tuple #[.int .i64 n, .nilIface]) ∧ Rdr w0 B br s w gb gc gl p
section
variable {w0 : World} {B br : Nat} {s : ByteArray} {w : World} {gb gc : Nat}
theorem Rdr.size_le {gl : List Gr} {p : List Op} (h : Rdr w0 B br s w gb gc gl p) : gl.length ≤ gc ∧ gc ≤ maxLen := by
  obtain ⟨cur, -, -, h1, h2, -⟩ := h.row
  exact ⟨h1, h2⟩
theorem Pop.cell {rest : List Gr} {p : List Op} {t : T} (h : Pop w0 B br s w gb gc rest p t) : w.cell? ⟨br, 1, none⟩ = some (.slice (some ⟨gb, 0, none⟩) (rest.length + 1) gc) ∧ w.frozen? ⟨br, 1, none⟩ = false := cells_of h.box 1 _ rfl
set_option maxRecDepth 100000 in
set_option maxHeartbeats 8000000 in
theorem shut_err {g : Gr} {o : Op} {p : List Op} (k : Nat) (_ : k ≤ 99990) (h : Rdr w0 B br s w gb gc [g] (o :: p)) {E : Value} (hE : w.cell? ⟨5, 0, none⟩ = some E) :
    Calls Tryd.prog 37 #[.pointer (some ⟨br, 0, none⟩), .int .i64 k] w fun e w' => e = .returned (.tuple #[.int .i64 k, E]) ∧ Bel w w' := by
  have x1 : w.cell? ⟨br, 1, none⟩ = some (.slice (some ⟨gb, 0, none⟩) 1 gc) := (cells_of h.box 1 _ rfl).1
  clear h
  go_enter Tryd.func37, Tryd.ntmps37
  go_wp2
  go_quiet (fail)
  go_wp2
  refine bodyPost_ret (v := .tuple #[.int .i64 k, E]) (by simp [results, Tryd.results37, go_sem]) rfl ?_
  exact ⟨rfl, below_drewN (Below.refl _ _) _⟩
set_option maxRecDepth 100000 in
set_option maxHeartbeats 8000000 in
theorem shut_ok {g1 g2 : Gr} {rest : List Gr} {o : Op} {bs ps : List T} {p : List Op} (k : Nat) (hk : k ≤ 99990) (h : Rdr w0 B br s w gb gc (g1 :: g2 :: rest) (o :: (bs, ps) :: p)) :
    Calls Tryd.prog 37 #[.pointer (some ⟨br, 0, none⟩), .int .i64 k] w (GivesSt w0 B br s (k + 1) ((bs, ps ++ [closedT o]) :: p)) := by
  have x1 : w.cell? ⟨br, 1, none⟩ = some (.slice (some ⟨gb, 0, none⟩) (rest.length + 1 + 1) gc) := (cells_of h.box 1 _ rfl).1
  obtain ⟨hn1, hn2⟩ := h.size_le
  have cWh := h.whole_in
  obtain ⟨r2, hr2⟩ : ∃ r2, r2 = rest.length := ⟨_, rfl⟩
  simp only [List.length_cons] at hn1 cWh
  rw [← hr2] at x1 hn1 cWh
  have hr : r2 ≤ 9223372036854775807 := by unfold maxLen at hn2; omega
  have hgc : gc ≤ 9223372036854775807 := by unfold maxLen at hn2; omega
  replace cWh := Lib.hid cWh
  replace hr2 := Lib.hid hr2
  clear hn2 h
  go_enter Tryd.func37, Tryd.ntmps37
  go_wp2_with (go_at_call 19; (with_reducible refine cWh.out.mono ?_); rintro e w1 ⟨t, rfl, hstr, hpop⟩; obtain ⟨k9, u0, u1, u2, u3, px, cx, mn, mx, tx, ts⟩ := t; simp only [T.cells]; have hz := hpop.cell; rw [List.length_cons, ← hr2.out] at hz; obtain ⟨z1, f1⟩ := hz; have hbr := (Array.getElem?_eq_some_iff.1 hpop.box).1; replace hpop := Lib.hid hpop; replace hstr := Lib.hid hstr)
  obtain ⟨hR2, hT2⟩ := hpop.out.known
  rw [List.length_cons, ← hr2.out] at hR2 hT2
  have hAl : Bel (w1.setCell ⟨br, 1, none⟩ (.slice (some ⟨gb, 0, none⟩) (r2 + 1) gc)) ((w1.setCell ⟨br, 1, none⟩ (.slice (some ⟨gb, 0, none⟩) (r2 + 1) gc)).alloc (.cells #[.int .i64 k9, .int .u64 u0, .int .u64 u1, .int .u64 u2, .int .u64 u3, .slice px ts.length cx, .int .i64 mn, .int .i64 mx, .string tx] 28)) := (Below.refl _ _).alloc (Nat.le_refl _) _
  have hR3 := hR2.next hAl
  have hT3 : T.InP _ _ _ := inP_fr (X := fun _ => False) (R' := Rb br gb (g2 :: rest)) hT2 (Fr.of_bel hAl) (fun _ h => h.elim) (fun b hb => .inl hb)
  have hbx : ((w1.setCell ⟨br, 1, none⟩ (.slice (some ⟨gb, 0, none⟩) (r2 + 1) gc)).alloc (.cells #[.int .i64 k9, .int .u64 u0, .int .u64 u1, .int .u64 u2, .int .u64 u3, .slice px ts.length cx, .int .i64 mn, .int .i64 mx, .string tx] 28)).heap[w1.heap.size]? = some (.cells #[.int .i64 k9, .int .u64 u0, .int .u64 u1, .int .u64 u2, .int .u64 u3, .slice px ts.length cx, .int .i64 mn, .int .i64 mx, .string tx] 28 (0, 0)) := by
    have := World.alloc_heap_new (w1.setCell ⟨br, 1, none⟩ (.slice (some ⟨gb, 0, none⟩) (r2 + 1) gc)) (.cells #[.int .i64 k9, .int .u64 u0, .int .u64 u1, .int .u64 u2, .int .u64 u3, .slice px ts.length cx, .int .i64 mn, .int .i64 mx, .string tx] 28)
    rw [size_set] at this
    exact this
  generalize World.alloc (World.setCell w1 _ _) _ = W at *
  obtain ⟨cur, hcur, hcb, hcp, hrow⟩ := hR3.row.top
  rw [← hr2.out] at hcb hcp
  clear hrow hR2 hT2 hAl z1 f1 hbr hpop cWh x1
  have hg2 := hR3.each g2 (by simp)
  obtain ⟨a1, a2, a3, a4⟩ := hR3.apart
  have hgbl := (Array.getElem?_eq_some_iff.1 hcur).1
  have hgbX : Hid (¬ g2.pv.ownBlock = some gb) := Lib.hid fun e => (a2 gb (mem_blks.2 (.inr e))).1 rfl
  have y4 : W.cell? ⟨gb, r2 * 2 + 1, none⟩ = some (Value.slice g2.pp g2.ps.length g2.pc) := (cells_of hcur (r2 * 2 + 1) _ hcp).1
  have hkb := cells_of hbx
  obtain ⟨z0, -⟩ := hkb 0 _ rfl; obtain ⟨z1, -⟩ := hkb 1 _ rfl; obtain ⟨z2, -⟩ := hkb 2 _ rfl; obtain ⟨z3, -⟩ := hkb 3 _ rfl; obtain ⟨z4, -⟩ := hkb 4 _ rfl; obtain ⟨z5, -⟩ := hkb 5 _ rfl; obtain ⟨z6, -⟩ := hkb 6 _ rfl; obtain ⟨z7, -⟩ := hkb 7 _ rfl; obtain ⟨z8, -⟩ := hkb 8 _ rfl
  clear hkb
  obtain ⟨L2, hL2e⟩ : ∃ L, L = g2.ps.take 600 ++ [T.mk k9 u0 u1 u2 u3 px cx mn mx tx ts] := ⟨_, rfl⟩
  have cW : ∀ w', Bel W w' → Calls Tryd.prog 42 #[(Value.slice g2.pp g2.ps.length g2.pc), .agg #[.int .i64 k9, .int .u64 u0, .int .u64 u1, .int .u64 u2, .int .u64 u3, .slice px ts.length cx, .int .i64 mn, .int .i64 mx, .string tx]] w' (GivesLst B (Value.slice g2.pp g2.ps.length g2.pc) L2 w') := fun w' hb => by
    rw [hL2e]
    exact with_in (T.mk k9 u0 u1 u2 u3 px cx mn mx tx ts) w' (hg2.pl.bel hb) (Nat.le_trans hR3.base hb.size) hg2.pn
  replace cW := Lib.hid cW
  replace hL2e := Lib.hid hL2e
  replace hR3 := Lib.hid hR3
  replace hT3 := Lib.hid hT3
  replace hcp := Lib.hid hcp
  replace hcur := Lib.hid hcur
  have hq := Lib.hid (show Bel W W.drew from (Below.refl _ _).drew)
  clear hbx hcb hg2 a1 a2 a3 a4
  go_region_with (go_at_call 42; (with_reducible refine (cW.out _ hq.out).mono ?_); rintro e w3 ⟨v3, rfl, hL3, hF3, hN3⟩; obtain ⟨pv3, cv3, rfl, -⟩ := row_form hL3; have hk3 : w3.heap[gb]? = some (.cells cur 54 (0, 0)) := (hF3.block gb hgbl hgbX.out).trans hcur.out; obtain ⟨y6, f6⟩ := cells_of hk3 (r2 * 2 + 1) _ hcp.out; replace hL3 := Lib.hid hL3; replace hF3 := Lib.hid hF3; replace hN3 := Lib.hid hN3; clear hk3)
  all_goals
    go_wp2
    refine bodyPost_ret (v := .tuple #[.int .i64 ((k : Int) + 1), .nilIface]) (by simp [results, Tryd.results37, go_sem]) rfl ?_
    have hRd := hR3.out.next hq.out
    have hTd : T.InP _ _ _ := inP_fr (X := fun _ => False) (R' := Rb br gb (g2 :: rest)) hT3.out (Fr.of_bel hq.out) (fun _ h => h.elim) (fun b hb => .inl hb)
    have e := hL2e.out
    subst e
    obtain ⟨g', hfin⟩ := hRd.add (x := closedT o) hL3.out hF3.out hN3.out hTd hstr.out
    rw [← hr2.out] at hfin
    exact ⟨gb, gc, _, by rw [Int.natCast_add]; rfl, hfin⟩
end
end Go.Proofs.YtjlmeegaiagfpaaDoor
