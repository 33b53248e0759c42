/- A step of the reading: a bar, a round bracket. -/
import Derived.Test.YtjlmeegaiagfpaaDoorW22
namespace Go.Proofs.YtjlmeegaiagfpaaDoor
open Go.RowKit
open Go.Tree7
open S7
open S5 (nl nl_length nl_small at_nl nl_at Gives idx idx_at ix ix_no ix_yes)
theorem infoG : (Tryd.prog.info? 54).map (fun i => (i.zero, i.size, i.bytes)) = some (some (.agg #[.slice none 0 0, .slice none 0 0]), 2, 48) := by kernel_rfl
section
variable {w0 : World} {B br : Nat} {s : ByteArray} {w : World} {gb gc : Nat} {g : Gr} {rest : List Gr}
set_option maxRecDepth 100000 in
set_option maxHeartbeats 8000000 in
theorem step_bar {bs ps : List T} {p : List Op} {k : Nat} (h0 : (nl s)[k]? = some 124) (hm : s.size ≤ 99990) (h : Rdr w0 B br s w gb gc (g :: rest) ((bs, ps) :: p)) :
    Calls Tryd.prog 18 #[.pointer (some ⟨br, 0, none⟩), .int .i64 k] w (GivesSt w0 B br s (k + 1) ((bs ++ [catT ps], []) :: p)) := by
  obtain ⟨hlt, hat⟩ := at_nl h0
  have hkb : k ≤ 99990 := by omega
  obtain ⟨r, hr⟩ : ∃ r, r = rest.length := ⟨_, rfl⟩
  have x0 : w.cell? ⟨br, 0, none⟩ = some (.string s) := (cells_of h.box 0 _ rfl).1
  have x1 : w.cell? ⟨br, 1, none⟩ = some (.slice (some ⟨gb, 0, none⟩) (rest.length + 1) gc) := (cells_of h.box 1 _ rfl).1
  obtain ⟨hn1, hn2⟩ := h.size_le
  rw [List.length_cons] at hn1
  rw [← hr] at x1 hn1
  have hgc : gc ≤ 9223372036854775807 := by unfold maxLen at hn2; omega
  replace hr := Lib.hid hr
  have hnx := Lib.hid (fun w' (hb : Bel w w') => h.next hb)
  clear h h0 hn2 hm
  go_enter Tryd.func18, Tryd.ntmps18
  go_wp2
  go_quiet (fail)
  generalize hwq : World.drewN w _ = wq at *
  have hbq : Bel w wq := by rw [← hwq]; exact below_drewN (Below.refl _ _) _
  have hce : ∀ a, wq.cell? a = w.cell? a := fun a => by rw [← hwq]; rfl
  replace x0 := (hce _).trans x0
  replace x1 := (hce _).trans x1
  have hR := Lib.hid (hnx.out wq hbq)
  clear hwq hce hnx
  replace hbq := Lib.hid hbq
  have cC := hR.out.cut_in
  rw [← hr.out] at cC
  replace cC := Lib.hid cC
  go_wp2_with (go_at_call 36; (with_reducible refine cC.out.mono ?_); rintro e w1 ⟨rfl, g', hR1⟩; replace hR1 := Lib.hid hR1)
  refine bodyPost_ret (v := .tuple #[.int .i64 ((k : Int) + 1), .nilIface]) (by simp [results, Tryd.results18, go_sem]) rfl ?_
  exact ⟨gb, gc, _, by rw [Int.natCast_add]; rfl, hR1.out⟩
set_option maxRecDepth 100000 in
set_option maxHeartbeats 8000000 in
theorem step_close {g2 : Gr} {o : Op} {bs ps : List T} {p : List Op} {k : Nat} (h0 : (nl s)[k]? = some 41) (hm : s.size ≤ 99990) (h : Rdr w0 B br s w gb gc (g :: g2 :: rest) (o :: (bs, ps) :: p)) :
    Calls Tryd.prog 18 #[.pointer (some ⟨br, 0, none⟩), .int .i64 k] w (GivesSt w0 B br s (k + 1) ((bs, ps ++ [closedT o]) :: p)) := by
  obtain ⟨hlt, hat⟩ := at_nl h0
  have hkb : k ≤ 99990 := by omega
  obtain ⟨r, hr⟩ : ∃ r, r = (g2 :: rest).length := ⟨_, rfl⟩
  have x0 : w.cell? ⟨br, 0, none⟩ = some (.string s) := (cells_of h.box 0 _ rfl).1
  have x1 : w.cell? ⟨br, 1, none⟩ = some (.slice (some ⟨gb, 0, none⟩) ((g2 :: rest).length + 1) gc) := (cells_of h.box 1 _ rfl).1
  obtain ⟨hn1, hn2⟩ := h.size_le
  rw [List.length_cons] at hn1
  rw [← hr] at x1 hn1
  have hgc : gc ≤ 9223372036854775807 := by unfold maxLen at hn2; omega
  replace hr := Lib.hid hr
  have hnx := Lib.hid (fun w' (hb : Bel w w') => h.next hb)
  clear h h0 hn2 hm
  go_enter Tryd.func18, Tryd.ntmps18
  go_wp2
  go_quiet (fail)
  generalize hwq : World.drewN w _ = wq at *
  have hbq : Bel w wq := by rw [← hwq]; exact below_drewN (Below.refl _ _) _
  have hce : ∀ a, wq.cell? a = w.cell? a := fun a => by rw [← hwq]; rfl
  replace x0 := (hce _).trans x0
  replace x1 := (hce _).trans x1
  have hR := Lib.hid (hnx.out wq hbq)
  clear hwq hce hnx
  replace hbq := Lib.hid hbq
  have cS := Lib.hid (shut_ok k hkb hR.out)
  unfold GivesSt at cS
  go_wp2_with (go_at_call 37; (with_reducible refine cS.out.mono ?_); rintro e w1 ⟨gb1, gc1, gl1, rfl, hR1⟩; replace hR1 := Lib.hid hR1)
  refine bodyPost_ret (v := .tuple #[.int .i64 ((k + 1 : Nat) : Int), .nilIface]) (by simp [results, Tryd.results18, go_sem]) rfl ?_
  exact ⟨gb1, gc1, gl1, rfl, hR1.out⟩
set_option maxRecDepth 100000 in
set_option maxHeartbeats 8000000 in
theorem step_noopen {o : Op} {p : List Op} {k : Nat} (h0 : (nl s)[k]? = some 41) (hm : s.size ≤ 99990) (h : Rdr w0 B br s w gb gc [g] (o :: p)) {E : Value} (hE : w.cell? ⟨5, 0, none⟩ = some E) :
    Calls Tryd.prog 18 #[.pointer (some ⟨br, 0, none⟩), .int .i64 k] w fun e w' => e = .returned (.tuple #[.int .i64 k, E]) ∧ Bel w w' := by
  obtain ⟨hlt, hat⟩ := at_nl h0
  have hkb : k ≤ 99990 := by omega
  obtain ⟨r, hr⟩ : ∃ r, r = ([] : List Gr).length := ⟨_, rfl⟩
  have x0 : w.cell? ⟨br, 0, none⟩ = some (.string s) := (cells_of h.box 0 _ rfl).1
  have x1 : w.cell? ⟨br, 1, none⟩ = some (.slice (some ⟨gb, 0, none⟩) (([] : List Gr).length + 1) gc) := (cells_of h.box 1 _ rfl).1
  obtain ⟨hn1, hn2⟩ := h.size_le
  rw [List.length_cons] at hn1
  rw [← hr] at x1 hn1
  have hgc : gc ≤ 9223372036854775807 := by unfold maxLen at hn2; omega
  replace hr := Lib.hid hr
  have hnx := Lib.hid (fun w' (hb : Bel w w') => h.next hb)
  clear h h0 hn2 hm
  go_enter Tryd.func18, Tryd.ntmps18
  go_wp2
  go_quiet (fail)
  generalize hwq : World.drewN w _ = wq at *
  have hbq : Bel w wq := by rw [← hwq]; exact below_drewN (Below.refl _ _) _
  have hce : ∀ a, wq.cell? a = w.cell? a := fun a => by rw [← hwq]; rfl
  replace x0 := (hce _).trans x0
  replace x1 := (hce _).trans x1
  have hR := Lib.hid (hnx.out wq hbq)
  replace hE := (hce _).trans hE
  clear hwq hce hnx
  replace hbq := Lib.hid hbq
  have cS := Lib.hid (shut_err k hkb hR.out hE)
  go_wp2_with (go_at_call 37; (with_reducible refine cS.out.mono ?_); rintro e w1 ⟨rfl, hb1⟩; replace hb1 := Lib.hid hb1)
  refine bodyPost_ret (v := .tuple #[.int .i64 k, E]) (by simp [results, Tryd.results18, go_sem]) rfl ?_
  exact ⟨rfl, Bel.step hbq.out hb1.out⟩
set_option maxRecDepth 100000 in
set_option maxHeartbeats 8000000 in
theorem step_open {p : List Op} {k : Nat} (h0 : (nl s)[k]? = some 40) (hm : s.size ≤ 99990) (hd : rest.length ≤ 99990) (h : Rdr w0 B br s w gb gc (g :: rest) p) :
    Calls Tryd.prog 18 #[.pointer (some ⟨br, 0, none⟩), .int .i64 k] w (GivesSt w0 B br s (k + 1) (([], []) :: p)) := by
  obtain ⟨hlt, hat⟩ := at_nl h0
  have hkb : k ≤ 99990 := by omega
  obtain ⟨r, hr⟩ : ∃ r, r = rest.length := ⟨_, rfl⟩
  have x0 : w.cell? ⟨br, 0, none⟩ = some (.string s) := (cells_of h.box 0 _ rfl).1
  have x1 : w.cell? ⟨br, 1, none⟩ = some (.slice (some ⟨gb, 0, none⟩) (rest.length + 1) gc) := (cells_of h.box 1 _ rfl).1
  obtain ⟨hn1, hn2⟩ := h.size_le
  rw [List.length_cons] at hn1
  rw [← hr] at x1 hn1
  have hgc : gc ≤ 9223372036854775807 := by unfold maxLen at hn2; omega
  replace hr := Lib.hid hr
  have hnx := Lib.hid (fun w' (hb : Bel w w') => h.next hb)
  clear h h0 hn2 hm
  go_enter Tryd.func18, Tryd.ntmps18
  go_wp2
  go_quiet (fail)
  generalize hwq : World.drewN w _ = wq at *
  have hbq : Bel w wq := by rw [← hwq]; exact below_drewN (Below.refl _ _) _
  have hce : ∀ a, wq.cell? a = w.cell? a := fun a => by rw [← hwq]; rfl
  replace x0 := (hce _).trans x0
  replace x1 := (hce _).trans x1
  have hR := Lib.hid (hnx.out wq hbq)
  clear hwq hce hnx
  replace hbq := Lib.hid hbq
  obtain ⟨i0, hi, hz0, hz1, hz2⟩ := info_parts infoG
  replace hi := Lib.hid hi
  replace hz0 := Lib.hid hz0
  replace hz1 := Lib.hid hz1
  replace hz2 := Lib.hid hz2
  obtain ⟨gl, hgl⟩ : ∃ gl, gl = g :: rest := ⟨_, rfl⟩
  have hgll : gl.length = r + 1 := by rw [hgl, List.length_cons, hr.out]
  have hlr : r ≤ 99990 := by rw [hr.out]; exact hd
  rw [← hgl] at hR
  have hgn : Hid (gl ≠ []) := Lib.hid (by rw [hgl]; simp)
  have hown := hR.out.row.owns
  have hbx := hR.out.box
  rw [hgll] at hown hbx
  have hbr := (Array.getElem?_eq_some_iff.1 hbx).1
  have hsep := hR.out.sep
  unfold Rb at hsep
  simp only [List.nodup_cons, List.mem_cons, not_or] at hsep
  have hbg : Hid (br ≠ gb) := Lib.hid fun e => hsep.1.1 e.symm
  have hBw := hR.out.base
  replace hown := Lib.hid hown
  replace hbx := Lib.hid hbx
  replace hgll := Lib.hid hgll
  clear hsep hgl hd hr
  go_wp2_with (at_builtin; refine wpList_append_own_at _ rfl _ _ 48 rfl B 54 i0 (.agg #[.slice none 0 0, .slice none 0 0]) 2 48 Tryd.underlying48 hi.out hz0.out hz1.out hz2.out rfl (by decide) _ (r + 1) (gl.reverse.flatMap Gr.cells) rfl (hown.out.alloc _) ⟨_, 0, none⟩ 1 1 [.slice none 0 0, .slice none 0 0] rfl rfl (cells_new rfl) (by simp [Value.oneCell']) (by simp only [maxLen]; omega) (by omega) (by simp; omega) ?_; intro v' w9 hown' hgrow hnil hat9; clear hnil; obtain ⟨pv2, cv2, rfl, -⟩ := row_form hown'; have hk9 : w9.heap[br]? = some (.cells #[.string s, .slice (some ⟨gb, 0, none⟩) (r + 1) gc] 50 (0, 0)) := (hgrow.block br (by simp; omega) (fun e => hbg.out (Option.some.inj e))).trans ((Below.heap_alloc _ _ _ hbr).trans hbx.out); obtain ⟨z1, f1⟩ : w9.cell? ⟨br, 1, none⟩ = some (.slice (some ⟨gb, 0, none⟩) (r + 1) gc) ∧ w9.frozen? ⟨br, 1, none⟩ = false := cells_of hk9 1 _ rfl; clear hk9; replace hown' := Lib.hid hown'; replace hat9 := Lib.hid hat9; have hgr : World.grownBy (wq.alloc (.cells #[.slice none 0 0, .slice none 0 0] 54)) w9 (Value.slice (some ⟨gb, 0, none⟩) (r + 1) gc).ownBlock := hgrow; clear hgrow; replace hgr := Lib.hid hgr)
  refine bodyPost_ret (v := .tuple #[.int .i64 ((k : Int) + 1), .nilIface]) (by simp [results, Tryd.results18, go_sem]) rfl ?_
  have hRA := hR.out.next ((Below.refl wq.heap.size wq).alloc (Nat.le_refl _) (.cells #[.slice none 0 0, .slice none 0 0] 54))
  obtain ⟨gb', gc', hfin⟩ := hRA.opened hgn.out (by rw [hgll.out]; exact hown'.out) (Fr.of_grown hgr.out (fun g e => (Option.some.inj e).symm)) (by
    rcases hat9.out with e | e
    · exact .inl e
    · exact .inr ⟨_, e, Nat.le_refl _⟩)
  exact ⟨gb', gc', _, by rw [Int.natCast_add]; rfl, hfin⟩
end
end Go.Proofs.YtjlmeegaiagfpaaDoor
