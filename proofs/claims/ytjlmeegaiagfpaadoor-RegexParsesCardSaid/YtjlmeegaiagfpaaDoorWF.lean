/- Texts of earlier layers, merged: W24, W25. -/
import Derived.Test.YtjlmeegaiagfpaaDoorW23
namespace Go.Proofs.YtjlmeegaiagfpaaDoor
open Go.RowKit
open Go.Tree7
open S7
open S5 (nl nl_length nl_small at_nl nl_at Gives idx idx_at ix ix_no ix_yes)
theorem mk_at {l : List Nat} {k n e : Nat} {a b : Int} (h : Mk l k a b n e) : ∃ c, l[k]? = some c ∧ c ≠ 40 ∧ c ≠ 41 ∧ c ≠ 124 ∧ IsMark l k := by
  cases h with
  | star h => exact ⟨42, h, by decide, by decide, by decide, .inl h⟩
  | plus h => exact ⟨43, h, by decide, by decide, by decide, .inr (.inl h)⟩
  | opt h => exact ⟨63, h, by decide, by decide, by decide, .inr (.inr (.inl h))⟩
  | bounds _ _ _ _ h h2 h3 => exact ⟨123, h, by decide, by decide, by decide, .inr (.inr (.inr ⟨h, h2⟩))⟩
theorem atm_c {l : List Nat} {k n : Nat} {t : T} (h : Atm l k t n) : ∃ c, l[k]? = some c ∧ c ≠ 40 ∧ c ≠ 41 ∧ c ≠ 124 := by
  cases h with
  | br _ _ h => exact ⟨91, h, by decide, by decide, by decide⟩
  | dot h => exact ⟨46, h, by decide, by decide, by decide⟩
  | name _ h => exact ⟨123, h, by decide, by decide, by decide⟩
  | byte c _ _ h h2 => simp at h2; exact ⟨c, h, by omega, by omega, by omega⟩
theorem atmbad_c {l : List Nat} {k : Nat} {n : Int} {e : Nat} (h : AtmBad l k n e) : ∃ c, l[k]? = some c ∧ c ≠ 40 ∧ c ≠ 41 ∧ c ≠ 124 := by
  cases h with
  | form c h h2 => simp at h2; exact ⟨c, h, by omega, by omega, by omega⟩
  | br _ _ _ h => exact ⟨91, h, by decide, by decide, by decide⟩
  | short h => exact ⟨123, h, by decide, by decide, by decide⟩
  | name _ h => exact ⟨123, h, by decide, by decide, by decide⟩
  | byte c _ _ _ h h2 => simp at h2; exact ⟨c, h, by omega, by omega, by omega⟩
theorem atm_tree {l : List Nat} {k n : Nat} {t : T} (h : Atm l k t n) (w : World) (S : Nat → Prop) : T.InP w S t := by
  have leaf : ∀ f : Nat → Bool, T.InP w S (leafT f) := fun f => .mk (Nat.le_refl _) (Nat.zero_le _) ⟨by decide, ⟨wf_nat (S1.wd_lt f 0), wf_nat (S1.wd_lt f 1), wf_nat (S1.wd_lt f 2), wf_nat (S1.wd_lt f 3)⟩, by decide, by decide, by decide⟩ (fun i hi => by simp at hi) (fun t ht => by simp at ht)
  cases h with
  | br => exact leaf _
  | dot => exact leaf _
  | name tx _ _ _ h =>
    refine .mk (Nat.le_refl _) (Nat.zero_le _) ⟨by decide, ⟨by decide, by decide, by decide, by decide⟩, by decide, by decide, ?_⟩ (fun i hi => by simp at hi) (fun t ht => by simp at ht)
    have := h.2.1
    rw [nl_length] at this
    unfold maxLen
    omega
  | byte => exact leaf _
theorem atm_plainT {l : List Nat} {k n : Nat} {t : T} (h : Atm l k t n) : t.strip = t := by
  have leaf : ∀ f : Nat → Bool, (leafT f).strip = leafT f := fun f => by unfold leafT; rw [T.strip_mk]; rfl
  cases h with
  | br => exact leaf _
  | dot => exact leaf _
  | name => unfold tN; rw [T.strip_mk]; rfl
  | byte => exact leaf _
section
variable {w0 : World} {B br : Nat} {s : ByteArray} {w : World} {gb gc : Nat} {g : Gr} {rest : List Gr} {V : Nat → Value}
/-- Pieces are there. -/
theorem Rdr.some {bs ps : List T} {x : T} {p : List Op} (h : Rdr w0 B br s w gb gc (g :: rest) ((bs, ps ++ [x]) :: p)) : 0 < g.ps.length := by
  have := congrArg List.length h.rel.1.2
  simp only [List.map_append, List.map_cons, List.map_nil] at this
  rw [cutL_snoc, List.length_map, List.length_append] at this
  simp only [List.length_cons, List.length_nil] at this
  omega
theorem Rdr.none {bs : List T} {p : List Op} (h : Rdr w0 B br s w gb gc (g :: rest) ((bs, []) :: p)) : g.ps.length = 0 := by
  have := congrArg List.length h.rel.1.2
  rw [List.length_map] at this
  exact this
set_option maxRecDepth 100000 in
set_option maxHeartbeats 8000000 in
theorem step_mark {bs ps : List T} {x : T} {p : List Op} {k n : Nat} {a b : Int} (hk : Mk (nl s) k a b n 0) (hm : s.size ≤ 99990) (hS : Six w V) (h : Rdr w0 B br s w gb gc (g :: rest) ((bs, ps ++ [x]) :: p)) :
    Calls Tryd.prog 18 #[.pointer (some ⟨br, 0, none⟩), .int .i64 k] w (GivesSt w0 B br s n ((bs, ps ++ [tR a b x]) :: p)) := by
  obtain ⟨c, h0, n1, n2, n3, hmk⟩ := mk_at hk
  have g1 : ((c : Int) == 124) = false := by rw [beq_eq_false_iff_ne]; omega
  have g2 : ((c : Int) == 40) = false := by rw [beq_eq_false_iff_ne]; omega
  have g3 : ((c : Int) == 41) = false := by rw [beq_eq_false_iff_ne]; omega
  have hps := h.some
  have g4 : decide (0 < g.ps.length) = true := by rw [decide_eq_true_eq]; exact hps
  have cSy := Lib.hid (fun w => suffixed_yes hmk hm w)
  obtain ⟨ha, hb, hab⟩ : 0 ≤ a ∧ a ≤ 40 ∧ (b = -1 ∨ a ≤ b ∧ 1 ≤ b ∧ b ≤ 40) := ⟨(mk_ok hk).1, (mk_ok hk).2.1, (mk_ok hk).2.2.1⟩
  have hwa : (Lit.int .i64 a).wf = true := WalkArith.wf_i64 (by omega)
  have hwb : (Lit.int .i64 b).wf = true := WalkArith.wf_i64 (by omega)
  have hsf : Hid (∀ w', Bel w w' → Gives 39 #[.string s, .int .i64 k] (.tuple #[.int .i64 a, .int .i64 b, .int .i64 n, .nilIface]) w') := Lib.hid fun w' hb => suffix_in hk hm w' (hS.bel hb)
  replace hwa := Lib.hid hwa
  replace hwb := Lib.hid hwb
  clear hk hmk n1 n2 n3 ha hb hab hS
  obtain ⟨hlt, hat⟩ := at_nl h0
  have hkb : k ≤ 99990 := by omega
  obtain ⟨r, hr⟩ : ∃ r, r = rest.length := ⟨_, rfl⟩
  have x0 : w.cell? ⟨br, 0, none⟩ = some (.string s) := (cells_of h.box 0 _ rfl).1
  have x1 : w.cell? ⟨br, 1, none⟩ = some (.slice (some ⟨gb, 0, none⟩) (rest.length + 1) gc) := (cells_of h.box 1 _ rfl).1
  obtain ⟨hn1, hn2⟩ := h.size_le
  rw [List.length_cons] at hn1
  rw [← hr] at x1 hn1
  have hgc : gc ≤ 9223372036854775807 := by unfold maxLen at hn2; omega
  replace hr := Lib.hid hr
  have hnx := Lib.hid (fun w' (hb : Bel w w') => h.next hb)
  clear h h0 hn2 hm
  go_enter Tryd.func18, Tryd.ntmps18
  go_wp2
  go_quiet (fail)
  generalize hwq : World.drewN w _ = wq at *
  have hbq : Bel w wq := by rw [← hwq]; exact below_drewN (Below.refl _ _) _
  have hce : ∀ a, wq.cell? a = w.cell? a := fun a => by rw [← hwq]; rfl
  replace x0 := (hce _).trans x0
  replace x1 := (hce _).trans x1
  have hR := Lib.hid (hnx.out wq hbq)
  clear hwq hce hnx
  replace hbq := Lib.hid hbq
  obtain ⟨cur0, hcur0, -, hcp0, -⟩ := hR.out.row.top
  rw [← hr.out] at hcp0
  have y4 : wq.cell? ⟨gb, r * 2 + 1, none⟩ = some (.slice g.pp g.ps.length g.pc) := (cells_of hcur0 (r * 2 + 1) _ hcp0).1
  clear hcur0 hcp0
  have cSf := hsf.out wq hbq.out
  unfold Gives at cSf
  replace cSf := Lib.hid cSf
  have cRp := Lib.hid (fun w' (hb : Bel wq w') => hr.out ▸ (hR.out.next hb).rep_in hwa.out hwb.out)
  clear hsf
  go_wp2_with (first | (go_at_call 38; (with_reducible refine (cSy.out _).mono ?_); rintro e w' ⟨rfl, rfl⟩) | (go_at_call 39; (with_reducible refine cSf.out.mono ?_); rintro e w1 ⟨rfl, hb1⟩; replace hb1 := Lib.hid hb1) | (go_at_call 40; have cR := cRp.out w1 hb1.out; (with_reducible refine cR.mono ?_); rintro e w2 ⟨rfl, g', hR2⟩; clear cR; replace hR2 := Lib.hid hR2))
  refine bodyPost_ret (v := .tuple #[.int .i64 n, .nilIface]) (by simp [results, Tryd.results18, go_sem]) rfl ?_
  exact ⟨gb, gc, _, rfl, hR2.out⟩
end
end Go.Proofs.YtjlmeegaiagfpaaDoor

namespace Go.Proofs.YtjlmeegaiagfpaaDoor
open Go.RowKit
open Go.Tree7
open S7
open S5 (nl nl_length nl_small at_nl nl_at Gives idx idx_at ix ix_no ix_yes)
section
variable {w0 : World} {B br : Nat} {s : ByteArray} {w : World} {gb gc : Nat} {g : Gr} {rest : List Gr} {V : Nat → Value}
set_option maxRecDepth 100000 in
set_option maxHeartbeats 8000000 in
theorem step_markbad {bs ps : List T} {x : T} {p : List Op} {k n e : Nat} {a b : Int} (hk : Mk (nl s) k a b n e) (he : e ≠ 0) (hm : s.size ≤ 99990) (hS : Six w V) (h : Rdr w0 B br s w gb gc (g :: rest) ((bs, ps ++ [x]) :: p)) :
    Calls Tryd.prog 18 #[.pointer (some ⟨br, 0, none⟩), .int .i64 k] w fun en w' => en = .returned (.tuple #[.int .i64 n, .iface 139 (V e)]) ∧ Bel w w' := by
  obtain ⟨c, h0, n1, n2, n3, hmk⟩ := mk_at hk
  have g1 : ((c : Int) == 124) = false := by rw [beq_eq_false_iff_ne]; omega
  have g2 : ((c : Int) == 40) = false := by rw [beq_eq_false_iff_ne]; omega
  have g3 : ((c : Int) == 41) = false := by rw [beq_eq_false_iff_ne]; omega
  have hps := h.some
  have g4 : decide (0 < g.ps.length) = true := by rw [decide_eq_true_eq]; exact hps
  have cSy := Lib.hid (fun w => suffixed_yes hmk hm w)
  have hsf : Hid (∀ w', Bel w w' → Gives 39 #[.string s, .int .i64 k] (.tuple #[.int .i64 a, .int .i64 b, .int .i64 n, .iface 139 (V e)]) w') := Lib.hid fun w' hb => by
    have := suffix_in hk hm w' (hS.bel hb)
    unfold errX at this
    rwa [if_neg he] at this
  clear hk hmk n1 n2 n3 hS he
  obtain ⟨hlt, hat⟩ := at_nl h0
  have hkb : k ≤ 99990 := by omega
  obtain ⟨r, hr⟩ : ∃ r, r = rest.length := ⟨_, rfl⟩
  have x0 : w.cell? ⟨br, 0, none⟩ = some (.string s) := (cells_of h.box 0 _ rfl).1
  have x1 : w.cell? ⟨br, 1, none⟩ = some (.slice (some ⟨gb, 0, none⟩) (rest.length + 1) gc) := (cells_of h.box 1 _ rfl).1
  obtain ⟨hn1, hn2⟩ := h.size_le
  rw [List.length_cons] at hn1
  rw [← hr] at x1 hn1
  have hgc : gc ≤ 9223372036854775807 := by unfold maxLen at hn2; omega
  replace hr := Lib.hid hr
  have hnx := Lib.hid (fun w' (hb : Bel w w') => h.next hb)
  clear h h0 hn2 hm
  go_enter Tryd.func18, Tryd.ntmps18
  go_wp2
  go_quiet (fail)
  generalize hwq : World.drewN w _ = wq at *
  have hbq : Bel w wq := by rw [← hwq]; exact below_drewN (Below.refl _ _) _
  have hce : ∀ a, wq.cell? a = w.cell? a := fun a => by rw [← hwq]; rfl
  replace x0 := (hce _).trans x0
  replace x1 := (hce _).trans x1
  have hR := Lib.hid (hnx.out wq hbq)
  clear hwq hce hnx
  replace hbq := Lib.hid hbq
  obtain ⟨cur0, hcur0, -, hcp0, -⟩ := hR.out.row.top
  rw [← hr.out] at hcp0
  have y4 : wq.cell? ⟨gb, r * 2 + 1, none⟩ = some (.slice g.pp g.ps.length g.pc) := (cells_of hcur0 (r * 2 + 1) _ hcp0).1
  clear hcur0 hcp0
  have cSf := hsf.out wq hbq.out
  unfold Gives at cSf
  replace cSf := Lib.hid cSf
  clear hsf
  go_wp2_with (first | (go_at_call 38; (with_reducible refine (cSy.out _).mono ?_); rintro e w' ⟨rfl, rfl⟩) | (go_at_call 39; (with_reducible refine cSf.out.mono ?_); rintro e w1 ⟨rfl, hb1⟩; replace hb1 := Lib.hid hb1))
  refine bodyPost_ret (v := .tuple #[.int .i64 n, .iface 139 (V e)]) (by simp [results, Tryd.results18, go_sem]) rfl ?_
  exact ⟨rfl, Bel.step hbq.out hb1.out⟩
set_option maxRecDepth 100000 in
set_option maxHeartbeats 8000000 in
theorem step_atombad {o : Op} {p : List Op} {k e : Nat} {n : Int} (hk : AtmBad (nl s) k n e) (hm : s.size ≤ 99990) (hS : Six w V) (h : Rdr w0 B br s w gb gc (g :: rest) (o :: p)) (hno : g.ps.length = 0 ∨ ¬ IsMark (nl s) k) :
    Calls Tryd.prog 18 #[.pointer (some ⟨br, 0, none⟩), .int .i64 k] w fun en w' => en = .returned (.tuple #[.int .i64 n, .iface 139 (V e)]) ∧ Bel w w' := by
  obtain ⟨c, h0, n1, n2, n3⟩ := atmbad_c hk
  have g1 : ((c : Int) == 124) = false := by rw [beq_eq_false_iff_ne]; omega
  have g2 : ((c : Int) == 40) = false := by rw [beq_eq_false_iff_ne]; omega
  have g3 : ((c : Int) == 41) = false := by rw [beq_eq_false_iff_ne]; omega
  have g5 : decide (0 < g.ps.length) = false ∨ (decide (0 < g.ps.length) = true ∧ ¬ IsMark (nl s) k) := by
    rcases hno with e | e
    · exact .inl (by rw [decide_eq_false_iff_not]; omega)
    · by_cases h9 : 0 < g.ps.length
      · exact .inr ⟨by rw [decide_eq_true_eq]; exact h9, e⟩
      · exact .inl (by rw [decide_eq_false_iff_not]; exact h9)
  have hsf : Hid (∀ w', Bel w w' → ∃ t : T, Gives 41 #[.string s, .int .i64 k] (.tuple #[.agg t.cells.toArray, .int .i64 n, .iface 139 (V e)]) w') := Lib.hid fun w' hb => atom_bad hk hm w' (hS.bel hb)
  have hSy := Lib.hid (fun (h : ¬ IsMark (nl s) k) w => suffixed_no h0 h hm w)
  clear hk n1 n2 n3 hS hno
  obtain ⟨hlt, hat⟩ := at_nl h0
  have hkb : k ≤ 99990 := by omega
  obtain ⟨r, hr⟩ : ∃ r, r = rest.length := ⟨_, rfl⟩
  have x0 : w.cell? ⟨br, 0, none⟩ = some (.string s) := (cells_of h.box 0 _ rfl).1
  have x1 : w.cell? ⟨br, 1, none⟩ = some (.slice (some ⟨gb, 0, none⟩) (rest.length + 1) gc) := (cells_of h.box 1 _ rfl).1
  obtain ⟨hn1, hn2⟩ := h.size_le
  rw [List.length_cons] at hn1
  rw [← hr] at x1 hn1
  have hgc : gc ≤ 9223372036854775807 := by unfold maxLen at hn2; omega
  replace hr := Lib.hid hr
  have hnx := Lib.hid (fun w' (hb : Bel w w') => h.next hb)
  clear h h0 hn2 hm
  go_enter Tryd.func18, Tryd.ntmps18
  go_wp2
  go_quiet (fail)
  generalize hwq : World.drewN w _ = wq at *
  have hbq : Bel w wq := by rw [← hwq]; exact below_drewN (Below.refl _ _) _
  have hce : ∀ a, wq.cell? a = w.cell? a := fun a => by rw [← hwq]; rfl
  replace x0 := (hce _).trans x0
  replace x1 := (hce _).trans x1
  have hR := Lib.hid (hnx.out wq hbq)
  clear hwq hce hnx
  replace hbq := Lib.hid hbq
  obtain ⟨cur0, hcur0, -, hcp0, -⟩ := hR.out.row.top
  rw [← hr.out] at hcp0
  have y4 : wq.cell? ⟨gb, r * 2 + 1, none⟩ = some (.slice g.pp g.ps.length g.pc) := (cells_of hcur0 (r * 2 + 1) _ hcp0).1
  clear hcur0 hcp0
  obtain ⟨t, cA⟩ := hsf.out wq hbq.out
  obtain ⟨k9, u0, u1, u2, u3, px, cx, mn, mx, tx, ts⟩ := t
  unfold Gives at cA
  simp only [T.cells] at cA
  replace cA := Lib.hid cA
  clear hsf
  rcases g5 with g5 | ⟨g5, g6⟩
  · go_wp2_with (go_at_call 41; (with_reducible refine cA.out.mono ?_); rintro e w1 ⟨rfl, hb1⟩; replace hb1 := Lib.hid hb1)
    refine bodyPost_ret (v := .tuple #[.int .i64 n, .iface 139 (V e)]) (by simp [results, Tryd.results18, go_sem]) rfl ?_
    exact ⟨rfl, Bel.step hbq.out (Below.alloc hb1.out (hb1.out.size) _)⟩
  · have cSy := Lib.hid (hSy.out g6)
    clear g6
    go_wp2_with (first | (go_at_call 38; (with_reducible refine (cSy.out _).mono ?_); rintro e w' ⟨rfl, rfl⟩) | (go_at_call 41; (with_reducible refine cA.out.mono ?_); rintro e w1 ⟨rfl, hb1⟩; replace hb1 := Lib.hid hb1))
    refine bodyPost_ret (v := .tuple #[.int .i64 n, .iface 139 (V e)]) (by simp [results, Tryd.results18, go_sem]) rfl ?_
    exact ⟨rfl, Bel.step hbq.out (Below.alloc hb1.out (hb1.out.size) _)⟩
end
end Go.Proofs.YtjlmeegaiagfpaaDoor
