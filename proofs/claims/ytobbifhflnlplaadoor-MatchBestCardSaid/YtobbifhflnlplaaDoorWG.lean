/- Texts merged: W27, W28, W29. -/

import Derived.Test.YtobbifhflnlplaaDoorWF
namespace Go.Proofs.YtobbifhflnlplaaDoor
open Lib (hid)
open Go.RowKit
open Go.Tree7
open S7
open S5 (nl nl_length nl_small at_nl nl_at Gives idx idx_at ix ix_no ix_yes)
def Inv (p : List Op) (b : Bool) : Prop := ∃ o p', p = o :: p' ∧ (b = true ↔ o.2 ≠ [])
theorem inv_start : Inv [([], [])] false := ⟨_, _, rfl, by simp⟩
theorem st_inv {l : List Nat} {p p' : List Op} {b b' : Bool} {k k' : Nat} (h : St l p b k p' b' k') : Inv p' b' := by
 cases h with
 | mark => exact ⟨_, _, rfl, by simp⟩
 | opens => exact ⟨_, _, rfl, by simp⟩
 | bar => exact ⟨_, _, rfl, by simp⟩
 | close => exact ⟨_, _, rfl, by simp⟩
 | atom => exact ⟨_, _, rfl, by simp⟩
theorem st_len {l : List Nat} {p p' : List Op} {b b' : Bool} {k k' : Nat} (h : St l p b k p' b' k') : p'.length ≤ p.length + 1 := by
 cases h <;> simp
theorem snoc_of {α : Type} {l : List α} (h : l ≠ []) : ∃ a x, l = a ++ [x] := ⟨l.dropLast, l.getLast h, (List.dropLast_concat_getLast h).symm⟩
section
variable {w0 : World} {B br : Nat} {s : ByteArray} {w : World} {gb gc : Nat} {gl : List Gr} {V : Nat → Value}
theorem step_in {p : List Op} {b : Bool} {k : Nat} {out : Out} (hrun : Run (nl s) p b k out) (hk : k < s.size) (hm : s.size ≤ 99990) (hS : Six w V) (h : Rdr w0 B br s w gb gc gl p) (hi : Inv p b) (hd : p.length ≤ k + 1) :
  (∃ n p' b', k < n ∧ n ≤ s.size ∧ Run (nl s) p' b' n out ∧ Inv p' b' ∧ p'.length ≤ n + 1 ∧ Calls Tryd.prog 31 #[.pointer (some ⟨br, 0, none⟩), .int .i64 k] w (GivesSt w0 B br s n p')) ∨
  ∃ (n : Int) (e : Nat), out = .bad n e ∧ Calls Tryd.prog 31 #[.pointer (some ⟨br, 0, none⟩), .int .i64 k] w fun en w' => en = .returned (.tuple #[.int .i64 n, .iface 135 (V e)]) ∧ Bel w w' := by
 have hn := nl_length s
 obtain ⟨o, p0, rfl, hio⟩ := hi
 have hlen := h.rel.len
 obtain ⟨g, rest, rfl⟩ : ∃ g rest, gl = g :: rest := by
  cases gl with
  | nil => simp at hlen
  | cons g rest => exact ⟨g, rest, rfl⟩
 obtain ⟨obs, ops⟩ := o
 -- where no suffix stands
 have hnom : ¬ (b = true ∧ IsMark (nl s) k) → g.ps.length = 0 ∨ ¬ IsMark (nl s) k := fun hb => by
  by_cases h9 : ops = []
  ·subst h9; exact .inl h.none
  ·exact .inr fun hmk => hb ⟨hio.2 h9, hmk⟩
 cases hrun with
 | step hst hnext =>
  have h1 := st_next hst
  have h2 := st_inv hst
  have h3 := st_len hst
  rw [hn] at h1
  refine .inl ⟨_, _, _, h1.1, h1.2, hnext, h2, by omega, ?_⟩
  cases hst with
  | mark hmk => exact step_mark hmk hm hS h
  | opens h0 =>
   refine step_open h0 hm ?_ h
   simp only [List.length_cons] at hlen hd
   omega
  | bar h0 => exact step_bar h0 hm h
  | @close _ bs ps prest _ _ h0 =>
   obtain ⟨g2, rest2, rfl⟩ : ∃ g2 rest2, rest = g2 :: rest2 := by
    cases rest with
    | nil => simp at hlen
    | cons g2 r => exact ⟨g2, r, rfl⟩
   exact step_close h0 hm h
  | atom hno hat => exact step_atom hat hm hS h (hnom hno)
 | tree _ _ _ hke => omega
 | short _ _ _ _ _ hke => omega
 | mark _ _ n e x y hmk he =>
  obtain ⟨qs, z, hz⟩ := snoc_of (hio.1 rfl)
  simp only at hz
  subst hz
  exact .inr ⟨_, _, rfl, step_markbad hmk he hm hS h⟩
 | close _ _ _ h0 =>
  obtain rfl : rest = [] := by
   cases rest with
   | nil => rfl
   | cons g2 r => simp at hlen
  exact .inr ⟨_, _, rfl, step_noopen h0 hm h hS.form⟩
 | atom _ _ _ n e hno hat => exact .inr ⟨_, _, rfl, step_atombad hat hm hS h (hnom hno)⟩
end
end Go.Proofs.YtobbifhflnlplaaDoor
namespace Go.Proofs.YtobbifhflnlplaaDoor
open Lib (hid)
open Go.RowKit
open Go.Tree7
open S7
open S5 (nl nl_length nl_small at_nl nl_at Gives idx idx_at ix ix_no ix_yes)
def GivesParse (V : Nat → Value) (s : ByteArray) (out : Out) (w : World) (e : Ending) (w' : World) : Prop :=
 Below w.heap.size w w' ∧ match out with
 | .bad n er => e = .returned (.tuple #[.agg #[.int .i64 0, .int .u64 0, .int .u64 0, .int .u64 0, .int .u64 0, .slice none 0 0, .int .i64 0, .int .i64 0, .string ⟨#[]⟩], .int .i64 n, .iface 135 (V er)])
 | .tree t => (24 < deepOf (allT t) ∧ e = .returned (.tuple #[.agg #[.int .i64 0, .int .u64 0, .int .u64 0, .int .u64 0, .int .u64 0, .slice none 0 0, .int .i64 0, .int .i64 0, .string ⟨#[]⟩], .int .i64 0, .iface 135 (V 7)])) ∨
   (deepOf (allT t) ≤ 24 ∧ 600 < (allT t).length ∧ e = .returned (.tuple #[.agg #[.int .i64 0, .int .u64 0, .int .u64 0, .int .u64 0, .int .u64 0, .slice none 0 0, .int .i64 0, .int .i64 0, .string ⟨#[]⟩], .int .i64 0, .iface 135 (V 9)])) ∨
   (deepOf (allT t) ≤ 24 ∧ (allT t).length ≤ 600 ∧ ∃ m : T, m.strip = t.strip ∧ T.In w' w'.heap.size m ∧ e = .returned (.tuple #[.agg m.cells.toArray, .int .i64 s.size, .nilIface]))
theorem in_bel {w w' : World} {t : T} (h : T.In w w.heap.size t) (hb : Bel w w') : T.In w' w'.heap.size t :=
 (h.toP.keep (w' := w') fun b hl => hb.block b hl).toIn fun _ hl => Nat.lt_of_lt_of_le hl hb.size
theorem deepOf_strip (t : T) : deepOf (allT t.strip) = deepOf (allT t) := by
 unfold deepOf
 rw [allT_strip, List.map_map]
 rfl
theorem count_strip (t : T) : (allT t.strip).length = (allT t).length := by rw [allT_strip, List.length_map]
theorem make_groups (W : World) : (Instr.makeSlice 64 (.int .i64 1) (.int .i64 1)).run Tryd.prog W = .ok (.slice (some ⟨W.heap.size, 0, none⟩) 1 1) (W.alloc (.cells #[.slice none 0 0, .slice none 0 0] 70)) := by
 obtain ⟨i0, hi, hz0, hz1, hz2⟩ := info_parts infoG
 have h := run_make (P := Tryd.prog) W 64 70 i0 (.agg #[.slice none 0 0, .slice none 0 0]) Tryd.underlying64 hi hz0 .i64 .i64 1 1 (by omega) (by omega) (by rw [hz2]; omega) (by omega)
 rw [hz1] at h
 have e : madeCells (Value.agg #[.slice none 0 0, .slice none 0 0]).cells 2 = #[.slice none 0 0, .slice none 0 0] := by
  have e2 : (Value.agg #[.slice none 0 0, .slice none 0 0]).cells = #[.slice none 0 0, .slice none 0 0] := by simp [Value.cells]
  rw [e2]
  unfold madeCells
  apply Array.ext
  ·simp
  ·intro i h1 h2
   have h3 : i = 0 ∨ i = 1 := by simp at h2; omega
   rcases h3 with rfl | rfl <;> simp
 have h2 : (Instr.makeSlice 64 (.int .i64 1) (.int .i64 1)).run Tryd.prog W = .ok (.slice (some ⟨W.heap.size, 0, none⟩) 1 1) (W.alloc (.cells (madeCells (Value.agg #[.slice none 0 0, .slice none 0 0]).cells 2) 70)) := by simpa using h
 rw [e] at h2
 exact h2
set_option maxRecDepth 100000 in
set_option maxHeartbeats 16000000 in
theorem parse_in {s : ByteArray} {out : Out} (hrun : Run (nl s) [([], [])] false 0 out) (hm : s.size ≤ 99990) {V : Nat → Value} (w : World) (hS : Six w V) :
  Calls Tryd.prog 21 #[.string s] w (GivesParse V s out w) := by
 have hmk := make_groups
 have hG : ∃ G, G = GivesParse V s out w := ⟨_, rfl⟩
 obtain ⟨G, hG⟩ := hG
 rw [← hG]
 replace hG := hid hG
 replace hS := hid hS
 have hx0 := hid (World.alloc_heap_new w (.cells #[.int .i64 0, .int .u64 0, .int .u64 0, .int .u64 0, .int .u64 0, .slice none 0 0, .int .i64 0, .int .i64 0, .string ⟨#[]⟩] 27))
 have hbw := hid (show Below w.heap.size w (w.alloc (.cells #[.int .i64 0, .int .u64 0, .int .u64 0, .int .u64 0, .int .u64 0, .slice none 0 0, .int .i64 0, .int .i64 0, .string ⟨#[]⟩] 27)) from (Below.refl w.heap.size w).alloc (Nat.le_refl _) _)
 go_enter Tryd.func21, Tryd.ntmps21
 go_wp2
 have hst0 : Rdr (w.alloc (.cells #[.int .i64 0, .int .u64 0, .int .u64 0, .int .u64 0, .int .u64 0, .slice none 0 0, .int .i64 0, .int .i64 0, .string ⟨#[]⟩] 27)) (w.heap.size + 1) (w.heap.size + 1 + 1) s ((((w.alloc (.cells #[.int .i64 0, .int .u64 0, .int .u64 0, .int .u64 0, .int .u64 0, .slice none 0 0, .int .i64 0, .int .i64 0, .string ⟨#[]⟩] 27))).alloc (.cells #[.slice none 0 0, .slice none 0 0] 70)).alloc (.cells #[.string s, .slice (some ⟨w.heap.size + 1, 0, none⟩) 1 1] 66)) (w.heap.size + 1) 1 [⟨none, 0, [], none, 0, []⟩] [([], [])] := by
  have s1 : ((w.alloc (.cells #[.int .i64 0, .int .u64 0, .int .u64 0, .int .u64 0, .int .u64 0, .slice none 0 0, .int .i64 0, .int .i64 0, .string ⟨#[]⟩] 27))).heap.size = w.heap.size + 1 := by simp
  have s2 : (((w.alloc (.cells #[.int .i64 0, .int .u64 0, .int .u64 0, .int .u64 0, .int .u64 0, .slice none 0 0, .int .i64 0, .int .i64 0, .string ⟨#[]⟩] 27))).alloc (.cells #[.slice none 0 0, .slice none 0 0] 70)).heap.size = w.heap.size + 1 + 1 := by simp
  refine ⟨?_, ⟨#[.slice none 0 0, .slice none 0 0], ?_, Nat.le_refl _, Nat.le_refl _, (by first | decide | (unfold maxLen; omega)), rfl, rfl⟩, fun g hg => ?_, ?_, Nat.le_succ _, ?_, (by simp <;> omega), ⟨⟨rfl, rfl⟩, trivial⟩⟩
  ·have := World.alloc_heap_new (((w.alloc (.cells #[.int .i64 0, .int .u64 0, .int .u64 0, .int .u64 0, .int .u64 0, .slice none 0 0, .int .i64 0, .int .i64 0, .string ⟨#[]⟩] 27))).alloc (.cells #[.slice none 0 0, .slice none 0 0] 70)) (.cells #[.string s, .slice (some ⟨w.heap.size + 1, 0, none⟩) 1 1] 66)
   rw [s2] at this
   exact this
  ·have := World.alloc_heap_new (w.alloc (.cells #[.int .i64 0, .int .u64 0, .int .u64 0, .int .u64 0, .int .u64 0, .slice none 0 0, .int .i64 0, .int .i64 0, .string ⟨#[]⟩] 27)) (.cells #[.slice none 0 0, .slice none 0 0] 70)
   rw [s1] at this
   exact (Below.heap_alloc _ _ _ (by omega)).trans this
  ·simp only [List.mem_cons, List.not_mem_nil, or_false] at hg
   subst hg
   exact ⟨Lst.nil _ _, Lst.nil _ _, Nat.zero_le _, Nat.zero_le _, fun t ht => by simp at ht, fun t ht => by simp at ht⟩
  ·unfold Rb
   simp [Gr.blks, Gr.bv, Gr.pv, Value.ownBlock]
  ·have := ((Below.refl ((w.alloc (.cells #[.int .i64 0, .int .u64 0, .int .u64 0, .int .u64 0, .int .u64 0, .slice none 0 0, .int .i64 0, .int .i64 0, .string ⟨#[]⟩] 27))).heap.size (w.alloc (.cells #[.int .i64 0, .int .u64 0, .int .u64 0, .int .u64 0, .int .u64 0, .slice none 0 0, .int .i64 0, .int .i64 0, .string ⟨#[]⟩] 27))).alloc (Nat.le_refl _) (.cells #[.slice none 0 0, .slice none 0 0] 70)).alloc (by simp) (.cells #[.string s, .slice (some ⟨w.heap.size + 1, 0, none⟩) 1 1] 66)
   rw [s1] at this
   exact this
 replace hst0 := hid hst0
 replace hrun := hid hrun
 clear hmk
 go_loopw [6] (fun i wr => ∃ (k : Nat) (p : List Op) (b : Bool) (gb gc : Nat) (gl : List Gr), i = .int .i64 k ∧ k ≤ s.size ∧ Hid (Run (nl s) p b k out) ∧ Hid (Inv p b) ∧ Hid (p.length ≤ k + 1) ∧ Hid (Rdr (w.alloc (.cells #[.int .i64 0, .int .u64 0, .int .u64 0, .int .u64 0, .int .u64 0, .slice none 0 0, .int .i64 0, .int .i64 0, .string ⟨#[]⟩] 27)) (w.heap.size + 1) (w.heap.size + 1 + 1) s wr gb gc gl p)) (fun i _ => s.size - (intOf i).toNat)
 case atStart => exact ⟨0, _, _, _, _, _, rfl, Nat.zero_le _, hrun, hid inv_start, hid (by simp), hst0⟩
 case round =>
  clear hst0 hrun
  obtain ⟨k, p, b, gb, gc, gl, rfl, hks, hrun, hinv, hpl, hR⟩ := hrel
  by_cases hlt : k < s.size
  ·have hSr := hS.out.bel (Below.trans hbw.out (hR.out.bel.mono (Nat.le_succ _)))
   rcases step_in hrun.out hlt hm hSr hR.out hinv.out hpl.out with ⟨n, p', b', hn1, hn2, hrun2, hinv2, hpl2, cS⟩ | ⟨n, er, hout, cS⟩
   ·unfold GivesSt at cS
    replace cS := hid cS
    replace hrun2 := hid hrun2
    replace hinv2 := hid hinv2
    replace hpl2 := hid hpl2
    clear hrun hinv hpl hR hSr
    go_wp2_with (go_at_call 31; (with_reducible refine cS.out.mono ?_); rintro e w1 ⟨gb1, gc1, gl1, rfl, hR1⟩; replace hR1 := hid hR1)
    go_roundw
    case rel => exact ⟨n, p', b', gb1, gc1, gl1, rfl, hn2, hrun2, hinv2, hpl2, hR1⟩
    case measure => simp [intOf]; omega
   ·replace cS := hid cS
    replace hout := hid hout
    have hx : Hid (wr.heap[w.heap.size]? = some (.cells #[.int .i64 0, .int .u64 0, .int .u64 0, .int .u64 0, .int .u64 0, .slice none 0 0, .int .i64 0, .int .i64 0, .string ⟨#[]⟩] 27 (0, 0))) := hid ((hR.out.bel.block _ (Nat.lt_succ_self _)).trans hx0.out)
    have hz : w.heap.size < wr.heap.size := (Array.getElem?_eq_some_iff.1 hx.out).1
    clear hrun hinv hpl hSr
    go_wp2_with (go_at_call 31; (with_reducible refine cS.out.mono ?_); rintro e w1 ⟨rfl, hb1⟩; have hx1 := hid (kept_row hx.out hb1); have hz1 : w.heap.size < w1.heap.size := Nat.lt_of_lt_of_le hz hb1.size; have hkx := cells_of hx1.out; obtain ⟨y0, f0⟩ := hkx 0 _ rfl; obtain ⟨y1, f1⟩ := hkx 1 _ rfl; obtain ⟨y2, f2⟩ := hkx 2 _ rfl; obtain ⟨y3, f3⟩ := hkx 3 _ rfl; obtain ⟨y4, f4⟩ := hkx 4 _ rfl; obtain ⟨y5, f5⟩ := hkx 5 _ rfl; obtain ⟨y6, f6⟩ := hkx 6 _ rfl; obtain ⟨y7, f7⟩ := hkx 7 _ rfl; obtain ⟨y8, f8⟩ := hkx 8 _ rfl; clear hkx; have hB1 := hid (Bel.step (Below.trans hbw.out (hR.out.bel.mono (Nat.le_succ _))) hb1))
    obtain ⟨q1, q2, q3, q4⟩ := set9 (b := w.heap.size) (d0 := .int .i64 0) (d1 := .int .u64 0) (d2 := .int .u64 0) (d3 := .int .u64 0) (d4 := .int .u64 0) (d5 := .slice none 0 0) (d6 := .int .i64 0) (d7 := .int .i64 0) (d8 := .string ⟨#[]⟩) hx1.out _ rfl
    generalize hW : World.setCell _ (⟨w.heap.size, 8, none⟩ : Addr) _ = W9 at *
    clear hW
    have hk9 := cells_of q1
    obtain ⟨z0, -⟩ := hk9 0 _ rfl
    obtain ⟨z1, -⟩ := hk9 1 _ rfl
    obtain ⟨z2, -⟩ := hk9 2 _ rfl
    obtain ⟨z3, -⟩ := hk9 3 _ rfl
    obtain ⟨z4, -⟩ := hk9 4 _ rfl
    obtain ⟨z5, -⟩ := hk9 5 _ rfl
    obtain ⟨z6, -⟩ := hk9 6 _ rfl
    obtain ⟨z7, -⟩ := hk9 7 _ rfl
    obtain ⟨z8, -⟩ := hk9 8 _ rfl
    clear hk9
    refine bodyPost_ret (v := .tuple #[.agg #[.int .i64 0, .int .u64 0, .int .u64 0, .int .u64 0, .int .u64 0, .slice none 0 0, .int .i64 0, .int .i64 0, .string ⟨#[]⟩], .int .i64 n, .iface 135 (V er)]) (by simp [results, Tryd.results21, go_sem, z0, z1, z2, z3, z4, z5, z6, z7, z8]) rfl ?_
    rw [hG.out, hout.out]
    exact ⟨hB1.out.trans (q4 w.heap.size (Nat.le_refl _)), rfl⟩
  ·obtain rfl : k = s.size := by omega
   have hn := nl_length s
   have hend : (∃ o o' p', p = o :: o' :: p' ∧ out = .bad s.size 2) ∨ ∃ o, p = [o] ∧ out = .tree (closedT o) := by
    have hl : (nl s)[s.size]? = none := List.getElem?_eq_none (by rw [hn]; exact Nat.le_refl _)
    have h := hrun.out
    cases h with
    | step hst _ => have := st_next hst; rw [hn] at this; omega
    | tree o _ _ _ => exact .inr ⟨o, rfl, rfl⟩
    | short o o' p _ _ _ => exact .inl ⟨o, o', p, rfl, by rw [hn]⟩
    | mark _ _ _ _ _ _ hmk _ => obtain ⟨c, h0, -⟩ := mk_at hmk; rw [hl] at h0; cases h0
    | close _ _ _ h0 => rw [hl] at h0; cases h0
    | atom _ _ _ _ _ _ hat => obtain ⟨c, h0, -⟩ := atmbad_c hat; rw [hl] at h0; cases h0
   have hglen := hR.out.rel.len
   have x1 : wr.cell? ⟨w.heap.size + 1 + 1, 1, none⟩ = some (.slice (some ⟨gb, 0, none⟩) gl.length gc) := (cells_of hR.out.box 1 _ rfl).1
   obtain ⟨hgn1, hgn2⟩ := hR.out.size_le
   have hgc : gc ≤ 9223372036854775807 := by unfold maxLen at hgn2; omega
   have hSr := hS.out.bel (Below.trans hbw.out (hR.out.bel.mono (Nat.le_succ _)))
   have hBr := hid (Below.trans hbw.out (hR.out.bel.mono (Nat.le_succ _)))
   have hx : Hid (wr.heap[w.heap.size]? = some (.cells #[.int .i64 0, .int .u64 0, .int .u64 0, .int .u64 0, .int .u64 0, .slice none 0 0, .int .i64 0, .int .i64 0, .string ⟨#[]⟩] 27 (0, 0))) := hid ((hR.out.bel.block _ (Nat.lt_succ_self _)).trans hx0.out)
   have hz : w.heap.size < wr.heap.size := (Array.getElem?_eq_some_iff.1 hx.out).1
   clear hn hgn2 hinv hpl hrun
   rcases hend with ⟨o, o', p', rfl, hout⟩ | ⟨o, rfl, hout⟩
   ·replace hout := hid hout
    have h1 : 1 < gl.length := by rw [hglen]; simp
    have h2 : decide (1 < gl.length) = true := by rw [decide_eq_true_eq]; exact h1
    have h3 : decide ((1 : Int) < (gl.length : Int)) = true := by rw [decide_eq_true_eq]; omega
    have s2 := hSr.short
    have hkx := cells_of hx.out
    obtain ⟨y0, f0⟩ := hkx 0 _ rfl; obtain ⟨y1, f1⟩ := hkx 1 _ rfl; obtain ⟨y2, f2⟩ := hkx 2 _ rfl; obtain ⟨y3, f3⟩ := hkx 3 _ rfl; obtain ⟨y4, f4⟩ := hkx 4 _ rfl; obtain ⟨y5, f5⟩ := hkx 5 _ rfl; obtain ⟨y6, f6⟩ := hkx 6 _ rfl; obtain ⟨y7, f7⟩ := hkx 7 _ rfl; obtain ⟨y8, f8⟩ := hkx 8 _ rfl
    have hg0 : 0 < w.heap.size := World.block_lt_of_cell? _ _ hS.out.short
    clear hkx hSr hR hglen
    go_wp2
    go_region
    all_goals
     go_wp2
     obtain ⟨q1, q2, q3, q4⟩ := set9 (b := w.heap.size) (d0 := .int .i64 0) (d1 := .int .u64 0) (d2 := .int .u64 0) (d3 := .int .u64 0) (d4 := .int .u64 0) (d5 := .slice none 0 0) (d6 := .int .i64 0) (d7 := .int .i64 0) (d8 := .string ⟨#[]⟩) hx.out _ rfl
     generalize hW : World.setCell _ (⟨w.heap.size, 8, none⟩ : Addr) _ = W9 at *
     clear hW
     have hk9 := cells_of q1
     obtain ⟨z0, -⟩ := hk9 0 _ rfl
     obtain ⟨z1, -⟩ := hk9 1 _ rfl
     obtain ⟨z2, -⟩ := hk9 2 _ rfl
     obtain ⟨z3, -⟩ := hk9 3 _ rfl
     obtain ⟨z4, -⟩ := hk9 4 _ rfl
     obtain ⟨z5, -⟩ := hk9 5 _ rfl
     obtain ⟨z6, -⟩ := hk9 6 _ rfl
     obtain ⟨z7, -⟩ := hk9 7 _ rfl
     obtain ⟨z8, -⟩ := hk9 8 _ rfl
     clear hk9
     refine bodyPost_ret (v := .tuple #[.agg #[.int .i64 0, .int .u64 0, .int .u64 0, .int .u64 0, .int .u64 0, .slice none 0 0, .int .i64 0, .int .i64 0, .string ⟨#[]⟩], .int .i64 s.size, .iface 135 (V 2)]) (by simp [results, Tryd.results21, go_sem, z0, z1, z2, z3, z4, z5, z6, z7, z8]) rfl ?_
     rw [hG.out, hout.out]
     first
      | exact ⟨hBr.out.trans (q4 w.heap.size (Nat.le_refl _)), rfl⟩
      | exact ⟨(Below.drew hBr.out).trans (q4 w.heap.size (Nat.le_refl _)), rfl⟩
      | exact ⟨Below.drew (hBr.out.trans (q4 w.heap.size (Nat.le_refl _))), rfl⟩
   ·have hg0 : 1 < w.heap.size := World.block_lt_of_cell? _ _ hS.out.dept
    have hg1 : 2 < w.heap.size := World.block_lt_of_cell? _ _ hS.out.limi
    obtain ⟨g, rfl⟩ : ∃ g, gl = [g] := by
     match gl, hglen with
     | [g], _ => exact ⟨g, rfl⟩
    have cWh := hR.out.whole_in
    simp only [List.length_nil, Nat.zero_mul] at cWh
    obtain ⟨D, hDd⟩ : ∃ D, D = deepOf (allT (closedT o)) := ⟨_, rfl⟩
    obtain ⟨C, hCd⟩ : ∃ C, C = (allT (closedT o)).length := ⟨_, rfl⟩
    have hD : Hid (∀ t : T, t.strip = cutT (closedT o) → ∀ w', T.In w' w'.heap.size t → Calls Tryd.prog 33 #[.agg t.cells.toArray] w' fun e w'' => e = .returned (.int .i64 D) ∧ Below w'.heap.size w' w'') := hid fun t ht w' hT => by
     have := depth_in hT
     rwa [← deepOf_strip t, ht, deepOf_cut, ← hDd] at this
    have hC : Hid (∀ t : T, t.strip = cutT (closedT o) → ∀ w', T.In w' w'.heap.size t → Calls Tryd.prog 34 #[.agg t.cells.toArray] w' fun e w'' => e = .returned (.int .i64 C) ∧ Below w'.heap.size w' w'') := hid fun t ht w' hT => by
     have := count_in hT
     rwa [← count_strip t, ht, count_cut, ← hCd] at this
    have hout2 : Hid (G = fun e w' => Below w.heap.size w w' ∧ ((24 < D ∧ e = .returned (.tuple #[.agg #[.int .i64 0, .int .u64 0, .int .u64 0, .int .u64 0, .int .u64 0, .slice none 0 0, .int .i64 0, .int .i64 0, .string ⟨#[]⟩], .int .i64 0, .iface 135 (V 7)])) ∨ (D ≤ 24 ∧ 600 < C ∧ e = .returned (.tuple #[.agg #[.int .i64 0, .int .u64 0, .int .u64 0, .int .u64 0, .int .u64 0, .slice none 0 0, .int .i64 0, .int .i64 0, .string ⟨#[]⟩], .int .i64 0, .iface 135 (V 9)])) ∨ (D ≤ 24 ∧ C ≤ 600 ∧ ∃ m : T, m.strip = (closedT o).strip ∧ T.In w' w'.heap.size m ∧ e = .returned (.tuple #[.agg m.cells.toArray, .int .i64 s.size, .nilIface])))) := hid (by rw [hG.out, hout, hDd, hCd]; rfl)
    have hsm : Hid (D ≤ 24 → C ≤ 600 → cutT (closedT o) = (closedT o).strip) := hid fun h1 h2 => cutT_small _ (by rw [hDd] at h1; rw [hCd] at h2; have := (small_of h1 h2).2; omega)
    replace cWh := hid cWh
    simp only [List.length_cons, List.length_nil] at x1
    clear hDd hCd hout hglen hgn1 hSr hR hG
    replace hz := hid hz
    by_cases hd : 24 < D
    ·have gd : decide (24 < (D : Int)) = true := by rw [decide_eq_true_eq]; omega
     go_wp2_with (first | (go_at_call 32; (with_reducible refine cWh.out.mono ?_); rintro e w1 ⟨t, rfl, hstr, hpop⟩; have hTI := (hpop.tree.toIn (B := w1.heap.size) (fun b hb => hb.1)); have cD : ∀ w', Bel w1 w' → Calls Tryd.prog 33 #[.agg t.cells.toArray] w' fun e w'' => e = .returned (.int .i64 D) ∧ Below w'.heap.size w' w'' := fun w' hb => hD.out t hstr w' (in_bel hTI hb); have cC : ∀ w', Bel w1 w' → Calls Tryd.prog 34 #[.agg t.cells.toArray] w' fun e w'' => e = .returned (.int .i64 C) ∧ Below w'.heap.size w' w'' := fun w' hb => hC.out t hstr w' (in_bel hTI hb); obtain ⟨k9, u0, u1, u2, u3, px, cx, mn, mx, tx, ts⟩ := t; simp only [T.cells] at cD cC ⊢; replace cD := hid cD; replace cC := hid cC; have hx1 : w1.heap[w.heap.size]? = some (.cells #[.int .i64 0, .int .u64 0, .int .u64 0, .int .u64 0, .int .u64 0, .slice none 0 0, .int .i64 0, .int .i64 0, .string ⟨#[]⟩] 27 (0, 0)) := (hpop.bel.block _ (Nat.lt_succ_self _)).trans hx0.out; have hz1 : w.heap.size < w1.heap.size := (Array.getElem?_eq_some_iff.1 hx1).1; have hbA : Bel w1 (w1.alloc (.cells #[.int .i64 k9, .int .u64 u0, .int .u64 u1, .int .u64 u2, .int .u64 u3, .slice px ts.length cx, .int .i64 mn, .int .i64 mx, .string tx] 27)) := (Below.refl _ _).alloc (Nat.le_refl _) _; have hbxA := World.alloc_heap_new w1 (.cells #[.int .i64 k9, .int .u64 u0, .int .u64 u1, .int .u64 u2, .int .u64 u3, .slice px ts.length cx, .int .i64 mn, .int .i64 mx, .string tx] 27); have hB1 := hid (Bel.step (Below.trans hbw.out (hpop.bel.mono (Nat.le_succ _))) hbA); have hxA := hid (kept_row hx1 hbA); have hbA2 := hid hbA; clear hbA hx1; replace hbxA := hid hbxA; replace hTI := hid hTI; replace hstr := hid hstr; replace hpop := hid hpop) | (go_at_call 33; (with_reducible refine (cD.out _ hbA2.out).mono ?_); rintro e w2 ⟨rfl, hb2⟩; have hbx2 := hid (kept_row hbxA.out hb2); have hx2 := hid (kept_row hxA.out hb2); have hb12 := hid (Bel.step hbA2.out hb2); have hB2 := hid (Bel.step hB1.out hb2); have hz2 : w.heap.size < w2.heap.size := (Array.getElem?_eq_some_iff.1 hx2.out).1; have hkb := cells_of hbx2.out; obtain ⟨v0, -⟩ := hkb 0 _ rfl; obtain ⟨v1, -⟩ := hkb 1 _ rfl; obtain ⟨v2, -⟩ := hkb 2 _ rfl; obtain ⟨v3, -⟩ := hkb 3 _ rfl; obtain ⟨v4, -⟩ := hkb 4 _ rfl; obtain ⟨v5, -⟩ := hkb 5 _ rfl; obtain ⟨v6, -⟩ := hkb 6 _ rfl; obtain ⟨v7, -⟩ := hkb 7 _ rfl; obtain ⟨v8, -⟩ := hkb 8 _ rfl; clear hkb; have hkx := cells_of hx2.out; obtain ⟨y0, f0⟩ := hkx 0 _ rfl; obtain ⟨y1, f1⟩ := hkx 1 _ rfl; obtain ⟨y2, f2⟩ := hkx 2 _ rfl; obtain ⟨y3, f3⟩ := hkx 3 _ rfl; obtain ⟨y4, f4⟩ := hkx 4 _ rfl; obtain ⟨y5, f5⟩ := hkx 5 _ rfl; obtain ⟨y6, f6⟩ := hkx 6 _ rfl; obtain ⟨y7, f7⟩ := hkx 7 _ rfl; obtain ⟨y8, f8⟩ := hkx 8 _ rfl; clear hkx; have hS2 := (hS.out.bel (Bel.step (Below.trans hbw.out (hpop.out.bel.mono (Nat.le_succ _))) hb12.out)); have s7 := hS2.dept; have s9 := hS2.limi; clear hS2 hb2))
     go_region
     all_goals
      go_wp2
      obtain ⟨q1, q2, q3, q4⟩ := set9 (b := w.heap.size) (d0 := .int .i64 0) (d1 := .int .u64 0) (d2 := .int .u64 0) (d3 := .int .u64 0) (d4 := .int .u64 0) (d5 := .slice none 0 0) (d6 := .int .i64 0) (d7 := .int .i64 0) (d8 := .string ⟨#[]⟩) hx2.out _ rfl
      generalize hW : World.setCell _ (⟨w.heap.size, 8, none⟩ : Addr) _ = W9 at *
      clear hW
      have hk9 := cells_of q1
      obtain ⟨z0, -⟩ := hk9 0 _ rfl
      obtain ⟨z1, -⟩ := hk9 1 _ rfl
      obtain ⟨z2, -⟩ := hk9 2 _ rfl
      obtain ⟨z3, -⟩ := hk9 3 _ rfl
      obtain ⟨z4, -⟩ := hk9 4 _ rfl
      obtain ⟨z5, -⟩ := hk9 5 _ rfl
      obtain ⟨z6, -⟩ := hk9 6 _ rfl
      obtain ⟨z7, -⟩ := hk9 7 _ rfl
      obtain ⟨z8, -⟩ := hk9 8 _ rfl
      clear hk9
      refine bodyPost_ret (v := .tuple #[.agg #[.int .i64 0, .int .u64 0, .int .u64 0, .int .u64 0, .int .u64 0, .slice none 0 0, .int .i64 0, .int .i64 0, .string ⟨#[]⟩], .int .i64 0, .iface 135 (V 7)]) (by simp [results, Tryd.results21, go_sem, z0, z1, z2, z3, z4, z5, z6, z7, z8]) rfl ?_
      rw [hout2.out]
      first
       | exact ⟨hB2.out.trans (q4 w.heap.size (Nat.le_refl _)), .inl ⟨hd, rfl⟩⟩
       | exact ⟨(Below.drew hB2.out).trans (q4 w.heap.size (Nat.le_refl _)), .inl ⟨hd, rfl⟩⟩
       | exact ⟨Below.drew (hB2.out.trans (q4 w.heap.size (Nat.le_refl _))), .inl ⟨hd, rfl⟩⟩
    ·have gd : decide (24 < (D : Int)) = false := by rw [decide_eq_false_iff_not]; omega
     by_cases hc : 600 < C
     ·have gc2 : decide (600 < (C : Int)) = true := by rw [decide_eq_true_eq]; omega
      go_wp2_with (first | (go_at_call 32; (with_reducible refine cWh.out.mono ?_); rintro e w1 ⟨t, rfl, hstr, hpop⟩; have hTI := (hpop.tree.toIn (B := w1.heap.size) (fun b hb => hb.1)); have cD : ∀ w', Bel w1 w' → Calls Tryd.prog 33 #[.agg t.cells.toArray] w' fun e w'' => e = .returned (.int .i64 D) ∧ Below w'.heap.size w' w'' := fun w' hb => hD.out t hstr w' (in_bel hTI hb); have cC : ∀ w', Bel w1 w' → Calls Tryd.prog 34 #[.agg t.cells.toArray] w' fun e w'' => e = .returned (.int .i64 C) ∧ Below w'.heap.size w' w'' := fun w' hb => hC.out t hstr w' (in_bel hTI hb); obtain ⟨k9, u0, u1, u2, u3, px, cx, mn, mx, tx, ts⟩ := t; simp only [T.cells] at cD cC ⊢; replace cD := hid cD; replace cC := hid cC; have hx1 : w1.heap[w.heap.size]? = some (.cells #[.int .i64 0, .int .u64 0, .int .u64 0, .int .u64 0, .int .u64 0, .slice none 0 0, .int .i64 0, .int .i64 0, .string ⟨#[]⟩] 27 (0, 0)) := (hpop.bel.block _ (Nat.lt_succ_self _)).trans hx0.out; have hz1 : w.heap.size < w1.heap.size := (Array.getElem?_eq_some_iff.1 hx1).1; have hbA : Bel w1 (w1.alloc (.cells #[.int .i64 k9, .int .u64 u0, .int .u64 u1, .int .u64 u2, .int .u64 u3, .slice px ts.length cx, .int .i64 mn, .int .i64 mx, .string tx] 27)) := (Below.refl _ _).alloc (Nat.le_refl _) _; have hbxA := World.alloc_heap_new w1 (.cells #[.int .i64 k9, .int .u64 u0, .int .u64 u1, .int .u64 u2, .int .u64 u3, .slice px ts.length cx, .int .i64 mn, .int .i64 mx, .string tx] 27); have hB1 := hid (Bel.step (Below.trans hbw.out (hpop.bel.mono (Nat.le_succ _))) hbA); have hxA := hid (kept_row hx1 hbA); have hbA2 := hid hbA; clear hbA hx1; replace hbxA := hid hbxA; replace hTI := hid hTI; replace hstr := hid hstr; replace hpop := hid hpop) | (go_at_call 33; (with_reducible refine (cD.out _ hbA2.out).mono ?_); rintro e w2 ⟨rfl, hb2⟩; have hbx2 := hid (kept_row hbxA.out hb2); have hx2 := hid (kept_row hxA.out hb2); have hb12 := hid (Bel.step hbA2.out hb2); have hB2 := hid (Bel.step hB1.out hb2); have hz2 : w.heap.size < w2.heap.size := (Array.getElem?_eq_some_iff.1 hx2.out).1; have hkb := cells_of hbx2.out; obtain ⟨v0, -⟩ := hkb 0 _ rfl; obtain ⟨v1, -⟩ := hkb 1 _ rfl; obtain ⟨v2, -⟩ := hkb 2 _ rfl; obtain ⟨v3, -⟩ := hkb 3 _ rfl; obtain ⟨v4, -⟩ := hkb 4 _ rfl; obtain ⟨v5, -⟩ := hkb 5 _ rfl; obtain ⟨v6, -⟩ := hkb 6 _ rfl; obtain ⟨v7, -⟩ := hkb 7 _ rfl; obtain ⟨v8, -⟩ := hkb 8 _ rfl; clear hkb; have hkx := cells_of hx2.out; obtain ⟨y0, f0⟩ := hkx 0 _ rfl; obtain ⟨y1, f1⟩ := hkx 1 _ rfl; obtain ⟨y2, f2⟩ := hkx 2 _ rfl; obtain ⟨y3, f3⟩ := hkx 3 _ rfl; obtain ⟨y4, f4⟩ := hkx 4 _ rfl; obtain ⟨y5, f5⟩ := hkx 5 _ rfl; obtain ⟨y6, f6⟩ := hkx 6 _ rfl; obtain ⟨y7, f7⟩ := hkx 7 _ rfl; obtain ⟨y8, f8⟩ := hkx 8 _ rfl; clear hkx; have hS2 := (hS.out.bel (Bel.step (Below.trans hbw.out (hpop.out.bel.mono (Nat.le_succ _))) hb12.out)); have s7 := hS2.dept; have s9 := hS2.limi; clear hS2 hb2) | (go_at_call 34; (with_reducible refine (cC.out _ hb12.out).mono ?_); rintro e w3 ⟨rfl, hb3⟩; have hbx3 := hid (kept_row hbx2.out hb3); have hx3 := hid (kept_row hx2.out hb3); have hB3 := hid (Bel.step hB2.out hb3); have hz3 : w.heap.size < w3.heap.size := (Array.getElem?_eq_some_iff.1 hx3.out).1; clear v0 v1 v2 v3 v4 v5 v6 v7 v8 s7; clear y0 f0 y1 f1 y2 f2 y3 f3 y4 f4 y5 f5 y6 f6 y7 f7 y8 f8; have hkb := cells_of hbx3.out; obtain ⟨v0, -⟩ := hkb 0 _ rfl; obtain ⟨v1, -⟩ := hkb 1 _ rfl; obtain ⟨v2, -⟩ := hkb 2 _ rfl; obtain ⟨v3, -⟩ := hkb 3 _ rfl; obtain ⟨v4, -⟩ := hkb 4 _ rfl; obtain ⟨v5, -⟩ := hkb 5 _ rfl; obtain ⟨v6, -⟩ := hkb 6 _ rfl; obtain ⟨v7, -⟩ := hkb 7 _ rfl; obtain ⟨v8, -⟩ := hkb 8 _ rfl; clear hkb; have hkx := cells_of hx3.out; obtain ⟨y0, f0⟩ := hkx 0 _ rfl; obtain ⟨y1, f1⟩ := hkx 1 _ rfl; obtain ⟨y2, f2⟩ := hkx 2 _ rfl; obtain ⟨y3, f3⟩ := hkx 3 _ rfl; obtain ⟨y4, f4⟩ := hkx 4 _ rfl; obtain ⟨y5, f5⟩ := hkx 5 _ rfl; obtain ⟨y6, f6⟩ := hkx 6 _ rfl; obtain ⟨y7, f7⟩ := hkx 7 _ rfl; obtain ⟨y8, f8⟩ := hkx 8 _ rfl; clear hkx; replace s9 := (hb3.cell (p := ⟨2, 0, none⟩) (World.block_lt_of_cell? _ _ s9)).trans s9; have hb13 := hid (Bel.step hb12.out hb3); clear hb3))
      go_region
      all_goals
       go_wp2
       obtain ⟨q1, q2, q3, q4⟩ := set9 (b := w.heap.size) (d0 := .int .i64 0) (d1 := .int .u64 0) (d2 := .int .u64 0) (d3 := .int .u64 0) (d4 := .int .u64 0) (d5 := .slice none 0 0) (d6 := .int .i64 0) (d7 := .int .i64 0) (d8 := .string ⟨#[]⟩) hx3.out _ rfl
       generalize hW : World.setCell _ (⟨w.heap.size, 8, none⟩ : Addr) _ = W9 at *
       clear hW
       have hk9 := cells_of q1
       obtain ⟨z0, -⟩ := hk9 0 _ rfl
       obtain ⟨z1, -⟩ := hk9 1 _ rfl
       obtain ⟨z2, -⟩ := hk9 2 _ rfl
       obtain ⟨z3, -⟩ := hk9 3 _ rfl
       obtain ⟨z4, -⟩ := hk9 4 _ rfl
       obtain ⟨z5, -⟩ := hk9 5 _ rfl
       obtain ⟨z6, -⟩ := hk9 6 _ rfl
       obtain ⟨z7, -⟩ := hk9 7 _ rfl
       obtain ⟨z8, -⟩ := hk9 8 _ rfl
       clear hk9
       refine bodyPost_ret (v := .tuple #[.agg #[.int .i64 0, .int .u64 0, .int .u64 0, .int .u64 0, .int .u64 0, .slice none 0 0, .int .i64 0, .int .i64 0, .string ⟨#[]⟩], .int .i64 0, .iface 135 (V 9)]) (by simp [results, Tryd.results21, go_sem, z0, z1, z2, z3, z4, z5, z6, z7, z8]) rfl ?_
       rw [hout2.out]
       first
        | exact ⟨hB3.out.trans (q4 w.heap.size (Nat.le_refl _)), .inr (.inl ⟨by omega, hc, rfl⟩)⟩
        | exact ⟨(Below.drew hB3.out).trans (q4 w.heap.size (Nat.le_refl _)), .inr (.inl ⟨by omega, hc, rfl⟩)⟩
        | exact ⟨Below.drew (hB3.out.trans (q4 w.heap.size (Nat.le_refl _))), .inr (.inl ⟨by omega, hc, rfl⟩)⟩
     ·have gc2 : decide (600 < (C : Int)) = false := by rw [decide_eq_false_iff_not]; omega
      go_wp2_with (first | (go_at_call 32; (with_reducible refine cWh.out.mono ?_); rintro e w1 ⟨t, rfl, hstr, hpop⟩; have hTI := (hpop.tree.toIn (B := w1.heap.size) (fun b hb => hb.1)); have cD : ∀ w', Bel w1 w' → Calls Tryd.prog 33 #[.agg t.cells.toArray] w' fun e w'' => e = .returned (.int .i64 D) ∧ Below w'.heap.size w' w'' := fun w' hb => hD.out t hstr w' (in_bel hTI hb); have cC : ∀ w', Bel w1 w' → Calls Tryd.prog 34 #[.agg t.cells.toArray] w' fun e w'' => e = .returned (.int .i64 C) ∧ Below w'.heap.size w' w'' := fun w' hb => hC.out t hstr w' (in_bel hTI hb); obtain ⟨k9, u0, u1, u2, u3, px, cx, mn, mx, tx, ts⟩ := t; simp only [T.cells] at cD cC ⊢; replace cD := hid cD; replace cC := hid cC; have hx1 : w1.heap[w.heap.size]? = some (.cells #[.int .i64 0, .int .u64 0, .int .u64 0, .int .u64 0, .int .u64 0, .slice none 0 0, .int .i64 0, .int .i64 0, .string ⟨#[]⟩] 27 (0, 0)) := (hpop.bel.block _ (Nat.lt_succ_self _)).trans hx0.out; have hz1 : w.heap.size < w1.heap.size := (Array.getElem?_eq_some_iff.1 hx1).1; have hbA : Bel w1 (w1.alloc (.cells #[.int .i64 k9, .int .u64 u0, .int .u64 u1, .int .u64 u2, .int .u64 u3, .slice px ts.length cx, .int .i64 mn, .int .i64 mx, .string tx] 27)) := (Below.refl _ _).alloc (Nat.le_refl _) _; have hbxA := World.alloc_heap_new w1 (.cells #[.int .i64 k9, .int .u64 u0, .int .u64 u1, .int .u64 u2, .int .u64 u3, .slice px ts.length cx, .int .i64 mn, .int .i64 mx, .string tx] 27); have hB1 := hid (Bel.step (Below.trans hbw.out (hpop.bel.mono (Nat.le_succ _))) hbA); have hxA := hid (kept_row hx1 hbA); have hbA2 := hid hbA; clear hbA hx1; replace hbxA := hid hbxA; replace hTI := hid hTI; replace hstr := hid hstr; replace hpop := hid hpop) | (go_at_call 33; (with_reducible refine (cD.out _ hbA2.out).mono ?_); rintro e w2 ⟨rfl, hb2⟩; have hbx2 := hid (kept_row hbxA.out hb2); have hx2 := hid (kept_row hxA.out hb2); have hb12 := hid (Bel.step hbA2.out hb2); have hB2 := hid (Bel.step hB1.out hb2); have hz2 : w.heap.size < w2.heap.size := (Array.getElem?_eq_some_iff.1 hx2.out).1; have hkb := cells_of hbx2.out; obtain ⟨v0, -⟩ := hkb 0 _ rfl; obtain ⟨v1, -⟩ := hkb 1 _ rfl; obtain ⟨v2, -⟩ := hkb 2 _ rfl; obtain ⟨v3, -⟩ := hkb 3 _ rfl; obtain ⟨v4, -⟩ := hkb 4 _ rfl; obtain ⟨v5, -⟩ := hkb 5 _ rfl; obtain ⟨v6, -⟩ := hkb 6 _ rfl; obtain ⟨v7, -⟩ := hkb 7 _ rfl; obtain ⟨v8, -⟩ := hkb 8 _ rfl; clear hkb; have hkx := cells_of hx2.out; obtain ⟨y0, f0⟩ := hkx 0 _ rfl; obtain ⟨y1, f1⟩ := hkx 1 _ rfl; obtain ⟨y2, f2⟩ := hkx 2 _ rfl; obtain ⟨y3, f3⟩ := hkx 3 _ rfl; obtain ⟨y4, f4⟩ := hkx 4 _ rfl; obtain ⟨y5, f5⟩ := hkx 5 _ rfl; obtain ⟨y6, f6⟩ := hkx 6 _ rfl; obtain ⟨y7, f7⟩ := hkx 7 _ rfl; obtain ⟨y8, f8⟩ := hkx 8 _ rfl; clear hkx; have hS2 := (hS.out.bel (Bel.step (Below.trans hbw.out (hpop.out.bel.mono (Nat.le_succ _))) hb12.out)); have s7 := hS2.dept; have s9 := hS2.limi; clear hS2 hb2) | (go_at_call 34; (with_reducible refine (cC.out _ hb12.out).mono ?_); rintro e w3 ⟨rfl, hb3⟩; have hbx3 := hid (kept_row hbx2.out hb3); have hx3 := hid (kept_row hx2.out hb3); have hB3 := hid (Bel.step hB2.out hb3); have hz3 : w.heap.size < w3.heap.size := (Array.getElem?_eq_some_iff.1 hx3.out).1; clear v0 v1 v2 v3 v4 v5 v6 v7 v8 s7; clear y0 f0 y1 f1 y2 f2 y3 f3 y4 f4 y5 f5 y6 f6 y7 f7 y8 f8; have hkb := cells_of hbx3.out; obtain ⟨v0, -⟩ := hkb 0 _ rfl; obtain ⟨v1, -⟩ := hkb 1 _ rfl; obtain ⟨v2, -⟩ := hkb 2 _ rfl; obtain ⟨v3, -⟩ := hkb 3 _ rfl; obtain ⟨v4, -⟩ := hkb 4 _ rfl; obtain ⟨v5, -⟩ := hkb 5 _ rfl; obtain ⟨v6, -⟩ := hkb 6 _ rfl; obtain ⟨v7, -⟩ := hkb 7 _ rfl; obtain ⟨v8, -⟩ := hkb 8 _ rfl; clear hkb; have hkx := cells_of hx3.out; obtain ⟨y0, f0⟩ := hkx 0 _ rfl; obtain ⟨y1, f1⟩ := hkx 1 _ rfl; obtain ⟨y2, f2⟩ := hkx 2 _ rfl; obtain ⟨y3, f3⟩ := hkx 3 _ rfl; obtain ⟨y4, f4⟩ := hkx 4 _ rfl; obtain ⟨y5, f5⟩ := hkx 5 _ rfl; obtain ⟨y6, f6⟩ := hkx 6 _ rfl; obtain ⟨y7, f7⟩ := hkx 7 _ rfl; obtain ⟨y8, f8⟩ := hkx 8 _ rfl; clear hkx; replace s9 := (hb3.cell (p := ⟨2, 0, none⟩) (World.block_lt_of_cell? _ _ s9)).trans s9; have hb13 := hid (Bel.step hb12.out hb3); clear hb3))
      obtain ⟨q1, q2, q3, q4⟩ := set9 (b := w.heap.size) (d0 := .int .i64 k9) (d1 := .int .u64 u0) (d2 := .int .u64 u1) (d3 := .int .u64 u2) (d4 := .int .u64 u3) (d5 := .slice px ts.length cx) (d6 := .int .i64 mn) (d7 := .int .i64 mx) (d8 := .string tx) hx3.out _ rfl
      generalize hW : World.setCell _ (⟨w.heap.size, 8, none⟩ : Addr) _ = W9 at *
      clear hW
      have hk9 := cells_of q1
      obtain ⟨z0, -⟩ := hk9 0 _ rfl
      obtain ⟨z1, -⟩ := hk9 1 _ rfl
      obtain ⟨z2, -⟩ := hk9 2 _ rfl
      obtain ⟨z3, -⟩ := hk9 3 _ rfl
      obtain ⟨z4, -⟩ := hk9 4 _ rfl
      obtain ⟨z5, -⟩ := hk9 5 _ rfl
      obtain ⟨z6, -⟩ := hk9 6 _ rfl
      obtain ⟨z7, -⟩ := hk9 7 _ rfl
      obtain ⟨z8, -⟩ := hk9 8 _ rfl
      clear hk9
      refine bodyPost_ret (v := .tuple #[.agg #[.int .i64 k9, .int .u64 u0, .int .u64 u1, .int .u64 u2, .int .u64 u3, .slice px ts.length cx, .int .i64 mn, .int .i64 mx, .string tx], .int .i64 s.size, .nilIface]) (by simp [results, Tryd.results21, go_sem, z0, z1, z2, z3, z4, z5, z6, z7, z8]) rfl ?_
      rw [hout2.out]
      refine ⟨hB3.out.trans (q4 w.heap.size (Nat.le_refl _)), .inr (.inr ⟨by omega, by omega, .mk k9 u0 u1 u2 u3 px cx mn mx tx ts, ?_, ?_, rfl⟩)⟩
      ·rw [hstr.out]
       exact hsm.out (by omega) (by omega)
      ·refine T.InP.toIn (w := W9) (S := fun c => w.heap.size < c ∧ c < W9.heap.size) (fun c hc => hc.2) (((hpop.out.tree.keep (w' := w3) fun c hc => hb13.out.block c hc.1).keep (w' := W9) fun c hc => q3 c (by have := hc.2.2; omega)).imp fun c hc => ⟨by have := hc.2.2; omega, ?_⟩)
       rw [q2]
       exact Nat.lt_of_lt_of_le hc.1 hb13.out.size
end Go.Proofs.YtobbifhflnlplaaDoor
namespace Go.Proofs.YtobbifhflnlplaaDoor
open Lib (hid)
open Go.RowKit
open Go.Tree7
open S7
open S5 (nl nl_length nl_small at_nl nl_at Gives idx idx_at ix ix_no ix_yes)
theorem parse_tree {s : ByteArray} {t : T} (hrun : Run (nl s) [([], [])] false 0 (.tree t)) (h1 : deepOf (allT t) ≤ 24) (h2 : (allT t).length ≤ 600) (hm : s.size ≤ 99990) {V : Nat → Value} (w : World) (hS : Six w V) :
  Calls Tryd.prog 21 #[.string s] w fun e w' => Below w.heap.size w w' ∧ ∃ m : T, m.strip = t.strip ∧ T.In w' w'.heap.size m ∧ e = .returned (.tuple #[.agg m.cells.toArray, .int .i64 s.size, .nilIface]) := by
 refine (parse_in hrun hm w hS).mono ?_
 rintro e w' ⟨hb, h⟩
 refine ⟨hb, ?_⟩
 rcases h with ⟨h, -⟩ | ⟨-, h, -⟩ | ⟨-, -, h⟩
 ·omega
 ·omega
 ·exact h
end Go.Proofs.YtobbifhflnlplaaDoor
