/- The program's Simple. -/
import Derived.Test.YtjlmeegaiagfpaaGreatDoorW34
namespace Go.Proofs.YtjlmeegaiagfpaaGreatDoor
open Go.RowKit
open Go.Tree7
open S7
open S5 (nl nl_length nl_small at_nl nl_at Gives idx idx_at ix ix_no ix_yes)
theorem simp_strip (t : T) : T.simp t.strip = T.simp t := by
  refine T.ind (P := fun t => T.simp t.strip = T.simp t) (fun k u0 u1 u2 u3 p cap mn mx tx ks ih => ?_) t
  rw [T.strip_mk, simp_mk, simp_mk, List.length_map, List.map_map, show ks.map (T.simp ∘ T.strip) = ks.map T.simp from List.map_congr_left ih]
theorem simp_of_strip {a b : T} (h : a.strip = b.strip) : T.simp a = T.simp b := by rw [← simp_strip a, h, simp_strip]
/-- The zero node. -/
def T.zero : T := .mk 0 0 0 0 0 none 0 0 0 ⟨#[]⟩ []
theorem simp_zero : T.simp T.zero = T.zero := by unfold T.zero; rw [simp_mk]; rfl
/-- What Simple is. -/
noncomputable def simpT (t : T) : T := if rightB t = true then T.simp t else T.zero
/-- What Copy gives back, be the tree right or not. -/
def GivesAny (w : World) (st : T) (e : Ending) (w' : World) : Prop :=
  ∃ m : T, e = .returned (.agg m.cells.toArray) ∧ Below w.heap.size w w' ∧ Own w' w.heap.size w'.heap.size m ∧ T.simp m = st
theorem copy_any {t : T} {w : World} (hT : T.In w w.heap.size t) : Calls Tryz.prog 13 #[.agg t.cells.toArray] w (GivesAny w (simpT t)) := by
  refine (copy_in8 hT rfl).mono fun e w' h => ?_
  unfold GivesCopied8 at h
  unfold simpT
  split at h
  · rename_i hr
    obtain ⟨m, h1, h2, h3, h4⟩ := h
    rw [if_pos hr]
    exact ⟨m, h1, h2, h3, simp_of_strip h4⟩
  · rename_i hr
    rw [if_neg hr]
    refine ⟨T.zero, h.1, h.2, ?_, simp_zero⟩
    exact .mk (fun _ => w.heap.size) (by constructor <;> decide) (Nat.zero_le _) (by unfold maxLen; omega) (fun h => by simp at h) (Nat.le_refl _) h.2.size (fun i hi => by simp at hi) (fun i hi => by simp at hi)
/-- What Simple gives back. -/
def GivesSimple (w : World) (st : T) (e : Ending) (w' : World) : Prop :=
  ∃ m : T, e = .returned (.agg m.cells.toArray) ∧ Below w.heap.size w w' ∧ T.InP w' (fun b => w.heap.size ≤ b ∧ b < w'.heap.size) m ∧ m.strip = st
set_option maxRecDepth 10000 in
set_option maxHeartbeats 4000000 in
theorem simple_in {t : T} {w : World} (hT : T.In w w.heap.size t) : Calls Tryz.prog 6 #[.agg t.cells.toArray] w (GivesSimple w (simpT t)) := by
  have hG : ∃ G, G = GivesSimple w (simpT t) := ⟨_, rfl⟩
  obtain ⟨G, hG⟩ := hG
  rw [← hG]
  replace hG := Lib.hid hG
  have hb2 : Below w.heap.size w ((w.alloc (.cells t.cells.toArray 27)).alloc (.cells #[.int .i64 0, .int .u64 0, .int .u64 0, .int .u64 0, .int .u64 0, .slice none 0 0, .int .i64 0, .int .i64 0, .string ⟨#[]⟩] 27)) := ((Below.refl w.heap.size w).alloc (Nat.le_refl _) _).alloc (by simp) _
  have C := Lib.hid (copy_any ((hT.keep hb2).mono hb2.size))
  have hbx2 : Hid (((w.alloc (.cells t.cells.toArray 27)).alloc (.cells #[.int .i64 0, .int .u64 0, .int .u64 0, .int .u64 0, .int .u64 0, .slice none 0 0, .int .i64 0, .int .i64 0, .string ⟨#[]⟩] 27)).heap[w.heap.size + 1]? = some (.cells #[.int .i64 0, .int .u64 0, .int .u64 0, .int .u64 0, .int .u64 0, .slice none 0 0, .int .i64 0, .int .i64 0, .string ⟨#[]⟩] 27 (0, 0))) := Lib.hid (by have := World.alloc_heap_new (w.alloc (.cells t.cells.toArray 27)) (.cells #[.int .i64 0, .int .u64 0, .int .u64 0, .int .u64 0, .int .u64 0, .slice none 0 0, .int .i64 0, .int .i64 0, .string ⟨#[]⟩] 27); rw [World.size_alloc] at this; exact this)
  have hA : Hid (((w.alloc (.cells t.cells.toArray 27)).alloc (.cells #[.int .i64 0, .int .u64 0, .int .u64 0, .int .u64 0, .int .u64 0, .slice none 0 0, .int .i64 0, .int .i64 0, .string ⟨#[]⟩] 27)).heap.size = w.heap.size + 2) := Lib.hid (by simp)
  replace hb2 := Lib.hid hb2
  clear hT
  generalize simpT t = st at *
  obtain ⟨k, u0, u1, u2, u3, p, cap, mn, mx, tx, ks⟩ := t
  simp only [T.cells] at *
  go_enter Tryz.func6, Tryz.ntmps6
  go_wp2_with (first | (go_at_call 13; (with_reducible refine C.out.mono ?_); rintro e w1 ⟨⟨km, u0m, u1m, u2m, u3m, pm, capm, mnm, mxm, txm, ksm⟩, rfl, hb1, ho1, hs1⟩; simp only [T.cells]; have h2b := Lib.hid ((hb1.block (w.heap.size + 1) (by rw [hA.out]; omega)).trans hbx2.out); have hz1 := hb1.size; replace hb1 := Lib.hid hb1; have cB := Lib.hid (bared_in _ _ _ _ ho1 (Nat.le_refl _)); simp only [T.cells] at cB; replace hs1 := Lib.hid hs1; clear ho1) | (go_at_call 12; (with_reducible refine cB.out.mono ?_); rintro e w2 ⟨⟨kn, u0n, u1n, u2n, u3n, pn, capn, mnn, mxn, txn, ksn⟩, rfl, hF, hm, hs2⟩; simp only [T.cells]; have h2c := (hF.block (w.heap.size + 1) (by have := hA.out; omega) (by have := hA.out; omega)).trans h2b.out; have hk := cells_of h2c; obtain ⟨y0, f0⟩ := hk 0 _ rfl; obtain ⟨y1, f1⟩ := hk 1 _ rfl; obtain ⟨y2, f2⟩ := hk 2 _ rfl; obtain ⟨y3, f3⟩ := hk 3 _ rfl; obtain ⟨y4, f4⟩ := hk 4 _ rfl; obtain ⟨y5, f5⟩ := hk 5 _ rfl; obtain ⟨y6, f6⟩ := hk 6 _ rfl; obtain ⟨y7, f7⟩ := hk 7 _ rfl; obtain ⟨y8, f8⟩ := hk 8 _ rfl; clear hk; replace hF := Lib.hid hF; replace hm := Lib.hid hm; replace h2c := Lib.hid h2c; replace hs2 := Lib.hid hs2))
  obtain ⟨q1, q2, q3, q4⟩ := set9 (b := w.heap.size + 1) (d0 := .int .i64 kn) (d1 := .int .u64 u0n) (d2 := .int .u64 u1n) (d3 := .int .u64 u2n) (d4 := .int .u64 u3n) (d5 := .slice pn ksn.length capn) (d6 := .int .i64 mnn) (d7 := .int .i64 mxn) (d8 := .string txn) h2c.out _ rfl
  generalize hW : World.setCell _ (⟨w.heap.size + 1, 8, none⟩ : Addr) _ = W9 at *
  clear hW
  have hk9 := cells_of q1
  obtain ⟨z0, -⟩ := hk9 0 _ rfl
  obtain ⟨z1, -⟩ := hk9 1 _ rfl
  obtain ⟨z2, -⟩ := hk9 2 _ rfl
  obtain ⟨z3, -⟩ := hk9 3 _ rfl
  obtain ⟨z4, -⟩ := hk9 4 _ rfl
  obtain ⟨z5, -⟩ := hk9 5 _ rfl
  obtain ⟨z6, -⟩ := hk9 6 _ rfl
  obtain ⟨z7, -⟩ := hk9 7 _ rfl
  obtain ⟨z8, -⟩ := hk9 8 _ rfl
  clear hk9
  refine bodyPost_ret (v := .agg #[.int .i64 kn, .int .u64 u0n, .int .u64 u1n, .int .u64 u2n, .int .u64 u3n, .slice pn ksn.length capn, .int .i64 mnn, .int .i64 mxn, .string txn]) (by simp [results, Tryz.results6, go_sem, z0, z1, z2, z3, z4, z5, z6, z7, z8]) rfl ?_
  rw [hG.out]
  have hl1 := (Array.getElem?_eq_some_iff.1 h2c.out).1
  have hAo := hA.out
  have hB : Below w.heap.size w w2 := hb2.out.trans ((hb1.out.mono (by rw [hAo]; omega)).trans ((hF.out.below hz1 (fun k hk => hk.1)).mono (by rw [hAo]; omega)))
  refine ⟨.mk kn u0n u1n u2n u3n pn capn mnn mxn txn ksn, rfl, hB.trans (q4 _ (by omega)), (hm.out.keep fun b hb => q3 b (by rw [hAo] at hb; omega)).imp fun b hb => ?_, ?_⟩
  · rw [hAo] at hb
    have := hF.out.size
    rw [q2]
    omega
  · rw [hs2.out, hs1.out]
end Go.Proofs.YtjlmeegaiagfpaaGreatDoor
