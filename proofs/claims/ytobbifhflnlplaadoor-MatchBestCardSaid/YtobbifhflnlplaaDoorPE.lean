/- Texts merged: S10W9, S10W10. -/

import Derived.Test.YtobbifhflnlplaaDoorPD
namespace Go.Proofs.YtobbifhflnlplaaDoor
open Lib (hid)
open Go.RowKit
open Go.Tree7
open S7
open S5 (nl nl_length nl_small at_nl nl_at Gives idx idx_at ix ix_no ix_yes)
theorem t10 {w : World} {b : Nat} { c0 c1 c2 c3 c4 c5 c6 c7 c8 c9 : Value} {t : TypeId} (h : w.heap[b]? = some (.cells #[c0, c1, c2, c3, c4, c5, c6, c7, c8, c9] t (0, 0))) : w.cell? ⟨b, 0, none⟩ = some c0 ∧ w.frozen? ⟨b, 0, none⟩ = false ∧ w.cell? ⟨b, 1, none⟩ = some c1 ∧ w.frozen? ⟨b, 1, none⟩ = false ∧ w.cell? ⟨b, 2, none⟩ = some c2 ∧ w.frozen? ⟨b, 2, none⟩ = false ∧ w.cell? ⟨b, 3, none⟩ = some c3 ∧ w.frozen? ⟨b, 3, none⟩ = false ∧ w.cell? ⟨b, 4, none⟩ = some c4 ∧ w.frozen? ⟨b, 4, none⟩ = false ∧ w.cell? ⟨b, 5, none⟩ = some c5 ∧ w.frozen? ⟨b, 5, none⟩ = false ∧ w.cell? ⟨b, 6, none⟩ = some c6 ∧ w.frozen? ⟨b, 6, none⟩ = false ∧ w.cell? ⟨b, 7, none⟩ = some c7 ∧ w.frozen? ⟨b, 7, none⟩ = false ∧ w.cell? ⟨b, 8, none⟩ = some c8 ∧ w.frozen? ⟨b, 8, none⟩ = false ∧ w.cell? ⟨b, 9, none⟩ = some c9 ∧ w.frozen? ⟨b, 9, none⟩ = false :=
 have e := cells_of h
 ⟨(e 0 _ rfl).1, (e 0 _ rfl).2, (e 1 _ rfl).1, (e 1 _ rfl).2, (e 2 _ rfl).1, (e 2 _ rfl).2, (e 3 _ rfl).1, (e 3 _ rfl).2, (e 4 _ rfl).1, (e 4 _ rfl).2, (e 5 _ rfl).1, (e 5 _ rfl).2, (e 6 _ rfl).1, (e 6 _ rfl).2, (e 7 _ rfl).1, (e 7 _ rfl).2, (e 8 _ rfl).1, (e 8 _ rfl).2, (e 9 _ rfl).1, (e 9 _ rfl).2⟩
theorem set10 {w : World} {b : Nat} { c0 c1 c2 c3 c4 c5 c6 c7 c8 c9 d0 d1 d2 d3 d4 d5 d6 d7 d8 d9 : Value} {t : TypeId} (h : w.heap[b]? = some (.cells #[c0, c1, c2, c3, c4, c5, c6, c7, c8, c9] t (0, 0))) (W : World) (hW : W = ((((((((((w.setCell ⟨b, 0, none⟩ d0).setCell ⟨b, 1, none⟩ d1).setCell ⟨b, 2, none⟩ d2).setCell ⟨b, 3, none⟩ d3).setCell ⟨b, 4, none⟩ d4).setCell ⟨b, 5, none⟩ d5).setCell ⟨b, 6, none⟩ d6).setCell ⟨b, 7, none⟩ d7).setCell ⟨b, 8, none⟩ d8).setCell ⟨b, 9, none⟩ d9)) :
  W.heap[b]? = some (.cells #[d0, d1, d2, d3, d4, d5, d6, d7, d8, d9] t (0, 0)) ∧ W.heap.size = w.heap.size ∧ (∀ k, k ≠ b → W.heap[k]? = w.heap[k]?) ∧ ∀ n, n ≤ b → Below n w W := by
 have a0 := box_set h 0 d0
 have a1 := box_set a0 1 d1
 have a2 := box_set a1 2 d2
 have a3 := box_set a2 3 d3
 have a4 := box_set a3 4 d4
 have a5 := box_set a4 5 d5
 have a6 := box_set a5 6 d6
 have a7 := box_set a6 7 d7
 have a8 := box_set a7 8 d8
 have a9 := box_set a8 9 d9
 rw [← hW] at a9
 refine ⟨by rw [a9]; simp, by rw [hW]; simp only [size_set], fun k hk => ?_, fun n hn => ?_⟩
 ·rw [hW]
  iterate 10 rw [Below.heap_setCell _ _ _ _ hk]
 ·rw [hW]
  have s0 := (Below.refl n w).setCell (p := ⟨b, 0, none⟩) hn d0
  have s1 := s0.setCell (p := ⟨b, 1, none⟩) hn d1
  have s2 := s1.setCell (p := ⟨b, 2, none⟩) hn d2
  have s3 := s2.setCell (p := ⟨b, 3, none⟩) hn d3
  have s4 := s3.setCell (p := ⟨b, 4, none⟩) hn d4
  have s5 := s4.setCell (p := ⟨b, 5, none⟩) hn d5
  have s6 := s5.setCell (p := ⟨b, 6, none⟩) hn d6
  have s7 := s6.setCell (p := ⟨b, 7, none⟩) hn d7
  have s8 := s7.setCell (p := ⟨b, 8, none⟩) hn d8
  exact s8.setCell (p := ⟨b, 9, none⟩) hn d9
theorem part_end {w w3 w9 W : World} {b2 b3 : Nat} {t : T} {k s0 s1 s2 s3 : Int} {g capg : Nat} {ps : List Pt} {bd : Nat → Nat} {sk : Bool} (hw : Below w.heap.size w w3) (h9 : Below w3.heap.size w3 w9) (ho : OwnRow w9 w3.heap.size w9.heap.size (some ⟨g, 0, none⟩) capg ps bd) (hfit : ∀ x ∈ ps, Pt.All fit4 x)
  (_ : w.heap.size ≤ b2) (h3 : b2 < w3.heap.size) (_ : w.heap.size ≤ b3) (h5 : b3 < w3.heap.size) (hs : w9.heap.size ≤ W.heap.size) (hbl : ∀ k, k < w9.heap.size → k ≠ b2 → k ≠ b3 → W.heap[k]? = w9.heap[k]?) (hB : Below w.heap.size w9 W) (hf : fit4 (.mk k s0 s1 s2 s3 (some ⟨g, 0, none⟩) capg sk false false false ps)) (hs' : Spr t (.mk k s0 s1 s2 s3 (some ⟨g, 0, none⟩) capg sk false false false ps)) :
  GivesPart w t (.returned (.agg #[.int .i64 k, .int .u64 s0, .int .u64 s1, .int .u64 s2, .int .u64 s3, .slice (some ⟨g, 0, none⟩) ps.length capg, .bool sk, .bool false, .bool false, .bool false])) W := by
 refine ⟨.mk k s0 s1 s2 s3 (some ⟨g, 0, none⟩) capg sk false false false ps, rfl, (hw.trans (h9.mono hw.size)).trans hB, ?_, .mk hf hfit, hs'⟩
 have := ho.own' k s0 s1 s2 s3 sk false false false
 have := hw.size
 exact ((ho.own' k s0 s1 s2 s3 sk false false false).keep fun b b1 b2 => hbl b b2 (by omega) (by omega)).low (by omega) hs
set_option maxRecDepth 100000 in
set_option maxHeartbeats 8000000 in
theorem spread_leaf {k s0 s1 s2 s3 : Int} {p : Option Addr} {cap : Nat} {mn mx : Int} {tx : ByteArray} {ks : List T} (hk : k ≠ 2 ∧ k ≠ 3 ∧ k ≠ 4) (hf : fit4 (.mk k s0 s1 s2 s3 none 0 false false false false [])) (w : World) : Calls Tryd.prog 36 #[.agg #[.int .i64 k, .int .u64 s0, .int .u64 s1, .int .u64 s2, .int .u64 s3, .slice p ks.length cap, .int .i64 mn, .int .i64 mx, .string tx]] w (GivesPart w (.mk k s0 s1 s2 s3 p cap mn mx tx ks)) := by
 obtain ⟨G, hG⟩ : ∃ G, G = GivesPart w (.mk k s0 s1 s2 s3 p cap mn mx tx ks) := ⟨_, rfl⟩
 rw [← hG]
 replace hG := hid hG
 have hbw3 : Below w.heap.size w (((w.alloc (.cells #[.int .i64 k, .int .u64 s0, .int .u64 s1, .int .u64 s2, .int .u64 s3, .slice p ks.length cap, .int .i64 mn, .int .i64 mx, .string tx] 27)).alloc (.cells #[.int .i64 0, .int .u64 0, .int .u64 0, .int .u64 0, .int .u64 0, .slice none 0 0, .bool false, .bool false, .bool false, .bool false] 75)).alloc (.cells #[.int .i64 k, .int .u64 s0, .int .u64 s1, .int .u64 s2, .int .u64 s3, .slice none 0 0, .bool false, .bool false, .bool false, .bool false] 75)) := (((Below.refl _ _).alloc (Nat.le_refl _) _).alloc (by simp) _).alloc (by simp <;> omega) _
 have hs3 : (((w.alloc (.cells #[.int .i64 k, .int .u64 s0, .int .u64 s1, .int .u64 s2, .int .u64 s3, .slice p ks.length cap, .int .i64 mn, .int .i64 mx, .string tx] 27)).alloc (.cells #[.int .i64 0, .int .u64 0, .int .u64 0, .int .u64 0, .int .u64 0, .slice none 0 0, .bool false, .bool false, .bool false, .bool false] 75)).alloc (.cells #[.int .i64 k, .int .u64 s0, .int .u64 s1, .int .u64 s2, .int .u64 s3, .slice none 0 0, .bool false, .bool false, .bool false, .bool false] 75)).heap.size = w.heap.size + 3 := by simp
 have hb1 : (((w.alloc (.cells #[.int .i64 k, .int .u64 s0, .int .u64 s1, .int .u64 s2, .int .u64 s3, .slice p ks.length cap, .int .i64 mn, .int .i64 mx, .string tx] 27)).alloc (.cells #[.int .i64 0, .int .u64 0, .int .u64 0, .int .u64 0, .int .u64 0, .slice none 0 0, .bool false, .bool false, .bool false, .bool false] 75)).alloc (.cells #[.int .i64 k, .int .u64 s0, .int .u64 s1, .int .u64 s2, .int .u64 s3, .slice none 0 0, .bool false, .bool false, .bool false, .bool false] 75)).heap[w.heap.size]? = some (.cells #[.int .i64 k, .int .u64 s0, .int .u64 s1, .int .u64 s2, .int .u64 s3, .slice p ks.length cap, .int .i64 mn, .int .i64 mx, .string tx] 27 (0, 0)) := (Below.heap_alloc _ _ _ (by simp <;> omega)).trans ((Below.heap_alloc _ _ _ (by simp)).trans (World.alloc_heap_new _ _))
 have hb2 : (((w.alloc (.cells #[.int .i64 k, .int .u64 s0, .int .u64 s1, .int .u64 s2, .int .u64 s3, .slice p ks.length cap, .int .i64 mn, .int .i64 mx, .string tx] 27)).alloc (.cells #[.int .i64 0, .int .u64 0, .int .u64 0, .int .u64 0, .int .u64 0, .slice none 0 0, .bool false, .bool false, .bool false, .bool false] 75)).alloc (.cells #[.int .i64 k, .int .u64 s0, .int .u64 s1, .int .u64 s2, .int .u64 s3, .slice none 0 0, .bool false, .bool false, .bool false, .bool false] 75)).heap[w.heap.size + 1]? = some (.cells #[.int .i64 0, .int .u64 0, .int .u64 0, .int .u64 0, .int .u64 0, .slice none 0 0, .bool false, .bool false, .bool false, .bool false] 75 (0, 0)) := (Below.heap_alloc _ _ _ (by simp <;> omega)).trans (by have := World.alloc_heap_new (w.alloc (.cells #[.int .i64 k, .int .u64 s0, .int .u64 s1, .int .u64 s2, .int .u64 s3, .slice p ks.length cap, .int .i64 mn, .int .i64 mx, .string tx] 27)) (.cells #[.int .i64 0, .int .u64 0, .int .u64 0, .int .u64 0, .int .u64 0, .slice none 0 0, .bool false, .bool false, .bool false, .bool false] 75); rw [World.size_alloc] at this; exact this)
 have hb3 : (((w.alloc (.cells #[.int .i64 k, .int .u64 s0, .int .u64 s1, .int .u64 s2, .int .u64 s3, .slice p ks.length cap, .int .i64 mn, .int .i64 mx, .string tx] 27)).alloc (.cells #[.int .i64 0, .int .u64 0, .int .u64 0, .int .u64 0, .int .u64 0, .slice none 0 0, .bool false, .bool false, .bool false, .bool false] 75)).alloc (.cells #[.int .i64 k, .int .u64 s0, .int .u64 s1, .int .u64 s2, .int .u64 s3, .slice none 0 0, .bool false, .bool false, .bool false, .bool false] 75)).heap[w.heap.size + 1 + 1]? = some (.cells #[.int .i64 k, .int .u64 s0, .int .u64 s1, .int .u64 s2, .int .u64 s3, .slice none 0 0, .bool false, .bool false, .bool false, .bool false] 75 (0, 0)) := by have := World.alloc_heap_new ((w.alloc (.cells #[.int .i64 k, .int .u64 s0, .int .u64 s1, .int .u64 s2, .int .u64 s3, .slice p ks.length cap, .int .i64 mn, .int .i64 mx, .string tx] 27)).alloc (.cells #[.int .i64 0, .int .u64 0, .int .u64 0, .int .u64 0, .int .u64 0, .slice none 0 0, .bool false, .bool false, .bool false, .bool false] 75)) (.cells #[.int .i64 k, .int .u64 s0, .int .u64 s1, .int .u64 s2, .int .u64 s3, .slice none 0 0, .bool false, .bool false, .bool false, .bool false] 75); rw [World.size_alloc, World.size_alloc] at this; exact this
 have g2 : (k == 2) = false := by rw [beq_eq_false_iff_ne]; exact hk.1
 have g3 : (k == 3) = false := by rw [beq_eq_false_iff_ne]; exact hk.2.1
 have g4 : (k == 4) = false := by rw [beq_eq_false_iff_ne]; exact hk.2.2
 obtain ⟨c0, fc0, c1, fc1, c2, fc2, c3, fc3, c4, fc4, c5, fc5, c6, fc6, c7, fc7, c8, fc8, c9, fc9⟩ := t10 hb3
 obtain ⟨z0, fz0, z1, fz1, z2, fz2, z3, fz3, z4, fz4, z5, fz5, z6, fz6, z7, fz7, z8, fz8, z9, fz9⟩ := t10 hb2
 replace hb1 := hid hb1
 replace hb2 := hid hb2
 replace hb3 := hid hb3
 replace hk := hid hk
 replace hbw3 := hid hbw3
 clear hs3
 go_enter Tryd.func36, Tryd.ntmps36
 go_wp2
 have hF : (((w.alloc (.cells #[.int .i64 k, .int .u64 s0, .int .u64 s1, .int .u64 s2, .int .u64 s3, .slice p ks.length cap, .int .i64 mn, .int .i64 mx, .string tx] 27)).alloc (.cells #[.int .i64 k, .int .u64 s0, .int .u64 s1, .int .u64 s2, .int .u64 s3, .slice none 0 0, .bool false, .bool false, .bool false, .bool false] 75)).alloc (.cells #[.int .i64 k, .int .u64 s0, .int .u64 s1, .int .u64 s2, .int .u64 s3, .slice none 0 0, .bool false, .bool false, .bool false, .bool false] 75)).heap[w.heap.size + 1]? = some (.cells #[.int .i64 k, .int .u64 s0, .int .u64 s1, .int .u64 s2, .int .u64 s3, .slice none 0 0, .bool false, .bool false, .bool false, .bool false] 75 (0, 0)) := (Below.heap_alloc _ _ _ (by simp <;> omega)).trans (by have := World.alloc_heap_new (w.alloc (.cells #[.int .i64 k, .int .u64 s0, .int .u64 s1, .int .u64 s2, .int .u64 s3, .slice p ks.length cap, .int .i64 mn, .int .i64 mx, .string tx] 27)) (.cells #[.int .i64 k, .int .u64 s0, .int .u64 s1, .int .u64 s2, .int .u64 s3, .slice none 0 0, .bool false, .bool false, .bool false, .bool false] 75); rw [World.size_alloc] at this; exact this)
 have hFB : Below w.heap.size w (((w.alloc (.cells #[.int .i64 k, .int .u64 s0, .int .u64 s1, .int .u64 s2, .int .u64 s3, .slice p ks.length cap, .int .i64 mn, .int .i64 mx, .string tx] 27)).alloc (.cells #[.int .i64 k, .int .u64 s0, .int .u64 s1, .int .u64 s2, .int .u64 s3, .slice none 0 0, .bool false, .bool false, .bool false, .bool false] 75)).alloc (.cells #[.int .i64 k, .int .u64 s0, .int .u64 s1, .int .u64 s2, .int .u64 s3, .slice none 0 0, .bool false, .bool false, .bool false, .bool false] 75)) := (((Below.refl _ _).alloc (Nat.le_refl _) _).alloc (by simp) _).alloc (by simp <;> omega) _
 obtain ⟨v0, -, v1, -, v2, -, v3, -, v4, -, v5, -, v6, -, v7, -, v8, -, v9, -⟩ := t10 hF
 refine bodyPost_ret (v := .agg #[.int .i64 k, .int .u64 s0, .int .u64 s1, .int .u64 s2, .int .u64 s3, .slice none 0 0, .bool false, .bool false, .bool false, .bool false]) (by simp [results, Tryd.results36, go_sem, v0, v1, v2, v3, v4, v5, v6, v7, v8, v9]) rfl ?_
 rw [hG.out]
 refine ⟨.mk k s0 s1 s2 s3 none 0 false false false false [], rfl, hFB, .mk (fun _ => w.heap.size) (Nat.le_refl _) (Nat.zero_le _) (fun h => by simp at h) (Nat.le_refl _) hFB.size (fun i hi => by simp at hi) (fun i hi => by simp at hi), .mk hf (fun x hx => by simp at hx), .leaf hk.out⟩
set_option maxRecDepth 100000 in
set_option maxHeartbeats 8000000 in
theorem spread_cat {s0 s1 s2 s3 : Int} {p : Option Addr} {cap : Nat} {mn mx : Int} {tx : ByteArray} {ks : List T} (w : World) (hf : ∀ g capg sk ps, fit4 (.mk 2 s0 s1 s2 s3 (some ⟨g, 0, none⟩) capg sk false false false ps))
  (cA : ∀ w3, Below w.heap.size w w3 → Calls Tryd.prog 57 #[.slice p ks.length cap] w3 (GivesParts (fun ps => ps.length = ks.length ∧ ∀ i (h1 : i < ks.length) (h2 : i < ps.length), Spr ks[i] ps[i]) w3)) :
  Calls Tryd.prog 36 #[.agg #[.int .i64 2, .int .u64 s0, .int .u64 s1, .int .u64 s2, .int .u64 s3, .slice p ks.length cap, .int .i64 mn, .int .i64 mx, .string tx]] w (GivesPart w (.mk 2 s0 s1 s2 s3 p cap mn mx tx ks)) := by
 obtain ⟨G, hG⟩ : ∃ G, G = GivesPart w (.mk 2 s0 s1 s2 s3 p cap mn mx tx ks) := ⟨_, rfl⟩
 rw [← hG]
 replace hG := hid hG
 have hbw3 : Below w.heap.size w (((w.alloc (.cells #[.int .i64 2, .int .u64 s0, .int .u64 s1, .int .u64 s2, .int .u64 s3, .slice p ks.length cap, .int .i64 mn, .int .i64 mx, .string tx] 27)).alloc (.cells #[.int .i64 0, .int .u64 0, .int .u64 0, .int .u64 0, .int .u64 0, .slice none 0 0, .bool false, .bool false, .bool false, .bool false] 75)).alloc (.cells #[.int .i64 2, .int .u64 s0, .int .u64 s1, .int .u64 s2, .int .u64 s3, .slice none 0 0, .bool false, .bool false, .bool false, .bool false] 75)) := (((Below.refl _ _).alloc (Nat.le_refl _) _).alloc (by simp) _).alloc (by simp <;> omega) _
 have hs3 : (((w.alloc (.cells #[.int .i64 2, .int .u64 s0, .int .u64 s1, .int .u64 s2, .int .u64 s3, .slice p ks.length cap, .int .i64 mn, .int .i64 mx, .string tx] 27)).alloc (.cells #[.int .i64 0, .int .u64 0, .int .u64 0, .int .u64 0, .int .u64 0, .slice none 0 0, .bool false, .bool false, .bool false, .bool false] 75)).alloc (.cells #[.int .i64 2, .int .u64 s0, .int .u64 s1, .int .u64 s2, .int .u64 s3, .slice none 0 0, .bool false, .bool false, .bool false, .bool false] 75)).heap.size = w.heap.size + 3 := by simp
 have hb1 : (((w.alloc (.cells #[.int .i64 2, .int .u64 s0, .int .u64 s1, .int .u64 s2, .int .u64 s3, .slice p ks.length cap, .int .i64 mn, .int .i64 mx, .string tx] 27)).alloc (.cells #[.int .i64 0, .int .u64 0, .int .u64 0, .int .u64 0, .int .u64 0, .slice none 0 0, .bool false, .bool false, .bool false, .bool false] 75)).alloc (.cells #[.int .i64 2, .int .u64 s0, .int .u64 s1, .int .u64 s2, .int .u64 s3, .slice none 0 0, .bool false, .bool false, .bool false, .bool false] 75)).heap[w.heap.size]? = some (.cells #[.int .i64 2, .int .u64 s0, .int .u64 s1, .int .u64 s2, .int .u64 s3, .slice p ks.length cap, .int .i64 mn, .int .i64 mx, .string tx] 27 (0, 0)) := (Below.heap_alloc _ _ _ (by simp <;> omega)).trans ((Below.heap_alloc _ _ _ (by simp)).trans (World.alloc_heap_new _ _))
 have hb2 : (((w.alloc (.cells #[.int .i64 2, .int .u64 s0, .int .u64 s1, .int .u64 s2, .int .u64 s3, .slice p ks.length cap, .int .i64 mn, .int .i64 mx, .string tx] 27)).alloc (.cells #[.int .i64 0, .int .u64 0, .int .u64 0, .int .u64 0, .int .u64 0, .slice none 0 0, .bool false, .bool false, .bool false, .bool false] 75)).alloc (.cells #[.int .i64 2, .int .u64 s0, .int .u64 s1, .int .u64 s2, .int .u64 s3, .slice none 0 0, .bool false, .bool false, .bool false, .bool false] 75)).heap[w.heap.size + 1]? = some (.cells #[.int .i64 0, .int .u64 0, .int .u64 0, .int .u64 0, .int .u64 0, .slice none 0 0, .bool false, .bool false, .bool false, .bool false] 75 (0, 0)) := (Below.heap_alloc _ _ _ (by simp <;> omega)).trans (by have := World.alloc_heap_new (w.alloc (.cells #[.int .i64 2, .int .u64 s0, .int .u64 s1, .int .u64 s2, .int .u64 s3, .slice p ks.length cap, .int .i64 mn, .int .i64 mx, .string tx] 27)) (.cells #[.int .i64 0, .int .u64 0, .int .u64 0, .int .u64 0, .int .u64 0, .slice none 0 0, .bool false, .bool false, .bool false, .bool false] 75); rw [World.size_alloc] at this; exact this)
 have hb3 : (((w.alloc (.cells #[.int .i64 2, .int .u64 s0, .int .u64 s1, .int .u64 s2, .int .u64 s3, .slice p ks.length cap, .int .i64 mn, .int .i64 mx, .string tx] 27)).alloc (.cells #[.int .i64 0, .int .u64 0, .int .u64 0, .int .u64 0, .int .u64 0, .slice none 0 0, .bool false, .bool false, .bool false, .bool false] 75)).alloc (.cells #[.int .i64 2, .int .u64 s0, .int .u64 s1, .int .u64 s2, .int .u64 s3, .slice none 0 0, .bool false, .bool false, .bool false, .bool false] 75)).heap[w.heap.size + 1 + 1]? = some (.cells #[.int .i64 2, .int .u64 s0, .int .u64 s1, .int .u64 s2, .int .u64 s3, .slice none 0 0, .bool false, .bool false, .bool false, .bool false] 75 (0, 0)) := by have := World.alloc_heap_new ((w.alloc (.cells #[.int .i64 2, .int .u64 s0, .int .u64 s1, .int .u64 s2, .int .u64 s3, .slice p ks.length cap, .int .i64 mn, .int .i64 mx, .string tx] 27)).alloc (.cells #[.int .i64 0, .int .u64 0, .int .u64 0, .int .u64 0, .int .u64 0, .slice none 0 0, .bool false, .bool false, .bool false, .bool false] 75)) (.cells #[.int .i64 2, .int .u64 s0, .int .u64 s1, .int .u64 s2, .int .u64 s3, .slice none 0 0, .bool false, .bool false, .bool false, .bool false] 75); rw [World.size_alloc, World.size_alloc] at this; exact this
 replace cA := hid (cA _ hbw3)
 have hk5 : Hid (∀ w9, Below (((w.alloc (.cells #[.int .i64 2, .int .u64 s0, .int .u64 s1, .int .u64 s2, .int .u64 s3, .slice p ks.length cap, .int .i64 mn, .int .i64 mx, .string tx] 27)).alloc (.cells #[.int .i64 0, .int .u64 0, .int .u64 0, .int .u64 0, .int .u64 0, .slice none 0 0, .bool false, .bool false, .bool false, .bool false] 75)).alloc (.cells #[.int .i64 2, .int .u64 s0, .int .u64 s1, .int .u64 s2, .int .u64 s3, .slice none 0 0, .bool false, .bool false, .bool false, .bool false] 75)).heap.size (((w.alloc (.cells #[.int .i64 2, .int .u64 s0, .int .u64 s1, .int .u64 s2, .int .u64 s3, .slice p ks.length cap, .int .i64 mn, .int .i64 mx, .string tx] 27)).alloc (.cells #[.int .i64 0, .int .u64 0, .int .u64 0, .int .u64 0, .int .u64 0, .slice none 0 0, .bool false, .bool false, .bool false, .bool false] 75)).alloc (.cells #[.int .i64 2, .int .u64 s0, .int .u64 s1, .int .u64 s2, .int .u64 s3, .slice none 0 0, .bool false, .bool false, .bool false, .bool false] 75)) w9 → w9.cell? ⟨w.heap.size + 1 + 1, 5, none⟩ = some (.slice none 0 0) ∧ w9.frozen? ⟨w.heap.size + 1 + 1, 5, none⟩ = false) := hid fun w9 hb => cells_of (kept_row hb3 hb) 5 _ rfl
 have hkp : Hid (∀ w9 g (ps : List Pt) (bd : Nat → Nat) {capg : Nat} {w10 : World}, Below (((w.alloc (.cells #[.int .i64 2, .int .u64 s0, .int .u64 s1, .int .u64 s2, .int .u64 s3, .slice p ks.length cap, .int .i64 mn, .int .i64 mx, .string tx] 27)).alloc (.cells #[.int .i64 0, .int .u64 0, .int .u64 0, .int .u64 0, .int .u64 0, .slice none 0 0, .bool false, .bool false, .bool false, .bool false] 75)).alloc (.cells #[.int .i64 2, .int .u64 s0, .int .u64 s1, .int .u64 s2, .int .u64 s3, .slice none 0 0, .bool false, .bool false, .bool false, .bool false] 75)).heap.size (((w.alloc (.cells #[.int .i64 2, .int .u64 s0, .int .u64 s1, .int .u64 s2, .int .u64 s3, .slice p ks.length cap, .int .i64 mn, .int .i64 mx, .string tx] 27)).alloc (.cells #[.int .i64 0, .int .u64 0, .int .u64 0, .int .u64 0, .int .u64 0, .slice none 0 0, .bool false, .bool false, .bool false, .bool false] 75)).alloc (.cells #[.int .i64 2, .int .u64 s0, .int .u64 s1, .int .u64 s2, .int .u64 s3, .slice none 0 0, .bool false, .bool false, .bool false, .bool false] 75)) w9 → OwnRow w9 (((w.alloc (.cells #[.int .i64 2, .int .u64 s0, .int .u64 s1, .int .u64 s2, .int .u64 s3, .slice p ks.length cap, .int .i64 mn, .int .i64 mx, .string tx] 27)).alloc (.cells #[.int .i64 0, .int .u64 0, .int .u64 0, .int .u64 0, .int .u64 0, .slice none 0 0, .bool false, .bool false, .bool false, .bool false] 75)).alloc (.cells #[.int .i64 2, .int .u64 s0, .int .u64 s1, .int .u64 s2, .int .u64 s3, .slice none 0 0, .bool false, .bool false, .bool false, .bool false] 75)).heap.size w9.heap.size (some ⟨g, 0, none⟩) capg ps bd → Below (w9.setCell ⟨w.heap.size + 1 + 1, 5, none⟩ (.slice (some ⟨g, 0, none⟩) ps.length capg)).heap.size (w9.setCell ⟨w.heap.size + 1 + 1, 5, none⟩ (.slice (some ⟨g, 0, none⟩) ps.length capg)) w10 →
   w10.heap[w.heap.size + 1 + 1]? = some (.cells #[.int .i64 2, .int .u64 s0, .int .u64 s1, .int .u64 s2, .int .u64 s3, .slice (some ⟨g, 0, none⟩) ps.length capg, .bool false, .bool false, .bool false, .bool false] 75 (0, 0)) ∧ w10.heap[w.heap.size + 1]? = some (.cells #[.int .i64 0, .int .u64 0, .int .u64 0, .int .u64 0, .int .u64 0, .slice none 0 0, .bool false, .bool false, .bool false, .bool false] 75 (0, 0))) := hid fun w9 g ps bd {capg w10} hb ho hb2' => by
  have e3 := kept_row hb3 hb
  have e2 := kept_row hb2 hb
  have a3 := box_set e3 5 (.slice (some ⟨g, 0, none⟩) ps.length capg)
  refine ⟨?_, ?_⟩
  ·rw [hb2'.block _ (Array.getElem?_eq_some_iff.1 a3).1, a3]
   simp
  ·have a2 : (w9.setCell ⟨w.heap.size + 1 + 1, 5, none⟩ (.slice (some ⟨g, 0, none⟩) ps.length capg)).heap[w.heap.size + 1]? = some (.cells #[.int .i64 0, .int .u64 0, .int .u64 0, .int .u64 0, .int .u64 0, .slice none 0 0, .bool false, .bool false, .bool false, .bool false] 75 (0, 0)) := by rw [Below.heap_setCell _ _ _ _ (by show w.heap.size + 1 ≠ w.heap.size + 1 + 1; omega)]; exact e2
   rw [hb2'.block _ (Array.getElem?_eq_some_iff.1 a2).1, a2]
 have cS : Hid (∀ w9 g (ps : List Pt) (bd : Nat → Nat) {capg : Nat}, Below (((w.alloc (.cells #[.int .i64 2, .int .u64 s0, .int .u64 s1, .int .u64 s2, .int .u64 s3, .slice p ks.length cap, .int .i64 mn, .int .i64 mx, .string tx] 27)).alloc (.cells #[.int .i64 0, .int .u64 0, .int .u64 0, .int .u64 0, .int .u64 0, .slice none 0 0, .bool false, .bool false, .bool false, .bool false] 75)).alloc (.cells #[.int .i64 2, .int .u64 s0, .int .u64 s1, .int .u64 s2, .int .u64 s3, .slice none 0 0, .bool false, .bool false, .bool false, .bool false] 75)).heap.size (((w.alloc (.cells #[.int .i64 2, .int .u64 s0, .int .u64 s1, .int .u64 s2, .int .u64 s3, .slice p ks.length cap, .int .i64 mn, .int .i64 mx, .string tx] 27)).alloc (.cells #[.int .i64 0, .int .u64 0, .int .u64 0, .int .u64 0, .int .u64 0, .slice none 0 0, .bool false, .bool false, .bool false, .bool false] 75)).alloc (.cells #[.int .i64 2, .int .u64 s0, .int .u64 s1, .int .u64 s2, .int .u64 s3, .slice none 0 0, .bool false, .bool false, .bool false, .bool false] 75)) w9 → OwnRow w9 (((w.alloc (.cells #[.int .i64 2, .int .u64 s0, .int .u64 s1, .int .u64 s2, .int .u64 s3, .slice p ks.length cap, .int .i64 mn, .int .i64 mx, .string tx] 27)).alloc (.cells #[.int .i64 0, .int .u64 0, .int .u64 0, .int .u64 0, .int .u64 0, .slice none 0 0, .bool false, .bool false, .bool false, .bool false] 75)).alloc (.cells #[.int .i64 2, .int .u64 s0, .int .u64 s1, .int .u64 s2, .int .u64 s3, .slice none 0 0, .bool false, .bool false, .bool false, .bool false] 75)).heap.size w9.heap.size (some ⟨g, 0, none⟩) capg ps bd → PRow w9 g ps → Calls Tryd.prog 58 #[.slice (some ⟨g, 0, none⟩) ps.length capg] (w9.setCell ⟨w.heap.size + 1 + 1, 5, none⟩ (.slice (some ⟨g, 0, none⟩) ps.length capg)) fun e w' => e = .returned (.bool (ps.all Pt.sk)) ∧ Below (w9.setCell ⟨w.heap.size + 1 + 1, 5, none⟩ (.slice (some ⟨g, 0, none⟩) ps.length capg)).heap.size (w9.setCell ⟨w.heap.size + 1 + 1, 5, none⟩ (.slice (some ⟨g, 0, none⟩) ps.length capg)) w') := hid fun w9 g ps bd {capg} hb ho hr => by
  refine allSkip_in (g := g) (fun h0 => ⟨rfl, hr.keep (Below.heap_setCell _ _ _ _ ?_)⟩) ho.hcap ho.hmax
  show g ≠ w.heap.size + 1 + 1
  obtain ⟨g', e, h1, h2, h3⟩ := ho.hrow h0
  simp only [Option.some.injEq, Addr.mk.injEq, and_true] at e
  omega
 obtain ⟨y5', -⟩ := cells_of hb1 5 _ rfl
 replace hb1 := hid hb1
 replace hb2 := hid hb2
 replace hb3 := hid hb3
 replace hbw3 := hid hbw3
 replace hf := hid hf
 clear hs3
 go_enter Tryd.func36, Tryd.ntmps36
 go_wp2_with (first | (go_at_call 57; ((with_reducible refine cA.out.mono ?_); rintro e w9 ⟨g, capg, ps, bd, rfl, hb9, hown, hrow, hfit, hQ⟩; obtain ⟨x5, f5⟩ := hk5.out _ hb9; replace hb9 := hid hb9; replace hQ := hid hQ)) | (go_at_call 58; ((with_reducible refine (cS.out _ _ ps bd hb9.out hown hrow).mono ?_); rintro e w10 ⟨rfl, hb10⟩; obtain ⟨hB3, hB2⟩ := hkp.out _ _ ps bd hb9.out hown hb10; replace hb10 := hid hb10; replace hown := hid hown; replace hfit := hid hfit; obtain ⟨y0, fy0, y1, fy1, y2, fy2, y3, fy3, y4, fy4, y5, fy5, y6, fy6, y7, fy7, y8, fy8, y9, fy9⟩ := t10 hB3; obtain ⟨z0, fz0, z1, fz1, z2, fz2, z3, fz3, z4, fz4, z5, fz5, z6, fz6, z7, fz7, z8, fz8, z9, fz9⟩ := t10 hB2; replace hB3 := hid hB3; replace hB2 := hid hB2)))
 have a2 : (w10.setCell ⟨w.heap.size + 1 + 1, 6, none⟩ (.bool (ps.all Pt.sk))).heap[w.heap.size + 1]? = some (.cells #[.int .i64 0, .int .u64 0, .int .u64 0, .int .u64 0, .int .u64 0, .slice none 0 0, .bool false, .bool false, .bool false, .bool false] 75 (0, 0)) := by rw [Below.heap_setCell _ _ _ _ (by show w.heap.size + 1 ≠ w.heap.size + 1 + 1; omega)]; exact hB2.out
 obtain ⟨q1, q2, q3, q4⟩ := set10 (d0 := .int .i64 2) (d1 := .int .u64 s0) (d2 := .int .u64 s1) (d3 := .int .u64 s2) (d4 := .int .u64 s3) (d5 := .slice (some ⟨g, 0, none⟩) ps.length capg) (d6 := .bool (ps.all Pt.sk)) (d7 := .bool false) (d8 := .bool false) (d9 := .bool false) a2 _ rfl
 generalize hW : World.setCell _ (⟨w.heap.size + 1, 9, none⟩ : Addr) _ = W at *
 clear hW
 obtain ⟨v0, -, v1, -, v2, -, v3, -, v4, -, v5, -, v6, -, v7, -, v8, -, v9, -⟩ := t10 q1
 refine bodyPost_ret (v := .agg #[.int .i64 2, .int .u64 s0, .int .u64 s1, .int .u64 s2, .int .u64 s3, .slice (some ⟨g, 0, none⟩) ps.length capg, .bool (ps.all Pt.sk), .bool false, .bool false, .bool false]) (by simp [results, Tryd.results36, go_sem, v0, v1, v2, v3, v4, v5, v6, v7, v8, v9]) rfl ?_
 rw [hG.out]
 have hs3 : (((w.alloc (.cells #[.int .i64 2, .int .u64 s0, .int .u64 s1, .int .u64 s2, .int .u64 s3, .slice p ks.length cap, .int .i64 mn, .int .i64 mx, .string tx] 27)).alloc (.cells #[.int .i64 0, .int .u64 0, .int .u64 0, .int .u64 0, .int .u64 0, .slice none 0 0, .bool false, .bool false, .bool false, .bool false] 75)).alloc (.cells #[.int .i64 2, .int .u64 s0, .int .u64 s1, .int .u64 s2, .int .u64 s3, .slice none 0 0, .bool false, .bool false, .bool false, .bool false] 75)).heap.size = w.heap.size + 3 := by simp
 have e9 := hb9.out.size
 have e10 := hb10.out.size
 rw [size_set] at e10 q2
 have hq := hQ.out
 clear hQ
 exact part_end hbw3.out hb9.out hown.out hfit.out (b2 := w.heap.size + 1) (b3 := w.heap.size + 1 + 1) (by omega) (by omega) (by omega) (by omega) (by omega)
  (fun n n1 n2 n3 => by rw [q3 n n2, Below.heap_setCell _ _ _ _ n3, hb10.out.block n (by rw [size_set]; exact n1), Below.heap_setCell _ _ _ _ n3])
  ((((Below.refl _ w9).setCell (p := ⟨w.heap.size + 1 + 1, 5, none⟩) (by show w.heap.size ≤ w.heap.size + 1 + 1; omega) _).trans (hb10.out.mono (by rw [size_set]; omega))).setCell (p := ⟨w.heap.size + 1 + 1, 6, none⟩) (by show w.heap.size ≤ w.heap.size + 1 + 1; omega) _ |>.trans (q4 _ (by omega)))
  (hf.out _ _ _ _) (.cat hq.1 hq.2)
set_option maxRecDepth 100000 in
set_option maxHeartbeats 8000000 in
theorem spread_alt {s0 s1 s2 s3 : Int} {p : Option Addr} {cap : Nat} {mn mx : Int} {tx : ByteArray} {ks : List T} (w : World) (hf : ∀ g capg sk ps, fit4 (.mk 3 s0 s1 s2 s3 (some ⟨g, 0, none⟩) capg sk false false false ps))
  (cA : ∀ w3, Below w.heap.size w w3 → Calls Tryd.prog 57 #[.slice p ks.length cap] w3 (GivesParts (fun ps => ps.length = ks.length ∧ ∀ i (h1 : i < ks.length) (h2 : i < ps.length), Spr ks[i] ps[i]) w3)) :
  Calls Tryd.prog 36 #[.agg #[.int .i64 3, .int .u64 s0, .int .u64 s1, .int .u64 s2, .int .u64 s3, .slice p ks.length cap, .int .i64 mn, .int .i64 mx, .string tx]] w (GivesPart w (.mk 3 s0 s1 s2 s3 p cap mn mx tx ks)) := by
 obtain ⟨G, hG⟩ : ∃ G, G = GivesPart w (.mk 3 s0 s1 s2 s3 p cap mn mx tx ks) := ⟨_, rfl⟩
 rw [← hG]
 replace hG := hid hG
 have hbw3 : Below w.heap.size w (((w.alloc (.cells #[.int .i64 3, .int .u64 s0, .int .u64 s1, .int .u64 s2, .int .u64 s3, .slice p ks.length cap, .int .i64 mn, .int .i64 mx, .string tx] 27)).alloc (.cells #[.int .i64 0, .int .u64 0, .int .u64 0, .int .u64 0, .int .u64 0, .slice none 0 0, .bool false, .bool false, .bool false, .bool false] 75)).alloc (.cells #[.int .i64 3, .int .u64 s0, .int .u64 s1, .int .u64 s2, .int .u64 s3, .slice none 0 0, .bool false, .bool false, .bool false, .bool false] 75)) := (((Below.refl _ _).alloc (Nat.le_refl _) _).alloc (by simp) _).alloc (by simp <;> omega) _
 have hs3 : (((w.alloc (.cells #[.int .i64 3, .int .u64 s0, .int .u64 s1, .int .u64 s2, .int .u64 s3, .slice p ks.length cap, .int .i64 mn, .int .i64 mx, .string tx] 27)).alloc (.cells #[.int .i64 0, .int .u64 0, .int .u64 0, .int .u64 0, .int .u64 0, .slice none 0 0, .bool false, .bool false, .bool false, .bool false] 75)).alloc (.cells #[.int .i64 3, .int .u64 s0, .int .u64 s1, .int .u64 s2, .int .u64 s3, .slice none 0 0, .bool false, .bool false, .bool false, .bool false] 75)).heap.size = w.heap.size + 3 := by simp
 have hb1 : (((w.alloc (.cells #[.int .i64 3, .int .u64 s0, .int .u64 s1, .int .u64 s2, .int .u64 s3, .slice p ks.length cap, .int .i64 mn, .int .i64 mx, .string tx] 27)).alloc (.cells #[.int .i64 0, .int .u64 0, .int .u64 0, .int .u64 0, .int .u64 0, .slice none 0 0, .bool false, .bool false, .bool false, .bool false] 75)).alloc (.cells #[.int .i64 3, .int .u64 s0, .int .u64 s1, .int .u64 s2, .int .u64 s3, .slice none 0 0, .bool false, .bool false, .bool false, .bool false] 75)).heap[w.heap.size]? = some (.cells #[.int .i64 3, .int .u64 s0, .int .u64 s1, .int .u64 s2, .int .u64 s3, .slice p ks.length cap, .int .i64 mn, .int .i64 mx, .string tx] 27 (0, 0)) := (Below.heap_alloc _ _ _ (by simp <;> omega)).trans ((Below.heap_alloc _ _ _ (by simp)).trans (World.alloc_heap_new _ _))
 have hb2 : (((w.alloc (.cells #[.int .i64 3, .int .u64 s0, .int .u64 s1, .int .u64 s2, .int .u64 s3, .slice p ks.length cap, .int .i64 mn, .int .i64 mx, .string tx] 27)).alloc (.cells #[.int .i64 0, .int .u64 0, .int .u64 0, .int .u64 0, .int .u64 0, .slice none 0 0, .bool false, .bool false, .bool false, .bool false] 75)).alloc (.cells #[.int .i64 3, .int .u64 s0, .int .u64 s1, .int .u64 s2, .int .u64 s3, .slice none 0 0, .bool false, .bool false, .bool false, .bool false] 75)).heap[w.heap.size + 1]? = some (.cells #[.int .i64 0, .int .u64 0, .int .u64 0, .int .u64 0, .int .u64 0, .slice none 0 0, .bool false, .bool false, .bool false, .bool false] 75 (0, 0)) := (Below.heap_alloc _ _ _ (by simp <;> omega)).trans (by have := World.alloc_heap_new (w.alloc (.cells #[.int .i64 3, .int .u64 s0, .int .u64 s1, .int .u64 s2, .int .u64 s3, .slice p ks.length cap, .int .i64 mn, .int .i64 mx, .string tx] 27)) (.cells #[.int .i64 0, .int .u64 0, .int .u64 0, .int .u64 0, .int .u64 0, .slice none 0 0, .bool false, .bool false, .bool false, .bool false] 75); rw [World.size_alloc] at this; exact this)
 have hb3 : (((w.alloc (.cells #[.int .i64 3, .int .u64 s0, .int .u64 s1, .int .u64 s2, .int .u64 s3, .slice p ks.length cap, .int .i64 mn, .int .i64 mx, .string tx] 27)).alloc (.cells #[.int .i64 0, .int .u64 0, .int .u64 0, .int .u64 0, .int .u64 0, .slice none 0 0, .bool false, .bool false, .bool false, .bool false] 75)).alloc (.cells #[.int .i64 3, .int .u64 s0, .int .u64 s1, .int .u64 s2, .int .u64 s3, .slice none 0 0, .bool false, .bool false, .bool false, .bool false] 75)).heap[w.heap.size + 1 + 1]? = some (.cells #[.int .i64 3, .int .u64 s0, .int .u64 s1, .int .u64 s2, .int .u64 s3, .slice none 0 0, .bool false, .bool false, .bool false, .bool false] 75 (0, 0)) := by have := World.alloc_heap_new ((w.alloc (.cells #[.int .i64 3, .int .u64 s0, .int .u64 s1, .int .u64 s2, .int .u64 s3, .slice p ks.length cap, .int .i64 mn, .int .i64 mx, .string tx] 27)).alloc (.cells #[.int .i64 0, .int .u64 0, .int .u64 0, .int .u64 0, .int .u64 0, .slice none 0 0, .bool false, .bool false, .bool false, .bool false] 75)) (.cells #[.int .i64 3, .int .u64 s0, .int .u64 s1, .int .u64 s2, .int .u64 s3, .slice none 0 0, .bool false, .bool false, .bool false, .bool false] 75); rw [World.size_alloc, World.size_alloc] at this; exact this
 replace cA := hid (cA _ hbw3)
 have hk5 : Hid (∀ w9, Below (((w.alloc (.cells #[.int .i64 3, .int .u64 s0, .int .u64 s1, .int .u64 s2, .int .u64 s3, .slice p ks.length cap, .int .i64 mn, .int .i64 mx, .string tx] 27)).alloc (.cells #[.int .i64 0, .int .u64 0, .int .u64 0, .int .u64 0, .int .u64 0, .slice none 0 0, .bool false, .bool false, .bool false, .bool false] 75)).alloc (.cells #[.int .i64 3, .int .u64 s0, .int .u64 s1, .int .u64 s2, .int .u64 s3, .slice none 0 0, .bool false, .bool false, .bool false, .bool false] 75)).heap.size (((w.alloc (.cells #[.int .i64 3, .int .u64 s0, .int .u64 s1, .int .u64 s2, .int .u64 s3, .slice p ks.length cap, .int .i64 mn, .int .i64 mx, .string tx] 27)).alloc (.cells #[.int .i64 0, .int .u64 0, .int .u64 0, .int .u64 0, .int .u64 0, .slice none 0 0, .bool false, .bool false, .bool false, .bool false] 75)).alloc (.cells #[.int .i64 3, .int .u64 s0, .int .u64 s1, .int .u64 s2, .int .u64 s3, .slice none 0 0, .bool false, .bool false, .bool false, .bool false] 75)) w9 → w9.cell? ⟨w.heap.size + 1 + 1, 5, none⟩ = some (.slice none 0 0) ∧ w9.frozen? ⟨w.heap.size + 1 + 1, 5, none⟩ = false) := hid fun w9 hb => cells_of (kept_row hb3 hb) 5 _ rfl
 have hkp : Hid (∀ w9 g (ps : List Pt) (bd : Nat → Nat) {capg : Nat} {w10 : World}, Below (((w.alloc (.cells #[.int .i64 3, .int .u64 s0, .int .u64 s1, .int .u64 s2, .int .u64 s3, .slice p ks.length cap, .int .i64 mn, .int .i64 mx, .string tx] 27)).alloc (.cells #[.int .i64 0, .int .u64 0, .int .u64 0, .int .u64 0, .int .u64 0, .slice none 0 0, .bool false, .bool false, .bool false, .bool false] 75)).alloc (.cells #[.int .i64 3, .int .u64 s0, .int .u64 s1, .int .u64 s2, .int .u64 s3, .slice none 0 0, .bool false, .bool false, .bool false, .bool false] 75)).heap.size (((w.alloc (.cells #[.int .i64 3, .int .u64 s0, .int .u64 s1, .int .u64 s2, .int .u64 s3, .slice p ks.length cap, .int .i64 mn, .int .i64 mx, .string tx] 27)).alloc (.cells #[.int .i64 0, .int .u64 0, .int .u64 0, .int .u64 0, .int .u64 0, .slice none 0 0, .bool false, .bool false, .bool false, .bool false] 75)).alloc (.cells #[.int .i64 3, .int .u64 s0, .int .u64 s1, .int .u64 s2, .int .u64 s3, .slice none 0 0, .bool false, .bool false, .bool false, .bool false] 75)) w9 → OwnRow w9 (((w.alloc (.cells #[.int .i64 3, .int .u64 s0, .int .u64 s1, .int .u64 s2, .int .u64 s3, .slice p ks.length cap, .int .i64 mn, .int .i64 mx, .string tx] 27)).alloc (.cells #[.int .i64 0, .int .u64 0, .int .u64 0, .int .u64 0, .int .u64 0, .slice none 0 0, .bool false, .bool false, .bool false, .bool false] 75)).alloc (.cells #[.int .i64 3, .int .u64 s0, .int .u64 s1, .int .u64 s2, .int .u64 s3, .slice none 0 0, .bool false, .bool false, .bool false, .bool false] 75)).heap.size w9.heap.size (some ⟨g, 0, none⟩) capg ps bd → Below (w9.setCell ⟨w.heap.size + 1 + 1, 5, none⟩ (.slice (some ⟨g, 0, none⟩) ps.length capg)).heap.size (w9.setCell ⟨w.heap.size + 1 + 1, 5, none⟩ (.slice (some ⟨g, 0, none⟩) ps.length capg)) w10 →
   w10.heap[w.heap.size + 1 + 1]? = some (.cells #[.int .i64 3, .int .u64 s0, .int .u64 s1, .int .u64 s2, .int .u64 s3, .slice (some ⟨g, 0, none⟩) ps.length capg, .bool false, .bool false, .bool false, .bool false] 75 (0, 0)) ∧ w10.heap[w.heap.size + 1]? = some (.cells #[.int .i64 0, .int .u64 0, .int .u64 0, .int .u64 0, .int .u64 0, .slice none 0 0, .bool false, .bool false, .bool false, .bool false] 75 (0, 0))) := hid fun w9 g ps bd {capg w10} hb ho hb2' => by
  have e3 := kept_row hb3 hb
  have e2 := kept_row hb2 hb
  have a3 := box_set e3 5 (.slice (some ⟨g, 0, none⟩) ps.length capg)
  refine ⟨?_, ?_⟩
  ·rw [hb2'.block _ (Array.getElem?_eq_some_iff.1 a3).1, a3]
   simp
  ·have a2 : (w9.setCell ⟨w.heap.size + 1 + 1, 5, none⟩ (.slice (some ⟨g, 0, none⟩) ps.length capg)).heap[w.heap.size + 1]? = some (.cells #[.int .i64 0, .int .u64 0, .int .u64 0, .int .u64 0, .int .u64 0, .slice none 0 0, .bool false, .bool false, .bool false, .bool false] 75 (0, 0)) := by rw [Below.heap_setCell _ _ _ _ (by show w.heap.size + 1 ≠ w.heap.size + 1 + 1; omega)]; exact e2
   rw [hb2'.block _ (Array.getElem?_eq_some_iff.1 a2).1, a2]
 have cS : Hid (∀ w9 g (ps : List Pt) (bd : Nat → Nat) {capg : Nat}, Below (((w.alloc (.cells #[.int .i64 3, .int .u64 s0, .int .u64 s1, .int .u64 s2, .int .u64 s3, .slice p ks.length cap, .int .i64 mn, .int .i64 mx, .string tx] 27)).alloc (.cells #[.int .i64 0, .int .u64 0, .int .u64 0, .int .u64 0, .int .u64 0, .slice none 0 0, .bool false, .bool false, .bool false, .bool false] 75)).alloc (.cells #[.int .i64 3, .int .u64 s0, .int .u64 s1, .int .u64 s2, .int .u64 s3, .slice none 0 0, .bool false, .bool false, .bool false, .bool false] 75)).heap.size (((w.alloc (.cells #[.int .i64 3, .int .u64 s0, .int .u64 s1, .int .u64 s2, .int .u64 s3, .slice p ks.length cap, .int .i64 mn, .int .i64 mx, .string tx] 27)).alloc (.cells #[.int .i64 0, .int .u64 0, .int .u64 0, .int .u64 0, .int .u64 0, .slice none 0 0, .bool false, .bool false, .bool false, .bool false] 75)).alloc (.cells #[.int .i64 3, .int .u64 s0, .int .u64 s1, .int .u64 s2, .int .u64 s3, .slice none 0 0, .bool false, .bool false, .bool false, .bool false] 75)) w9 → OwnRow w9 (((w.alloc (.cells #[.int .i64 3, .int .u64 s0, .int .u64 s1, .int .u64 s2, .int .u64 s3, .slice p ks.length cap, .int .i64 mn, .int .i64 mx, .string tx] 27)).alloc (.cells #[.int .i64 0, .int .u64 0, .int .u64 0, .int .u64 0, .int .u64 0, .slice none 0 0, .bool false, .bool false, .bool false, .bool false] 75)).alloc (.cells #[.int .i64 3, .int .u64 s0, .int .u64 s1, .int .u64 s2, .int .u64 s3, .slice none 0 0, .bool false, .bool false, .bool false, .bool false] 75)).heap.size w9.heap.size (some ⟨g, 0, none⟩) capg ps bd → PRow w9 g ps → Calls Tryd.prog 59 #[.slice (some ⟨g, 0, none⟩) ps.length capg, .func (.func 60) #[] #[]] (w9.setCell ⟨w.heap.size + 1 + 1, 5, none⟩ (.slice (some ⟨g, 0, none⟩) ps.length capg)) fun e w' => e = .returned (.bool (ps.any fun x : Pt => x.sk)) ∧ Below (w9.setCell ⟨w.heap.size + 1 + 1, 5, none⟩ (.slice (some ⟨g, 0, none⟩) ps.length capg)).heap.size (w9.setCell ⟨w.heap.size + 1 + 1, 5, none⟩ (.slice (some ⟨g, 0, none⟩) ps.length capg)) w') := hid fun w9 g ps bd {capg} hb ho hr => by
  refine skip_some (g := g) (fun h0 => ⟨rfl, hr.keep (Below.heap_setCell _ _ _ _ ?_)⟩) ho.hcap ho.hmax
  show g ≠ w.heap.size + 1 + 1
  obtain ⟨g', e, h1, h2, h3⟩ := ho.hrow h0
  simp only [Option.some.injEq, Addr.mk.injEq, and_true] at e
  omega
 obtain ⟨y5', -⟩ := cells_of hb1 5 _ rfl
 replace hb1 := hid hb1
 replace hb2 := hid hb2
 replace hb3 := hid hb3
 replace hbw3 := hid hbw3
 replace hf := hid hf
 clear hs3
 go_enter Tryd.func36, Tryd.ntmps36
 go_wp2_with (first | (go_at_call 57; ((with_reducible refine cA.out.mono ?_); rintro e w9 ⟨g, capg, ps, bd, rfl, hb9, hown, hrow, hfit, hQ⟩; obtain ⟨x5, f5⟩ := hk5.out _ hb9; replace hb9 := hid hb9; replace hQ := hid hQ)) | (go_at_call 59; ((with_reducible refine (cS.out _ _ ps bd hb9.out hown hrow).mono ?_); rintro e w10 ⟨rfl, hb10⟩; obtain ⟨hB3, hB2⟩ := hkp.out _ _ ps bd hb9.out hown hb10; replace hb10 := hid hb10; replace hown := hid hown; replace hfit := hid hfit; obtain ⟨y0, fy0, y1, fy1, y2, fy2, y3, fy3, y4, fy4, y5, fy5, y6, fy6, y7, fy7, y8, fy8, y9, fy9⟩ := t10 hB3; obtain ⟨z0, fz0, z1, fz1, z2, fz2, z3, fz3, z4, fz4, z5, fz5, z6, fz6, z7, fz7, z8, fz8, z9, fz9⟩ := t10 hB2; replace hB3 := hid hB3; replace hB2 := hid hB2)))
 have a2 : (w10.setCell ⟨w.heap.size + 1 + 1, 6, none⟩ (.bool (ps.any fun x : Pt => x.sk))).heap[w.heap.size + 1]? = some (.cells #[.int .i64 0, .int .u64 0, .int .u64 0, .int .u64 0, .int .u64 0, .slice none 0 0, .bool false, .bool false, .bool false, .bool false] 75 (0, 0)) := by rw [Below.heap_setCell _ _ _ _ (by show w.heap.size + 1 ≠ w.heap.size + 1 + 1; omega)]; exact hB2.out
 obtain ⟨q1, q2, q3, q4⟩ := set10 (d0 := .int .i64 3) (d1 := .int .u64 s0) (d2 := .int .u64 s1) (d3 := .int .u64 s2) (d4 := .int .u64 s3) (d5 := .slice (some ⟨g, 0, none⟩) ps.length capg) (d6 := .bool (ps.any fun x : Pt => x.sk)) (d7 := .bool false) (d8 := .bool false) (d9 := .bool false) a2 _ rfl
 generalize hW : World.setCell _ (⟨w.heap.size + 1, 9, none⟩ : Addr) _ = W at *
 clear hW
 obtain ⟨v0, -, v1, -, v2, -, v3, -, v4, -, v5, -, v6, -, v7, -, v8, -, v9, -⟩ := t10 q1
 refine bodyPost_ret (v := .agg #[.int .i64 3, .int .u64 s0, .int .u64 s1, .int .u64 s2, .int .u64 s3, .slice (some ⟨g, 0, none⟩) ps.length capg, .bool (ps.any fun x : Pt => x.sk), .bool false, .bool false, .bool false]) (by simp [results, Tryd.results36, go_sem, v0, v1, v2, v3, v4, v5, v6, v7, v8, v9]) rfl ?_
 rw [hG.out]
 have hs3 : (((w.alloc (.cells #[.int .i64 3, .int .u64 s0, .int .u64 s1, .int .u64 s2, .int .u64 s3, .slice p ks.length cap, .int .i64 mn, .int .i64 mx, .string tx] 27)).alloc (.cells #[.int .i64 0, .int .u64 0, .int .u64 0, .int .u64 0, .int .u64 0, .slice none 0 0, .bool false, .bool false, .bool false, .bool false] 75)).alloc (.cells #[.int .i64 3, .int .u64 s0, .int .u64 s1, .int .u64 s2, .int .u64 s3, .slice none 0 0, .bool false, .bool false, .bool false, .bool false] 75)).heap.size = w.heap.size + 3 := by simp
 have e9 := hb9.out.size
 have e10 := hb10.out.size
 rw [size_set] at e10 q2
 have hq := hQ.out
 clear hQ
 exact part_end hbw3.out hb9.out hown.out hfit.out (b2 := w.heap.size + 1) (b3 := w.heap.size + 1 + 1) (by omega) (by omega) (by omega) (by omega) (by omega)
  (fun n n1 n2 n3 => by rw [q3 n n2, Below.heap_setCell _ _ _ _ n3, hb10.out.block n (by rw [size_set]; exact n1), Below.heap_setCell _ _ _ _ n3])
  ((((Below.refl _ w9).setCell (p := ⟨w.heap.size + 1 + 1, 5, none⟩) (by show w.heap.size ≤ w.heap.size + 1 + 1; omega) _).trans (hb10.out.mono (by rw [size_set]; omega))).setCell (p := ⟨w.heap.size + 1 + 1, 6, none⟩) (by show w.heap.size ≤ w.heap.size + 1 + 1; omega) _ |>.trans (q4 _ (by omega)))
  (hf.out _ _ _ _) (.alt hq.1 hq.2)
set_option maxRecDepth 100000 in
set_option maxHeartbeats 8000000 in
theorem spread_rep {s0 s1 s2 s3 : Int} {p : Option Addr} {cap : Nat} {mn mx : Int} {tx : ByteArray} {ks : List T} (w : World) (hf : ∀ g capg sk ps, fit4 (.mk 4 s0 s1 s2 s3 (some ⟨g, 0, none⟩) capg sk false false false ps))
  (cA : ∀ w3, Below w.heap.size w w3 → Calls Tryd.prog 61 #[.agg #[.int .i64 4, .int .u64 s0, .int .u64 s1, .int .u64 s2, .int .u64 s3, .slice p ks.length cap, .int .i64 mn, .int .i64 mx, .string tx]] w3 (GivesParts (fun ps => ∀ p2 cap2, Spr (.mk 4 s0 s1 s2 s3 p cap mn mx tx ks) (.mk 4 s0 s1 s2 s3 p2 cap2 (ps.all Pt.sk) false false false ps)) w3)) :
  Calls Tryd.prog 36 #[.agg #[.int .i64 4, .int .u64 s0, .int .u64 s1, .int .u64 s2, .int .u64 s3, .slice p ks.length cap, .int .i64 mn, .int .i64 mx, .string tx]] w (GivesPart w (.mk 4 s0 s1 s2 s3 p cap mn mx tx ks)) := by
 obtain ⟨G, hG⟩ : ∃ G, G = GivesPart w (.mk 4 s0 s1 s2 s3 p cap mn mx tx ks) := ⟨_, rfl⟩
 rw [← hG]
 replace hG := hid hG
 have hbw3 : Below w.heap.size w (((w.alloc (.cells #[.int .i64 4, .int .u64 s0, .int .u64 s1, .int .u64 s2, .int .u64 s3, .slice p ks.length cap, .int .i64 mn, .int .i64 mx, .string tx] 27)).alloc (.cells #[.int .i64 0, .int .u64 0, .int .u64 0, .int .u64 0, .int .u64 0, .slice none 0 0, .bool false, .bool false, .bool false, .bool false] 75)).alloc (.cells #[.int .i64 4, .int .u64 s0, .int .u64 s1, .int .u64 s2, .int .u64 s3, .slice none 0 0, .bool false, .bool false, .bool false, .bool false] 75)) := (((Below.refl _ _).alloc (Nat.le_refl _) _).alloc (by simp) _).alloc (by simp <;> omega) _
 have hs3 : (((w.alloc (.cells #[.int .i64 4, .int .u64 s0, .int .u64 s1, .int .u64 s2, .int .u64 s3, .slice p ks.length cap, .int .i64 mn, .int .i64 mx, .string tx] 27)).alloc (.cells #[.int .i64 0, .int .u64 0, .int .u64 0, .int .u64 0, .int .u64 0, .slice none 0 0, .bool false, .bool false, .bool false, .bool false] 75)).alloc (.cells #[.int .i64 4, .int .u64 s0, .int .u64 s1, .int .u64 s2, .int .u64 s3, .slice none 0 0, .bool false, .bool false, .bool false, .bool false] 75)).heap.size = w.heap.size + 3 := by simp
 have hb1 : (((w.alloc (.cells #[.int .i64 4, .int .u64 s0, .int .u64 s1, .int .u64 s2, .int .u64 s3, .slice p ks.length cap, .int .i64 mn, .int .i64 mx, .string tx] 27)).alloc (.cells #[.int .i64 0, .int .u64 0, .int .u64 0, .int .u64 0, .int .u64 0, .slice none 0 0, .bool false, .bool false, .bool false, .bool false] 75)).alloc (.cells #[.int .i64 4, .int .u64 s0, .int .u64 s1, .int .u64 s2, .int .u64 s3, .slice none 0 0, .bool false, .bool false, .bool false, .bool false] 75)).heap[w.heap.size]? = some (.cells #[.int .i64 4, .int .u64 s0, .int .u64 s1, .int .u64 s2, .int .u64 s3, .slice p ks.length cap, .int .i64 mn, .int .i64 mx, .string tx] 27 (0, 0)) := (Below.heap_alloc _ _ _ (by simp <;> omega)).trans ((Below.heap_alloc _ _ _ (by simp)).trans (World.alloc_heap_new _ _))
 have hb2 : (((w.alloc (.cells #[.int .i64 4, .int .u64 s0, .int .u64 s1, .int .u64 s2, .int .u64 s3, .slice p ks.length cap, .int .i64 mn, .int .i64 mx, .string tx] 27)).alloc (.cells #[.int .i64 0, .int .u64 0, .int .u64 0, .int .u64 0, .int .u64 0, .slice none 0 0, .bool false, .bool false, .bool false, .bool false] 75)).alloc (.cells #[.int .i64 4, .int .u64 s0, .int .u64 s1, .int .u64 s2, .int .u64 s3, .slice none 0 0, .bool false, .bool false, .bool false, .bool false] 75)).heap[w.heap.size + 1]? = some (.cells #[.int .i64 0, .int .u64 0, .int .u64 0, .int .u64 0, .int .u64 0, .slice none 0 0, .bool false, .bool false, .bool false, .bool false] 75 (0, 0)) := (Below.heap_alloc _ _ _ (by simp <;> omega)).trans (by have := World.alloc_heap_new (w.alloc (.cells #[.int .i64 4, .int .u64 s0, .int .u64 s1, .int .u64 s2, .int .u64 s3, .slice p ks.length cap, .int .i64 mn, .int .i64 mx, .string tx] 27)) (.cells #[.int .i64 0, .int .u64 0, .int .u64 0, .int .u64 0, .int .u64 0, .slice none 0 0, .bool false, .bool false, .bool false, .bool false] 75); rw [World.size_alloc] at this; exact this)
 have hb3 : (((w.alloc (.cells #[.int .i64 4, .int .u64 s0, .int .u64 s1, .int .u64 s2, .int .u64 s3, .slice p ks.length cap, .int .i64 mn, .int .i64 mx, .string tx] 27)).alloc (.cells #[.int .i64 0, .int .u64 0, .int .u64 0, .int .u64 0, .int .u64 0, .slice none 0 0, .bool false, .bool false, .bool false, .bool false] 75)).alloc (.cells #[.int .i64 4, .int .u64 s0, .int .u64 s1, .int .u64 s2, .int .u64 s3, .slice none 0 0, .bool false, .bool false, .bool false, .bool false] 75)).heap[w.heap.size + 1 + 1]? = some (.cells #[.int .i64 4, .int .u64 s0, .int .u64 s1, .int .u64 s2, .int .u64 s3, .slice none 0 0, .bool false, .bool false, .bool false, .bool false] 75 (0, 0)) := by have := World.alloc_heap_new ((w.alloc (.cells #[.int .i64 4, .int .u64 s0, .int .u64 s1, .int .u64 s2, .int .u64 s3, .slice p ks.length cap, .int .i64 mn, .int .i64 mx, .string tx] 27)).alloc (.cells #[.int .i64 0, .int .u64 0, .int .u64 0, .int .u64 0, .int .u64 0, .slice none 0 0, .bool false, .bool false, .bool false, .bool false] 75)) (.cells #[.int .i64 4, .int .u64 s0, .int .u64 s1, .int .u64 s2, .int .u64 s3, .slice none 0 0, .bool false, .bool false, .bool false, .bool false] 75); rw [World.size_alloc, World.size_alloc] at this; exact this
 replace cA := hid (cA _ hbw3)
 have hk5 : Hid (∀ w9, Below (((w.alloc (.cells #[.int .i64 4, .int .u64 s0, .int .u64 s1, .int .u64 s2, .int .u64 s3, .slice p ks.length cap, .int .i64 mn, .int .i64 mx, .string tx] 27)).alloc (.cells #[.int .i64 0, .int .u64 0, .int .u64 0, .int .u64 0, .int .u64 0, .slice none 0 0, .bool false, .bool false, .bool false, .bool false] 75)).alloc (.cells #[.int .i64 4, .int .u64 s0, .int .u64 s1, .int .u64 s2, .int .u64 s3, .slice none 0 0, .bool false, .bool false, .bool false, .bool false] 75)).heap.size (((w.alloc (.cells #[.int .i64 4, .int .u64 s0, .int .u64 s1, .int .u64 s2, .int .u64 s3, .slice p ks.length cap, .int .i64 mn, .int .i64 mx, .string tx] 27)).alloc (.cells #[.int .i64 0, .int .u64 0, .int .u64 0, .int .u64 0, .int .u64 0, .slice none 0 0, .bool false, .bool false, .bool false, .bool false] 75)).alloc (.cells #[.int .i64 4, .int .u64 s0, .int .u64 s1, .int .u64 s2, .int .u64 s3, .slice none 0 0, .bool false, .bool false, .bool false, .bool false] 75)) w9 → w9.cell? ⟨w.heap.size + 1 + 1, 5, none⟩ = some (.slice none 0 0) ∧ w9.frozen? ⟨w.heap.size + 1 + 1, 5, none⟩ = false) := hid fun w9 hb => cells_of (kept_row hb3 hb) 5 _ rfl
 have hkp : Hid (∀ w9 g (ps : List Pt) (bd : Nat → Nat) {capg : Nat} {w10 : World}, Below (((w.alloc (.cells #[.int .i64 4, .int .u64 s0, .int .u64 s1, .int .u64 s2, .int .u64 s3, .slice p ks.length cap, .int .i64 mn, .int .i64 mx, .string tx] 27)).alloc (.cells #[.int .i64 0, .int .u64 0, .int .u64 0, .int .u64 0, .int .u64 0, .slice none 0 0, .bool false, .bool false, .bool false, .bool false] 75)).alloc (.cells #[.int .i64 4, .int .u64 s0, .int .u64 s1, .int .u64 s2, .int .u64 s3, .slice none 0 0, .bool false, .bool false, .bool false, .bool false] 75)).heap.size (((w.alloc (.cells #[.int .i64 4, .int .u64 s0, .int .u64 s1, .int .u64 s2, .int .u64 s3, .slice p ks.length cap, .int .i64 mn, .int .i64 mx, .string tx] 27)).alloc (.cells #[.int .i64 0, .int .u64 0, .int .u64 0, .int .u64 0, .int .u64 0, .slice none 0 0, .bool false, .bool false, .bool false, .bool false] 75)).alloc (.cells #[.int .i64 4, .int .u64 s0, .int .u64 s1, .int .u64 s2, .int .u64 s3, .slice none 0 0, .bool false, .bool false, .bool false, .bool false] 75)) w9 → OwnRow w9 (((w.alloc (.cells #[.int .i64 4, .int .u64 s0, .int .u64 s1, .int .u64 s2, .int .u64 s3, .slice p ks.length cap, .int .i64 mn, .int .i64 mx, .string tx] 27)).alloc (.cells #[.int .i64 0, .int .u64 0, .int .u64 0, .int .u64 0, .int .u64 0, .slice none 0 0, .bool false, .bool false, .bool false, .bool false] 75)).alloc (.cells #[.int .i64 4, .int .u64 s0, .int .u64 s1, .int .u64 s2, .int .u64 s3, .slice none 0 0, .bool false, .bool false, .bool false, .bool false] 75)).heap.size w9.heap.size (some ⟨g, 0, none⟩) capg ps bd → Below (w9.setCell ⟨w.heap.size + 1 + 1, 5, none⟩ (.slice (some ⟨g, 0, none⟩) ps.length capg)).heap.size (w9.setCell ⟨w.heap.size + 1 + 1, 5, none⟩ (.slice (some ⟨g, 0, none⟩) ps.length capg)) w10 →
   w10.heap[w.heap.size + 1 + 1]? = some (.cells #[.int .i64 4, .int .u64 s0, .int .u64 s1, .int .u64 s2, .int .u64 s3, .slice (some ⟨g, 0, none⟩) ps.length capg, .bool false, .bool false, .bool false, .bool false] 75 (0, 0)) ∧ w10.heap[w.heap.size + 1]? = some (.cells #[.int .i64 0, .int .u64 0, .int .u64 0, .int .u64 0, .int .u64 0, .slice none 0 0, .bool false, .bool false, .bool false, .bool false] 75 (0, 0))) := hid fun w9 g ps bd {capg w10} hb ho hb2' => by
  have e3 := kept_row hb3 hb
  have e2 := kept_row hb2 hb
  have a3 := box_set e3 5 (.slice (some ⟨g, 0, none⟩) ps.length capg)
  refine ⟨?_, ?_⟩
  ·rw [hb2'.block _ (Array.getElem?_eq_some_iff.1 a3).1, a3]
   simp
  ·have a2 : (w9.setCell ⟨w.heap.size + 1 + 1, 5, none⟩ (.slice (some ⟨g, 0, none⟩) ps.length capg)).heap[w.heap.size + 1]? = some (.cells #[.int .i64 0, .int .u64 0, .int .u64 0, .int .u64 0, .int .u64 0, .slice none 0 0, .bool false, .bool false, .bool false, .bool false] 75 (0, 0)) := by rw [Below.heap_setCell _ _ _ _ (by show w.heap.size + 1 ≠ w.heap.size + 1 + 1; omega)]; exact e2
   rw [hb2'.block _ (Array.getElem?_eq_some_iff.1 a2).1, a2]
 have cS : Hid (∀ w9 g (ps : List Pt) (bd : Nat → Nat) {capg : Nat}, Below (((w.alloc (.cells #[.int .i64 4, .int .u64 s0, .int .u64 s1, .int .u64 s2, .int .u64 s3, .slice p ks.length cap, .int .i64 mn, .int .i64 mx, .string tx] 27)).alloc (.cells #[.int .i64 0, .int .u64 0, .int .u64 0, .int .u64 0, .int .u64 0, .slice none 0 0, .bool false, .bool false, .bool false, .bool false] 75)).alloc (.cells #[.int .i64 4, .int .u64 s0, .int .u64 s1, .int .u64 s2, .int .u64 s3, .slice none 0 0, .bool false, .bool false, .bool false, .bool false] 75)).heap.size (((w.alloc (.cells #[.int .i64 4, .int .u64 s0, .int .u64 s1, .int .u64 s2, .int .u64 s3, .slice p ks.length cap, .int .i64 mn, .int .i64 mx, .string tx] 27)).alloc (.cells #[.int .i64 0, .int .u64 0, .int .u64 0, .int .u64 0, .int .u64 0, .slice none 0 0, .bool false, .bool false, .bool false, .bool false] 75)).alloc (.cells #[.int .i64 4, .int .u64 s0, .int .u64 s1, .int .u64 s2, .int .u64 s3, .slice none 0 0, .bool false, .bool false, .bool false, .bool false] 75)) w9 → OwnRow w9 (((w.alloc (.cells #[.int .i64 4, .int .u64 s0, .int .u64 s1, .int .u64 s2, .int .u64 s3, .slice p ks.length cap, .int .i64 mn, .int .i64 mx, .string tx] 27)).alloc (.cells #[.int .i64 0, .int .u64 0, .int .u64 0, .int .u64 0, .int .u64 0, .slice none 0 0, .bool false, .bool false, .bool false, .bool false] 75)).alloc (.cells #[.int .i64 4, .int .u64 s0, .int .u64 s1, .int .u64 s2, .int .u64 s3, .slice none 0 0, .bool false, .bool false, .bool false, .bool false] 75)).heap.size w9.heap.size (some ⟨g, 0, none⟩) capg ps bd → PRow w9 g ps → Calls Tryd.prog 58 #[.slice (some ⟨g, 0, none⟩) ps.length capg] (w9.setCell ⟨w.heap.size + 1 + 1, 5, none⟩ (.slice (some ⟨g, 0, none⟩) ps.length capg)) fun e w' => e = .returned (.bool (ps.all Pt.sk)) ∧ Below (w9.setCell ⟨w.heap.size + 1 + 1, 5, none⟩ (.slice (some ⟨g, 0, none⟩) ps.length capg)).heap.size (w9.setCell ⟨w.heap.size + 1 + 1, 5, none⟩ (.slice (some ⟨g, 0, none⟩) ps.length capg)) w') := hid fun w9 g ps bd {capg} hb ho hr => by
  refine allSkip_in (g := g) (fun h0 => ⟨rfl, hr.keep (Below.heap_setCell _ _ _ _ ?_)⟩) ho.hcap ho.hmax
  show g ≠ w.heap.size + 1 + 1
  obtain ⟨g', e, h1, h2, h3⟩ := ho.hrow h0
  simp only [Option.some.injEq, Addr.mk.injEq, and_true] at e
  omega
 obtain ⟨y5', -⟩ := cells_of hb1 5 _ rfl
 replace hb1 := hid hb1
 replace hb2 := hid hb2
 replace hb3 := hid hb3
 replace hbw3 := hid hbw3
 replace hf := hid hf
 clear hs3
 go_enter Tryd.func36, Tryd.ntmps36
 go_wp2_with (first | (go_at_call 61; ((with_reducible refine cA.out.mono ?_); rintro e w9 ⟨g, capg, ps, bd, rfl, hb9, hown, hrow, hfit, hQ⟩; obtain ⟨x5, f5⟩ := hk5.out _ hb9; replace hb9 := hid hb9; replace hQ := hid hQ)) | (go_at_call 58; ((with_reducible refine (cS.out _ _ ps bd hb9.out hown hrow).mono ?_); rintro e w10 ⟨rfl, hb10⟩; obtain ⟨hB3, hB2⟩ := hkp.out _ _ ps bd hb9.out hown hb10; replace hb10 := hid hb10; replace hown := hid hown; replace hfit := hid hfit; obtain ⟨y0, fy0, y1, fy1, y2, fy2, y3, fy3, y4, fy4, y5, fy5, y6, fy6, y7, fy7, y8, fy8, y9, fy9⟩ := t10 hB3; obtain ⟨z0, fz0, z1, fz1, z2, fz2, z3, fz3, z4, fz4, z5, fz5, z6, fz6, z7, fz7, z8, fz8, z9, fz9⟩ := t10 hB2; replace hB3 := hid hB3; replace hB2 := hid hB2)))
 have a2 : (w10.setCell ⟨w.heap.size + 1 + 1, 6, none⟩ (.bool (ps.all Pt.sk))).heap[w.heap.size + 1]? = some (.cells #[.int .i64 0, .int .u64 0, .int .u64 0, .int .u64 0, .int .u64 0, .slice none 0 0, .bool false, .bool false, .bool false, .bool false] 75 (0, 0)) := by rw [Below.heap_setCell _ _ _ _ (by show w.heap.size + 1 ≠ w.heap.size + 1 + 1; omega)]; exact hB2.out
 obtain ⟨q1, q2, q3, q4⟩ := set10 (d0 := .int .i64 4) (d1 := .int .u64 s0) (d2 := .int .u64 s1) (d3 := .int .u64 s2) (d4 := .int .u64 s3) (d5 := .slice (some ⟨g, 0, none⟩) ps.length capg) (d6 := .bool (ps.all Pt.sk)) (d7 := .bool false) (d8 := .bool false) (d9 := .bool false) a2 _ rfl
 generalize hW : World.setCell _ (⟨w.heap.size + 1, 9, none⟩ : Addr) _ = W at *
 clear hW
 obtain ⟨v0, -, v1, -, v2, -, v3, -, v4, -, v5, -, v6, -, v7, -, v8, -, v9, -⟩ := t10 q1
 refine bodyPost_ret (v := .agg #[.int .i64 4, .int .u64 s0, .int .u64 s1, .int .u64 s2, .int .u64 s3, .slice (some ⟨g, 0, none⟩) ps.length capg, .bool (ps.all Pt.sk), .bool false, .bool false, .bool false]) (by simp [results, Tryd.results36, go_sem, v0, v1, v2, v3, v4, v5, v6, v7, v8, v9]) rfl ?_
 rw [hG.out]
 have hs3 : (((w.alloc (.cells #[.int .i64 4, .int .u64 s0, .int .u64 s1, .int .u64 s2, .int .u64 s3, .slice p ks.length cap, .int .i64 mn, .int .i64 mx, .string tx] 27)).alloc (.cells #[.int .i64 0, .int .u64 0, .int .u64 0, .int .u64 0, .int .u64 0, .slice none 0 0, .bool false, .bool false, .bool false, .bool false] 75)).alloc (.cells #[.int .i64 4, .int .u64 s0, .int .u64 s1, .int .u64 s2, .int .u64 s3, .slice none 0 0, .bool false, .bool false, .bool false, .bool false] 75)).heap.size = w.heap.size + 3 := by simp
 have e9 := hb9.out.size
 have e10 := hb10.out.size
 rw [size_set] at e10 q2
 have hq := hQ.out
 clear hQ
 exact part_end hbw3.out hb9.out hown.out hfit.out (b2 := w.heap.size + 1) (b3 := w.heap.size + 1 + 1) (by omega) (by omega) (by omega) (by omega) (by omega)
  (fun n n1 n2 n3 => by rw [q3 n n2, Below.heap_setCell _ _ _ _ n3, hb10.out.block n (by rw [size_set]; exact n1), Below.heap_setCell _ _ _ _ n3])
  ((((Below.refl _ w9).setCell (p := ⟨w.heap.size + 1 + 1, 5, none⟩) (by show w.heap.size ≤ w.heap.size + 1 + 1; omega) _).trans (hb10.out.mono (by rw [size_set]; omega))).setCell (p := ⟨w.heap.size + 1 + 1, 6, none⟩) (by show w.heap.size ≤ w.heap.size + 1 + 1; omega) _ |>.trans (q4 _ (by omega)))
  (hf.out _ _ _ _) (hq _ _)
end Go.Proofs.YtobbifhflnlplaaDoor
namespace Go.Proofs.YtobbifhflnlplaaDoor
open Lib (hid)
open Go.RowKit
open Go.Tree7
open S7
open S5 (nl nl_length nl_small at_nl nl_at Gives idx idx_at ix ix_no ix_yes)
theorem spread_in {w0 : World} {B0 : Nat} (hn0 : B0 ≤ w0.heap.size) : ∀ t : T, T.All (fun t => T.ok t = true) t → t.size ≤ 1000 → T.In w0 B0 t → SpreadOf w0 B0 t := by
 refine T.ind fun k s0 s1 s2 s3 p cap mn mx tx ks ih => ?_
 intro hA hsz hT
 obtain ⟨ho, hAk⟩ : T.ok (.mk k s0 s1 s2 s3 p cap mn mx tx ks) = true ∧ ∀ t ∈ ks, T.All (fun t => T.ok t = true) t := by cases hA with | mk h1 h2 => exact ⟨h1, h2⟩
 have hok := okn_of ho
 rw [T.size_mk] at hsz
 have hlen : ks.length ≤ 1000 := by have := S7.len_sum ks (Nat.le_refl _); rw [List.take_of_length_le (Nat.le_refl _)] at this; omega
 have hfit : fits k s0 s1 s2 s3 mn mx tx := by cases hT with | mk h1 h2 h3 => exact h3
 have hih : ∀ t ∈ ks, SpreadOf w0 B0 t := fun t ht => ih t ht (hAk t ht) (by
  obtain ⟨i, hi, rfl⟩ := List.getElem_of_mem ht
  have h1 := S7.sum_take ks hi
  have h2 := S7.sum_le ks (i + 1)
  omega) (by cases hT with | mk h1 h2 h3 h4 h5 => exact h5 t ht)
 intro w hB0
 have hBn : B0 ≤ w.heap.size := Nat.le_trans hn0 hB0.size
 have hf : ∀ p2 capg sk ps, fit4 (.mk k s0 s1 s2 s3 p2 capg sk false false false ps) := fun _ _ _ _ => hfit.2.1
 simp only [T.cells]
 by_cases hk2 : k = 2
 ·subst hk2
  exact spread_cat w (fun _ => hf _) fun w3 hb => spreadAll_in hn0 (hB0.trans (hb.mono hBn)) hT hih hlen
 ·by_cases hk3 : k = 3
  ·subst hk3
   exact spread_alt w (fun _ => hf _) fun w3 hb => spreadAll_in hn0 (hB0.trans (hb.mono hBn)) hT hih hlen
  ·by_cases hk4 : k = 4
   ·subst hk4
    cases hok with
    | rep _ t h2 h3 h4 =>
     subst h2
     obtain ⟨m, rfl⟩ : ∃ m : Nat, mn = m := ⟨mn.toNat, by omega⟩
     have hi := hih t (by simp)
     refine spread_rep w (fun _ => hf _) fun w3 hb => ?_
     have hres : ∀ {E : Bool} {ps : List Pt}, E = decide (mx = -1) → ((ps.length : Nat) : Int) = cntN m mx → (∀ i (h : i < ps.length), CopyQ t m E i ps[i]) → ∀ p2 cap2, Spr (.mk 4 s0 s1 s2 s3 p cap m mx tx [t]) (.mk 4 s0 s1 s2 s3 p2 cap2 (ps.all Pt.sk) false false false ps) := fun {E ps} hE hl hq p2 cap2 => by
      have : Inhabited Pt := ⟨zeroP⟩
      obtain ⟨F, hF⟩ := Go.Deep.choose_lt (n := ps.length) (p := fun i x => Spr t x ∧ ∀ h : i < ps.length, ps[i] = if m ≤ i then x.flag true E else x) fun i hi => by
       obtain ⟨q, h1, h2⟩ := hq i hi
       exact ⟨q, h1, fun _ => h2⟩
      refine .rep hl F (fun i hi => (hF i hi).1) fun i hi => ?_
      rw [(hF i hi).2 hi, hE]
      by_cases hmi : m ≤ i
      ·rw [if_pos hmi, if_pos (by omega)]
      ·rw [if_neg hmi, if_neg (by omega)]
     by_cases hx : mx = -1
     ·subst hx
      exact (copies_endless hn0 (hB0.trans (hb.mono hBn)) hT hi (by omega)).mono fun e w' h => by
       obtain ⟨g, capg, ps, bd, h1, h2, h3, h4, h5, h6, h7⟩ := h
       exact ⟨g, capg, ps, bd, h1, h2, h3, h4, h5, hres rfl (by unfold cntN; rw [if_pos rfl, h6]; omega) h7⟩
     ·obtain ⟨N, rfl⟩ : ∃ N : Nat, mx = N := ⟨mx.toNat, by omega⟩
      exact (copies_bound hn0 (hB0.trans (hb.mono hBn)) hT hi (by omega) (by omega) (by omega)).mono fun e w' h => by
       obtain ⟨g, capg, ps, bd, h1, h2, h3, h4, h5, h6, h7⟩ := h
       exact ⟨g, capg, ps, bd, h1, h2, h3, h4, h5, hres (decide_eq_false hx).symm (by unfold cntN; rw [if_neg hx, h6]) h7⟩
    | bytes e => cases e
    | cat e => exact absurd e (by decide)
    | alt e => exact absurd e (by decide)
    | name e => cases e
   ·exact spread_leaf ⟨hk2, hk3, hk4⟩ (hf _ _ _ _) w
end Go.Proofs.YtobbifhflnlplaaDoor
