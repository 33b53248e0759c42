/- MatchLaws: where it looks; the nodes that it builds. -/

import Derived.Test.YtkpoegnekeiieaaDoorPJ
namespace Go.Proofs.YtkpoegnekeiieaaDoor
open Go.RowKit
open Go.Tree7
open S7
open S5 (nl nl_length nl_small at_nl nl_at Gives idx idx_at ix ix_no ix_yes)
/-- Where a text begins that is cut in front. -/
def fromA (ad : Option Addr) (c k : Nat) : Option Addr := if c = k then ad else Option.map (fun x => x.add k) ad
theorem Src.fromA {w : World} {ad : Option Addr} {m c : Nat} {l : List Nat} (h : Src w ad m c l) {k : Nat} (hk : k ≤ m) : Src w (fromA ad c k) (m - k) (c - k) (l.drop k) := by
  have hl := h.len
  have hc := h.cap
  unfold YtkpoegnekeiieaaDoor.fromA
  refine ⟨by rw [List.length_drop, hl], fun x hx => h.small x (List.mem_of_mem_drop hx), fun e => ?_, fun a e j u hu => ?_, by omega⟩
  · split at e
    · have := h.nil e; omega
    · rw [Option.map_eq_none_iff] at e
      have := h.nil e
      omega
  · have hj : k + j < l.length := by
      have := (List.getElem?_eq_some_iff.1 hu).1
      rw [List.length_map, List.length_drop] at this
      omega
    have hu2 : (l.map encN)[k + j]? = some u := by
      rw [← hu, List.map_drop, List.getElem?_drop]
    split at e
    · omega
    · obtain ⟨a0, e1, e2⟩ := Option.map_eq_some_iff.1 e
      subst e2
      rw [Go.Deep.add_add]
      exact h.cells a0 e1 (k + j) u hu2
theorem new7 (w : World) (c0 c1 c2 c3 c4 c5 c6 : Array Value) (t0 t1 t2 t3 t4 t5 t6 : TypeId) : ∃ W, (((((((w.alloc (.cells c0 t0)).alloc (.cells c1 t1)).alloc (.cells c2 t2)).alloc (.cells c3 t3)).alloc (.cells c4 t4)).alloc (.cells c5 t5)).alloc (.cells c6 t6)) = W ∧ W.heap[w.heap.size]? = some (.cells c0 t0 (0, 0)) ∧ W.heap[w.heap.size + 1]? = some (.cells c1 t1 (0, 0)) ∧ W.heap[w.heap.size + 1 + 1]? = some (.cells c2 t2 (0, 0)) ∧ W.heap[w.heap.size + 1 + 1 + 1]? = some (.cells c3 t3 (0, 0)) ∧ W.heap[w.heap.size + 1 + 1 + 1 + 1]? = some (.cells c4 t4 (0, 0)) ∧ W.heap[w.heap.size + 1 + 1 + 1 + 1 + 1]? = some (.cells c5 t5 (0, 0)) ∧ W.heap[w.heap.size + 1 + 1 + 1 + 1 + 1 + 1]? = some (.cells c6 t6 (0, 0)) ∧ Below w.heap.size w W := by
  refine ⟨_, rfl, ?_, ?_, ?_, ?_, ?_, ?_, ?_, ?_⟩
  · exact (Below.heap_alloc _ _ _ (by simp <;> omega)).trans ((Below.heap_alloc _ _ _ (by simp <;> omega)).trans ((Below.heap_alloc _ _ _ (by simp <;> omega)).trans ((Below.heap_alloc _ _ _ (by simp <;> omega)).trans ((Below.heap_alloc _ _ _ (by simp <;> omega)).trans ((Below.heap_alloc _ _ _ (by simp <;> omega)).trans ((by have := World.alloc_heap_new w (.cells c0 t0); (try simp only [World.size_alloc] at this); exact this)))))))
  · exact (Below.heap_alloc _ _ _ (by simp <;> omega)).trans ((Below.heap_alloc _ _ _ (by simp <;> omega)).trans ((Below.heap_alloc _ _ _ (by simp <;> omega)).trans ((Below.heap_alloc _ _ _ (by simp <;> omega)).trans ((Below.heap_alloc _ _ _ (by simp <;> omega)).trans ((by have := World.alloc_heap_new (w.alloc (.cells c0 t0)) (.cells c1 t1); (try simp only [World.size_alloc] at this); exact this))))))
  · exact (Below.heap_alloc _ _ _ (by simp <;> omega)).trans ((Below.heap_alloc _ _ _ (by simp <;> omega)).trans ((Below.heap_alloc _ _ _ (by simp <;> omega)).trans ((Below.heap_alloc _ _ _ (by simp <;> omega)).trans ((by have := World.alloc_heap_new ((w.alloc (.cells c0 t0)).alloc (.cells c1 t1)) (.cells c2 t2); (try simp only [World.size_alloc] at this); exact this)))))
  · exact (Below.heap_alloc _ _ _ (by simp <;> omega)).trans ((Below.heap_alloc _ _ _ (by simp <;> omega)).trans ((Below.heap_alloc _ _ _ (by simp <;> omega)).trans ((by have := World.alloc_heap_new (((w.alloc (.cells c0 t0)).alloc (.cells c1 t1)).alloc (.cells c2 t2)) (.cells c3 t3); (try simp only [World.size_alloc] at this); exact this))))
  · exact (Below.heap_alloc _ _ _ (by simp <;> omega)).trans ((Below.heap_alloc _ _ _ (by simp <;> omega)).trans ((by have := World.alloc_heap_new ((((w.alloc (.cells c0 t0)).alloc (.cells c1 t1)).alloc (.cells c2 t2)).alloc (.cells c3 t3)) (.cells c4 t4); (try simp only [World.size_alloc] at this); exact this)))
  · exact (Below.heap_alloc _ _ _ (by simp <;> omega)).trans ((by have := World.alloc_heap_new (((((w.alloc (.cells c0 t0)).alloc (.cells c1 t1)).alloc (.cells c2 t2)).alloc (.cells c3 t3)).alloc (.cells c4 t4)) (.cells c5 t5); (try simp only [World.size_alloc] at this); exact this))
  · exact (by have := World.alloc_heap_new ((((((w.alloc (.cells c0 t0)).alloc (.cells c1 t1)).alloc (.cells c2 t2)).alloc (.cells c3 t3)).alloc (.cells c4 t4)).alloc (.cells c5 t5)) (.cells c6 t6); (try simp only [World.size_alloc] at this); exact this)
  · exact Bel.alloc (Bel.alloc (Bel.alloc (Bel.alloc (Bel.alloc (Bel.alloc (Bel.new w _) _) _) _) _) _) _
set_option maxRecDepth 100000 in
set_option maxHeartbeats 8000000 in
theorem laws_main {w : World} {a b : T} (hTa : T.In w w.heap.size a) (hTb : T.In w w.heap.size b) {ad : Option Addr} {m c : Nat} {l : List Nat} (hs : Src w ad m c l) (hz : a.size < 40) (hy : b.size < 40) (hm : m ≤ 10) (cA' : ∀ w', Bel w w' → Calls Tryd.prog 7 #[] w' fun e w'' => e = .returned (.bool true) ∧ Below w'.heap.size w' w'') : Calls Tryd.prog 5 #[.agg a.cells.toArray, .agg b.cells.toArray, .slice ad m c] w fun e w' => e = .returned (.bool true) ∧ Below w.heap.size w w' := by
  have hb0 : Bel w ((w.alloc (.cells a.cells.toArray 27)).alloc (.cells b.cells.toArray 27)) := Bel.alloc (Bel.new w _) _
  have hba : ((w.alloc (.cells a.cells.toArray 27)).alloc (.cells b.cells.toArray 27)).heap[w.heap.size]? = some (.cells a.cells.toArray 27 (0, 0)) := (Below.heap_alloc _ _ _ (by simp)).trans (World.alloc_heap_new _ _)
  have hbb : ((w.alloc (.cells a.cells.toArray 27)).alloc (.cells b.cells.toArray 27)).heap[w.heap.size + 1]? = some (.cells b.cells.toArray 27 (0, 0)) := by have := World.alloc_heap_new (w.alloc (.cells a.cells.toArray 27)) (.cells b.cells.toArray 27); rw [World.size_alloc] at this; exact this
  have cA := cA' _ hb0
  have cSa : (∀ w', Bel w w' → Calls Tryd.prog 8 #[.agg a.cells.toArray, .int .i64 40] w' fun e w'' => ∃ m : T, e = .returned (.tuple #[.agg m.cells.toArray, .bool true]) ∧ Below w'.heap.size w' w'' ∧ T.In w'' w''.heap.size m ∧ m.strip = a.strip) := fun w' hb => small_room (n := 40) (in_bel hTa hb) (by decide) hz
  have cSb : (∀ w', Bel w w' → Calls Tryd.prog 8 #[.agg b.cells.toArray, .int .i64 40] w' fun e w'' => ∃ m : T, e = .returned (.tuple #[.agg m.cells.toArray, .bool true]) ∧ Below w'.heap.size w' w'' ∧ T.In w'' w''.heap.size m ∧ m.strip = b.strip) := fun w' hb => small_room (n := 40) (in_bel hTb hb) (by decide) hy
  have hnode : Hid (∀ w3 W : World, Bel w W → W.heap[w3.heap.size + 1]? = some (.cells ([a, b].flatMap T.cells).toArray 27 (0, 0)) → W.heap[w3.heap.size + 1 + 1 + 1]? = some (.cells ([a, b].flatMap T.cells).toArray 27 (0, 0)) → W.heap[w3.heap.size + 1 + 1 + 1 + 1 + 1]? = some (.cells ([a].flatMap T.cells).toArray 27 (0, 0)) →
      T.In W W.heap.size (.mk 2 0 0 0 0 (some ⟨w3.heap.size + 1, 0, none⟩) 2 0 0 ⟨#[]⟩ [a, b]) ∧ T.In W W.heap.size (.mk 3 0 0 0 0 (some ⟨w3.heap.size + 1 + 1 + 1, 0, none⟩) 2 0 0 ⟨#[]⟩ [a, b]) ∧ T.In W W.heap.size (.mk 4 0 0 0 0 (some ⟨w3.heap.size + 1 + 1 + 1 + 1 + 1, 0, none⟩) 1 0 (-1) ⟨#[]⟩ [a])) := Lib.hid fun w3 W hb h1 h2 h3 => by
    have hk2 : ∀ t ∈ [a, b], T.In w w.heap.size t := fun t ht => by
      rcases List.mem_cons.1 ht with rfl | ht
      · exact hTa
      · rw [List.mem_singleton.1 ht]; exact hTb
    exact ⟨node_in hk2 hb h1 (by simp [maxLen]) ⟨by decide, by decide, by decide⟩, node_in hk2 hb h2 (by simp [maxLen]) ⟨by decide, by decide, by decide⟩, node_in (ks := [a]) (fun t ht => by rw [List.mem_singleton.1 ht]; exact hTa) hb h3 (by simp [maxLen]) ⟨by decide, by decide, by decide⟩⟩
  generalize a.strip = sa at *
  generalize b.strip = sb at *
  obtain ⟨a', ha'⟩ : ∃ a', a' = a := ⟨_, rfl⟩
  obtain ⟨b', hb'⟩ : ∃ b', b' = b := ⟨_, rfl⟩
  have hca := Lib.hid (congrArg T.cells ha')
  have hcb := Lib.hid (congrArg T.cells hb')
  rw [← ha', ← hb'] at hnode
  replace hs := Lib.hid hs
  replace hTa := Lib.hid hTa
  replace hTb := Lib.hid hTb
  replace hz := Lib.hid hz
  replace hy := Lib.hid hy
  replace ha' := Lib.hid ha'
  replace hb' := Lib.hid hb'
  clear cA'
  obtain ⟨ka, a0, a1, a2, a3, pa, capa, mna, mxa, txa, ksa⟩ := a
  obtain ⟨kb, b0, b1, b2, b3, pb, capb, mnb, mxb, txb, ksb⟩ := b
  simp only [T.cells] at hb0 hba hbb cSa cSb cA ⊢
  have hq0 := Lib.hid hb0
  replace hba := Lib.hid hba
  replace hbb := Lib.hid hbb
  replace cA := Lib.hid cA
  replace cSa := Lib.hid cSa
  replace cSb := Lib.hid cSb
  clear hb0
  obtain ⟨n0, n1, n2, n3, n4, n5, n6, n7, n8⟩ := c9 hba.out
  obtain ⟨x0, x1, x2, x3, x4, x5, x6, x7, x8⟩ := c9 hbb.out
  go_enter Tryd.func5, Tryd.ntmps5
  go_upto_region 12 with (first | (go_at_call 7; (with_reducible refine cA.out.mono ?_); rintro e w1 ⟨rfl, hb⟩; have hba := Lib.hid (kept_row hba.out hb); have hbb := Lib.hid (kept_row hbb.out hb); have hlb := lt_box hbb.out; have hla : w.heap.size < w1.heap.size := (by omega); clear n0 n1 n2 n3 n4 n5 n6 n7 n8 x0 x1 x2 x3 x4 x5 x6 x7 x8; obtain ⟨n0, n1, n2, n3, n4, n5, n6, n7, n8⟩ := c9 hba.out; obtain ⟨x0, x1, x2, x3, x4, x5, x6, x7, x8⟩ := c9 hbb.out; have hq1 := Lib.hid (Bel.step hq0.out hb); clear hb) | (go_at_call 8; (with_reducible refine (cSa.out _ hq1.out).mono ?_); rintro e w2 ⟨⟨kg, g0, g1, g2, g3, pg, capg, mng, mxg, txg, ksg⟩, rfl, hb, -, -⟩; dsimp only; have hba := Lib.hid (kept_row hba.out hb); have hbb := Lib.hid (kept_row hbb.out hb); have hlb := lt_box hbb.out; have hla : w.heap.size < w2.heap.size := (by omega); clear n0 n1 n2 n3 n4 n5 n6 n7 n8 x0 x1 x2 x3 x4 x5 x6 x7 x8; obtain ⟨n0, n1, n2, n3, n4, n5, n6, n7, n8⟩ := c9 hba.out; obtain ⟨x0, x1, x2, x3, x4, x5, x6, x7, x8⟩ := c9 hbb.out; have hq2 := Lib.hid (Bel.alloc (Bel.step hq1.out hb) (.cells #[.int .i64 kg, .int .u64 g0, .int .u64 g1, .int .u64 g2, .int .u64 g3, .slice pg ksg.length capg, .int .i64 mng, .int .i64 mxg, .string txg] 32)); replace hba := Lib.hid (kept_alloc9 hba.out (.cells #[.int .i64 kg, .int .u64 g0, .int .u64 g1, .int .u64 g2, .int .u64 g3, .slice pg ksg.length capg, .int .i64 mng, .int .i64 mxg, .string txg] 32)); replace hbb := Lib.hid (kept_alloc9 hbb.out (.cells #[.int .i64 kg, .int .u64 g0, .int .u64 g1, .int .u64 g2, .int .u64 g3, .slice pg ksg.length capg, .int .i64 mng, .int .i64 mxg, .string txg] 32)); clear hb) | (go_at_call 8; (with_reducible refine (cSb.out _ hq2.out).mono ?_); rintro e w3 ⟨⟨kh, h0, h1, h2, h3, ph, caph, mnh, mxh, txh, ksh⟩, rfl, hb, -, -⟩; dsimp only; have hba := Lib.hid (kept_row hba.out hb); have hbb := Lib.hid (kept_row hbb.out hb); have hlb := lt_box hbb.out; have la1 : w.heap.size < w3.heap.size + 1 := (by omega); have lb1 : w.heap.size + 1 < w3.heap.size + 1 := (by omega); have la2 : w.heap.size < w3.heap.size + 1 + 1 := (by omega); have lb2 : w.heap.size + 1 < w3.heap.size + 1 + 1 := (by omega); have la3 : w.heap.size < w3.heap.size + 1 + 1 + 1 := (by omega); have lb3 : w.heap.size + 1 < w3.heap.size + 1 + 1 + 1 := (by omega); have la4 : w.heap.size < w3.heap.size + 1 + 1 + 1 + 1 := (by omega); have lb4 : w.heap.size + 1 < w3.heap.size + 1 + 1 + 1 + 1 := (by omega); have la5 : w.heap.size < w3.heap.size + 1 + 1 + 1 + 1 + 1 := (by omega); have lb5 : w.heap.size + 1 < w3.heap.size + 1 + 1 + 1 + 1 + 1 := (by omega); have la6 : w.heap.size < w3.heap.size + 1 + 1 + 1 + 1 + 1 + 1 := (by omega); have lb6 : w.heap.size + 1 < w3.heap.size + 1 + 1 + 1 + 1 + 1 + 1 := (by omega); have la7 : w.heap.size < w3.heap.size + 1 + 1 + 1 + 1 + 1 + 1 + 1 := (by omega); have lb7 : w.heap.size + 1 < w3.heap.size + 1 + 1 + 1 + 1 + 1 + 1 + 1 := (by omega); have hla : w.heap.size < w3.heap.size := (by omega); clear n0 n1 n2 n3 n4 n5 n6 n7 n8 x0 x1 x2 x3 x4 x5 x6 x7 x8; obtain ⟨n0, n1, n2, n3, n4, n5, n6, n7, n8⟩ := c9 hba.out; obtain ⟨x0, x1, x2, x3, x4, x5, x6, x7, x8⟩ := c9 hbb.out; have hq3 := Lib.hid (Bel.step hq2.out hb); clear hb))
  obtain ⟨W0, hW0, -, hr1, hc1, hr2, hc2, hr3, hc3, hbl⟩ := new7 w3 #[.int .i64 kh, .int .u64 h0, .int .u64 h1, .int .u64 h2, .int .u64 h3, .slice ph ksh.length caph, .int .i64 mnh, .int .i64 mxh, .string txh] #[.int .i64 ka, .int .u64 a0, .int .u64 a1, .int .u64 a2, .int .u64 a3, .slice pa ksa.length capa, .int .i64 mna, .int .i64 mxa, .string txa, .int .i64 kb, .int .u64 b0, .int .u64 b1, .int .u64 b2, .int .u64 b3, .slice pb ksb.length capb, .int .i64 mnb, .int .i64 mxb, .string txb] #[.int .i64 2, .int .u64 0, .int .u64 0, .int .u64 0, .int .u64 0, .slice (some ⟨w3.heap.size + 1, 0, none⟩) 2 2, .int .i64 0, .int .i64 0, .string ⟨#[]⟩] #[.int .i64 ka, .int .u64 a0, .int .u64 a1, .int .u64 a2, .int .u64 a3, .slice pa ksa.length capa, .int .i64 mna, .int .i64 mxa, .string txa, .int .i64 kb, .int .u64 b0, .int .u64 b1, .int .u64 b2, .int .u64 b3, .slice pb ksb.length capb, .int .i64 mnb, .int .i64 mxb, .string txb] #[.int .i64 3, .int .u64 0, .int .u64 0, .int .u64 0, .int .u64 0, .slice (some ⟨w3.heap.size + 1 + 1 + 1, 0, none⟩) 2 2, .int .i64 0, .int .i64 0, .string ⟨#[]⟩] #[.int .i64 ka, .int .u64 a0, .int .u64 a1, .int .u64 a2, .int .u64 a3, .slice pa ksa.length capa, .int .i64 mna, .int .i64 mxa, .string txa] #[.int .i64 4, .int .u64 0, .int .u64 0, .int .u64 0, .int .u64 0, .slice (some ⟨w3.heap.size + 1 + 1 + 1 + 1 + 1, 0, none⟩) 1 1, .int .i64 0, .int .i64 (-1), .string ⟨#[]⟩] 32 27 27 27 27 27 27
  rw [hW0]
  have hq0W : Bel w W0 := Bel.step hq3.out hbl
  obtain ⟨hTc, hTt, hTs⟩ := hnode.out w3 W0 hq0W (by rw [hr1]; simp only [List.flatMap_cons, List.flatMap_nil, hca.out, hcb.out]; rfl) (by rw [hr2]; simp only [List.flatMap_cons, List.flatMap_nil, hca.out, hcb.out]; rfl) (by rw [hr3]; simp only [List.flatMap_cons, List.flatMap_nil, hca.out]; rfl)
  obtain ⟨Ns, hNs⟩ : ∃ Ns : List T, Ns = [(.mk 2 0 0 0 0 (some ⟨w3.heap.size + 1, 0, none⟩) 2 0 0 ⟨#[]⟩ [a', b']), (.mk 3 0 0 0 0 (some ⟨w3.heap.size + 1 + 1 + 1, 0, none⟩) 2 0 0 ⟨#[]⟩ [a', b']), (.mk 4 0 0 0 0 (some ⟨w3.heap.size + 1 + 1 + 1 + 1 + 1, 0, none⟩) 1 0 (-1) ⟨#[]⟩ [a'])] := ⟨_, rfl⟩
  have hN3 : Ns.length = 3 := by rw [hNs]; rfl
  have hNT : ∀ x ∈ Ns, T.In W0 W0.heap.size x := fun x hx => by
    rw [hNs] at hx
    simp only [List.mem_cons, List.not_mem_nil, or_false] at hx
    rcases hx with rfl | rfl | rfl
    · exact hTc
    · exact hTt
    · exact hTs
  have hNz : ∀ x ∈ Ns, x.size < 200 := fun x hx => by
    have z1 := hz.out
    have z2 := hy.out
    rw [← ha'.out] at z1
    rw [← hb'.out] at z2
    rw [hNs] at hx
    simp only [List.mem_cons, List.not_mem_nil, or_false] at hx
    rcases hx with rfl | rfl | rfl <;> (rw [T.size_mk]; simp; omega)
  have hrow3 : NRowAt (W0.alloc (.cells #[.int .i64 2, .int .u64 0, .int .u64 0, .int .u64 0, .int .u64 0, .slice (some ⟨w3.heap.size + 1, 0, none⟩) 2 2, .int .i64 0, .int .i64 0, .string ⟨#[]⟩, .int .i64 3, .int .u64 0, .int .u64 0, .int .u64 0, .int .u64 0, .slice (some ⟨w3.heap.size + 1 + 1 + 1, 0, none⟩) 2 2, .int .i64 0, .int .i64 0, .string ⟨#[]⟩, .int .i64 4, .int .u64 0, .int .u64 0, .int .u64 0, .int .u64 0, .slice (some ⟨w3.heap.size + 1 + 1 + 1 + 1 + 1, 0, none⟩) 1 1, .int .i64 0, .int .i64 (-1), .string ⟨#[]⟩] 27)) W0.heap.size Ns := by
    refine ⟨_, World.alloc_heap_new _ _, fun i hi q hq => ?_⟩
    subst hNs
    have hi2 : i = 0 ∨ i = 1 ∨ i = 2 := by simp at hi; omega
    have hq2 : q = 0 ∨ q = 1 ∨ q = 2 ∨ q = 3 ∨ q = 4 ∨ q = 5 ∨ q = 6 ∨ q = 7 ∨ q = 8 := by omega
    rcases hi2 with rfl | rfl | rfl <;> rcases hq2 with rfl | rfl | rfl | rfl | rfl | rfl | rfl | rfl | rfl <;> rfl
  obtain ⟨c0, c1, c2, c3, c4, c5, c6, c7, c8⟩ := YtkpoegnekeiieaaDoor.c9 hc1
  obtain ⟨d0, d1, d2, d3, d4, d5, d6, d7, d8⟩ := YtkpoegnekeiieaaDoor.c9 hc2
  obtain ⟨e0, e1, e2, e3, e4, e5, e6, e7, e8⟩ := YtkpoegnekeiieaaDoor.c9 hc3
  have hbW : Bel W0 (W0.alloc (.cells #[.int .i64 2, .int .u64 0, .int .u64 0, .int .u64 0, .int .u64 0, .slice (some ⟨w3.heap.size + 1, 0, none⟩) 2 2, .int .i64 0, .int .i64 0, .string ⟨#[]⟩, .int .i64 3, .int .u64 0, .int .u64 0, .int .u64 0, .int .u64 0, .slice (some ⟨w3.heap.size + 1 + 1 + 1, 0, none⟩) 2 2, .int .i64 0, .int .i64 0, .string ⟨#[]⟩, .int .i64 4, .int .u64 0, .int .u64 0, .int .u64 0, .int .u64 0, .slice (some ⟨w3.heap.size + 1 + 1 + 1 + 1 + 1, 0, none⟩) 1 1, .int .i64 0, .int .i64 (-1), .string ⟨#[]⟩] 27)) := Bel.new W0 _
  have hfW : Hid (T.In W0 W0.heap.size (.mk 2 0 0 0 0 (some ⟨w3.heap.size + 1, 0, none⟩) 2 0 0 ⟨#[]⟩ [a', b']) ∧ T.In W0 W0.heap.size (.mk 3 0 0 0 0 (some ⟨w3.heap.size + 1 + 1 + 1, 0, none⟩) 2 0 0 ⟨#[]⟩ [a', b']) ∧ T.In W0 W0.heap.size (.mk 4 0 0 0 0 (some ⟨w3.heap.size + 1 + 1 + 1 + 1 + 1, 0, none⟩) 1 0 (-1) ⟨#[]⟩ [a'])) := Lib.hid ⟨hTc, hTt, hTs⟩
  replace hNs := Lib.hid hNs
  replace hNT := Lib.hid hNT
  replace hNz := Lib.hid hNz
  replace hrow3 := Lib.hid hrow3
  replace hbW := Lib.hid hbW
  replace hq0W := Lib.hid hq0W
  replace hc1 := Lib.hid hc1
  replace hc2 := Lib.hid hc2
  replace hc3 := Lib.hid hc3
  have hbaW := Lib.hid (kept_row hba.out hbl)
  have hbbW := Lib.hid (kept_row hbb.out hbl)
  replace hN3 := Lib.hid hN3
  clear hTc hTt hTs hr1 hr2 hr3 hbl hba hbb hW0 hnode n0 n1 n2 n3 n4 n5 n6 n7 n8 x0 x1 x2 x3 x4 x5 x6 x7 x8 la1 lb1 la2 lb2 la3 lb3 la4 lb4 la5 lb5 la6 lb6 la7 lb7
  go_wp2
  generalize hW1 : W0.alloc (.cells #[.int .i64 2, .int .u64 0, .int .u64 0, .int .u64 0, .int .u64 0, .slice (some ⟨w3.heap.size + 1, 0, none⟩) 2 2, .int .i64 0, .int .i64 0, .string ⟨#[]⟩, .int .i64 3, .int .u64 0, .int .u64 0, .int .u64 0, .int .u64 0, .slice (some ⟨w3.heap.size + 1 + 1 + 1, 0, none⟩) 2 2, .int .i64 0, .int .i64 0, .string ⟨#[]⟩, .int .i64 4, .int .u64 0, .int .u64 0, .int .u64 0, .int .u64 0, .slice (some ⟨w3.heap.size + 1 + 1 + 1 + 1 + 1, 0, none⟩) 1 1, .int .i64 0, .int .i64 (-1), .string ⟨#[]⟩] 27) = W1 at *
  replace hW1 := Lib.hid hW1
  clear c0 d0 e0 c1 d1 e1 c2 d2 e2 c3 d3 e3 c4 d4 e4 c5 d5 e5 c6 d6 e6 c7 d7 e7 c8 d8 e8
  go_loopw [58] (fun i wr => ∃ j : Nat, j ≤ 3 ∧ i = .int .i64 j ∧ Hid (Bel W1 wr) ∧ Hid (∀ i (h : i < Ns.length), i < j → worksB Ns[i] = true)) (fun i _ => 3 - (intOf i).toNat)
  case atStart => exact ⟨0, Nat.zero_le _, rfl, Lib.hid (Bel.refl _), Lib.hid fun i h h2 => by omega⟩
  case round =>
    obtain ⟨j, hj, rfl, hB, hso⟩ := hrel
    by_cases hlt : j < 3
    · have hjn : j < Ns.length := by have := hN3.out; omega
      have hrw := hrow3.out.bel (show Below W1.heap.size W1 wr from hB.out)
      have hcl : ∀ q, q < 9 → wr.cell? ⟨W0.heap.size, j * 9 + q, none⟩ = (Ns[j].cells)[q]? := fun q hq => hrw.cell hjn hq
      have hg := hrw.lt
      have hTx := in_bel (hNT.out _ (List.getElem_mem hjn)) (bel_bel hbW.out hB.out)
      have hxz := hNz.out _ (List.getElem_mem hjn)
      have hyes : Hid (worksB Ns[j] = true → ∀ i (h : i < Ns.length), i < j + 1 → worksB Ns[i] = true) := Lib.hid fun h i hi h2 => by
        by_cases e : i = j
        · subst e; exact h
        · exact hso.out i hi (by omega)
      clear hrw
      generalize Ns[j] = x at *
      have cS : Hid (∀ w', Bel wr w' → Calls Tryd.prog 8 #[.agg x.cells.toArray, .int .i64 200] w' fun e w'' => ∃ m : T, e = .returned (.tuple #[.agg m.cells.toArray, .bool true]) ∧ Below w'.heap.size w' w'' ∧ T.In w'' w''.heap.size m ∧ worksB m = worksB x) := Lib.hid fun w' hb => (small_room (n := 200) (in_bel hTx hb) (by decide) hxz).mono fun e w'' h => by
        obtain ⟨m, h1, h2, h3, h4⟩ := h
        exact ⟨m, h1, h2, h3, by rw [← works_strip, h4, works_strip]⟩
      clear hTx hxz
      obtain ⟨R, hR⟩ : ∃ R, worksB x = R := ⟨_, rfl⟩
      rw [hR] at cS hyes
      clear hR
      obtain ⟨kx, x0, x1, x2, x3, px, capx, mnx, mxx, txx, ksx⟩ := x
      simp only [T.cells] at hcl cS
      obtain ⟨c0, c1, c2, c3, c4, c5, c6, c7, c8⟩ := nine_of hcl
      clear hcl
      have hqx : Hid (Bel wr (wr.alloc (.cells #[.int .i64 kx, .int .u64 x0, .int .u64 x1, .int .u64 x2, .int .u64 x3, .slice px ksx.length capx, .int .i64 mnx, .int .i64 mxx, .string txx] 27))) := Lib.hid (Bel.new wr _)
      cases R
      · go_wp2_with (first | (go_at_call 8; (with_reducible refine (cS.out _ hqx.out).mono ?_); rintro e w5 ⟨⟨km, m0, m1, m2, m3, pm, capm, mnm, mxm, txm, ksm⟩, rfl, hb, hTm, hwm⟩; dsimp only; have hqe := Lib.hid (Bel.alloc (Bel.step hqx.out hb) (.cells #[.int .i64 km, .int .u64 m0, .int .u64 m1, .int .u64 m2, .int .u64 m3, .slice pm ksm.length capm, .int .i64 mnm, .int .i64 mxm, .string txm] 32)); have cW := works_in (in_bel hTm (Bel.new w5 (.cells #[.int .i64 km, .int .u64 m0, .int .u64 m1, .int .u64 m2, .int .u64 m3, .slice pm ksm.length capm, .int .i64 mnm, .int .i64 mxm, .string txm] 32))); rw [hwm] at cW; simp only [T.cells] at cW; replace cW := Lib.hid cW; clear hb hTm hwm) | (go_at_call 11; (with_reducible refine cW.out.mono ?_); rintro e w6 ⟨rfl, hb⟩; have hqf := Lib.hid (Bel.step hqe.out hb); clear hb))
        go_ret
        exact ⟨rfl, bel_bel hq0W.out (bel_bel hbW.out (bel_bel hB.out hqf.out))⟩
      · have hy2 := Lib.hid (hyes.out rfl)
        go_wp2_with (first | (go_at_call 8; (with_reducible refine (cS.out _ hqx.out).mono ?_); rintro e w5 ⟨⟨km, m0, m1, m2, m3, pm, capm, mnm, mxm, txm, ksm⟩, rfl, hb, hTm, hwm⟩; dsimp only; have hqe := Lib.hid (Bel.alloc (Bel.step hqx.out hb) (.cells #[.int .i64 km, .int .u64 m0, .int .u64 m1, .int .u64 m2, .int .u64 m3, .slice pm ksm.length capm, .int .i64 mnm, .int .i64 mxm, .string txm] 32)); have cW := works_in (in_bel hTm (Bel.new w5 (.cells #[.int .i64 km, .int .u64 m0, .int .u64 m1, .int .u64 m2, .int .u64 m3, .slice pm ksm.length capm, .int .i64 mnm, .int .i64 mxm, .string txm] 32))); rw [hwm] at cW; simp only [T.cells] at cW; replace cW := Lib.hid cW; clear hb hTm hwm) | (go_at_call 11; (with_reducible refine cW.out.mono ?_); rintro e w6 ⟨rfl, hb⟩; have hqf := Lib.hid (Bel.step hqe.out hb); clear hb))
        go_roundw
        case rel => exact ⟨j + 1, by omega, by go_num, Lib.hid (bel_bel hB.out hqf.out), hy2⟩
        case measure => simp [intOf]; omega
    · have hj3 : j = 3 := by omega
      subst hj3
      have hWk : ∀ i (h : i < Ns.length), worksB Ns[i] = true := fun i h => hso.out i h (by have := hN3.out; omega)
      have hWc : worksB (.mk 2 0 0 0 0 (some ⟨w3.heap.size + 1, 0, none⟩) 2 0 0 ⟨#[]⟩ [a', b']) = true := by have := hNs.out; subst this; exact hWk 0 (by simp)
      have hWt : worksB (.mk 3 0 0 0 0 (some ⟨w3.heap.size + 1 + 1 + 1, 0, none⟩) 2 0 0 ⟨#[]⟩ [a', b']) = true := by have := hNs.out; subst this; exact hWk 1 (by simp)
      have hWs : worksB (.mk 4 0 0 0 0 (some ⟨w3.heap.size + 1 + 1 + 1 + 1 + 1, 0, none⟩) 1 0 (-1) ⟨#[]⟩ [a']) = true := by have := hNs.out; subst this; exact hWk 2 (by simp)
      have hlm := hs.out.len
      have hsW : Src W1 ad m c l := hs.out.bel (bel_bel hq0W.out hbW.out)
      have hTaW : T.In W1 W1.heap.size a' := by have := in_bel hTa.out (bel_bel hq0W.out hbW.out); rw [← ha'.out] at this; exact this
      have hTbW : T.In W1 W1.heap.size b' := by have := in_bel hTb.out (bel_bel hq0W.out hbW.out); rw [← hb'.out] at this; exact this
      have hTsW := in_bel hfW.out.2.2 hbW.out
      have hbaX := Lib.hid (kept_row hbaW.out hbW.out)
      have hbbX := Lib.hid (kept_row hbbW.out hbW.out)
      have hbsX := Lib.hid (kept_row hc3.out hbW.out)
      have hbcX := Lib.hid (kept_row hc1.out hbW.out)
      have hbtX := Lib.hid (kept_row hc2.out hbW.out)
      have xIa : Hid (∀ k, k ≤ m → ∀ w', Bel W1 w' → Calls Tryd.prog 12 #[.agg #[.int .i64 ka, .int .u64 a0, .int .u64 a1, .int .u64 a2, .int .u64 a3, .slice pa ksa.length capa, .int .i64 mna, .int .i64 mxa, .string txa], .slice ad k c] w' fun e w'' => e = .returned (.bool (isB a' (l.take k))) ∧ Below w'.heap.size w' w'') := Lib.hid fun k hk w' hb => by
        have h2 : Src w' ad m c (l.take k ++ l.drop k) := by rw [List.take_append_drop]; exact hsW.bel hb
        have h3 := h2.head
        rw [List.length_take, Nat.min_eq_left (by omega)] at h3
        have := is_in (in_bel hTaW hb) h3 (by omega)
        rw [hca.out] at this
        exact this
      have xIb : Hid (∀ k, k ≤ m → ∀ w', Bel W1 w' → Calls Tryd.prog 12 #[.agg #[.int .i64 kb, .int .u64 b0, .int .u64 b1, .int .u64 b2, .int .u64 b3, .slice pb ksb.length capb, .int .i64 mnb, .int .i64 mxb, .string txb], .slice (fromA ad c k) (m - k) (c - k)] w' fun e w'' => e = .returned (.bool (isB b' (l.drop k))) ∧ Below w'.heap.size w' w'') := Lib.hid fun k hk w' hb => by
        have := is_in (in_bel hTbW hb) ((hsW.bel hb).fromA hk) (by omega)
        rw [hcb.out] at this
        exact this
      have xIs : Hid (∀ k, k ≤ m → ∀ w', Bel W1 w' → Calls Tryd.prog 12 #[.agg #[.int .i64 4, .int .u64 0, .int .u64 0, .int .u64 0, .int .u64 0, .slice (some ⟨w3.heap.size + 1 + 1 + 1 + 1 + 1, 0, none⟩) 1 1, .int .i64 0, .int .i64 (-1), .string ⟨#[]⟩], .slice (fromA ad c k) (m - k) (c - k)] w' fun e w'' => e = .returned (.bool (isB (.mk 4 0 0 0 0 (some ⟨w3.heap.size + 1 + 1 + 1 + 1 + 1, 0, none⟩) 1 0 (-1) ⟨#[]⟩ [a']) (l.drop k))) ∧ Below w'.heap.size w' w'') := Lib.hid fun k hk w' hb => is_in (in_bel hTsW hb) ((hsW.bel hb).fromA hk) (by omega)
      have hcc := hsW.cap
      have hst0 : isTo a' b' l 0 = false := rfl
      have hag0 : ((m : Int) == 0) = agTo a' (.mk 4 0 0 0 0 (some ⟨w3.heap.size + 1 + 1 + 1 + 1 + 1, 0, none⟩) 1 0 (-1) ⟨#[]⟩ [a']) l 0 := by
        unfold agTo
        rw [List.range_zero, List.any_nil, Bool.or_false, Bool.eq_iff_iff, beq_iff_eq, decide_eq_true_eq, hlm]
        omega
      replace hst0 := Lib.hid hst0
      replace hWc := Lib.hid hWc
      replace hWt := Lib.hid hWt
      replace hWs := Lib.hid hWs
      replace hsW := Lib.hid hsW
      replace hTaW := Lib.hid hTaW
      replace hTbW := Lib.hid hTbW
      replace hTsW := Lib.hid hTsW
      have hlm2 := Lib.hid hlm
      have hend := Lib.hid (show worksB (.mk 2 0 0 0 0 (some ⟨w3.heap.size + 1, 0, none⟩) 2 0 0 ⟨#[]⟩ [a', b']) = true ∧ worksB (.mk 3 0 0 0 0 (some ⟨w3.heap.size + 1 + 1 + 1, 0, none⟩) 2 0 0 ⟨#[]⟩ [a', b']) = true ∧ worksB (.mk 4 0 0 0 0 (some ⟨w3.heap.size + 1 + 1 + 1 + 1 + 1, 0, none⟩) 1 0 (-1) ⟨#[]⟩ [a']) = true ∧ l.length = m ∧ Src W1 ad m c l ∧ T.In W1 W1.heap.size a' ∧ T.In W1 W1.heap.size b' ∧ T.In W0 W0.heap.size (.mk 2 0 0 0 0 (some ⟨w3.heap.size + 1, 0, none⟩) 2 0 0 ⟨#[]⟩ [a', b']) ∧ T.In W0 W0.heap.size (.mk 3 0 0 0 0 (some ⟨w3.heap.size + 1 + 1 + 1, 0, none⟩) 2 0 0 ⟨#[]⟩ [a', b']) ∧ T.In W0 W0.heap.size (.mk 4 0 0 0 0 (some ⟨w3.heap.size + 1 + 1 + 1 + 1 + 1, 0, none⟩) 1 0 (-1) ⟨#[]⟩ [a']) from ⟨hWc.out, hWt.out, hWs.out, hlm2.out, hsW.out, hTaW.out, hTbW.out, hfW.out.1, hfW.out.2.1, hfW.out.2.2⟩)
      clear hWk hso hNs hNT hNz hrow3 hN3 hlm hWc hWt hWs hsW hTaW hTbW hTsW hlm2 hfW hTa hTb ha' hb' hz hy hs hc1 hc2 hc3 hbaW hbbW hq1 hq2 hq3 hq0 cSa cSb cA hj hlt
      go_wp2
      clear hag0
      go_loopw [18, 19, 20] (fun v x i wr => ∃ k : Nat, k ≤ m + 1 ∧ v = .bool (isTo a' b' l k) ∧ x = .bool (agTo a' (.mk 4 0 0 0 0 (some ⟨w3.heap.size + 1 + 1 + 1 + 1 + 1, 0, none⟩) 1 0 (-1) ⟨#[]⟩ [a']) l k) ∧ i = .int .i64 k ∧ Hid (Bel W1 wr)) (fun _ _ i _ => m + 1 - (intOf i).toNat)
      case atStart => exact ⟨0, Nat.zero_le _, by rw [hst0.out], rfl, rfl, hB⟩
      case round =>
        clear hB hst0
        obtain ⟨k, hk, rfl, rfl, rfl, hB⟩ := hrel
        by_cases hlt : k ≤ m
        · have cIa := xIa.out k hlt
          have cIb := xIb.out k hlt
          have cIs := xIs.out k hlt
          have hn1 := isTo_next a' b' l k
          have hn2 := agTo_next a' (.mk 4 0 0 0 0 (some ⟨w3.heap.size + 1 + 1 + 1 + 1 + 1, 0, none⟩) 1 0 (-1) ⟨#[]⟩ [a']) l k
          have hP : (if c = k then ad else Option.map (fun x => x.add k) ad) = fromA ad c k := rfl
          have hkc : k ≤ c := by omega
          generalize fromA ad c k = P at *
          generalize isB a' (l.take k) = A at *
          generalize isB b' (l.drop k) = B at *
          generalize isB (.mk 4 0 0 0 0 (some ⟨w3.heap.size + 1 + 1 + 1 + 1 + 1, 0, none⟩) 1 0 (-1) ⟨#[]⟩ [a']) (l.drop k) = S at *
          generalize isTo a' b' l k = X at *
          generalize agTo a' (.mk 4 0 0 0 0 (some ⟨w3.heap.size + 1 + 1 + 1 + 1 + 1, 0, none⟩) 1 0 (-1) ⟨#[]⟩ [a']) l k = Y at *
          replace hn1 := Lib.hid hn1
          replace hn2 := Lib.hid hn2
          replace cIa := Lib.hid cIa
          replace cIb := Lib.hid cIb
          replace cIs := Lib.hid cIs
          have hk10 : (k : Int) ≤ 10 := by omega
          go_upto_region 23 with (fail)
          go_cut [18] (fun v wx => v = .bool (X || (A && B)) ∧ Hid (Bel W1 wx))
          case first =>
            cases X
            · cases A
              · refine wp_region_held_drew (S := fun W => Bel W1 W) (by kernel_rfl) hB.out.drew (fun hHeld => ?_)
                refine wpAnyH_take (i := 0) (v := ?v0u1) rfl (by kernel_rfl) (by kernel_rfl) (by kernel_rfl) (fun _ _ _ h => h) (Or.inl ⟨by kernel_rfl, ?h0u1⟩) hHeld ?r0u1
                case h0u1 => (intro wq hSw; go_simp <;> with_reducible rfl)
                try simp only [Go.Last.pt]
                refine wpAnyH_take (i := 1) (v := ?v1u2) rfl (by kernel_rfl) (by kernel_rfl) (by kernel_rfl) (fun _ _ _ h => h) (Or.inl ⟨by kernel_rfl, ?h1u2⟩) hHeld ?r1u2
                case h1u2 => (intro wq hSw; go_simp <;> with_reducible rfl)
                try simp only [Go.Last.pt]
                refine wpAnyH_take (i := 2) (v := ?v2u3) rfl (by kernel_rfl) (by kernel_rfl) (by kernel_rfl) (fun _ _ _ h => h) (Or.inl ⟨by kernel_rfl, ?h2u3⟩) hHeld ?r2u3
                case h2u3 => (intro wq hSw; obtain ⟨n0, n1, n2, n3, n4, n5, n6, n7, n8⟩ := YtkpoegnekeiieaaDoor.c9 (kept_row hbaX.out hSw); go_simp <;> with_reducible rfl)
                try simp only [Go.Last.pt]
                refine wpAnyH_take (i := 3) (v := ?v3u4) rfl (by kernel_rfl) (by kernel_rfl) (by kernel_rfl) (fun _ _ _ h => h) (Or.inl ⟨by kernel_rfl, ?h3u4⟩) hHeld ?r3u4
                case h3u4 => (intro wq hSw; go_simp <;> with_reducible rfl)
                try simp only [Go.Last.pt]
                refine wpAnyH_take (i := 4) (v := ?v4u5) rfl (by kernel_rfl) (by kernel_rfl) (by kernel_rfl) (fun _ _ _ h => h) (Or.inl ⟨by kernel_rfl, ?h4u5⟩) hHeld ?r4u5
                case h4u5 => (intro wq hSw; go_simp <;> with_reducible rfl)
                try simp only [Go.Last.pt]
                refine wpAnyH_take (i := 5) (v := ?v5u6) rfl (by kernel_rfl) (by kernel_rfl) (by kernel_rfl) (fun _ _ _ h => h) (Or.inl ⟨by kernel_rfl, ?h5u6⟩) hHeld ?r5u6
                case h5u6 => (intro wq hSw; go_simp <;> with_reducible rfl)
                try simp only [Go.Last.pt]
                refine Go.Last.held 6 (by kernel_rfl) rfl (fun K hK => ?_)
                go_simp
                (go_at_call 12; (with_reducible refine (cIa.out _ hHeld).mono ?_); rintro e w26 ⟨rfl, hb26⟩)
                try dsimp only
                refine hK.out _ _ (Bel.step hHeld hb26) (fun hHeld2 => ?_)
                clear hK K hHeld
                have hHeld := hHeld2
                clear hHeld2
                try simp only [Go.Last.pt]
                refine Go.Last.held 7 (by kernel_rfl) rfl (fun K hK => ?_)
                go_simp
                try dsimp only
                refine hK.out _ _ (hHeld) (fun hHeld2 => ?_)
                clear hK K hHeld
                have hHeld := hHeld2
                clear hHeld2
                try simp only [Go.Last.pt]
                refine wpAnyH_take (i := 8) (v := undef) rfl (by kernel_rfl) (by kernel_rfl) (by kernel_rfl) (fun _ _ _ h => h) (Or.inr ⟨by kernel_rfl, rfl⟩) hHeld ?_
                try simp only [Go.Last.pt]
                refine wpAnyH_take (i := 9) (v := undef) rfl (by kernel_rfl) (by kernel_rfl) (by kernel_rfl) (fun _ _ _ h => h) (Or.inr ⟨by kernel_rfl, rfl⟩) hHeld ?_
                try simp only [Go.Last.pt]
                refine wpAnyH_take (i := 10) (v := undef) rfl (by kernel_rfl) (by kernel_rfl) (by kernel_rfl) (fun _ _ _ h => h) (Or.inr ⟨by kernel_rfl, rfl⟩) hHeld ?_
                try simp only [Go.Last.pt]
                refine wpAnyH_take (i := 11) (v := undef) rfl (by kernel_rfl) (by kernel_rfl) (by kernel_rfl) (fun _ _ _ h => h) (Or.inr ⟨by kernel_rfl, rfl⟩) hHeld ?_
                try simp only [Go.Last.pt]
                refine wpAnyH_take (i := 12) (v := undef) rfl (by kernel_rfl) (by kernel_rfl) (by kernel_rfl) (fun _ _ _ h => h) (Or.inr ⟨by kernel_rfl, rfl⟩) hHeld ?_
                try simp only [Go.Last.pt]
                refine Go.Last.held 13 (by kernel_rfl) rfl (fun K hK => ?_)
                go_simp
                try dsimp only
                refine hK.out _ _ (hHeld) (fun hHeld2 => ?_)
                clear hK K hHeld
                have hHeld := hHeld2
                clear hHeld2
                try simp only [Go.Last.pt]
                refine Go.Last.held 14 (by kernel_rfl) rfl (fun K hK => ?_)
                go_simp
                try dsimp only
                refine hK.out _ _ (hHeld) (fun hHeld2 => ?_)
                clear hK K hHeld
                have hHeld := hHeld2
                clear hHeld2
                try simp only [Go.Last.pt]
                refine Go.Last.held 15 (by kernel_rfl) rfl (fun K hK => ?_)
                go_simp
                try dsimp only
                refine hK.out _ _ (hHeld) (fun hHeld2 => ?_)
                clear hK K hHeld
                have hHeld := hHeld2
                clear hHeld2
                try simp only [Go.Last.pt]
                refine wpAnyH_done (by kernel_rfl) ?_ _
                go_wp2_with fail
                go_meet
                exact ⟨by simp, Lib.hid hHeld⟩

              · refine wp_region_held_drew (S := fun W => Bel W1 W) (by kernel_rfl) hB.out.drew (fun hHeld => ?_)
                refine wpAnyH_take (i := 0) (v := ?v0u12) rfl (by kernel_rfl) (by kernel_rfl) (by kernel_rfl) (fun _ _ _ h => h) (Or.inl ⟨by kernel_rfl, ?h0u12⟩) hHeld ?r0u12
                case h0u12 => (intro wq hSw; go_simp <;> with_reducible rfl)
                try simp only [Go.Last.pt]
                refine wpAnyH_take (i := 1) (v := ?v1u13) rfl (by kernel_rfl) (by kernel_rfl) (by kernel_rfl) (fun _ _ _ h => h) (Or.inl ⟨by kernel_rfl, ?h1u13⟩) hHeld ?r1u13
                case h1u13 => (intro wq hSw; go_simp <;> with_reducible rfl)
                try simp only [Go.Last.pt]
                refine wpAnyH_take (i := 2) (v := ?v2u14) rfl (by kernel_rfl) (by kernel_rfl) (by kernel_rfl) (fun _ _ _ h => h) (Or.inl ⟨by kernel_rfl, ?h2u14⟩) hHeld ?r2u14
                case h2u14 => (intro wq hSw; obtain ⟨n0, n1, n2, n3, n4, n5, n6, n7, n8⟩ := YtkpoegnekeiieaaDoor.c9 (kept_row hbaX.out hSw); go_simp <;> with_reducible rfl)
                try simp only [Go.Last.pt]
                refine wpAnyH_take (i := 3) (v := ?v3u15) rfl (by kernel_rfl) (by kernel_rfl) (by kernel_rfl) (fun _ _ _ h => h) (Or.inl ⟨by kernel_rfl, ?h3u15⟩) hHeld ?r3u15
                case h3u15 => (intro wq hSw; go_simp <;> with_reducible rfl)
                try simp only [Go.Last.pt]
                refine wpAnyH_take (i := 4) (v := ?v4u16) rfl (by kernel_rfl) (by kernel_rfl) (by kernel_rfl) (fun _ _ _ h => h) (Or.inl ⟨by kernel_rfl, ?h4u16⟩) hHeld ?r4u16
                case h4u16 => (intro wq hSw; go_simp <;> with_reducible rfl)
                try simp only [Go.Last.pt]
                refine wpAnyH_take (i := 5) (v := ?v5u17) rfl (by kernel_rfl) (by kernel_rfl) (by kernel_rfl) (fun _ _ _ h => h) (Or.inl ⟨by kernel_rfl, ?h5u17⟩) hHeld ?r5u17
                case h5u17 => (intro wq hSw; go_simp <;> with_reducible rfl)
                try simp only [Go.Last.pt]
                refine Go.Last.held 6 (by kernel_rfl) rfl (fun K hK => ?_)
                go_simp
                (go_at_call 12; (with_reducible refine (cIa.out _ hHeld).mono ?_); rintro e w26 ⟨rfl, hb26⟩)
                try dsimp only
                refine hK.out _ _ (Bel.step hHeld hb26) (fun hHeld2 => ?_)
                clear hK K hHeld
                have hHeld := hHeld2
                clear hHeld2
                try simp only [Go.Last.pt]
                refine Go.Last.held 7 (by kernel_rfl) rfl (fun K hK => ?_)
                go_simp
                try dsimp only
                refine hK.out _ _ (hHeld) (fun hHeld2 => ?_)
                clear hK K hHeld
                have hHeld := hHeld2
                clear hHeld2
                try simp only [Go.Last.pt]
                refine wpAnyH_take (i := 8) (v := ?v8u18) rfl (by kernel_rfl) (by kernel_rfl) (by kernel_rfl) (fun _ _ _ h => h) (Or.inl ⟨by kernel_rfl, ?h8u18⟩) hHeld ?r8u18
                case h8u18 => (intro wq hSw; obtain ⟨x0, x1, x2, x3, x4, x5, x6, x7, x8⟩ := YtkpoegnekeiieaaDoor.c9 (kept_row hbbX.out hSw); go_simp <;> with_reducible rfl)
                try simp only [Go.Last.pt]
                refine wpAnyH_take (i := 9) (v := ?v9u19) rfl (by kernel_rfl) (by kernel_rfl) (by kernel_rfl) (fun _ _ _ h => h) (Or.inl ⟨by kernel_rfl, ?h9u19⟩) hHeld ?r9u19
                case h9u19 => (intro wq hSw; go_simp <;> with_reducible rfl)
                try simp only [Go.Last.pt]
                refine wpAnyH_take (i := 10) (v := ?v10u20) rfl (by kernel_rfl) (by kernel_rfl) (by kernel_rfl) (fun _ _ _ h => h) (Or.inl ⟨by kernel_rfl, ?h10u20⟩) hHeld ?r10u20
                case h10u20 => (intro wq hSw; go_simp <;> with_reducible rfl)
                try simp only [Go.Last.pt]
                refine wpAnyH_take (i := 11) (v := ?v11u21) rfl (by kernel_rfl) (by kernel_rfl) (by kernel_rfl) (fun _ _ _ h => h) (Or.inl ⟨by kernel_rfl, ?h11u21⟩) hHeld ?r11u21
                case h11u21 => (intro wq hSw; go_simp <;> with_reducible rfl)
                try simp only [Go.Last.pt]
                refine Go.Last.held 12 (by kernel_rfl) rfl (fun K hK => ?_)
                go_simp
                (go_at_call 12; (with_reducible refine (cIb.out _ hHeld).mono ?_); rintro e w32 ⟨rfl, hb32⟩)
                try dsimp only
                refine hK.out _ _ (Bel.step hHeld hb32) (fun hHeld2 => ?_)
                clear hK K hHeld
                have hHeld := hHeld2
                clear hHeld2
                try simp only [Go.Last.pt]
                refine Go.Last.held 13 (by kernel_rfl) rfl (fun K hK => ?_)
                go_simp
                try dsimp only
                refine hK.out _ _ (hHeld) (fun hHeld2 => ?_)
                clear hK K hHeld
                have hHeld := hHeld2
                clear hHeld2
                try simp only [Go.Last.pt]
                refine Go.Last.held 14 (by kernel_rfl) rfl (fun K hK => ?_)
                go_simp
                try dsimp only
                refine hK.out _ _ (hHeld) (fun hHeld2 => ?_)
                clear hK K hHeld
                have hHeld := hHeld2
                clear hHeld2
                try simp only [Go.Last.pt]
                refine Go.Last.held 15 (by kernel_rfl) rfl (fun K hK => ?_)
                go_simp
                try dsimp only
                refine hK.out _ _ (hHeld) (fun hHeld2 => ?_)
                clear hK K hHeld
                have hHeld := hHeld2
                clear hHeld2
                try simp only [Go.Last.pt]
                refine wpAnyH_done (by kernel_rfl) ?_ _
                go_wp2_with fail
                go_meet
                exact ⟨by simp, Lib.hid hHeld⟩

            · refine wp_region_held_drew (S := fun W => Bel W1 W) (by kernel_rfl) hB.out.drew (fun hHeld => ?_)
              refine wpAnyH_take (i := 0) (v := ?v0u22) rfl (by kernel_rfl) (by kernel_rfl) (by kernel_rfl) (fun _ _ _ h => h) (Or.inl ⟨by kernel_rfl, ?h0u22⟩) hHeld ?r0u22
              case h0u22 => (intro wq hSw; go_simp <;> with_reducible rfl)
              try simp only [Go.Last.pt]
              refine wpAnyH_take (i := 1) (v := ?v1u23) rfl (by kernel_rfl) (by kernel_rfl) (by kernel_rfl) (fun _ _ _ h => h) (Or.inl ⟨by kernel_rfl, ?h1u23⟩) hHeld ?r1u23
              case h1u23 => (intro wq hSw; go_simp <;> with_reducible rfl)
              try simp only [Go.Last.pt]
              refine wpAnyH_take (i := 2) (v := undef) rfl (by kernel_rfl) (by kernel_rfl) (by kernel_rfl) (fun _ _ _ h => h) (Or.inr ⟨by kernel_rfl, rfl⟩) hHeld ?_
              try simp only [Go.Last.pt]
              refine wpAnyH_take (i := 3) (v := undef) rfl (by kernel_rfl) (by kernel_rfl) (by kernel_rfl) (fun _ _ _ h => h) (Or.inr ⟨by kernel_rfl, rfl⟩) hHeld ?_
              try simp only [Go.Last.pt]
              refine wpAnyH_take (i := 4) (v := undef) rfl (by kernel_rfl) (by kernel_rfl) (by kernel_rfl) (fun _ _ _ h => h) (Or.inr ⟨by kernel_rfl, rfl⟩) hHeld ?_
              try simp only [Go.Last.pt]
              refine wpAnyH_take (i := 5) (v := undef) rfl (by kernel_rfl) (by kernel_rfl) (by kernel_rfl) (fun _ _ _ h => h) (Or.inr ⟨by kernel_rfl, rfl⟩) hHeld ?_
              try simp only [Go.Last.pt]
              refine wpAnyH_take (i := 6) (v := undef) rfl (by kernel_rfl) (by kernel_rfl) (by kernel_rfl) (fun _ _ _ h => h) (Or.inr ⟨by kernel_rfl, rfl⟩) hHeld ?_
              try simp only [Go.Last.pt]
              refine wpAnyH_take (i := 7) (v := undef) rfl (by kernel_rfl) (by kernel_rfl) (by kernel_rfl) (fun _ _ _ h => h) (Or.inr ⟨by kernel_rfl, rfl⟩) hHeld ?_
              try simp only [Go.Last.pt]
              refine wpAnyH_take (i := 8) (v := undef) rfl (by kernel_rfl) (by kernel_rfl) (by kernel_rfl) (fun _ _ _ h => h) (Or.inr ⟨by kernel_rfl, rfl⟩) hHeld ?_
              try simp only [Go.Last.pt]
              refine wpAnyH_take (i := 9) (v := undef) rfl (by kernel_rfl) (by kernel_rfl) (by kernel_rfl) (fun _ _ _ h => h) (Or.inr ⟨by kernel_rfl, rfl⟩) hHeld ?_
              try simp only [Go.Last.pt]
              refine wpAnyH_take (i := 10) (v := undef) rfl (by kernel_rfl) (by kernel_rfl) (by kernel_rfl) (fun _ _ _ h => h) (Or.inr ⟨by kernel_rfl, rfl⟩) hHeld ?_
              try simp only [Go.Last.pt]
              refine wpAnyH_take (i := 11) (v := undef) rfl (by kernel_rfl) (by kernel_rfl) (by kernel_rfl) (fun _ _ _ h => h) (Or.inr ⟨by kernel_rfl, rfl⟩) hHeld ?_
              try simp only [Go.Last.pt]
              refine wpAnyH_take (i := 12) (v := undef) rfl (by kernel_rfl) (by kernel_rfl) (by kernel_rfl) (fun _ _ _ h => h) (Or.inr ⟨by kernel_rfl, rfl⟩) hHeld ?_
              try simp only [Go.Last.pt]
              refine wpAnyH_take (i := 13) (v := undef) rfl (by kernel_rfl) (by kernel_rfl) (by kernel_rfl) (fun _ _ _ h => h) (Or.inr ⟨by kernel_rfl, rfl⟩) hHeld ?_
              try simp only [Go.Last.pt]
              refine Go.Last.held 14 (by kernel_rfl) rfl (fun K hK => ?_)
              go_simp
              try dsimp only
              refine hK.out _ _ (hHeld) (fun hHeld2 => ?_)
              clear hK K hHeld
              have hHeld := hHeld2
              clear hHeld2
              try simp only [Go.Last.pt]
              refine Go.Last.held 15 (by kernel_rfl) rfl (fun K hK => ?_)
              go_simp
              try dsimp only
              refine hK.out _ _ (hHeld) (fun hHeld2 => ?_)
              clear hK K hHeld
              have hHeld := hHeld2
              clear hHeld2
              try simp only [Go.Last.pt]
              refine wpAnyH_done (by kernel_rfl) ?_ _
              go_wp2_with fail
              go_meet
              exact ⟨by simp, Lib.hid hHeld⟩

          case rest =>
            clear hB
            obtain ⟨rfl, hB⟩ := hcut
            go_upto_region 24 with (fail)
            cases Y
            · by_cases hk0 : k = 0
              · subst hk0
                refine wp_region_held_drew (S := fun W => Bel W1 W) (by kernel_rfl) hB.out.drew (fun hHeld => ?_)
                refine wpAnyH_take (i := 0) (v := ?v0u36) rfl (by kernel_rfl) (by kernel_rfl) (by kernel_rfl) (fun _ _ _ h => h) (Or.inl ⟨by kernel_rfl, ?h0u36⟩) hHeld ?r0u36
                case h0u36 => (intro wq hSw; go_simp <;> with_reducible rfl)
                try simp only [Go.Last.pt]
                refine wpAnyH_take (i := 1) (v := ?v1u37) rfl (by kernel_rfl) (by kernel_rfl) (by kernel_rfl) (fun _ _ _ h => h) (Or.inl ⟨by kernel_rfl, ?h1u37⟩) hHeld ?r1u37
                case h1u37 => (intro wq hSw; go_simp <;> with_reducible rfl)
                try simp only [Go.Last.pt]
                refine wpAnyH_take (i := 2) (v := ?v2u38) rfl (by kernel_rfl) (by kernel_rfl) (by kernel_rfl) (fun _ _ _ h => h) (Or.inl ⟨by kernel_rfl, ?h2u38⟩) hHeld ?r2u38
                case h2u38 => (intro wq hSw; go_simp <;> with_reducible rfl)
                try simp only [Go.Last.pt]
                refine wpAnyH_take (i := 3) (v := ?v3u39) rfl (by kernel_rfl) (by kernel_rfl) (by kernel_rfl) (fun _ _ _ h => h) (Or.inl ⟨by kernel_rfl, ?h3u39⟩) hHeld ?r3u39
                case h3u39 => (intro wq hSw; go_simp <;> with_reducible rfl)
                try simp only [Go.Last.pt]
                refine wpAnyH_take (i := 4) (v := ?v4u40) rfl (by kernel_rfl) (by kernel_rfl) (by kernel_rfl) (fun _ _ _ h => h) (Or.inl ⟨by kernel_rfl, ?h4u40⟩) hHeld ?r4u40
                case h4u40 => (intro wq hSw; go_simp <;> with_reducible rfl)
                try simp only [Go.Last.pt]
                refine wpAnyH_take (i := 5) (v := undef) rfl (by kernel_rfl) (by kernel_rfl) (by kernel_rfl) (fun _ _ _ h => h) (Or.inr ⟨by kernel_rfl, rfl⟩) hHeld ?_
                try simp only [Go.Last.pt]
                refine wpAnyH_take (i := 6) (v := undef) rfl (by kernel_rfl) (by kernel_rfl) (by kernel_rfl) (fun _ _ _ h => h) (Or.inr ⟨by kernel_rfl, rfl⟩) hHeld ?_
                try simp only [Go.Last.pt]
                refine wpAnyH_take (i := 7) (v := undef) rfl (by kernel_rfl) (by kernel_rfl) (by kernel_rfl) (fun _ _ _ h => h) (Or.inr ⟨by kernel_rfl, rfl⟩) hHeld ?_
                try simp only [Go.Last.pt]
                refine wpAnyH_take (i := 8) (v := undef) rfl (by kernel_rfl) (by kernel_rfl) (by kernel_rfl) (fun _ _ _ h => h) (Or.inr ⟨by kernel_rfl, rfl⟩) hHeld ?_
                try simp only [Go.Last.pt]
                refine wpAnyH_take (i := 9) (v := undef) rfl (by kernel_rfl) (by kernel_rfl) (by kernel_rfl) (fun _ _ _ h => h) (Or.inr ⟨by kernel_rfl, rfl⟩) hHeld ?_
                try simp only [Go.Last.pt]
                refine Go.Last.held 10 (by kernel_rfl) rfl (fun K hK => ?_)
                go_simp
                try dsimp only
                refine hK.out _ _ (hHeld) (fun hHeld2 => ?_)
                clear hK K hHeld
                have hHeld := hHeld2
                clear hHeld2
                try simp only [Go.Last.pt]
                refine Go.Last.held 11 (by kernel_rfl) rfl (fun K hK => ?_)
                go_simp
                try dsimp only
                refine hK.out _ _ (hHeld) (fun hHeld2 => ?_)
                clear hK K hHeld
                have hHeld := hHeld2
                clear hHeld2
                try simp only [Go.Last.pt]
                refine wpAnyH_take (i := 12) (v := undef) rfl (by kernel_rfl) (by kernel_rfl) (by kernel_rfl) (fun _ _ _ h => h) (Or.inr ⟨by kernel_rfl, rfl⟩) hHeld ?_
                try simp only [Go.Last.pt]
                refine wpAnyH_take (i := 13) (v := undef) rfl (by kernel_rfl) (by kernel_rfl) (by kernel_rfl) (fun _ _ _ h => h) (Or.inr ⟨by kernel_rfl, rfl⟩) hHeld ?_
                try simp only [Go.Last.pt]
                refine wpAnyH_take (i := 14) (v := undef) rfl (by kernel_rfl) (by kernel_rfl) (by kernel_rfl) (fun _ _ _ h => h) (Or.inr ⟨by kernel_rfl, rfl⟩) hHeld ?_
                try simp only [Go.Last.pt]
                refine wpAnyH_take (i := 15) (v := undef) rfl (by kernel_rfl) (by kernel_rfl) (by kernel_rfl) (fun _ _ _ h => h) (Or.inr ⟨by kernel_rfl, rfl⟩) hHeld ?_
                try simp only [Go.Last.pt]
                refine wpAnyH_take (i := 16) (v := undef) rfl (by kernel_rfl) (by kernel_rfl) (by kernel_rfl) (fun _ _ _ h => h) (Or.inr ⟨by kernel_rfl, rfl⟩) hHeld ?_
                try simp only [Go.Last.pt]
                refine Go.Last.held 17 (by kernel_rfl) rfl (fun K hK => ?_)
                go_simp
                try dsimp only
                refine hK.out _ _ (hHeld) (fun hHeld2 => ?_)
                clear hK K hHeld
                have hHeld := hHeld2
                clear hHeld2
                try simp only [Go.Last.pt]
                refine Go.Last.held 18 (by kernel_rfl) rfl (fun K hK => ?_)
                go_simp
                try dsimp only
                refine hK.out _ _ (hHeld) (fun hHeld2 => ?_)
                clear hK K hHeld
                have hHeld := hHeld2
                clear hHeld2
                try simp only [Go.Last.pt]
                refine Go.Last.held 19 (by kernel_rfl) rfl (fun K hK => ?_)
                go_simp
                try dsimp only
                refine hK.out _ _ (hHeld) (fun hHeld2 => ?_)
                clear hK K hHeld
                have hHeld := hHeld2
                clear hHeld2
                try simp only [Go.Last.pt]
                refine wpAnyH_done (by kernel_rfl) ?_ _
                go_wp2
                go_roundw
                case rel =>
                  repeat apply Exists.intro
                  refine ⟨?_, rfl⟩
                  exact ⟨0 + 1, by omega, by rw [hn1.out] <;> simp [*], by rw [hn2.out] <;> simp [*], by go_num, Lib.hid hHeld⟩
                case measure => simp [intOf] <;> omega

              · have hkp : 0 < k := by omega
                cases A
                · refine wp_region_held_drew (S := fun W => Bel W1 W) (by kernel_rfl) hB.out.drew (fun hHeld => ?_)
                  refine wpAnyH_take (i := 0) (v := ?v0u51) rfl (by kernel_rfl) (by kernel_rfl) (by kernel_rfl) (fun _ _ _ h => h) (Or.inl ⟨by kernel_rfl, ?h0u51⟩) hHeld ?r0u51
                  case h0u51 => (intro wq hSw; go_simp <;> with_reducible rfl)
                  try simp only [Go.Last.pt]
                  refine wpAnyH_take (i := 1) (v := ?v1u52) rfl (by kernel_rfl) (by kernel_rfl) (by kernel_rfl) (fun _ _ _ h => h) (Or.inl ⟨by kernel_rfl, ?h1u52⟩) hHeld ?r1u52
                  case h1u52 => (intro wq hSw; go_simp <;> with_reducible rfl)
                  try simp only [Go.Last.pt]
                  refine wpAnyH_take (i := 2) (v := ?v2u53) rfl (by kernel_rfl) (by kernel_rfl) (by kernel_rfl) (fun _ _ _ h => h) (Or.inl ⟨by kernel_rfl, ?h2u53⟩) hHeld ?r2u53
                  case h2u53 => (intro wq hSw; go_simp <;> with_reducible rfl)
                  try simp only [Go.Last.pt]
                  refine wpAnyH_take (i := 3) (v := ?v3u54) rfl (by kernel_rfl) (by kernel_rfl) (by kernel_rfl) (fun _ _ _ h => h) (Or.inl ⟨by kernel_rfl, ?h3u54⟩) hHeld ?r3u54
                  case h3u54 => (intro wq hSw; go_simp <;> with_reducible rfl)
                  try simp only [Go.Last.pt]
                  refine wpAnyH_take (i := 4) (v := ?v4u55) rfl (by kernel_rfl) (by kernel_rfl) (by kernel_rfl) (fun _ _ _ h => h) (Or.inl ⟨by kernel_rfl, ?h4u55⟩) hHeld ?r4u55
                  case h4u55 => (intro wq hSw; go_simp <;> with_reducible rfl)
                  try simp only [Go.Last.pt]
                  refine wpAnyH_take (i := 5) (v := ?v5u56) rfl (by kernel_rfl) (by kernel_rfl) (by kernel_rfl) (fun _ _ _ h => h) (Or.inl ⟨by kernel_rfl, ?h5u56⟩) hHeld ?r5u56
                  case h5u56 => (intro wq hSw; obtain ⟨n0, n1, n2, n3, n4, n5, n6, n7, n8⟩ := YtkpoegnekeiieaaDoor.c9 (kept_row hbaX.out hSw); go_simp <;> with_reducible rfl)
                  try simp only [Go.Last.pt]
                  refine wpAnyH_take (i := 6) (v := ?v6u57) rfl (by kernel_rfl) (by kernel_rfl) (by kernel_rfl) (fun _ _ _ h => h) (Or.inl ⟨by kernel_rfl, ?h6u57⟩) hHeld ?r6u57
                  case h6u57 => (intro wq hSw; go_simp <;> with_reducible rfl)
                  try simp only [Go.Last.pt]
                  refine wpAnyH_take (i := 7) (v := ?v7u58) rfl (by kernel_rfl) (by kernel_rfl) (by kernel_rfl) (fun _ _ _ h => h) (Or.inl ⟨by kernel_rfl, ?h7u58⟩) hHeld ?r7u58
                  case h7u58 => (intro wq hSw; go_simp <;> with_reducible rfl)
                  try simp only [Go.Last.pt]
                  refine wpAnyH_take (i := 8) (v := ?v8u59) rfl (by kernel_rfl) (by kernel_rfl) (by kernel_rfl) (fun _ _ _ h => h) (Or.inl ⟨by kernel_rfl, ?h8u59⟩) hHeld ?r8u59
                  case h8u59 => (intro wq hSw; go_simp <;> with_reducible rfl)
                  try simp only [Go.Last.pt]
                  refine Go.Last.held 9 (by kernel_rfl) rfl (fun K hK => ?_)
                  go_simp
                  (go_at_call 12; (with_reducible refine (cIa.out _ hHeld).mono ?_); rintro e w29 ⟨rfl, hb29⟩)
                  try dsimp only
                  refine hK.out _ _ (Bel.step hHeld hb29) (fun hHeld2 => ?_)
                  clear hK K hHeld
                  have hHeld := hHeld2
                  clear hHeld2
                  try simp only [Go.Last.pt]
                  refine Go.Last.held 10 (by kernel_rfl) rfl (fun K hK => ?_)
                  go_simp
                  try dsimp only
                  refine hK.out _ _ (hHeld) (fun hHeld2 => ?_)
                  clear hK K hHeld
                  have hHeld := hHeld2
                  clear hHeld2
                  try simp only [Go.Last.pt]
                  refine Go.Last.held 11 (by kernel_rfl) rfl (fun K hK => ?_)
                  go_simp
                  try dsimp only
                  refine hK.out _ _ (hHeld) (fun hHeld2 => ?_)
                  clear hK K hHeld
                  have hHeld := hHeld2
                  clear hHeld2
                  try simp only [Go.Last.pt]
                  refine wpAnyH_take (i := 12) (v := undef) rfl (by kernel_rfl) (by kernel_rfl) (by kernel_rfl) (fun _ _ _ h => h) (Or.inr ⟨by kernel_rfl, rfl⟩) hHeld ?_
                  try simp only [Go.Last.pt]
                  refine wpAnyH_take (i := 13) (v := undef) rfl (by kernel_rfl) (by kernel_rfl) (by kernel_rfl) (fun _ _ _ h => h) (Or.inr ⟨by kernel_rfl, rfl⟩) hHeld ?_
                  try simp only [Go.Last.pt]
                  refine wpAnyH_take (i := 14) (v := undef) rfl (by kernel_rfl) (by kernel_rfl) (by kernel_rfl) (fun _ _ _ h => h) (Or.inr ⟨by kernel_rfl, rfl⟩) hHeld ?_
                  try simp only [Go.Last.pt]
                  refine wpAnyH_take (i := 15) (v := undef) rfl (by kernel_rfl) (by kernel_rfl) (by kernel_rfl) (fun _ _ _ h => h) (Or.inr ⟨by kernel_rfl, rfl⟩) hHeld ?_
                  try simp only [Go.Last.pt]
                  refine wpAnyH_take (i := 16) (v := undef) rfl (by kernel_rfl) (by kernel_rfl) (by kernel_rfl) (fun _ _ _ h => h) (Or.inr ⟨by kernel_rfl, rfl⟩) hHeld ?_
                  try simp only [Go.Last.pt]
                  refine Go.Last.held 17 (by kernel_rfl) rfl (fun K hK => ?_)
                  go_simp
                  try dsimp only
                  refine hK.out _ _ (hHeld) (fun hHeld2 => ?_)
                  clear hK K hHeld
                  have hHeld := hHeld2
                  clear hHeld2
                  try simp only [Go.Last.pt]
                  refine Go.Last.held 18 (by kernel_rfl) rfl (fun K hK => ?_)
                  go_simp
                  try dsimp only
                  refine hK.out _ _ (hHeld) (fun hHeld2 => ?_)
                  clear hK K hHeld
                  have hHeld := hHeld2
                  clear hHeld2
                  try simp only [Go.Last.pt]
                  refine Go.Last.held 19 (by kernel_rfl) rfl (fun K hK => ?_)
                  go_simp
                  try dsimp only
                  refine hK.out _ _ (hHeld) (fun hHeld2 => ?_)
                  clear hK K hHeld
                  have hHeld := hHeld2
                  clear hHeld2
                  try simp only [Go.Last.pt]
                  refine wpAnyH_done (by kernel_rfl) ?_ _
                  go_wp2
                  go_roundw
                  case rel =>
                    repeat apply Exists.intro
                    refine ⟨?_, rfl⟩
                    exact ⟨k + 1, by omega, by rw [hn1.out] <;> simp [*], by rw [hn2.out] <;> simp [*], by go_num, Lib.hid hHeld⟩
                  case measure => simp [intOf] <;> omega

                · refine wp_region_held_drew (S := fun W => Bel W1 W) (by kernel_rfl) hB.out.drew (fun hHeld => ?_)
                  refine wpAnyH_take (i := 0) (v := ?v0u65) rfl (by kernel_rfl) (by kernel_rfl) (by kernel_rfl) (fun _ _ _ h => h) (Or.inl ⟨by kernel_rfl, ?h0u65⟩) hHeld ?r0u65
                  case h0u65 => (intro wq hSw; go_simp <;> with_reducible rfl)
                  try simp only [Go.Last.pt]
                  refine wpAnyH_take (i := 1) (v := ?v1u66) rfl (by kernel_rfl) (by kernel_rfl) (by kernel_rfl) (fun _ _ _ h => h) (Or.inl ⟨by kernel_rfl, ?h1u66⟩) hHeld ?r1u66
                  case h1u66 => (intro wq hSw; go_simp <;> with_reducible rfl)
                  try simp only [Go.Last.pt]
                  refine wpAnyH_take (i := 2) (v := ?v2u67) rfl (by kernel_rfl) (by kernel_rfl) (by kernel_rfl) (fun _ _ _ h => h) (Or.inl ⟨by kernel_rfl, ?h2u67⟩) hHeld ?r2u67
                  case h2u67 => (intro wq hSw; go_simp <;> with_reducible rfl)
                  try simp only [Go.Last.pt]
                  refine wpAnyH_take (i := 3) (v := ?v3u68) rfl (by kernel_rfl) (by kernel_rfl) (by kernel_rfl) (fun _ _ _ h => h) (Or.inl ⟨by kernel_rfl, ?h3u68⟩) hHeld ?r3u68
                  case h3u68 => (intro wq hSw; go_simp <;> with_reducible rfl)
                  try simp only [Go.Last.pt]
                  refine wpAnyH_take (i := 4) (v := ?v4u69) rfl (by kernel_rfl) (by kernel_rfl) (by kernel_rfl) (fun _ _ _ h => h) (Or.inl ⟨by kernel_rfl, ?h4u69⟩) hHeld ?r4u69
                  case h4u69 => (intro wq hSw; go_simp <;> with_reducible rfl)
                  try simp only [Go.Last.pt]
                  refine wpAnyH_take (i := 5) (v := ?v5u70) rfl (by kernel_rfl) (by kernel_rfl) (by kernel_rfl) (fun _ _ _ h => h) (Or.inl ⟨by kernel_rfl, ?h5u70⟩) hHeld ?r5u70
                  case h5u70 => (intro wq hSw; obtain ⟨n0, n1, n2, n3, n4, n5, n6, n7, n8⟩ := YtkpoegnekeiieaaDoor.c9 (kept_row hbaX.out hSw); go_simp <;> with_reducible rfl)
                  try simp only [Go.Last.pt]
                  refine wpAnyH_take (i := 6) (v := ?v6u71) rfl (by kernel_rfl) (by kernel_rfl) (by kernel_rfl) (fun _ _ _ h => h) (Or.inl ⟨by kernel_rfl, ?h6u71⟩) hHeld ?r6u71
                  case h6u71 => (intro wq hSw; go_simp <;> with_reducible rfl)
                  try simp only [Go.Last.pt]
                  refine wpAnyH_take (i := 7) (v := ?v7u72) rfl (by kernel_rfl) (by kernel_rfl) (by kernel_rfl) (fun _ _ _ h => h) (Or.inl ⟨by kernel_rfl, ?h7u72⟩) hHeld ?r7u72
                  case h7u72 => (intro wq hSw; go_simp <;> with_reducible rfl)
                  try simp only [Go.Last.pt]
                  refine wpAnyH_take (i := 8) (v := ?v8u73) rfl (by kernel_rfl) (by kernel_rfl) (by kernel_rfl) (fun _ _ _ h => h) (Or.inl ⟨by kernel_rfl, ?h8u73⟩) hHeld ?r8u73
                  case h8u73 => (intro wq hSw; go_simp <;> with_reducible rfl)
                  try simp only [Go.Last.pt]
                  refine Go.Last.held 9 (by kernel_rfl) rfl (fun K hK => ?_)
                  go_simp
                  (go_at_call 12; (with_reducible refine (cIa.out _ hHeld).mono ?_); rintro e w29 ⟨rfl, hb29⟩)
                  try dsimp only
                  refine hK.out _ _ (Bel.step hHeld hb29) (fun hHeld2 => ?_)
                  clear hK K hHeld
                  have hHeld := hHeld2
                  clear hHeld2
                  try simp only [Go.Last.pt]
                  refine Go.Last.held 10 (by kernel_rfl) rfl (fun K hK => ?_)
                  go_simp
                  try dsimp only
                  refine hK.out _ _ (hHeld) (fun hHeld2 => ?_)
                  clear hK K hHeld
                  have hHeld := hHeld2
                  clear hHeld2
                  try simp only [Go.Last.pt]
                  refine Go.Last.held 11 (by kernel_rfl) rfl (fun K hK => ?_)
                  go_simp
                  try dsimp only
                  refine hK.out _ _ (hHeld) (fun hHeld2 => ?_)
                  clear hK K hHeld
                  have hHeld := hHeld2
                  clear hHeld2
                  try simp only [Go.Last.pt]
                  refine wpAnyH_take (i := 12) (v := ?v12u74) rfl (by kernel_rfl) (by kernel_rfl) (by kernel_rfl) (fun _ _ _ h => h) (Or.inl ⟨by kernel_rfl, ?h12u74⟩) hHeld ?r12u74
                  case h12u74 => (intro wq hSw; obtain ⟨e0, e1, e2, e3, e4, e5, e6, e7, e8⟩ := YtkpoegnekeiieaaDoor.c9 (kept_row hbsX.out hSw); go_simp <;> with_reducible rfl)
                  try simp only [Go.Last.pt]
                  refine wpAnyH_take (i := 13) (v := ?v13u75) rfl (by kernel_rfl) (by kernel_rfl) (by kernel_rfl) (fun _ _ _ h => h) (Or.inl ⟨by kernel_rfl, ?h13u75⟩) hHeld ?r13u75
                  case h13u75 => (intro wq hSw; go_simp <;> with_reducible rfl)
                  try simp only [Go.Last.pt]
                  refine wpAnyH_take (i := 14) (v := ?v14u76) rfl (by kernel_rfl) (by kernel_rfl) (by kernel_rfl) (fun _ _ _ h => h) (Or.inl ⟨by kernel_rfl, ?h14u76⟩) hHeld ?r14u76
                  case h14u76 => (intro wq hSw; go_simp <;> with_reducible rfl)
                  try simp only [Go.Last.pt]
                  refine wpAnyH_take (i := 15) (v := ?v15u77) rfl (by kernel_rfl) (by kernel_rfl) (by kernel_rfl) (fun _ _ _ h => h) (Or.inl ⟨by kernel_rfl, ?h15u77⟩) hHeld ?r15u77
                  case h15u77 => (intro wq hSw; go_simp <;> with_reducible rfl)
                  try simp only [Go.Last.pt]
                  refine Go.Last.held 16 (by kernel_rfl) rfl (fun K hK => ?_)
                  go_simp
                  (go_at_call 12; (with_reducible refine (cIs.out _ hHeld).mono ?_); rintro e w36 ⟨rfl, hb36⟩)
                  try dsimp only
                  refine hK.out _ _ (Bel.step hHeld hb36) (fun hHeld2 => ?_)
                  clear hK K hHeld
                  have hHeld := hHeld2
                  clear hHeld2
                  try simp only [Go.Last.pt]
                  refine Go.Last.held 17 (by kernel_rfl) rfl (fun K hK => ?_)
                  go_simp
                  try dsimp only
                  refine hK.out _ _ (hHeld) (fun hHeld2 => ?_)
                  clear hK K hHeld
                  have hHeld := hHeld2
                  clear hHeld2
                  try simp only [Go.Last.pt]
                  refine Go.Last.held 18 (by kernel_rfl) rfl (fun K hK => ?_)
                  go_simp
                  try dsimp only
                  refine hK.out _ _ (hHeld) (fun hHeld2 => ?_)
                  clear hK K hHeld
                  have hHeld := hHeld2
                  clear hHeld2
                  try simp only [Go.Last.pt]
                  refine Go.Last.held 19 (by kernel_rfl) rfl (fun K hK => ?_)
                  go_simp
                  try dsimp only
                  refine hK.out _ _ (hHeld) (fun hHeld2 => ?_)
                  clear hK K hHeld
                  have hHeld := hHeld2
                  clear hHeld2
                  try simp only [Go.Last.pt]
                  refine wpAnyH_done (by kernel_rfl) ?_ _
                  go_wp2
                  go_roundw
                  case rel =>
                    repeat apply Exists.intro
                    refine ⟨?_, rfl⟩
                    exact ⟨k + 1, by omega, by rw [hn1.out] <;> simp [*], by rw [hn2.out] <;> simp [*], by go_num, Lib.hid hHeld⟩
                  case measure => simp [intOf] <;> omega

            · refine wp_region_held_drew (S := fun W => Bel W1 W) (by kernel_rfl) hB.out.drew (fun hHeld => ?_)
              refine wpAnyH_take (i := 0) (v := ?v0u78) rfl (by kernel_rfl) (by kernel_rfl) (by kernel_rfl) (fun _ _ _ h => h) (Or.inl ⟨by kernel_rfl, ?h0u78⟩) hHeld ?r0u78
              case h0u78 => (intro wq hSw; go_simp <;> with_reducible rfl)
              try simp only [Go.Last.pt]
              refine wpAnyH_take (i := 1) (v := ?v1u79) rfl (by kernel_rfl) (by kernel_rfl) (by kernel_rfl) (fun _ _ _ h => h) (Or.inl ⟨by kernel_rfl, ?h1u79⟩) hHeld ?r1u79
              case h1u79 => (intro wq hSw; go_simp <;> with_reducible rfl)
              try simp only [Go.Last.pt]
              refine wpAnyH_take (i := 2) (v := undef) rfl (by kernel_rfl) (by kernel_rfl) (by kernel_rfl) (fun _ _ _ h => h) (Or.inr ⟨by kernel_rfl, rfl⟩) hHeld ?_
              try simp only [Go.Last.pt]
              refine wpAnyH_take (i := 3) (v := undef) rfl (by kernel_rfl) (by kernel_rfl) (by kernel_rfl) (fun _ _ _ h => h) (Or.inr ⟨by kernel_rfl, rfl⟩) hHeld ?_
              try simp only [Go.Last.pt]
              refine wpAnyH_take (i := 4) (v := undef) rfl (by kernel_rfl) (by kernel_rfl) (by kernel_rfl) (fun _ _ _ h => h) (Or.inr ⟨by kernel_rfl, rfl⟩) hHeld ?_
              try simp only [Go.Last.pt]
              refine wpAnyH_take (i := 5) (v := undef) rfl (by kernel_rfl) (by kernel_rfl) (by kernel_rfl) (fun _ _ _ h => h) (Or.inr ⟨by kernel_rfl, rfl⟩) hHeld ?_
              try simp only [Go.Last.pt]
              refine wpAnyH_take (i := 6) (v := undef) rfl (by kernel_rfl) (by kernel_rfl) (by kernel_rfl) (fun _ _ _ h => h) (Or.inr ⟨by kernel_rfl, rfl⟩) hHeld ?_
              try simp only [Go.Last.pt]
              refine wpAnyH_take (i := 7) (v := undef) rfl (by kernel_rfl) (by kernel_rfl) (by kernel_rfl) (fun _ _ _ h => h) (Or.inr ⟨by kernel_rfl, rfl⟩) hHeld ?_
              try simp only [Go.Last.pt]
              refine wpAnyH_take (i := 8) (v := undef) rfl (by kernel_rfl) (by kernel_rfl) (by kernel_rfl) (fun _ _ _ h => h) (Or.inr ⟨by kernel_rfl, rfl⟩) hHeld ?_
              try simp only [Go.Last.pt]
              refine wpAnyH_take (i := 9) (v := undef) rfl (by kernel_rfl) (by kernel_rfl) (by kernel_rfl) (fun _ _ _ h => h) (Or.inr ⟨by kernel_rfl, rfl⟩) hHeld ?_
              try simp only [Go.Last.pt]
              refine wpAnyH_take (i := 10) (v := undef) rfl (by kernel_rfl) (by kernel_rfl) (by kernel_rfl) (fun _ _ _ h => h) (Or.inr ⟨by kernel_rfl, rfl⟩) hHeld ?_
              try simp only [Go.Last.pt]
              refine wpAnyH_take (i := 11) (v := undef) rfl (by kernel_rfl) (by kernel_rfl) (by kernel_rfl) (fun _ _ _ h => h) (Or.inr ⟨by kernel_rfl, rfl⟩) hHeld ?_
              try simp only [Go.Last.pt]
              refine wpAnyH_take (i := 12) (v := undef) rfl (by kernel_rfl) (by kernel_rfl) (by kernel_rfl) (fun _ _ _ h => h) (Or.inr ⟨by kernel_rfl, rfl⟩) hHeld ?_
              try simp only [Go.Last.pt]
              refine wpAnyH_take (i := 13) (v := undef) rfl (by kernel_rfl) (by kernel_rfl) (by kernel_rfl) (fun _ _ _ h => h) (Or.inr ⟨by kernel_rfl, rfl⟩) hHeld ?_
              try simp only [Go.Last.pt]
              refine wpAnyH_take (i := 14) (v := undef) rfl (by kernel_rfl) (by kernel_rfl) (by kernel_rfl) (fun _ _ _ h => h) (Or.inr ⟨by kernel_rfl, rfl⟩) hHeld ?_
              try simp only [Go.Last.pt]
              refine wpAnyH_take (i := 15) (v := undef) rfl (by kernel_rfl) (by kernel_rfl) (by kernel_rfl) (fun _ _ _ h => h) (Or.inr ⟨by kernel_rfl, rfl⟩) hHeld ?_
              try simp only [Go.Last.pt]
              refine wpAnyH_take (i := 16) (v := undef) rfl (by kernel_rfl) (by kernel_rfl) (by kernel_rfl) (fun _ _ _ h => h) (Or.inr ⟨by kernel_rfl, rfl⟩) hHeld ?_
              try simp only [Go.Last.pt]
              refine wpAnyH_take (i := 17) (v := undef) rfl (by kernel_rfl) (by kernel_rfl) (by kernel_rfl) (fun _ _ _ h => h) (Or.inr ⟨by kernel_rfl, rfl⟩) hHeld ?_
              try simp only [Go.Last.pt]
              refine Go.Last.held 18 (by kernel_rfl) rfl (fun K hK => ?_)
              go_simp
              try dsimp only
              refine hK.out _ _ (hHeld) (fun hHeld2 => ?_)
              clear hK K hHeld
              have hHeld := hHeld2
              clear hHeld2
              try simp only [Go.Last.pt]
              refine Go.Last.held 19 (by kernel_rfl) rfl (fun K hK => ?_)
              go_simp
              try dsimp only
              refine hK.out _ _ (hHeld) (fun hHeld2 => ?_)
              clear hK K hHeld
              have hHeld := hHeld2
              clear hHeld2
              try simp only [Go.Last.pt]
              refine wpAnyH_done (by kernel_rfl) ?_ _
              go_wp2
              go_roundw
              case rel =>
                repeat apply Exists.intro
                refine ⟨?_, rfl⟩
                exact ⟨k + 1, by omega, by rw [hn1.out] <;> simp [*], by rw [hn2.out] <;> simp [*], by go_num, Lib.hid hHeld⟩
              case measure => simp [intOf] <;> omega

        · obtain rfl : k = m + 1 := by omega
          obtain ⟨hWc, hWt, hWs, hlm, hsW, hTaW, hTbW, hTc, hTt, hTs⟩ := hend.out
          have qc := laws_cat hWc (l := l) (by omega)
          have qt := laws_alt hWt (l := l) (by omega)
          have qs := laws_star hWs (l := l) (by omega)
          rw [hlm] at qc qs
          have cC : Hid (∀ w', Bel W1 w' → Calls Tryd.prog 12 #[.agg #[.int .i64 2, .int .u64 0, .int .u64 0, .int .u64 0, .int .u64 0, .slice (some ⟨w3.heap.size + 1, 0, none⟩) 2 2, .int .i64 0, .int .i64 0, .string ⟨#[]⟩], .slice ad m c] w' fun e w'' => e = .returned (.bool (isTo a' b' l (m + 1))) ∧ Below w'.heap.size w' w'') := Lib.hid fun w' hb => qc ▸ is_in (in_bel (in_bel hTc hbW.out) hb) (hsW.bel hb) (by omega)
          have cT : Hid (∀ w', Bel W1 w' → Calls Tryd.prog 12 #[.agg #[.int .i64 3, .int .u64 0, .int .u64 0, .int .u64 0, .int .u64 0, .slice (some ⟨w3.heap.size + 1 + 1 + 1, 0, none⟩) 2 2, .int .i64 0, .int .i64 0, .string ⟨#[]⟩], .slice ad m c] w' fun e w'' => e = .returned (.bool (isB a' l || isB b' l)) ∧ Below w'.heap.size w' w'') := Lib.hid fun w' hb => qt ▸ is_in (in_bel (in_bel hTt hbW.out) hb) (hsW.bel hb) (by omega)
          have cSf : Hid (∀ w', Bel W1 w' → Calls Tryd.prog 12 #[.agg #[.int .i64 4, .int .u64 0, .int .u64 0, .int .u64 0, .int .u64 0, .slice (some ⟨w3.heap.size + 1 + 1 + 1 + 1 + 1, 0, none⟩) 1 1, .int .i64 0, .int .i64 (-1), .string ⟨#[]⟩], .slice ad m c] w' fun e w'' => e = .returned (.bool (agTo a' (.mk 4 0 0 0 0 (some ⟨w3.heap.size + 1 + 1 + 1 + 1 + 1, 0, none⟩) 1 0 (-1) ⟨#[]⟩ [a']) l (m + 1))) ∧ Below w'.heap.size w' w'') := Lib.hid fun w' hb => qs ▸ is_in (in_bel (in_bel hTs hbW.out) hb) (hsW.bel hb) (by omega)
          have cAf : Hid (∀ w', Bel W1 w' → Calls Tryd.prog 12 #[.agg #[.int .i64 ka, .int .u64 a0, .int .u64 a1, .int .u64 a2, .int .u64 a3, .slice pa ksa.length capa, .int .i64 mna, .int .i64 mxa, .string txa], .slice ad m c] w' fun e w'' => e = .returned (.bool (isB a' l)) ∧ Below w'.heap.size w' w'') := Lib.hid fun w' hb => by
            have := is_in (in_bel hTaW hb) (hsW.bel hb) (by omega)
            rw [hca.out] at this
            exact this
          have cBf : Hid (∀ w', Bel W1 w' → Calls Tryd.prog 12 #[.agg #[.int .i64 kb, .int .u64 b0, .int .u64 b1, .int .u64 b2, .int .u64 b3, .slice pb ksb.length capb, .int .i64 mnb, .int .i64 mxb, .string txb], .slice ad m c] w' fun e w'' => e = .returned (.bool (isB b' l)) ∧ Below w'.heap.size w' w'') := Lib.hid fun w' hb => by
            have := is_in (in_bel hTbW hb) (hsW.bel hb) (by omega)
            rw [hcb.out] at this
            exact this
          clear qc qt qs hWc hWt hWs hlm hsW hTaW hTbW hTc hTt hTs hend xIa xIb xIs
          generalize isTo a' b' l (m + 1) = X at *
          generalize agTo a' (.mk 4 0 0 0 0 (some ⟨w3.heap.size + 1 + 1 + 1 + 1 + 1, 0, none⟩) 1 0 (-1) ⟨#[]⟩ [a']) l (m + 1) = Y at *
          generalize isB a' l = A at *
          generalize isB b' l = B at *
          have hXX : (X == X) = true := by simp
          have hYY : (Y == Y) = true := by simp
          have hBB : (B == B) = true := by simp
          go_upto_region 25 with (fail)
          cases A
          · rw [Bool.false_or] at cT
            refine wp_region_held_drew (S := fun W => Bel W1 W) (by kernel_rfl) hB.out.drew (fun hHeld => ?_)
            refine wpAnyH_take (i := 0) (v := ?v0u96) rfl (by kernel_rfl) (by kernel_rfl) (by kernel_rfl) (fun _ _ _ h => h) (Or.inl ⟨by kernel_rfl, ?h0u96⟩) hHeld ?r0u96
            case h0u96 => (intro wq hSw; obtain ⟨c0, c1, c2, c3, c4, c5, c6, c7, c8⟩ := YtkpoegnekeiieaaDoor.c9 (kept_row hbcX.out hSw); go_simp <;> with_reducible rfl)
            try simp only [Go.Last.pt]
            refine wpAnyH_take (i := 1) (v := ?v1u97) rfl (by kernel_rfl) (by kernel_rfl) (by kernel_rfl) (fun _ _ _ h => h) (Or.inl ⟨by kernel_rfl, ?h1u97⟩) hHeld ?r1u97
            case h1u97 => (intro wq hSw; go_simp <;> with_reducible rfl)
            try simp only [Go.Last.pt]
            refine wpAnyH_take (i := 3) (v := ?v3u98) rfl (by kernel_rfl) (by kernel_rfl) (by kernel_rfl) (fun _ _ _ h => h) (Or.inl ⟨by kernel_rfl, ?h3u98⟩) hHeld ?r3u98
            case h3u98 => (intro wq hSw; go_simp <;> with_reducible rfl)
            try simp only [Go.Last.pt]
            refine Go.Last.held 2 (by kernel_rfl) rfl (fun K hK => ?_)
            go_simp
            (go_at_call 12; (with_reducible refine (cC.out _ hHeld).mono ?_); rintro e w22 ⟨rfl, hb22⟩)
            try dsimp only
            refine hK.out _ _ (Bel.step hHeld hb22) (fun hHeld2 => ?_)
            clear hK K hHeld
            have hHeld := hHeld2
            clear hHeld2
            try simp only [Go.Last.pt]
            refine Go.Last.held 4 (by kernel_rfl) rfl (fun K hK => ?_)
            go_simp
            try dsimp only
            refine hK.out _ _ (hHeld) (fun hHeld2 => ?_)
            clear hK K hHeld
            have hHeld := hHeld2
            clear hHeld2
            try simp only [Go.Last.pt]
            refine Go.Last.held 5 (by kernel_rfl) rfl (fun K hK => ?_)
            go_simp
            try dsimp only
            refine hK.out _ _ (hHeld) (fun hHeld2 => ?_)
            clear hK K hHeld
            have hHeld := hHeld2
            clear hHeld2
            try simp only [Go.Last.pt]
            refine wpAnyH_take (i := 6) (v := ?v6u99) rfl (by kernel_rfl) (by kernel_rfl) (by kernel_rfl) (fun _ _ _ h => h) (Or.inl ⟨by kernel_rfl, ?h6u99⟩) hHeld ?r6u99
            case h6u99 => (intro wq hSw; obtain ⟨d0, d1, d2, d3, d4, d5, d6, d7, d8⟩ := YtkpoegnekeiieaaDoor.c9 (kept_row hbtX.out hSw); go_simp <;> with_reducible rfl)
            try simp only [Go.Last.pt]
            refine wpAnyH_take (i := 7) (v := ?v7u100) rfl (by kernel_rfl) (by kernel_rfl) (by kernel_rfl) (fun _ _ _ h => h) (Or.inl ⟨by kernel_rfl, ?h7u100⟩) hHeld ?r7u100
            case h7u100 => (intro wq hSw; go_simp <;> with_reducible rfl)
            try simp only [Go.Last.pt]
            refine wpAnyH_take (i := 9) (v := ?v9u101) rfl (by kernel_rfl) (by kernel_rfl) (by kernel_rfl) (fun _ _ _ h => h) (Or.inl ⟨by kernel_rfl, ?h9u101⟩) hHeld ?r9u101
            case h9u101 => (intro wq hSw; obtain ⟨n0, n1, n2, n3, n4, n5, n6, n7, n8⟩ := YtkpoegnekeiieaaDoor.c9 (kept_row hbaX.out hSw); go_simp <;> with_reducible rfl)
            try simp only [Go.Last.pt]
            refine wpAnyH_take (i := 10) (v := ?v10u102) rfl (by kernel_rfl) (by kernel_rfl) (by kernel_rfl) (fun _ _ _ h => h) (Or.inl ⟨by kernel_rfl, ?h10u102⟩) hHeld ?r10u102
            case h10u102 => (intro wq hSw; go_simp <;> with_reducible rfl)
            try simp only [Go.Last.pt]
            refine Go.Last.held 8 (by kernel_rfl) rfl (fun K hK => ?_)
            go_simp
            (go_at_call 12; (with_reducible refine (cT.out _ hHeld).mono ?_); rintro e w28 ⟨rfl, hb28⟩)
            try dsimp only
            refine hK.out _ _ (Bel.step hHeld hb28) (fun hHeld2 => ?_)
            clear hK K hHeld
            have hHeld := hHeld2
            clear hHeld2
            try simp only [Go.Last.pt]
            refine Go.Last.held 11 (by kernel_rfl) rfl (fun K hK => ?_)
            go_simp
            (go_at_call 12; (with_reducible refine (cAf.out _ hHeld).mono ?_); rintro e w31 ⟨rfl, hb31⟩)
            try dsimp only
            refine hK.out _ _ (Bel.step hHeld hb31) (fun hHeld2 => ?_)
            clear hK K hHeld
            have hHeld := hHeld2
            clear hHeld2
            try simp only [Go.Last.pt]
            refine Go.Last.held 12 (by kernel_rfl) rfl (fun K hK => ?_)
            go_simp
            try dsimp only
            refine hK.out _ _ (hHeld) (fun hHeld2 => ?_)
            clear hK K hHeld
            have hHeld := hHeld2
            clear hHeld2
            try simp only [Go.Last.pt]
            refine wpAnyH_take (i := 13) (v := ?v13u103) rfl (by kernel_rfl) (by kernel_rfl) (by kernel_rfl) (fun _ _ _ h => h) (Or.inl ⟨by kernel_rfl, ?h13u103⟩) hHeld ?r13u103
            case h13u103 => (intro wq hSw; obtain ⟨x0, x1, x2, x3, x4, x5, x6, x7, x8⟩ := YtkpoegnekeiieaaDoor.c9 (kept_row hbbX.out hSw); go_simp <;> with_reducible rfl)
            try simp only [Go.Last.pt]
            refine wpAnyH_take (i := 14) (v := ?v14u104) rfl (by kernel_rfl) (by kernel_rfl) (by kernel_rfl) (fun _ _ _ h => h) (Or.inl ⟨by kernel_rfl, ?h14u104⟩) hHeld ?r14u104
            case h14u104 => (intro wq hSw; go_simp <;> with_reducible rfl)
            try simp only [Go.Last.pt]
            refine Go.Last.held 15 (by kernel_rfl) rfl (fun K hK => ?_)
            go_simp
            (go_at_call 12; (with_reducible refine (cBf.out _ hHeld).mono ?_); rintro e w35 ⟨rfl, hb35⟩)
            try dsimp only
            refine hK.out _ _ (Bel.step hHeld hb35) (fun hHeld2 => ?_)
            clear hK K hHeld
            have hHeld := hHeld2
            clear hHeld2
            try simp only [Go.Last.pt]
            refine Go.Last.held 16 (by kernel_rfl) rfl (fun K hK => ?_)
            go_simp
            try dsimp only
            refine hK.out _ _ (hHeld) (fun hHeld2 => ?_)
            clear hK K hHeld
            have hHeld := hHeld2
            clear hHeld2
            try simp only [Go.Last.pt]
            refine Go.Last.held 17 (by kernel_rfl) rfl (fun K hK => ?_)
            go_simp
            try dsimp only
            refine hK.out _ _ (hHeld) (fun hHeld2 => ?_)
            clear hK K hHeld
            have hHeld := hHeld2
            clear hHeld2
            try simp only [Go.Last.pt]
            refine Go.Last.held 18 (by kernel_rfl) rfl (fun K hK => ?_)
            go_simp
            try dsimp only
            refine hK.out _ _ (hHeld) (fun hHeld2 => ?_)
            clear hK K hHeld
            have hHeld := hHeld2
            clear hHeld2
            try simp only [Go.Last.pt]
            refine Go.Last.held 19 (by kernel_rfl) rfl (fun K hK => ?_)
            go_simp
            try dsimp only
            refine hK.out _ _ (hHeld) (fun hHeld2 => ?_)
            clear hK K hHeld
            have hHeld := hHeld2
            clear hHeld2
            try simp only [Go.Last.pt]
            refine wpAnyH_take (i := 20) (v := ?v20u105) rfl (by kernel_rfl) (by kernel_rfl) (by kernel_rfl) (fun _ _ _ h => h) (Or.inl ⟨by kernel_rfl, ?h20u105⟩) hHeld ?r20u105
            case h20u105 => (intro wq hSw; obtain ⟨e0, e1, e2, e3, e4, e5, e6, e7, e8⟩ := YtkpoegnekeiieaaDoor.c9 (kept_row hbsX.out hSw); go_simp <;> with_reducible rfl)
            try simp only [Go.Last.pt]
            refine wpAnyH_take (i := 21) (v := ?v21u106) rfl (by kernel_rfl) (by kernel_rfl) (by kernel_rfl) (fun _ _ _ h => h) (Or.inl ⟨by kernel_rfl, ?h21u106⟩) hHeld ?r21u106
            case h21u106 => (intro wq hSw; go_simp <;> with_reducible rfl)
            try simp only [Go.Last.pt]
            refine wpAnyH_take (i := 23) (v := ?v23u107) rfl (by kernel_rfl) (by kernel_rfl) (by kernel_rfl) (fun _ _ _ h => h) (Or.inl ⟨by kernel_rfl, ?h23u107⟩) hHeld ?r23u107
            case h23u107 => (intro wq hSw; go_simp <;> with_reducible rfl)
            try simp only [Go.Last.pt]
            refine Go.Last.held 22 (by kernel_rfl) rfl (fun K hK => ?_)
            go_simp
            (go_at_call 12; (with_reducible refine (cSf.out _ hHeld).mono ?_); rintro e w42 ⟨rfl, hb42⟩)
            try dsimp only
            refine hK.out _ _ (Bel.step hHeld hb42) (fun hHeld2 => ?_)
            clear hK K hHeld
            have hHeld := hHeld2
            clear hHeld2
            try simp only [Go.Last.pt]
            refine Go.Last.held 24 (by kernel_rfl) rfl (fun K hK => ?_)
            go_simp
            try dsimp only
            refine hK.out _ _ (hHeld) (fun hHeld2 => ?_)
            clear hK K hHeld
            have hHeld := hHeld2
            clear hHeld2
            try simp only [Go.Last.pt]
            refine Go.Last.held 25 (by kernel_rfl) rfl (fun K hK => ?_)
            go_simp
            try dsimp only
            refine hK.out _ _ (hHeld) (fun hHeld2 => ?_)
            clear hK K hHeld
            have hHeld := hHeld2
            clear hHeld2
            try simp only [Go.Last.pt]
            refine Go.Last.held 26 (by kernel_rfl) rfl (fun K hK => ?_)
            go_simp
            try dsimp only
            refine hK.out _ _ (hHeld) (fun hHeld2 => ?_)
            clear hK K hHeld
            have hHeld := hHeld2
            clear hHeld2
            try simp only [Go.Last.pt]
            refine wpAnyH_done (by kernel_rfl) ?_ _
            go_wp2
            go_ret
            exact ⟨rfl, bel_bel hq0W.out (bel_bel hbW.out hHeld)⟩

          · rw [Bool.true_or] at cT
            refine wp_region_held_drew (S := fun W => Bel W1 W) (by kernel_rfl) hB.out.drew (fun hHeld => ?_)
            refine wpAnyH_take (i := 0) (v := ?v0u108) rfl (by kernel_rfl) (by kernel_rfl) (by kernel_rfl) (fun _ _ _ h => h) (Or.inl ⟨by kernel_rfl, ?h0u108⟩) hHeld ?r0u108
            case h0u108 => (intro wq hSw; obtain ⟨c0, c1, c2, c3, c4, c5, c6, c7, c8⟩ := YtkpoegnekeiieaaDoor.c9 (kept_row hbcX.out hSw); go_simp <;> with_reducible rfl)
            try simp only [Go.Last.pt]
            refine wpAnyH_take (i := 1) (v := ?v1u109) rfl (by kernel_rfl) (by kernel_rfl) (by kernel_rfl) (fun _ _ _ h => h) (Or.inl ⟨by kernel_rfl, ?h1u109⟩) hHeld ?r1u109
            case h1u109 => (intro wq hSw; go_simp <;> with_reducible rfl)
            try simp only [Go.Last.pt]
            refine wpAnyH_take (i := 3) (v := ?v3u110) rfl (by kernel_rfl) (by kernel_rfl) (by kernel_rfl) (fun _ _ _ h => h) (Or.inl ⟨by kernel_rfl, ?h3u110⟩) hHeld ?r3u110
            case h3u110 => (intro wq hSw; go_simp <;> with_reducible rfl)
            try simp only [Go.Last.pt]
            refine Go.Last.held 2 (by kernel_rfl) rfl (fun K hK => ?_)
            go_simp
            (go_at_call 12; (with_reducible refine (cC.out _ hHeld).mono ?_); rintro e w22 ⟨rfl, hb22⟩)
            try dsimp only
            refine hK.out _ _ (Bel.step hHeld hb22) (fun hHeld2 => ?_)
            clear hK K hHeld
            have hHeld := hHeld2
            clear hHeld2
            try simp only [Go.Last.pt]
            refine Go.Last.held 4 (by kernel_rfl) rfl (fun K hK => ?_)
            go_simp
            try dsimp only
            refine hK.out _ _ (hHeld) (fun hHeld2 => ?_)
            clear hK K hHeld
            have hHeld := hHeld2
            clear hHeld2
            try simp only [Go.Last.pt]
            refine Go.Last.held 5 (by kernel_rfl) rfl (fun K hK => ?_)
            go_simp
            try dsimp only
            refine hK.out _ _ (hHeld) (fun hHeld2 => ?_)
            clear hK K hHeld
            have hHeld := hHeld2
            clear hHeld2
            try simp only [Go.Last.pt]
            refine wpAnyH_take (i := 6) (v := ?v6u111) rfl (by kernel_rfl) (by kernel_rfl) (by kernel_rfl) (fun _ _ _ h => h) (Or.inl ⟨by kernel_rfl, ?h6u111⟩) hHeld ?r6u111
            case h6u111 => (intro wq hSw; obtain ⟨d0, d1, d2, d3, d4, d5, d6, d7, d8⟩ := YtkpoegnekeiieaaDoor.c9 (kept_row hbtX.out hSw); go_simp <;> with_reducible rfl)
            try simp only [Go.Last.pt]
            refine wpAnyH_take (i := 7) (v := ?v7u112) rfl (by kernel_rfl) (by kernel_rfl) (by kernel_rfl) (fun _ _ _ h => h) (Or.inl ⟨by kernel_rfl, ?h7u112⟩) hHeld ?r7u112
            case h7u112 => (intro wq hSw; go_simp <;> with_reducible rfl)
            try simp only [Go.Last.pt]
            refine wpAnyH_take (i := 9) (v := ?v9u113) rfl (by kernel_rfl) (by kernel_rfl) (by kernel_rfl) (fun _ _ _ h => h) (Or.inl ⟨by kernel_rfl, ?h9u113⟩) hHeld ?r9u113
            case h9u113 => (intro wq hSw; obtain ⟨n0, n1, n2, n3, n4, n5, n6, n7, n8⟩ := YtkpoegnekeiieaaDoor.c9 (kept_row hbaX.out hSw); go_simp <;> with_reducible rfl)
            try simp only [Go.Last.pt]
            refine wpAnyH_take (i := 10) (v := ?v10u114) rfl (by kernel_rfl) (by kernel_rfl) (by kernel_rfl) (fun _ _ _ h => h) (Or.inl ⟨by kernel_rfl, ?h10u114⟩) hHeld ?r10u114
            case h10u114 => (intro wq hSw; go_simp <;> with_reducible rfl)
            try simp only [Go.Last.pt]
            refine Go.Last.held 8 (by kernel_rfl) rfl (fun K hK => ?_)
            go_simp
            (go_at_call 12; (with_reducible refine (cT.out _ hHeld).mono ?_); rintro e w28 ⟨rfl, hb28⟩)
            try dsimp only
            refine hK.out _ _ (Bel.step hHeld hb28) (fun hHeld2 => ?_)
            clear hK K hHeld
            have hHeld := hHeld2
            clear hHeld2
            try simp only [Go.Last.pt]
            refine Go.Last.held 11 (by kernel_rfl) rfl (fun K hK => ?_)
            go_simp
            (go_at_call 12; (with_reducible refine (cAf.out _ hHeld).mono ?_); rintro e w31 ⟨rfl, hb31⟩)
            try dsimp only
            refine hK.out _ _ (Bel.step hHeld hb31) (fun hHeld2 => ?_)
            clear hK K hHeld
            have hHeld := hHeld2
            clear hHeld2
            try simp only [Go.Last.pt]
            refine Go.Last.held 12 (by kernel_rfl) rfl (fun K hK => ?_)
            go_simp
            try dsimp only
            refine hK.out _ _ (hHeld) (fun hHeld2 => ?_)
            clear hK K hHeld
            have hHeld := hHeld2
            clear hHeld2
            try simp only [Go.Last.pt]
            refine wpAnyH_take (i := 13) (v := undef) rfl (by kernel_rfl) (by kernel_rfl) (by kernel_rfl) (fun _ _ _ h => h) (Or.inr ⟨by kernel_rfl, rfl⟩) hHeld ?_
            try simp only [Go.Last.pt]
            refine wpAnyH_take (i := 14) (v := undef) rfl (by kernel_rfl) (by kernel_rfl) (by kernel_rfl) (fun _ _ _ h => h) (Or.inr ⟨by kernel_rfl, rfl⟩) hHeld ?_
            try simp only [Go.Last.pt]
            refine wpAnyH_take (i := 15) (v := undef) rfl (by kernel_rfl) (by kernel_rfl) (by kernel_rfl) (fun _ _ _ h => h) (Or.inr ⟨by kernel_rfl, rfl⟩) hHeld ?_
            try simp only [Go.Last.pt]
            refine Go.Last.held 16 (by kernel_rfl) rfl (fun K hK => ?_)
            go_simp
            try dsimp only
            refine hK.out _ _ (hHeld) (fun hHeld2 => ?_)
            clear hK K hHeld
            have hHeld := hHeld2
            clear hHeld2
            try simp only [Go.Last.pt]
            refine Go.Last.held 17 (by kernel_rfl) rfl (fun K hK => ?_)
            go_simp
            try dsimp only
            refine hK.out _ _ (hHeld) (fun hHeld2 => ?_)
            clear hK K hHeld
            have hHeld := hHeld2
            clear hHeld2
            try simp only [Go.Last.pt]
            refine Go.Last.held 18 (by kernel_rfl) rfl (fun K hK => ?_)
            go_simp
            try dsimp only
            refine hK.out _ _ (hHeld) (fun hHeld2 => ?_)
            clear hK K hHeld
            have hHeld := hHeld2
            clear hHeld2
            try simp only [Go.Last.pt]
            refine Go.Last.held 19 (by kernel_rfl) rfl (fun K hK => ?_)
            go_simp
            try dsimp only
            refine hK.out _ _ (hHeld) (fun hHeld2 => ?_)
            clear hK K hHeld
            have hHeld := hHeld2
            clear hHeld2
            try simp only [Go.Last.pt]
            refine wpAnyH_take (i := 20) (v := ?v20u118) rfl (by kernel_rfl) (by kernel_rfl) (by kernel_rfl) (fun _ _ _ h => h) (Or.inl ⟨by kernel_rfl, ?h20u118⟩) hHeld ?r20u118
            case h20u118 => (intro wq hSw; obtain ⟨e0, e1, e2, e3, e4, e5, e6, e7, e8⟩ := YtkpoegnekeiieaaDoor.c9 (kept_row hbsX.out hSw); go_simp <;> with_reducible rfl)
            try simp only [Go.Last.pt]
            refine wpAnyH_take (i := 21) (v := ?v21u119) rfl (by kernel_rfl) (by kernel_rfl) (by kernel_rfl) (fun _ _ _ h => h) (Or.inl ⟨by kernel_rfl, ?h21u119⟩) hHeld ?r21u119
            case h21u119 => (intro wq hSw; go_simp <;> with_reducible rfl)
            try simp only [Go.Last.pt]
            refine wpAnyH_take (i := 23) (v := ?v23u120) rfl (by kernel_rfl) (by kernel_rfl) (by kernel_rfl) (fun _ _ _ h => h) (Or.inl ⟨by kernel_rfl, ?h23u120⟩) hHeld ?r23u120
            case h23u120 => (intro wq hSw; go_simp <;> with_reducible rfl)
            try simp only [Go.Last.pt]
            refine Go.Last.held 22 (by kernel_rfl) rfl (fun K hK => ?_)
            go_simp
            (go_at_call 12; (with_reducible refine (cSf.out _ hHeld).mono ?_); rintro e w42 ⟨rfl, hb42⟩)
            try dsimp only
            refine hK.out _ _ (Bel.step hHeld hb42) (fun hHeld2 => ?_)
            clear hK K hHeld
            have hHeld := hHeld2
            clear hHeld2
            try simp only [Go.Last.pt]
            refine Go.Last.held 24 (by kernel_rfl) rfl (fun K hK => ?_)
            go_simp
            try dsimp only
            refine hK.out _ _ (hHeld) (fun hHeld2 => ?_)
            clear hK K hHeld
            have hHeld := hHeld2
            clear hHeld2
            try simp only [Go.Last.pt]
            refine Go.Last.held 25 (by kernel_rfl) rfl (fun K hK => ?_)
            go_simp
            try dsimp only
            refine hK.out _ _ (hHeld) (fun hHeld2 => ?_)
            clear hK K hHeld
            have hHeld := hHeld2
            clear hHeld2
            try simp only [Go.Last.pt]
            refine Go.Last.held 26 (by kernel_rfl) rfl (fun K hK => ?_)
            go_simp
            try dsimp only
            refine hK.out _ _ (hHeld) (fun hHeld2 => ?_)
            clear hK K hHeld
            have hHeld := hHeld2
            clear hHeld2
            try simp only [Go.Last.pt]
            refine wpAnyH_done (by kernel_rfl) ?_ _
            go_wp2
            go_ret
            exact ⟨rfl, bel_bel hq0W.out (bel_bel hbW.out hHeld)⟩

end Go.Proofs.YtkpoegnekeiieaaDoor
