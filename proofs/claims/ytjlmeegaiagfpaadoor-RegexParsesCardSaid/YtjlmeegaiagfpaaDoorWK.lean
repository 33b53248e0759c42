/- Texts of earlier layers, merged: W49c, W49d, W49e, W49z. -/
import Derived.Test.YtjlmeegaiagfpaaDoorWJ
namespace Go.Proofs.YtjlmeegaiagfpaaDoor
open Go.RowKit
open Go.Tree7
open S7
open S5 (nl nl_length nl_small at_nl nl_at Gives idx idx_at ix ix_no ix_yes)
set_option maxRecDepth 100000 in
set_option maxHeartbeats 60000000 in
theorem rp_open {s : ByteArray} {out : Out} (hrun : Run (nl s) [([], [])] false 0 out) (hm : s.size ≤ 700) (w : World) : (rp_cuts hrun hm w).c_open := by
  intro G hG hrun _ _ wr _ _ u9 u10 u11 _ _ u14 _ _ _ _ u19 u20 u21 u22 u23 u24 _ _ _ _ _ _ _ _ _ _ _ _ _ _ _ _ _ _ _ _ _ _ _ _ _ _ _ _ _ _ _ _ _ _ _ _ _ _ _ _ _ _ _ _ _ _ _ _ _ _ _ _ _ _ _ _ _ _ _ _ _ _ _ _ _ _ _ _ _ _ _ _ _ _ _ _ _ _ _ _ _ _ _ _ _ _ _ _ _ _ _ _ _ _ _ _ _ _ _ _ _ _ _ _ _ _ _ _ _ _ _ _ _ _ _ _ _ _ _ _ _ _ _ _ _ _ _ _ _ _ _ _ _ _ _ _ _ _ _ _ _ _ _ _ _ _ _ _ _ _ _ _ _ _ _ _ _ _ _ _ _ _ _ _ _ g cap fr k hk hg2 hgl hcm hcap hlt os' hoc c hlt9 hfew hkb bs ps n1 n2 bp bc hbc hbl pp pc hrel hpc hpl hwl hwl0 hst hr hn e1 e2 hlq hnm h0 hmk _ _ _ _ _ _ _ _ _ _ _ _ _ _ _ _ _ _ _ _ _ _ _ _ _ _ _ _ _ _ _ _ _ _ _ _ _ _ _ _ _ _ _ _ _ _ _ _ _ _ _ _ _ _ _ _ _ _ _ _ _ _ _ _ _ _ _ _ _ _ _ _ _ _ _ _ _ _ _ _ _ _ _ _ _ _ _ _ _ _ _ _ _ _ _ _ _ _ _ _ _ _ _ _ _ _ _ _ _ _ _ _ _ _ _ _ _ _ _ _ _ _ _ _ _ _ _ _ _ _ _ _ _ _ _ _ _ _ _ _ _ _ _ _ _ _ _ _ _ _ _ _ _ _ _ _ _ _ _ _ _ _ _ _ _ _ _ u3 u4 u12 u13 u15 u16 u17 u18 u32 u33 u34 u35 u36 u37 u38 u39 u40 u41 u42 u43 u44 u45 u46 u47 u48 u49 u50 u51 u52 u53 u54 u55 u56 u57 u58 u59 u60 u61 u62 u63 u64 u65 u66 u67 u68 u69 u70 u71 u72 u73 u74 u75 u76 u77 u78 u79 u80 u81 u82 u83 u84 u85 u86 u87 u88 u89 u90 u91 u92 u93 u94 u95 u96 u97 u98 u99 u100 u101 u102 u103 u104 u105 u106 u107 u108 u109 u110 u111 u112 u113 u114 u115 u116 u117 u118 u119 u120 u121 u122 u123 u124 u125 u126 u127 u128 u129 u130 u131 u132 u133 u134 u135 u136 u137 u138 u139 u140 u141 u142 u143 u144 u145 u146 u147 u148 u149 u150 u151 u152 u153 u154 u155 u156 u157 u158 u159 u160 u161 u162 u163 u164 u165 u166 u167 u168 u169 u170 u171 u172 u173 u174 u175 u176 u177 u178 u179 u180 u181 u182 u183 u184 u185 u186 u187 u188 u189 u190 u191 u192 u193 u194 u195 u196 wq hwz hbx hst3 hBw h40
  have g40 : ((c : Int) == 40) = true := by rw [beq_iff_eq]; omega
  have hnx := Lib.hid (run_open hr.out (show (nl s)[k]? = some 40 by rw [h0.out, h40]))
  replace h40 := Lib.hid h40
  have hst4 := hst3.out.step (Bel.new wq (.cells #[] 58))
  have hown : Hid ((wq.alloc (.cells #[] 58)).ownsRow wq.heap.size 58 2 (.slice (some ⟨wq.heap.size, 0, none⟩) 0 0) 0 []) := Lib.hid ⟨rfl, .inr ⟨_, 0, #[], rfl, Nat.le_refl _, World.alloc_heap_new wq _, Nat.le_refl _, Nat.zero_le _, rfl, rfl⟩⟩
  obtain ⟨i0, hi, hz0, hz1, hz2⟩ := info_parts infoO
  replace hi := Lib.hid hi
  replace hz0 := Lib.hid hz0
  replace hz1 := Lib.hid hz1
  replace hz2 := Lib.hid hz2
  have hlO := Lib.hid (show (ocells (os' ++ [(⟨.slice bp bs.length bc, .slice pp ps.length pc, bs, ps⟩ : Opn)])).length = (os'.length + 1) * 2 by rw [ocells_len, hlq.out])
  have hnews : Hid (∀ ad : Addr, some (⟨g, 0, none⟩ : Addr) = some ad → ∀ j u, (ocells (os' ++ [(⟨.slice bp bs.length bc, .slice pp ps.length pc, bs, ps⟩ : Opn)]))[j]? = some u → (wq.alloc (.cells #[] 58)).cell? (ad.add j) = some u) := Lib.hid fun ad e j u hj => by cases e; exact hst4.pil.news j u hj
  have hones := Lib.hid hst3.out.ones
  clear hst4
  go_wp2_with (first | (at_builtin; refine wpList_append_src _ rfl _ _ 59 rfl wq.heap.size 58 i0 (.agg #[.slice none 0 0, .slice none 0 0]) 2 48 Tryd.underlying59 hi.out hz0.out hz1.out hz2.out rfl (by decide) _ (os'.length + 1) (ocells (os' ++ [(⟨.slice bp bs.length bc, .slice pp ps.length pc, bs, ps⟩ : Opn)])) rfl (hown9.out.alloc _) (some ⟨w9.heap.size, 0, none⟩) 1 1 [.slice none 0 0, .slice none 0 0] rfl rfl (fun e => by cases e) (fun ad e => by cases e; exact box_news (World.alloc_heap_new w9 _)) (by simp [Value.oneCell']) (by unfold maxLen; omega) (by omega) (by have := hb9.out.size; simp; omega) ?_; intro v10 w10 hown10 hgrow10; obtain ⟨g10, c10, rfl, hga10, hgb10⟩ := own_some hown10 (by omega); replace hown10 := Lib.hid hown10; have hb10 := Lib.hid (show Bel wq w10 from Below.grown (Bel.alloc hb9.out _) hgrow10 (by have := hb9.out.size; simp; omega) (fun b e => by have h9 : g9 = b := Option.some.inj e; omega))) | (at_builtin; refine wpList_append_src _ rfl _ _ 59 rfl wq.heap.size 58 i0 (.agg #[.slice none 0 0, .slice none 0 0]) 2 48 Tryd.underlying59 hi.out hz0.out hz1.out hz2.out rfl (by decide) _ 0 [] rfl hown.out (some ⟨g, 0, none⟩) (os'.length + 1) cap (ocells (os' ++ [(⟨.slice bp bs.length bc, .slice pp ps.length pc, bs, ps⟩ : Opn)])) rfl hlO.out (fun e => by cases e) hnews.out hones.out (by unfold maxLen; omega) (by omega) (by simp) ?_; intro v9 w9 hown9 hgrow9; rw [Nat.zero_add, List.nil_append] at hown9; obtain ⟨g9, c9, rfl, hga9, hgb9⟩ := own_some hown9 (by omega); replace hown9 := Lib.hid hown9; have hb9 := Lib.hid (show Bel wq w9 from Below.grown (Bel.new wq _) hgrow9 (by simp) (fun b e => by have h9 : wq.heap.size = b := Option.some.inj e; omega))))
  go_roundw
  case rel => exact Lib.hid ⟨g10, c10, (os' ++ [(⟨.slice bp bs.length bc, .slice pp ps.length pc, bs, ps⟩ : Opn)]) ++ [(⟨.slice none 0 0, .slice none 0 0, [], []⟩ : Opn)], _, false, k + 1, by rw [List.length_append, hlq.out]; rfl, rfl, by go_num, by omega, hst3.out.push hb10.out (Nat.le_refl _) (by rw [hlq.out]; exact hown10.out), hnx.out⟩
  case measure => simp [intOf]; omega

end Go.Proofs.YtjlmeegaiagfpaaDoor

namespace Go.Proofs.YtjlmeegaiagfpaaDoor
open Go.RowKit
open Go.Tree7
open S7
open S5 (nl nl_length nl_small at_nl nl_at Gives idx idx_at ix ix_no ix_yes)
set_option maxRecDepth 100000 in
set_option maxHeartbeats 60000000 in
theorem rp_bar {s : ByteArray} {out : Out} (hrun : Run (nl s) [([], [])] false 0 out) (hm : s.size ≤ 700) (w : World) : (rp_cuts hrun hm w).c_bar := by
  intro G hG hrun _ _ wr _ _ u9 u10 u11 _ _ u14 _ _ _ _ u19 u20 u21 u22 u23 u24 _ _ _ _ _ _ _ _ _ _ _ _ _ _ _ _ _ _ _ _ _ _ _ _ _ _ _ _ _ _ _ _ _ _ _ _ _ _ _ _ _ _ _ _ _ _ _ _ _ _ _ _ _ _ _ _ _ _ _ _ _ _ _ _ _ _ _ _ _ _ _ _ _ _ _ _ _ _ _ _ _ _ _ _ _ _ _ _ _ _ _ _ _ _ _ _ _ _ _ _ _ _ _ _ _ _ _ _ _ _ _ _ _ _ _ _ _ _ _ _ _ _ _ _ _ _ _ _ _ _ _ _ _ _ _ _ _ _ _ _ _ _ _ _ _ _ _ _ _ _ _ _ _ _ _ _ _ _ _ _ _ _ _ _ _ g cap fr k hk hg2 hgl hcm hcap hlt os' hoc c hlt9 hfew hkb bs ps n1 n2 bp bc hbc hbl pp pc hrel hpc hpl hwl hwl0 hst hr hn e1 e2 hlq hnm h0 hmk _ _ _ _ _ _ _ _ _ _ _ _ _ _ _ _ _ _ _ _ _ _ _ _ _ _ _ _ _ _ _ _ _ _ _ _ _ _ _ _ _ _ _ _ _ _ _ _ _ _ _ _ _ _ _ _ _ _ _ _ _ _ _ _ _ _ _ _ _ _ _ _ _ _ _ _ _ _ _ _ _ _ _ _ _ _ _ _ _ _ _ _ _ _ _ _ _ _ _ _ _ _ _ _ _ _ _ _ _ _ _ _ _ _ _ _ _ _ _ _ _ _ _ _ _ _ _ _ _ _ _ _ _ _ _ _ _ _ _ _ _ _ _ _ _ _ _ _ _ _ _ _ _ _ _ _ _ _ _ _ _ _ _ _ _ _ _ u3 u4 u12 u13 u15 u16 u17 u18 u32 u33 u34 u35 u36 u37 u38 u39 u40 u41 u42 u43 u44 u45 u46 u47 u48 u49 u50 u51 u52 u53 u54 u55 u56 u57 u58 u59 u60 u61 u62 u63 u64 u65 u66 u67 u68 u69 u70 u71 u72 u73 u74 u75 u76 u77 u78 u79 u80 u81 u82 u83 u84 u85 u86 u87 u88 u89 u90 u91 u92 u93 u94 u95 u96 u97 u98 u99 u100 u101 u102 u103 u104 u105 u106 u107 u108 u109 u110 u111 u112 u113 u114 u115 u116 u117 u118 u119 u120 u121 u122 u123 u124 u125 u126 u127 u128 u129 u130 u131 u132 u133 u134 u135 u136 u137 u138 u139 u140 u141 u142 u143 u144 u145 u146 u147 u148 u149 u150 u151 u152 u153 u154 u155 u156 u157 u158 u159 u160 u161 u162 u163 u164 u165 u166 u167 u168 u169 u170 u171 u172 u173 u174 u175 u176 u177 u178 u179 u180 u181 u182 u183 u184 u185 u186 u187 u188 u189 u190 u191 u192 u193 u194 u195 u196 wq hwz hbx hst3 hBw h40 g40 h124
  have g124 : ((c : Int) == 124) = true := by rw [beq_iff_eq]; omega
  have hnx := Lib.hid (run_bar (show Run (nl s) ((bs.map T.strip, ps.map T.strip) :: (os'.map opOf).reverse) fr k out from hr.out) (show (nl s)[k]? = some 124 by rw [h0.out, h124]))
  replace h124 := Lib.hid h124
  have hst4 := Lib.hid (show PSt w wq.drew g cap (os' ++ [(⟨.slice bp bs.length bc, .slice pp ps.length pc, bs, ps⟩ : Opn)]) (opOf (⟨.slice bp bs.length bc, .slice pp ps.length pc, bs, ps⟩ : Opn) :: (os'.map opOf).reverse) k from hst3.out.step (Bel.drew (Below.refl _ wq)))
  have hgd : g < wq.drew.heap.size := by show g < wq.heap.size; omega
  have hwd : wr.heap.size < wq.drew.heap.size := hwz
  have hbd : wq.drew.heap[wr.heap.size]? = some (.cells #[.slice bp bs.length bc, .slice pp ps.length pc] 58 (0, 0)) := hbx.out
  go_upto_region 33 with (fail)
  refine Go.Last.start (S := fun W => W.heap[wr.heap.size]? = some (.cells #[.slice bp bs.length bc, .slice pp ps.length pc] 58 (0, 0))) (z := 13) (by decide +kernel) hbd (fun hHeld => ?_)
  clear hbd
  generalize wq.drew = wd at *
  obtain ⟨e3, e4⟩ := hst4.out.each (⟨.slice bp bs.length bc, .slice pp ps.length pc, bs, ps⟩ : Opn) (by simp)
  replace e3 := Lib.hid e3
  have hsB := Lib.hid (ns_src e3.out fun b hb => hb.2.1)
  have cC := Lib.hid (fun W (hW : Bel wd W) => rcat_in (S := Sb wd (w.heap.size + 2) g) (w := W) (e4.keep fun b hb => hW.block b hb.2.1) (fun b hb => Nat.lt_of_lt_of_le hb.2.1 hW.size) (by omega : ps.length ≤ 800))
  clear e4
  refine Go.Last.take (i := 0) (v := ?v0u1) rfl (by decide +kernel) (by decide +kernel) (by decide +kernel) (fun _ _ _ h => h) (by decide +kernel) (Or.inl ⟨by rfl, ?h0u1⟩) hHeld ?r0u1
  case h0u1 => (intro wq9 hSw; go_simp <;> with_reducible rfl)
  try simp only [Act.put, List.getElem_toArray, List.getElem_cons_zero, List.setIfInBounds_toArray, List.set_cons_zero, List.set_cons_succ]
  refine Go.Last.take (i := 1) (v := ?v1u2) rfl (by decide +kernel) (by decide +kernel) (by decide +kernel) (fun _ _ _ h => h) (by decide +kernel) (Or.inl ⟨by rfl, ?h1u2⟩) hHeld ?r1u2
  case h1u2 => (intro wq9 hSw; go_simp <;> with_reducible rfl)
  try simp only [Act.put, List.getElem_toArray, List.getElem_cons_succ, List.getElem_cons_zero, List.setIfInBounds_toArray, List.set_cons_zero, List.set_cons_succ]
  refine Go.Last.take (i := 3) (v := ?v3u3) rfl (by decide +kernel) (by decide +kernel) (by decide +kernel) (fun _ _ _ h => h) (by decide +kernel) (Or.inl ⟨by rfl, ?h3u3⟩) hHeld ?r3u3
  case h3u3 => (intro wq9 hSw; go_simp <;> with_reducible rfl)
  try simp only [Act.put, List.getElem_toArray, List.getElem_cons_succ, List.getElem_cons_zero, List.setIfInBounds_toArray, List.set_cons_zero, List.set_cons_succ]
  refine Go.Last.take (i := 4) (v := ?v4u4) rfl (by decide +kernel) (by decide +kernel) (by decide +kernel) (fun _ _ _ h => h) (by decide +kernel) (Or.inl ⟨by rfl, ?h4u4⟩) hHeld ?r4u4
  case h4u4 => (intro wq9 hSw; have y0 := (cells_of hSw 0 _ rfl).1; go_simp <;> with_reducible rfl)
  try simp only [Act.put, List.getElem_toArray, List.getElem_cons_succ, List.getElem_cons_zero, List.setIfInBounds_toArray, List.set_cons_zero, List.set_cons_succ]
  refine Go.Last.take (i := 6) (v := ?v6u5) rfl (by decide +kernel) (by decide +kernel) (by decide +kernel) (fun _ _ _ h => h) (by decide +kernel) (Or.inl ⟨by rfl, ?h6u5⟩) hHeld ?r6u5
  case h6u5 => (intro wq9 hSw; go_simp <;> with_reducible rfl)
  try simp only [Act.put, List.getElem_toArray, List.getElem_cons_succ, List.getElem_cons_zero, List.setIfInBounds_toArray, List.set_cons_zero, List.set_cons_succ]
  refine Go.Last.take (i := 7) (v := ?v7u6) rfl (by decide +kernel) (by decide +kernel) (by decide +kernel) (fun _ _ _ h => h) (by decide +kernel) (Or.inl ⟨by rfl, ?h7u6⟩) hHeld ?r7u6
  case h7u6 => (intro wq9 hSw; have y0 := (cells_of hSw 1 _ rfl).1; go_simp <;> with_reducible rfl)
  try simp only [Act.put, List.getElem_toArray, List.getElem_cons_succ, List.getElem_cons_zero, List.setIfInBounds_toArray, List.set_cons_zero, List.set_cons_succ]
  refine Go.Last.ready (rs := [2]) (by decide +kernel) (by simp) ?_
  refine Go.Last.Next.cons (o := _) rfl (fun K hK => ?_) Go.Last.Next.nil
  go_simp
  try dsimp only
  refine hK.out _ _ (.of (kept_alloc hHeld _)) (fun hHeld2 => ?_)
  clear hK K hHeld
  have hHeld := hHeld2.resolve_left (by decide)
  clear hHeld2
  try simp only [Act.put, List.getElem_toArray, List.getElem_cons_succ, List.getElem_cons_zero, List.setIfInBounds_toArray, List.set_cons_zero, List.set_cons_succ]
  refine Go.Last.ready (rs := [5]) (by decide +kernel) (by simp) ?_
  refine Go.Last.Next.cons (o := _) rfl (fun K hK => ?_) Go.Last.Next.nil
  (refine step_nodes rfl _ _ rfl wd.heap.size _ 0 [] rfl (own_mt (World.alloc_heap_new wd _) (Nat.le_refl _)) bp bs.length bc bs rfl (hsB.out _ (Bel.new wd _)) (by omega) (by simp) ?_; intro v9 w9 hown9 hgrow9; rw [Nat.zero_add, List.nil_append] at hown9; obtain ⟨p9, c9, rfl, -⟩ := row_form hown9; have hb9 : Bel wd w9 := Below.grown (Bel.new wd _) hgrow9 (by simp) (fun b e => by have h9 : wd.heap.size = b := Option.some.inj e; omega))
  try dsimp only
  refine hK.out _ _ (.of ((hgrow9.block wr.heap.size (by simp; omega) (fun e => by have h9 := Option.some.inj e; simp at h9; omega)).trans hHeld)) (fun hHeld2 => ?_)
  clear hK K hHeld
  have hHeld := hHeld2.resolve_left (by decide)
  clear hHeld2
  try simp only [Act.put, List.getElem_toArray, List.getElem_cons_succ, List.getElem_cons_zero, List.setIfInBounds_toArray, List.set_cons_zero, List.set_cons_succ]
  refine Go.Last.ready (rs := [8]) (by decide +kernel) (by simp) ?_
  refine Go.Last.Next.cons (o := _) rfl (fun K hK => ?_) Go.Last.Next.nil
  go_simp
  (go_at_call 24; (with_reducible refine (cC.out _ hb9).mono ?_); rintro e w1 ⟨⟨km, u0m, u1m, u2m, u3m, pm, capm, mnm, mxm, txm, ksm⟩, rfl, hb1, hm1, hs1⟩; simp only [T.cells])
  try dsimp only
  refine hK.out _ _ (.of (kept_row hHeld hb1)) (fun hHeld2 => ?_)
  clear hK K hHeld
  have hHeld := hHeld2.resolve_left (by decide)
  clear hHeld2
  try simp only [Act.put, List.getElem_toArray, List.getElem_cons_succ, List.getElem_cons_zero, List.setIfInBounds_toArray, List.set_cons_zero, List.set_cons_succ]
  refine Go.Last.ready (rs := [9]) (by decide +kernel) (by simp) ?_
  refine Go.Last.Next.cons (o := _) rfl (fun K hK => ?_) Go.Last.Next.nil
  go_simp
  try dsimp only
  refine hK.out _ _ (.of (kept_alloc hHeld _)) (fun hHeld2 => ?_)
  clear hK K hHeld
  have hHeld := hHeld2.resolve_left (by decide)
  clear hHeld2
  try simp only [Act.put, List.getElem_toArray, List.getElem_cons_succ, List.getElem_cons_zero, List.setIfInBounds_toArray, List.set_cons_zero, List.set_cons_succ]
  refine Go.Last.ready (rs := [10]) (by decide +kernel) (by simp) ?_
  refine Go.Last.Next.cons (o := _) rfl (fun K hK => ?_) Go.Last.Next.nil
  (refine step_nodes rfl _ _ rfl wd.heap.size _ bs.length bs rfl (ownsRow_bel (ownsRow_bel hown9 hb1) (Bel.new w1 _)) (some ⟨w1.heap.size, 0, none⟩) 1 1 [(T.mk km u0m u1m u2m u3m pm capm mnm mxm txm ksm)] rfl (nsrc_one (World.alloc_heap_new w1 _)) (by omega) (by have := hb9.size; have := hb1.size; simp; omega) ?_; intro v10 w10 hown10 hgrow10; obtain ⟨p10, c10, rfl, -⟩ := row_form hown10; have hb10 : Bel wd w10 := Below.grown (Bel.alloc (Bel.step hb9 hb1) _) hgrow10 (by have := hb9.size; have := hb1.size; simp; omega) (fun b e => (hown9.lt b e).1); obtain ⟨y0, y1, z0, z1⟩ := (hst4.out.step hb10).pil.cell (i := os'.length) (by simp))
  try dsimp only
  refine hK.out _ _ (.of ((hgrow10.block wr.heap.size (by have := hb9.size; have := hb1.size; simp; omega) (fun e => by have := (hown9.lt _ e.symm).1; omega)).trans hHeld)) (fun hHeld2 => ?_)
  clear hK K hHeld
  have hHeld := hHeld2.resolve_left (by decide)
  clear hHeld2
  try simp only [Act.put, List.getElem_toArray, List.getElem_cons_succ, List.getElem_cons_zero, List.setIfInBounds_toArray, List.set_cons_zero, List.set_cons_succ]
  refine Go.Last.take (i := 11) (v := ?v11u7) rfl (by decide +kernel) (by decide +kernel) (by decide +kernel) (fun _ _ _ h => h) (by decide +kernel) (Or.inl ⟨by rfl, ?h11u7⟩) hHeld ?r11u7
  case h11u7 => (intro wq9 hSw; go_simp <;> with_reducible rfl)
  try simp only [Act.put, List.getElem_toArray, List.getElem_cons_succ, List.getElem_cons_zero, List.setIfInBounds_toArray, List.set_cons_zero, List.set_cons_succ]
  refine Go.Last.take (i := 12) (v := ?v12u8) rfl (by decide +kernel) (by decide +kernel) (by decide +kernel) (fun _ _ _ h => h) (by decide +kernel) (Or.inl ⟨by rfl, ?h12u8⟩) hHeld ?r12u8
  case h12u8 => (intro wq9 hSw; have d1 : (os'.length : Int) < (os'.length : Int) + 1 := (by omega); go_simp <;> with_reducible rfl)
  try simp only [Act.put, List.getElem_toArray, List.getElem_cons_succ, List.getElem_cons_zero, List.setIfInBounds_toArray, List.set_cons_zero, List.set_cons_succ]
  refine Go.Last.ready (rs := [13]) (by decide +kernel) (by simp) ?_
  refine Go.Last.Next.cons (o := _) rfl (fun K hK => ?_) Go.Last.Next.nil
  go_simp
  try dsimp only
  refine hK.out _ _ .last (fun _ => ?_)
  clear hK K hHeld
  try simp only [Act.put, List.getElem_toArray, List.getElem_cons_succ, List.getElem_cons_zero, List.setIfInBounds_toArray, List.set_cons_zero, List.set_cons_succ]
  refine Go.Last.done (by decide +kernel) ?_ _
  go_wp2
  have hz9 := hb9.size
  have hz10 := hb10.size
  have hz1 := hb1.size
  have hgz := hgrow10.size
  rw [World.size_alloc] at hgz
  have hkid : ∀ t ∈ bs ++ [(T.mk km u0m u1m u2m u3m pm capm mnm mxm txm ksm)], T.InP w10 (Sb w10 (w.heap.size + 2) g) t := fun t ht => by
    rcases List.mem_append.1 ht with ht | ht
    · exact ((ns_kids e3.out t ht).keep fun b hS => hb10.block b hS.2.1).imp fun b hS => ⟨hS.1, Nat.lt_of_lt_of_le hS.2.1 hz10, hS.2.2⟩
    · simp only [List.mem_cons, List.not_mem_nil, or_false] at ht
      subst ht
      refine (hm1.keep fun b hS => ?_).imp fun b hS => ?_
      · have hl : b < w1.heap.size := hS.elim (fun h => Nat.lt_of_lt_of_le h.2.1 (by omega)) fun h => h.2
        refine (hgrow10.block b (by rw [World.size_alloc]; omega) (fun e => ?_)).trans (Below.heap_alloc _ _ _ hl)
        have h9 := hown9.lt b e.symm
        rcases hS with hS | hS
        · have := hS.2.1; omega
        · omega
      · rcases hS with hS | hS
        · exact ⟨hS.1, Nat.lt_of_lt_of_le hS.2.1 hz10, hS.2.2⟩
        · exact ⟨by omega, by omega, by omega⟩
  have hns : Ns w10 (Sb w10 (w.heap.size + 2) g) (.slice p10 (bs.length + 1) c10) (bs ++ [(T.mk km u0m u1m u2m u3m pm capm mnm mxm txm ksm)]) := ns_of_own hown10 (by simp) hkid fun b h1 h2 => ⟨by omega, h2, by omega⟩
  have hPS := (hst4.out.step hb10).set (o' := (⟨.slice p10 (bs.length + 1) c10, .slice none 0 0, bs ++ [(T.mk km u0m u1m u2m u3m pm capm mnm mxm txm ksm)], []⟩ : Opn)) rfl hns (.inl ⟨rfl, rfl⟩) (Nat.le_succ k) ⟨by simp; omega, Nat.zero_le _⟩
  go_roundw
  case rel => exact Lib.hid ⟨g, cap, os' ++ [(⟨.slice p10 (bs.length + 1) c10, .slice none 0 0, bs ++ [(T.mk km u0m u1m u2m u3m pm capm mnm mxm txm ksm)], []⟩ : Opn)], _, false, k + 1, by rw [List.length_append]; rfl, rfl, by go_num, by omega, hPS, by
    have e : opOf (⟨.slice p10 (bs.length + 1) c10, .slice none 0 0, bs ++ [(T.mk km u0m u1m u2m u3m pm capm mnm mxm txm ksm)], []⟩ : Opn) = (bs.map T.strip ++ [catT (ps.map T.strip)], []) := by unfold opOf; simp [← hs1]
    rw [e]
    exact hnx.out⟩
  case measure => simp [intOf]; omega


end Go.Proofs.YtjlmeegaiagfpaaDoor

namespace Go.Proofs.YtjlmeegaiagfpaaDoor
open Go.RowKit
open Go.Tree7
open S7
open S5 (nl nl_length nl_small at_nl nl_at Gives idx idx_at ix ix_no ix_yes)
set_option maxRecDepth 100000 in
set_option maxHeartbeats 60000000 in
theorem rp_atom {s : ByteArray} {out : Out} (hrun : Run (nl s) [([], [])] false 0 out) (hm : s.size ≤ 700) (w : World) : (rp_cuts hrun hm w).c_atom := by
  intro G hG hrun _ _ wr _ _ u9 u10 u11 _ _ u14 _ _ _ _ u19 u20 u21 u22 u23 u24 _ _ _ _ _ _ _ _ _ _ _ _ _ _ _ _ _ _ _ _ _ _ _ _ _ _ _ _ _ _ _ _ _ _ _ _ _ _ _ _ _ _ _ _ _ _ _ _ _ _ _ _ _ _ _ _ _ _ _ _ _ _ _ _ _ _ _ _ _ _ _ _ _ _ _ _ _ _ _ _ _ _ _ _ _ _ _ _ _ _ _ _ _ _ _ _ _ _ _ _ _ _ _ _ _ _ _ _ _ _ _ _ _ _ _ _ _ _ _ _ _ _ _ _ _ _ _ _ _ _ _ _ _ _ _ _ _ _ _ _ _ _ _ _ _ _ _ _ _ _ _ _ _ _ _ _ _ _ _ _ _ _ _ _ _ g cap fr k hk hg2 hgl hcm hcap hlt os' hoc c hlt9 hfew hkb bs ps n1 n2 bp bc hbc hbl pp pc hrel hpc hpl hwl hwl0 hst hr hn e1 e2 hlq hnm h0 hmk _ _ _ _ _ _ _ _ _ _ _ _ _ _ _ _ _ _ _ _ _ _ _ _ _ _ _ _ _ _ _ _ _ _ _ _ _ _ _ _ _ _ _ _ _ _ _ _ _ _ _ _ _ _ _ _ _ _ _ _ _ _ _ _ _ _ _ _ _ _ _ _ _ _ _ _ _ _ _ _ _ _ _ _ _ _ _ _ _ _ _ _ _ _ _ _ _ _ _ _ _ _ _ _ _ _ _ _ _ _ _ _ _ _ _ _ _ _ _ _ _ _ _ _ _ _ _ _ _ _ _ _ _ _ _ _ _ _ _ _ _ _ _ _ _ _ _ _ _ _ _ _ _ _ _ _ _ _ _ _ _ _ _ _ _ _ _ u3 u4 u12 u13 u15 u16 u17 u18 u32 u33 u34 u35 u36 u37 u38 u39 u40 u41 u42 u43 u44 u45 u46 u47 u48 u49 u50 u51 u52 u53 u54 u55 u56 u57 u58 u59 u60 u61 u62 u63 u64 u65 u66 u67 u68 u69 u70 u71 u72 u73 u74 u75 u76 u77 u78 u79 u80 u81 u82 u83 u84 u85 u86 u87 u88 u89 u90 u91 u92 u93 u94 u95 u96 u97 u98 u99 u100 u101 u102 u103 u104 u105 u106 u107 u108 u109 u110 u111 u112 u113 u114 u115 u116 u117 u118 u119 u120 u121 u122 u123 u124 u125 u126 u127 u128 u129 u130 u131 u132 u133 u134 u135 u136 u137 u138 u139 u140 u141 u142 u143 u144 u145 u146 u147 u148 u149 u150 u151 u152 u153 u154 u155 u156 u157 u158 u159 u160 u161 u162 u163 u164 u165 u166 u167 u168 u169 u170 u171 u172 u173 u174 u175 u176 u177 u178 u179 u180 u181 u182 u183 u184 u185 u186 u187 u188 u189 u190 u191 u192 u193 u194 u195 u196 wq hwz hbx hst3 hBw h40 g40 h124
  have g124 : ((c : Int) == 124) = false := by rw [beq_eq_false_iff_ne]; omega
  go_upto_if 150 with (fail)
  go_cut [6, 8, 9] (fun v6 v8 v9 wx => Hid (AtX s w out g cap k wq.heap.size v6 v8 v9 wx))
  case first =>
    by_cases h41 : c = 41
    · skip
      have g41 : ((c : Int) == 41) = true := by rw [beq_iff_eq]; omega
      have hrc := run_close hr.out (show (nl s)[k]? = some 41 by rw [h0.out, h41])
      replace h41 := Lib.hid h41
      rcases hrc with ⟨hp, ho⟩ | ⟨bs2, ps2, rest, hp, hnx⟩
      · have hL : os'.length = 0 := by simpa using congrArg List.length hp
        have d0 : ((os'.length : Int) == 0) = true := by rw [beq_iff_eq]; omega
        have hwz4 : w.heap.size < wq.heap.size := by omega
        have hwz5 : w.heap.size + 1 < wq.heap.size := by omega
        subst ho
        clear hL hp
        have hk2 := cells_of hst3.out.b5
        obtain ⟨x0, -⟩ := hk2 0 _ rfl; obtain ⟨x1, -⟩ := hk2 1 _ rfl; obtain ⟨x2, -⟩ := hk2 2 _ rfl; obtain ⟨x3, -⟩ := hk2 3 _ rfl; obtain ⟨x4, -⟩ := hk2 4 _ rfl; obtain ⟨x5, -⟩ := hk2 5 _ rfl; obtain ⟨x6, -⟩ := hk2 6 _ rfl; obtain ⟨x7, -⟩ := hk2 7 _ rfl; obtain ⟨x8, -⟩ := hk2 8 _ rfl
        clear hk2
        have hk2 := cells_of hst3.out.b2
        obtain ⟨y0, f0⟩ := hk2 0 _ rfl; obtain ⟨y1, f1⟩ := hk2 1 _ rfl; obtain ⟨y2, f2⟩ := hk2 2 _ rfl; obtain ⟨y3, f3⟩ := hk2 3 _ rfl; obtain ⟨y4, f4⟩ := hk2 4 _ rfl; obtain ⟨y5, f5⟩ := hk2 5 _ rfl; obtain ⟨y6, f6⟩ := hk2 6 _ rfl; obtain ⟨y7, f7⟩ := hk2 7 _ rfl; obtain ⟨y8, f8⟩ := hk2 8 _ rfl
        clear hk2

        go_wp2
        obtain ⟨q1, q2, q3, q4⟩ := set9 (b := w.heap.size) (d0 := .int .i64 0) (d1 := .int .u64 0) (d2 := .int .u64 0) (d3 := .int .u64 0) (d4 := .int .u64 0) (d5 := .slice none 0 0) (d6 := .int .i64 0) (d7 := .int .i64 0) (d8 := .string ⟨#[]⟩) hst3.out.b2 _ rfl
        generalize hW : World.setCell _ (⟨w.heap.size, 8, none⟩ : Addr) _ = W9 at *
        clear hW
        have q5 := kept_alloc q1 (.cells #[.int .i64 0, .int .u64 0, .int .u64 0, .int .u64 0, .int .u64 0, .slice none 0 0, .int .i64 0, .int .i64 0, .string ⟨#[]⟩] 35)
        have hk9 := cells_of q5
        obtain ⟨z0, -⟩ := hk9 0 _ rfl
        obtain ⟨z1, -⟩ := hk9 1 _ rfl
        obtain ⟨z2, -⟩ := hk9 2 _ rfl
        obtain ⟨z3, -⟩ := hk9 3 _ rfl
        obtain ⟨z4, -⟩ := hk9 4 _ rfl
        obtain ⟨z5, -⟩ := hk9 5 _ rfl
        obtain ⟨z6, -⟩ := hk9 6 _ rfl
        obtain ⟨z7, -⟩ := hk9 7 _ rfl
        obtain ⟨z8, -⟩ := hk9 8 _ rfl
        clear hk9
        refine bodyPost_ret (v := .tuple #[.agg #[.int .i64 0, .int .u64 0, .int .u64 0, .int .u64 0, .int .u64 0, .slice none 0 0, .int .i64 0, .int .i64 0, .string ⟨#[]⟩], .int .i64 (k : Int), .int .i64 4]) (by simp [results, Tryd.results8, go_sem, z0, z1, z2, z3, z4, z5, z6, z7, z8]) rfl ?_
        rw [hG.out]
        exact ⟨(hst3.out.bel.trans (q4 _ (Nat.le_refl _))).alloc (by rw [q2]; omega) _, rfl⟩

      · obtain ⟨os2, o2, rfl⟩ : ∃ os2 o2, os' = os2 ++ [o2] := by
          have hne : os' ≠ [] := fun e => by rw [e] at hp; simp at hp
          exact ⟨_, _, (List.dropLast_concat_getLast hne).symm⟩
        have hp2 : opOf o2 = (bs2, ps2) ∧ (os2.map opOf).reverse = rest := by
          rw [List.map_append, List.reverse_append] at hp
          simpa using hp
        obtain ⟨hp3, rfl⟩ := hp2
        have hlo : (os2 ++ [o2]).length = os2.length + 1 := by simp
        have d0 : (((os2.length + 1 : Nat) : Int) == 0) = false := by rw [beq_eq_false_iff_ne]; omega
        rw [hlo] at hoc hfew ⊢
        have hB4 := Lib.hid (show Bel wr (wq.alloc (.cells #[.int .i64 0, .int .u64 0, .int .u64 0, .int .u64 0, .int .u64 0, .slice none 0 0, .int .i64 0, .int .i64 0, .string ⟨#[]⟩] 35)) from Bel.alloc hBw.out _)
        have hx0 := Lib.hid (World.alloc_heap_new wq (.cells #[.int .i64 0, .int .u64 0, .int .u64 0, .int .u64 0, .int .u64 0, .slice none 0 0, .int .i64 0, .int .i64 0, .string ⟨#[]⟩] 35))
        have hbx4 := Lib.hid (kept_alloc hbx.out (.cells #[.int .i64 0, .int .u64 0, .int .u64 0, .int .u64 0, .int .u64 0, .slice none 0 0, .int .i64 0, .int .i64 0, .string ⟨#[]⟩] 35))
        have cC := Lib.hid (rclosed_in (S := Sb wr (w.heap.size + 2) g) (w := (wq.alloc (.cells #[.int .i64 0, .int .u64 0, .int .u64 0, .int .u64 0, .int .u64 0, .slice none 0 0, .int .i64 0, .int .i64 0, .string ⟨#[]⟩] 35))) (e1.out.keep fun b hb => hB4.out.block b hb.2.1) (e2.out.keep fun b hb => hB4.out.block b hb.2.1) (fun b hb => Nat.lt_of_lt_of_le hb.2.1 hB4.out.size) (by omega) (by omega))
        have k0 := (cells_of hbx4.out 0 _ rfl).1
        have k1 := (cells_of hbx4.out 1 _ rfl).1
        clear hlo hp
        go_wp2_with (go_at_call 25; (with_reducible refine cC.out.mono ?_); rintro e w1 ⟨⟨km, u0m, u1m, u2m, u3m, pm, capm, mnm, mxm, txm, ksm⟩, rfl, hb1, hm1, hs1⟩; simp only [T.cells]; have hxb := Lib.hid (kept_row hx0.out hb1); have hbw := Lib.hid (show Bel wr w1 from Bel.step hB4.out hb1); have hk2 := cells_of hxb.out; obtain ⟨y0, f0⟩ := hk2 0 _ rfl; obtain ⟨y1, f1⟩ := hk2 1 _ rfl; obtain ⟨y2, f2⟩ := hk2 2 _ rfl; obtain ⟨y3, f3⟩ := hk2 3 _ rfl; obtain ⟨y4, f4⟩ := hk2 4 _ rfl; obtain ⟨y5, f5⟩ := hk2 5 _ rfl; obtain ⟨y6, f6⟩ := hk2 6 _ rfl; obtain ⟨y7, f7⟩ := hk2 7 _ rfl; obtain ⟨y8, f8⟩ := hk2 8 _ rfl; clear hk2; replace hm1 := Lib.hid hm1; replace hs1 := Lib.hid hs1; have hsz1 : wq.heap.size < w1.heap.size := lt_of_box hxb.out; clear hb1)
        obtain ⟨q1, q2, q3, q4⟩ := set9 (b := wq.heap.size) (d0 := .int .i64 km) (d1 := .int .u64 u0m) (d2 := .int .u64 u1m) (d3 := .int .u64 u2m) (d4 := .int .u64 u3m) (d5 := .slice pm ksm.length capm) (d6 := .int .i64 mnm) (d7 := .int .i64 mxm) (d8 := .string txm) hxb.out _ rfl
        generalize hW : World.setCell _ (⟨wq.heap.size, 8, none⟩ : Addr) _ = W9 at *
        clear hW
        go_meet
        have hst1 := hst.out.step hbw.out
        have hst5 : PSt w W9 g cap ((os2 ++ [o2]) ++ [(⟨.slice bp bs.length bc, .slice pp ps.length pc, bs, ps⟩ : Opn)]) (opOf (⟨.slice bp bs.length bc, .slice pp ps.length pc, bs, ps⟩ : Opn) :: ((os2 ++ [o2]).map opOf).reverse) k := hst.out.step (hbw.out.trans (q4 _ (by omega)))
        refine Lib.hid ⟨os2, o2, _, k + 1, (T.mk km u0m u1m u2m u3m pm capm mnm mxm txm ksm), rfl, by go_num, by go_num, by omega, by omega, hst5.pop (by simp), q1, by omega, ?_, ?_⟩
        · refine (hm1.out.keep fun b hb => ?_).imp fun b hb => ?_
          · refine q3 b ?_
            rcases hb with hb | hb
            · have := hb.2.1; omega
            · rw [World.size_alloc] at hb; omega
          · rcases hb with hb | hb
            · exact ⟨hb.1, by have := hb.2.1; omega, hb.2.2⟩
            · rw [World.size_alloc] at hb; exact ⟨by omega, by rw [q2]; exact hb.2, by omega⟩
        · have e : (o2.bs.map T.strip, o2.ps.map T.strip) = (bs2, ps2) := hp3
          have e1 := congrArg Prod.fst e
          have e2 := congrArg Prod.snd e
          simp only at e1 e2
          rw [e1, e2, hs1.out]
          exact hnx

    · skip
      have g41 : ((c : Int) == 41) = false := by rw [beq_eq_false_iff_ne]; omega
      have hB4 := Lib.hid (show Bel wr (wq.alloc (.cells #[.int .i64 0, .int .u64 0, .int .u64 0, .int .u64 0, .int .u64 0, .slice none 0 0, .int .i64 0, .int .i64 0, .string ⟨#[]⟩] 35)) from Bel.alloc hBw.out _)
      have hx0 := Lib.hid (World.alloc_heap_new wq (.cells #[.int .i64 0, .int .u64 0, .int .u64 0, .int .u64 0, .int .u64 0, .slice none 0 0, .int .i64 0, .int .i64 0, .string ⟨#[]⟩] 35))
      rcases run_atom (show Run (nl s) ((bs.map T.strip, ps.map T.strip) :: (os'.map opOf).reverse) fr k out from hr.out) h0.out h40 h41 h124 hmk.out with ⟨x, n, hax, hnx⟩ | ⟨n, e, hax, ho⟩
      · obtain ⟨hn1, hn2, -⟩ := atm_next hax
        rw [hn.out] at hn2
        have hx1 := Lib.hid (fun W S => atm_tree hax W S)
        have hx2 := Lib.hid (atm_plainT hax)
        have cA := ratom_in hax (by omega) (wq.alloc (.cells #[.int .i64 0, .int .u64 0, .int .u64 0, .int .u64 0, .int .u64 0, .slice none 0 0, .int .i64 0, .int .i64 0, .string ⟨#[]⟩] 35))
        replace hnx := Lib.hid hnx
        clear hax
        obtain ⟨kx, u0x, u1x, u2x, u3x, px, capx, mnx, mxx, txx, ksx⟩ := x
        unfold Gives at cA
        simp only [T.cells] at cA
        replace cA := Lib.hid cA
        go_wp2_with (go_at_call 26; (with_reducible refine cA.out.mono ?_); rintro e w1 ⟨rfl, hb1⟩; have hxb := Lib.hid (kept_row hx0.out hb1); have hbw := Lib.hid (show Bel wr w1 from Bel.step hB4.out hb1); have hk2 := cells_of hxb.out; obtain ⟨y0, f0⟩ := hk2 0 _ rfl; obtain ⟨y1, f1⟩ := hk2 1 _ rfl; obtain ⟨y2, f2⟩ := hk2 2 _ rfl; obtain ⟨y3, f3⟩ := hk2 3 _ rfl; obtain ⟨y4, f4⟩ := hk2 4 _ rfl; obtain ⟨y5, f5⟩ := hk2 5 _ rfl; obtain ⟨y6, f6⟩ := hk2 6 _ rfl; obtain ⟨y7, f7⟩ := hk2 7 _ rfl; obtain ⟨y8, f8⟩ := hk2 8 _ rfl; clear hk2; have hsz1 : wq.heap.size < w1.heap.size := lt_of_box hxb.out; clear hb1)
        obtain ⟨q1, q2, q3, q4⟩ := set9 (b := wq.heap.size) (d0 := .int .i64 kx) (d1 := .int .u64 u0x) (d2 := .int .u64 u1x) (d3 := .int .u64 u2x) (d4 := .int .u64 u3x) (d5 := .slice px ksx.length capx) (d6 := .int .i64 mnx) (d7 := .int .i64 mxx) (d8 := .string txx) hxb.out _ rfl
        generalize hW : World.setCell _ (⟨wq.heap.size, 8, none⟩ : Addr) _ = W9 at *
        clear hW
        go_meet
        have hst5 := (hst.out.step (hbw.out.trans (q4 _ (by omega)))).step (Bel.new W9 (.cells #[.int .i64 kx, .int .u64 u0x, .int .u64 u1x, .int .u64 u2x, .int .u64 u3x, .slice px ksx.length capx, .int .i64 mnx, .int .i64 mxx, .string txx] 35))
        exact Lib.hid ⟨os', (⟨.slice bp bs.length bc, .slice pp ps.length pc, bs, ps⟩ : Opn), _, n, (T.mk kx u0x u1x u2x u3x px capx mnx mxx txx ksx), rfl, rfl, rfl, by omega, by omega, hst5, kept_alloc q1 _, by omega, hx1.out _ _, by rw [hx2.out]; exact hnx.out⟩
      · obtain ⟨t, cA⟩ := ratom_not hax (by omega) (wq.alloc (.cells #[.int .i64 0, .int .u64 0, .int .u64 0, .int .u64 0, .int .u64 0, .slice none 0 0, .int .i64 0, .int .i64 0, .string ⟨#[]⟩] 35))
        have he : e ≠ 0 := by cases hax <;> first | assumption | decide
        have d0 : ((e : Int) != 0) = true := by rw [bne_iff_ne]; omega
        clear hax he
        subst ho
        obtain ⟨kx, u0x, u1x, u2x, u3x, px, capx, mnx, mxx, txx, ksx⟩ := t
        unfold Gives at cA
        simp only [T.cells] at cA
        replace cA := Lib.hid cA
        go_wp2_with (go_at_call 26; (with_reducible refine cA.out.mono ?_); rintro e w1 ⟨rfl, hb1⟩; have hbw := Lib.hid (show Bel wr w1 from Bel.step hB4.out hb1); have hst1 := Lib.hid (hst.out.step hbw.out); have hk2 := cells_of hst1.out.b5; obtain ⟨x0, -⟩ := hk2 0 _ rfl; obtain ⟨x1, -⟩ := hk2 1 _ rfl; obtain ⟨x2, -⟩ := hk2 2 _ rfl; obtain ⟨x3, -⟩ := hk2 3 _ rfl; obtain ⟨x4, -⟩ := hk2 4 _ rfl; obtain ⟨x5, -⟩ := hk2 5 _ rfl; obtain ⟨x6, -⟩ := hk2 6 _ rfl; obtain ⟨x7, -⟩ := hk2 7 _ rfl; obtain ⟨x8, -⟩ := hk2 8 _ rfl; clear hk2; have hk2 := cells_of hst1.out.b2; obtain ⟨y0, f0⟩ := hk2 0 _ rfl; obtain ⟨y1, f1⟩ := hk2 1 _ rfl; obtain ⟨y2, f2⟩ := hk2 2 _ rfl; obtain ⟨y3, f3⟩ := hk2 3 _ rfl; obtain ⟨y4, f4⟩ := hk2 4 _ rfl; obtain ⟨y5, f5⟩ := hk2 5 _ rfl; obtain ⟨y6, f6⟩ := hk2 6 _ rfl; obtain ⟨y7, f7⟩ := hk2 7 _ rfl; obtain ⟨y8, f8⟩ := hk2 8 _ rfl; clear hk2; have hsz1 : wr.heap.size ≤ w1.heap.size := hbw.out.size; have hsz2 : w.heap.size < w1.heap.size := (by omega); have hsz3 : w.heap.size + 1 < w1.heap.size := (by omega); clear hb1)
        obtain ⟨q1, q2, q3, q4⟩ := set9 (b := w.heap.size) (d0 := .int .i64 0) (d1 := .int .u64 0) (d2 := .int .u64 0) (d3 := .int .u64 0) (d4 := .int .u64 0) (d5 := .slice none 0 0) (d6 := .int .i64 0) (d7 := .int .i64 0) (d8 := .string ⟨#[]⟩) hst1.out.b2 _ rfl
        generalize hW : World.setCell _ (⟨w.heap.size, 8, none⟩ : Addr) _ = W9 at *
        clear hW
        have q5 := kept_alloc q1 (.cells #[.int .i64 kx, .int .u64 u0x, .int .u64 u1x, .int .u64 u2x, .int .u64 u3x, .slice px ksx.length capx, .int .i64 mnx, .int .i64 mxx, .string txx] 35)
        have hk9 := cells_of q5
        obtain ⟨z0, -⟩ := hk9 0 _ rfl
        obtain ⟨z1, -⟩ := hk9 1 _ rfl
        obtain ⟨z2, -⟩ := hk9 2 _ rfl
        obtain ⟨z3, -⟩ := hk9 3 _ rfl
        obtain ⟨z4, -⟩ := hk9 4 _ rfl
        obtain ⟨z5, -⟩ := hk9 5 _ rfl
        obtain ⟨z6, -⟩ := hk9 6 _ rfl
        obtain ⟨z7, -⟩ := hk9 7 _ rfl
        obtain ⟨z8, -⟩ := hk9 8 _ rfl
        clear hk9
        refine bodyPost_ret (v := .tuple #[.agg #[.int .i64 0, .int .u64 0, .int .u64 0, .int .u64 0, .int .u64 0, .slice none 0 0, .int .i64 0, .int .i64 0, .string ⟨#[]⟩], .int .i64 n, .int .i64 (e : Int)]) (by simp [results, Tryd.results8, go_sem, z0, z1, z2, z3, z4, z5, z6, z7, z8]) rfl ?_
        rw [hG.out]
        exact ⟨(hst1.out.bel.trans (q4 _ (Nat.le_refl _))).alloc (by rw [q2]; omega) _, rfl⟩

  case rest =>
    obtain ⟨os2, o2, p2, n, m, rfl, rfl, rfl, hn2, hkn, hst5, hxb, hgx, hmP, hnx⟩ := hcut.out
    obtain ⟨cur, hcg, hcc⟩ := hst5.cur
    obtain ⟨hcb, hcp⟩ := hcc os2.length (by simp)
    have hsx : (os2 ++ [o2])[os2.length]'(by simp) = o2 := by simp
    rw [hsx] at hcb hcp
    clear hcc hsx
    obtain ⟨n3, n4⟩ := hst5.small o2 (by simp)
    have hst6 := Lib.hid (show PSt w wc.drew g cap (os2 ++ [o2]) p2 k from hst5.step (Bel.drew (Below.refl _ wc)))
    have hcd : wc.drew.heap[g]? = some (.cells cur 58 (0, 0)) := hcg
    have hxd : wc.drew.heap[wq.heap.size]? = some (.cells m.cells.toArray 35 (0, 0)) := hxb
    have hmP2 := Lib.hid (show T.InP wc.drew (Sb wc.drew (w.heap.size + 2) g) m from (hmP.keep fun b hS => (Bel.drew (Below.refl _ wc)).block b hS.2.1).imp fun b hS => ⟨hS.1, hS.2.1, hS.2.2⟩)
    have hgd : g < wc.drew.heap.size := lt_of_box hcd
    have hxl : wq.heap.size < wc.drew.heap.size := lt_of_box hxd
    have hlo : w.heap.size + 2 ≤ g := hst5.lt.1
    replace hnx := Lib.hid hnx
    replace hcut := trivial
    clear hcut hmP hst5 hcg hxb
    obtain ⟨kx, u0x, u1x, u2x, u3x, px, capx, mnx, mxx, txx, ksx⟩ := m
    simp only [T.cells] at hxd
    go_upto_region 48 with (fail)
    refine Go.Last.start (S := fun W => W.heap[g]? = some (.cells cur 58 (0, 0)) ∧ W.heap[wq.heap.size]? = some (.cells #[.int .i64 kx, .int .u64 u0x, .int .u64 u1x, .int .u64 u2x, .int .u64 u3x, .slice px ksx.length capx, .int .i64 mnx, .int .i64 mxx, .string txx] 35 (0, 0))) (z := 19) (by decide +kernel) ⟨hcd, hxd⟩ (fun hHeld => ?_)
    clear hcd hxd
    generalize wc.drew = wd at *
    have hmP := hmP2
    clear hmP2
    obtain ⟨e3, e4⟩ := hst6.out.each o2 (by simp)
    obtain ⟨bv2, pv2, bs2, ps2⟩ := o2
    simp only at hcb hcp e3 e4 n3 n4
    obtain ⟨bp2, bc2, rfl, -, -⟩ := e3.form
    obtain ⟨pp2, pc2, rfl, -, -⟩ := e4.form
    replace hcb := Lib.hid hcb
    replace hcp := Lib.hid hcp
    replace e3 := Lib.hid e3
    replace e4 := Lib.hid e4
    have hsP := Lib.hid (ns_src e4.out fun b hb => hb.2.1)
    refine Go.Last.take (i := 0) (v := ?v0u9) rfl (by decide +kernel) (by decide +kernel) (by decide +kernel) (fun _ _ _ h => h) (by decide +kernel) (Or.inl ⟨by rfl, ?h0u9⟩) hHeld ?r0u9
    case h0u9 => (intro wq9 hSw; go_simp <;> with_reducible rfl)
    try simp only [Act.put, List.getElem_toArray, List.getElem_cons_zero, List.setIfInBounds_toArray, List.set_cons_zero, List.set_cons_succ]
    refine Go.Last.take (i := 1) (v := ?v1u10) rfl (by decide +kernel) (by decide +kernel) (by decide +kernel) (fun _ _ _ h => h) (by decide +kernel) (Or.inl ⟨by rfl, ?h1u10⟩) hHeld ?r1u10
    case h1u10 => (intro wq9 hSw; go_simp <;> with_reducible rfl)
    try simp only [Act.put, List.getElem_toArray, List.getElem_cons_succ, List.getElem_cons_zero, List.setIfInBounds_toArray, List.set_cons_zero, List.set_cons_succ]
    refine Go.Last.take (i := 2) (v := ?v2u11) rfl (by decide +kernel) (by decide +kernel) (by decide +kernel) (fun _ _ _ h => h) (by decide +kernel) (Or.inl ⟨by rfl, ?h2u11⟩) hHeld ?r2u11
    case h2u11 => (intro wq9 hSw; go_simp <;> with_reducible rfl)
    try simp only [Act.put, List.getElem_toArray, List.getElem_cons_succ, List.getElem_cons_zero, List.setIfInBounds_toArray, List.set_cons_zero, List.set_cons_succ]
    refine Go.Last.take (i := 3) (v := ?v3u12) rfl (by decide +kernel) (by decide +kernel) (by decide +kernel) (fun _ _ _ h => h) (by decide +kernel) (Or.inl ⟨by rfl, ?h3u12⟩) hHeld ?r3u12
    case h3u12 => (intro wq9 hSw; go_simp <;> with_reducible rfl)
    try simp only [Act.put, List.getElem_toArray, List.getElem_cons_succ, List.getElem_cons_zero, List.setIfInBounds_toArray, List.set_cons_zero, List.set_cons_succ]
    refine Go.Last.take (i := 4) (v := ?v4u13) rfl (by decide +kernel) (by decide +kernel) (by decide +kernel) (fun _ _ _ h => h) (by decide +kernel) (Or.inl ⟨by rfl, ?h4u13⟩) hHeld ?r4u13
    case h4u13 => (intro wq9 hSw; have d1 : (os2.length : Int) < (os2.length : Int) + 1 := (by omega); go_simp <;> with_reducible rfl)
    try simp only [Act.put, List.getElem_toArray, List.getElem_cons_succ, List.getElem_cons_zero, List.setIfInBounds_toArray, List.set_cons_zero, List.set_cons_succ]
    refine Go.Last.take (i := 5) (v := ?v5u14) rfl (by decide +kernel) (by decide +kernel) (by decide +kernel) (fun _ _ _ h => h) (by decide +kernel) (Or.inl ⟨by rfl, ?h5u14⟩) hHeld ?r5u14
    case h5u14 => (intro wq9 hSw; go_simp <;> with_reducible rfl)
    try simp only [Act.put, List.getElem_toArray, List.getElem_cons_succ, List.getElem_cons_zero, List.setIfInBounds_toArray, List.set_cons_zero, List.set_cons_succ]
    refine Go.Last.take (i := 6) (v := ?v6u15) rfl (by decide +kernel) (by decide +kernel) (by decide +kernel) (fun _ _ _ h => h) (by decide +kernel) (Or.inl ⟨by rfl, ?h6u15⟩) hHeld ?r6u15
    case h6u15 => (intro wq9 hSw; have y0 := (cells_of hSw.1 (os2.length * 2) _ hcb.out).1; go_simp <;> with_reducible rfl)
    try simp only [Act.put, List.getElem_toArray, List.getElem_cons_succ, List.getElem_cons_zero, List.setIfInBounds_toArray, List.set_cons_zero, List.set_cons_succ]
    refine Go.Last.take (i := 8) (v := ?v8u16) rfl (by decide +kernel) (by decide +kernel) (by decide +kernel) (fun _ _ _ h => h) (by decide +kernel) (Or.inl ⟨by rfl, ?h8u16⟩) hHeld ?r8u16
    case h8u16 => (intro wq9 hSw; go_simp <;> with_reducible rfl)
    try simp only [Act.put, List.getElem_toArray, List.getElem_cons_succ, List.getElem_cons_zero, List.setIfInBounds_toArray, List.set_cons_zero, List.set_cons_succ]
    refine Go.Last.take (i := 9) (v := ?v9u17) rfl (by decide +kernel) (by decide +kernel) (by decide +kernel) (fun _ _ _ h => h) (by decide +kernel) (Or.inl ⟨by rfl, ?h9u17⟩) hHeld ?r9u17
    case h9u17 => (intro wq9 hSw; go_simp <;> with_reducible rfl)
    try simp only [Act.put, List.getElem_toArray, List.getElem_cons_succ, List.getElem_cons_zero, List.setIfInBounds_toArray, List.set_cons_zero, List.set_cons_succ]
    refine Go.Last.take (i := 10) (v := ?v10u18) rfl (by decide +kernel) (by decide +kernel) (by decide +kernel) (fun _ _ _ h => h) (by decide +kernel) (Or.inl ⟨by rfl, ?h10u18⟩) hHeld ?r10u18
    case h10u18 => (intro wq9 hSw; have d1 : (os2.length : Int) < (os2.length : Int) + 1 := (by omega); go_simp <;> with_reducible rfl)
    try simp only [Act.put, List.getElem_toArray, List.getElem_cons_succ, List.getElem_cons_zero, List.setIfInBounds_toArray, List.set_cons_zero, List.set_cons_succ]
    refine Go.Last.take (i := 11) (v := ?v11u19) rfl (by decide +kernel) (by decide +kernel) (by decide +kernel) (fun _ _ _ h => h) (by decide +kernel) (Or.inl ⟨by rfl, ?h11u19⟩) hHeld ?r11u19
    case h11u19 => (intro wq9 hSw; go_simp <;> with_reducible rfl)
    try simp only [Act.put, List.getElem_toArray, List.getElem_cons_succ, List.getElem_cons_zero, List.setIfInBounds_toArray, List.set_cons_zero, List.set_cons_succ]
    refine Go.Last.take (i := 12) (v := ?v12u20) rfl (by decide +kernel) (by decide +kernel) (by decide +kernel) (fun _ _ _ h => h) (by decide +kernel) (Or.inl ⟨by rfl, ?h12u20⟩) hHeld ?r12u20
    case h12u20 => (intro wq9 hSw; have y0 := (cells_of hSw.1 (os2.length * 2 + 1) _ hcp.out).1; go_simp <;> with_reducible rfl)
    try simp only [Act.put, List.getElem_toArray, List.getElem_cons_succ, List.getElem_cons_zero, List.setIfInBounds_toArray, List.set_cons_zero, List.set_cons_succ]
    refine Go.Last.take (i := 14) (v := ?v14u21) rfl (by decide +kernel) (by decide +kernel) (by decide +kernel) (fun _ _ _ h => h) (by decide +kernel) (Or.inl ⟨by rfl, ?h14u21⟩) hHeld ?r14u21
    case h14u21 => (intro wq9 hSw; have hk9 := cells_of hSw.2; have y0 := (hk9 0 _ rfl).1; have y1 := (hk9 1 _ rfl).1; have y2 := (hk9 2 _ rfl).1; have y3 := (hk9 3 _ rfl).1; have y4 := (hk9 4 _ rfl).1; have y5 := (hk9 5 _ rfl).1; have y6 := (hk9 6 _ rfl).1; have y7 := (hk9 7 _ rfl).1; have y8 := (hk9 8 _ rfl).1; clear hk9; go_simp <;> with_reducible rfl)
    try simp only [Act.put, List.getElem_toArray, List.getElem_cons_succ, List.getElem_cons_zero, List.setIfInBounds_toArray, List.set_cons_zero, List.set_cons_succ]
    refine Go.Last.ready (rs := [7, 15]) (by decide +kernel) (by simp) ?_
    refine (Go.Last.Next.cons (o := _) rfl (fun K hK => ?_) (Go.Last.Next.cons (o := _) rfl (fun K hK => ?_) Go.Last.Next.nil))
    · go_simp
      try dsimp only
      refine hK.out _ _ (.of (⟨kept_alloc hHeld.1 _, kept_alloc hHeld.2 _⟩)) (fun hHeld2 => ?_)
      clear hK K hHeld
      have hHeld := hHeld2.resolve_left (by decide)
      clear hHeld2
      try simp only [Act.put, List.getElem_toArray, List.getElem_cons_succ, List.getElem_cons_zero, List.setIfInBounds_toArray, List.set_cons_zero, List.set_cons_succ]
      refine Go.Last.ready (rs := [13, 15]) (by decide +kernel) (by simp) ?_
      refine (Go.Last.Next.cons (o := _) rfl (fun K hK => ?_) (Go.Last.Next.cons (o := _) rfl (fun K hK => ?_) Go.Last.Next.nil))
      · (refine step_nodes rfl _ _ rfl wd.heap.size _ 0 [] rfl (by first | exact own_mt (World.alloc_heap_new wd _) (Nat.le_refl _) | exact own_mt (kept_alloc (World.alloc_heap_new wd _) _) (Nat.le_refl _) | exact own_mt (at_new2 wd _ _) (by omega)) pp2 ps2.length pc2 ps2 rfl (hsP.out _ (by first | exact Bel.new wd _ | exact Bel.alloc (Bel.new wd _) _)) (by omega) (by first | omega | (simp <;> omega)) ?_; intro v9 w9 hown9 hgrow9; rw [Nat.zero_add, List.nil_append] at hown9; obtain ⟨p9, c9, rfl, -⟩ := row_form hown9; have hb9 : Bel wd w9 := Below.grown (by first | exact Bel.new wd _ | exact Bel.alloc (Bel.new wd _) _) hgrow9 (by first | omega | (simp <;> omega)) (fun b e => by have h9 := Option.some.inj e; first | omega | (simp at h9 <;> omega)); have hz9 := hb9.size; have hzg := hgrow9.size; try simp only [World.size_alloc] at hzg)
        try dsimp only
        refine hK.out _ _ (.of (⟨(hgrow9.block _ (by first | omega | (simp <;> omega)) (fun e => by have h9 := Option.some.inj e; first | omega | (simp at h9 <;> omega))).trans hHeld.1, (hgrow9.block _ (by first | omega | (simp <;> omega)) (fun e => by have h9 := Option.some.inj e; first | omega | (simp at h9 <;> omega))).trans hHeld.2⟩)) (fun hHeld2 => ?_)
        clear hK K hHeld
        have hHeld := hHeld2.resolve_left (by decide)
        clear hHeld2
        try simp only [Act.put, List.getElem_toArray, List.getElem_cons_succ, List.getElem_cons_zero, List.setIfInBounds_toArray, List.set_cons_zero, List.set_cons_succ]
        refine Go.Last.ready (rs := [15]) (by decide +kernel) (by simp) ?_
        refine Go.Last.Next.cons (o := _) rfl (fun K hK => ?_) Go.Last.Next.nil
        go_simp
        try dsimp only
        refine hK.out _ _ (.of (⟨kept_alloc hHeld.1 _, kept_alloc hHeld.2 _⟩)) (fun hHeld2 => ?_)
        clear hK K hHeld
        have hHeld := hHeld2.resolve_left (by decide)
        clear hHeld2
        try simp only [Act.put, List.getElem_toArray, List.getElem_cons_succ, List.getElem_cons_zero, List.setIfInBounds_toArray, List.set_cons_zero, List.set_cons_succ]
        refine Go.Last.ready (rs := [16]) (by decide +kernel) (by simp) ?_
        refine Go.Last.Next.cons (o := _) rfl (fun K hK => ?_) Go.Last.Next.nil
        (refine step_nodes rfl _ _ rfl wd.heap.size _ ps2.length ps2 rfl (by first | exact hown9 | exact hown9.alloc _) _ 1 1 [(T.mk kx u0x u1x u2x u3x px capx mnx mxx txx ksx)] rfl (by first | exact nsrc_one (World.alloc_heap_new w9 _) | exact nsrc_one ((hgrow9.block _ (by first | omega | (simp <;> omega)) (fun e => by have h9 := Option.some.inj e; first | omega | (simp at h9 <;> omega))).trans (at_new2 wd _ _)) | exact nsrc_one ((hgrow9.block _ (by first | omega | (simp <;> omega)) (fun e => by have h9 := Option.some.inj e; first | omega | (simp at h9 <;> omega))).trans (kept_alloc (World.alloc_heap_new wd _) _))) (by omega) (by first | omega | (simp <;> omega)) ?_; intro v10 w10 hown10 hgrow10; obtain ⟨p10, c10, rfl, -⟩ := row_form hown10; have hb10 : Bel wd w10 := Below.grown (by first | exact hb9 | exact Bel.alloc hb9 _) hgrow10 (by first | omega | (simp <;> omega)) (fun b e => (hown9.lt b e).1); have hz10 := hb10.size; obtain ⟨y0, y1, z0, z1⟩ := (hst6.out.step hb10).pil.cell (i := os2.length) (by simp))
        try dsimp only
        refine hK.out _ _ (.of (⟨(hgrow10.block _ (by first | omega | (simp <;> omega)) (fun e => by have := (hown9.lt _ e.symm).1; omega)).trans hHeld.1, (hgrow10.block _ (by first | omega | (simp <;> omega)) (fun e => by have := (hown9.lt _ e.symm).1; omega)).trans hHeld.2⟩)) (fun hHeld2 => ?_)
        clear hK K hHeld
        have hHeld := hHeld2.resolve_left (by decide)
        clear hHeld2
        try simp only [Act.put, List.getElem_toArray, List.getElem_cons_succ, List.getElem_cons_zero, List.setIfInBounds_toArray, List.set_cons_zero, List.set_cons_succ]
        refine Go.Last.take (i := 17) (v := ?v17u22) rfl (by decide +kernel) (by decide +kernel) (by decide +kernel) (fun _ _ _ h => h) (by decide +kernel) (Or.inl ⟨by rfl, ?h17u22⟩) hHeld ?r17u22
        case h17u22 => (intro wq9 hSw; go_simp <;> with_reducible rfl)
        try simp only [Act.put, List.getElem_toArray, List.getElem_cons_succ, List.getElem_cons_zero, List.setIfInBounds_toArray, List.set_cons_zero, List.set_cons_succ]
        refine Go.Last.take (i := 18) (v := ?v18u23) rfl (by decide +kernel) (by decide +kernel) (by decide +kernel) (fun _ _ _ h => h) (by decide +kernel) (Or.inl ⟨by rfl, ?h18u23⟩) hHeld ?r18u23
        case h18u23 => (intro wq9 hSw; have d1 : (os2.length : Int) < (os2.length : Int) + 1 := (by omega); go_simp <;> with_reducible rfl)
        try simp only [Act.put, List.getElem_toArray, List.getElem_cons_succ, List.getElem_cons_zero, List.setIfInBounds_toArray, List.set_cons_zero, List.set_cons_succ]
        refine Go.Last.ready (rs := [19]) (by decide +kernel) (by simp) ?_
        refine Go.Last.Next.cons (o := _) rfl (fun K hK => ?_) Go.Last.Next.nil
        go_simp
        try dsimp only
        refine hK.out _ _ .last (fun _ => ?_)
        clear hK K hHeld
        try simp only [Act.put, List.getElem_toArray, List.getElem_cons_succ, List.getElem_cons_zero, List.setIfInBounds_toArray, List.set_cons_zero, List.set_cons_succ]
        refine Go.Last.done (by decide +kernel) ?_ _
        go_wp2
        have hkid : ∀ t ∈ ps2 ++ [(T.mk kx u0x u1x u2x u3x px capx mnx mxx txx ksx)], T.InP w10 (Sb w10 (w.heap.size + 2) g) t := fun t ht => by
          rcases List.mem_append.1 ht with ht | ht
          · exact ((ns_kids e4.out t ht).keep fun b hS => hb10.block b hS.2.1).imp fun b hS => ⟨hS.1, Nat.lt_of_lt_of_le hS.2.1 hz10, hS.2.2⟩
          · simp only [List.mem_cons, List.not_mem_nil, or_false] at ht
            subst ht
            exact (hmP.out.keep fun b hS => hb10.block b hS.2.1).imp fun b hS => ⟨hS.1, Nat.lt_of_lt_of_le hS.2.1 hz10, hS.2.2⟩
        have hns : Ns w10 (Sb w10 (w.heap.size + 2) g) (.slice p10 (ps2.length + 1) c10) (ps2 ++ [(T.mk kx u0x u1x u2x u3x px capx mnx mxx txx ksx)]) := ns_of_own hown10 (by simp) hkid fun b h1 h2 => ⟨by omega, h2, by omega⟩
        have hst7 := hst6.out.step hb10
        have hPS := hst7.set (o' := (⟨.slice bp2 bs2.length bc2, .slice p10 (ps2.length + 1) c10, bs2, ps2 ++ [(T.mk kx u0x u1x u2x u3x px capx mnx mxx txx ksx)]⟩ : Opn)) rfl (hst7.each (⟨.slice bp2 bs2.length bc2, .slice pp2 ps2.length pc2, bs2, ps2⟩ : Opn) (by simp)).1 hns (by omega : k ≤ n) ⟨by show bs2.length ≤ n; omega, by simp; omega⟩
        go_roundw
        case rel => exact Lib.hid ⟨g, cap, os2 ++ [(⟨.slice bp2 bs2.length bc2, .slice p10 (ps2.length + 1) c10, bs2, ps2 ++ [(T.mk kx u0x u1x u2x u3x px capx mnx mxx txx ksx)]⟩ : Opn)], _, true, n, by rw [List.length_append]; rfl, rfl, rfl, by omega, hPS, by
          have e : opOf (⟨.slice bp2 bs2.length bc2, .slice p10 (ps2.length + 1) c10, bs2, ps2 ++ [(T.mk kx u0x u1x u2x u3x px capx mnx mxx txx ksx)]⟩ : Opn) = (bs2.map T.strip, ps2.map T.strip ++ [((T.mk kx u0x u1x u2x u3x px capx mnx mxx txx ksx)).strip]) := by unfold opOf; simp
          rw [e]
          exact hnx.out⟩
        case measure => simp [intOf]; omega

      · go_simp
        try dsimp only
        refine hK.out _ _ (.of (⟨kept_alloc hHeld.1 _, kept_alloc hHeld.2 _⟩)) (fun hHeld2 => ?_)
        clear hK K hHeld
        have hHeld := hHeld2.resolve_left (by decide)
        clear hHeld2
        try simp only [Act.put, List.getElem_toArray, List.getElem_cons_succ, List.getElem_cons_zero, List.setIfInBounds_toArray, List.set_cons_zero, List.set_cons_succ]
        refine Go.Last.ready (rs := [13]) (by decide +kernel) (by simp) ?_
        refine Go.Last.Next.cons (o := _) rfl (fun K hK => ?_) Go.Last.Next.nil
        (refine step_nodes rfl _ _ rfl wd.heap.size _ 0 [] rfl (by first | exact own_mt (World.alloc_heap_new wd _) (Nat.le_refl _) | exact own_mt (kept_alloc (World.alloc_heap_new wd _) _) (Nat.le_refl _) | exact own_mt (at_new2 wd _ _) (by omega)) pp2 ps2.length pc2 ps2 rfl (hsP.out _ (by first | exact Bel.new wd _ | exact Bel.alloc (Bel.new wd _) _)) (by omega) (by first | omega | (simp <;> omega)) ?_; intro v9 w9 hown9 hgrow9; rw [Nat.zero_add, List.nil_append] at hown9; obtain ⟨p9, c9, rfl, -⟩ := row_form hown9; have hb9 : Bel wd w9 := Below.grown (by first | exact Bel.new wd _ | exact Bel.alloc (Bel.new wd _) _) hgrow9 (by first | omega | (simp <;> omega)) (fun b e => by have h9 := Option.some.inj e; first | omega | (simp at h9 <;> omega)); have hz9 := hb9.size; have hzg := hgrow9.size; try simp only [World.size_alloc] at hzg)
        try dsimp only
        refine hK.out _ _ (.of (⟨(hgrow9.block _ (by first | omega | (simp <;> omega)) (fun e => by have h9 := Option.some.inj e; first | omega | (simp at h9 <;> omega))).trans hHeld.1, (hgrow9.block _ (by first | omega | (simp <;> omega)) (fun e => by have h9 := Option.some.inj e; first | omega | (simp at h9 <;> omega))).trans hHeld.2⟩)) (fun hHeld2 => ?_)
        clear hK K hHeld
        have hHeld := hHeld2.resolve_left (by decide)
        clear hHeld2
        try simp only [Act.put, List.getElem_toArray, List.getElem_cons_succ, List.getElem_cons_zero, List.setIfInBounds_toArray, List.set_cons_zero, List.set_cons_succ]
        refine Go.Last.ready (rs := [16]) (by decide +kernel) (by simp) ?_
        refine Go.Last.Next.cons (o := _) rfl (fun K hK => ?_) Go.Last.Next.nil
        (refine step_nodes rfl _ _ rfl wd.heap.size _ ps2.length ps2 rfl (by first | exact hown9 | exact hown9.alloc _) _ 1 1 [(T.mk kx u0x u1x u2x u3x px capx mnx mxx txx ksx)] rfl (by first | exact nsrc_one (World.alloc_heap_new w9 _) | exact nsrc_one ((hgrow9.block _ (by first | omega | (simp <;> omega)) (fun e => by have h9 := Option.some.inj e; first | omega | (simp at h9 <;> omega))).trans (at_new2 wd _ _)) | exact nsrc_one ((hgrow9.block _ (by first | omega | (simp <;> omega)) (fun e => by have h9 := Option.some.inj e; first | omega | (simp at h9 <;> omega))).trans (kept_alloc (World.alloc_heap_new wd _) _))) (by omega) (by first | omega | (simp <;> omega)) ?_; intro v10 w10 hown10 hgrow10; obtain ⟨p10, c10, rfl, -⟩ := row_form hown10; have hb10 : Bel wd w10 := Below.grown (by first | exact hb9 | exact Bel.alloc hb9 _) hgrow10 (by first | omega | (simp <;> omega)) (fun b e => (hown9.lt b e).1); have hz10 := hb10.size; obtain ⟨y0, y1, z0, z1⟩ := (hst6.out.step hb10).pil.cell (i := os2.length) (by simp))
        try dsimp only
        refine hK.out _ _ (.of (⟨(hgrow10.block _ (by first | omega | (simp <;> omega)) (fun e => by have := (hown9.lt _ e.symm).1; omega)).trans hHeld.1, (hgrow10.block _ (by first | omega | (simp <;> omega)) (fun e => by have := (hown9.lt _ e.symm).1; omega)).trans hHeld.2⟩)) (fun hHeld2 => ?_)
        clear hK K hHeld
        have hHeld := hHeld2.resolve_left (by decide)
        clear hHeld2
        try simp only [Act.put, List.getElem_toArray, List.getElem_cons_succ, List.getElem_cons_zero, List.setIfInBounds_toArray, List.set_cons_zero, List.set_cons_succ]
        refine Go.Last.take (i := 17) (v := ?v17u24) rfl (by decide +kernel) (by decide +kernel) (by decide +kernel) (fun _ _ _ h => h) (by decide +kernel) (Or.inl ⟨by rfl, ?h17u24⟩) hHeld ?r17u24
        case h17u24 => (intro wq9 hSw; go_simp <;> with_reducible rfl)
        try simp only [Act.put, List.getElem_toArray, List.getElem_cons_succ, List.getElem_cons_zero, List.setIfInBounds_toArray, List.set_cons_zero, List.set_cons_succ]
        refine Go.Last.take (i := 18) (v := ?v18u25) rfl (by decide +kernel) (by decide +kernel) (by decide +kernel) (fun _ _ _ h => h) (by decide +kernel) (Or.inl ⟨by rfl, ?h18u25⟩) hHeld ?r18u25
        case h18u25 => (intro wq9 hSw; have d1 : (os2.length : Int) < (os2.length : Int) + 1 := (by omega); go_simp <;> with_reducible rfl)
        try simp only [Act.put, List.getElem_toArray, List.getElem_cons_succ, List.getElem_cons_zero, List.setIfInBounds_toArray, List.set_cons_zero, List.set_cons_succ]
        refine Go.Last.ready (rs := [19]) (by decide +kernel) (by simp) ?_
        refine Go.Last.Next.cons (o := _) rfl (fun K hK => ?_) Go.Last.Next.nil
        go_simp
        try dsimp only
        refine hK.out _ _ .last (fun _ => ?_)
        clear hK K hHeld
        try simp only [Act.put, List.getElem_toArray, List.getElem_cons_succ, List.getElem_cons_zero, List.setIfInBounds_toArray, List.set_cons_zero, List.set_cons_succ]
        refine Go.Last.done (by decide +kernel) ?_ _
        go_wp2
        have hkid : ∀ t ∈ ps2 ++ [(T.mk kx u0x u1x u2x u3x px capx mnx mxx txx ksx)], T.InP w10 (Sb w10 (w.heap.size + 2) g) t := fun t ht => by
          rcases List.mem_append.1 ht with ht | ht
          · exact ((ns_kids e4.out t ht).keep fun b hS => hb10.block b hS.2.1).imp fun b hS => ⟨hS.1, Nat.lt_of_lt_of_le hS.2.1 hz10, hS.2.2⟩
          · simp only [List.mem_cons, List.not_mem_nil, or_false] at ht
            subst ht
            exact (hmP.out.keep fun b hS => hb10.block b hS.2.1).imp fun b hS => ⟨hS.1, Nat.lt_of_lt_of_le hS.2.1 hz10, hS.2.2⟩
        have hns : Ns w10 (Sb w10 (w.heap.size + 2) g) (.slice p10 (ps2.length + 1) c10) (ps2 ++ [(T.mk kx u0x u1x u2x u3x px capx mnx mxx txx ksx)]) := ns_of_own hown10 (by simp) hkid fun b h1 h2 => ⟨by omega, h2, by omega⟩
        have hst7 := hst6.out.step hb10
        have hPS := hst7.set (o' := (⟨.slice bp2 bs2.length bc2, .slice p10 (ps2.length + 1) c10, bs2, ps2 ++ [(T.mk kx u0x u1x u2x u3x px capx mnx mxx txx ksx)]⟩ : Opn)) rfl (hst7.each (⟨.slice bp2 bs2.length bc2, .slice pp2 ps2.length pc2, bs2, ps2⟩ : Opn) (by simp)).1 hns (by omega : k ≤ n) ⟨by show bs2.length ≤ n; omega, by simp; omega⟩
        go_roundw
        case rel => exact Lib.hid ⟨g, cap, os2 ++ [(⟨.slice bp2 bs2.length bc2, .slice p10 (ps2.length + 1) c10, bs2, ps2 ++ [(T.mk kx u0x u1x u2x u3x px capx mnx mxx txx ksx)]⟩ : Opn)], _, true, n, by rw [List.length_append]; rfl, rfl, rfl, by omega, hPS, by
          have e : opOf (⟨.slice bp2 bs2.length bc2, .slice p10 (ps2.length + 1) c10, bs2, ps2 ++ [(T.mk kx u0x u1x u2x u3x px capx mnx mxx txx ksx)]⟩ : Opn) = (bs2.map T.strip, ps2.map T.strip ++ [((T.mk kx u0x u1x u2x u3x px capx mnx mxx txx ksx)).strip]) := by unfold opOf; simp
          rw [e]
          exact hnx.out⟩
        case measure => simp [intOf]; omega

    · go_simp
      try dsimp only
      refine hK.out _ _ (.of (⟨kept_alloc hHeld.1 _, kept_alloc hHeld.2 _⟩)) (fun hHeld2 => ?_)
      clear hK K hHeld
      have hHeld := hHeld2.resolve_left (by decide)
      clear hHeld2
      try simp only [Act.put, List.getElem_toArray, List.getElem_cons_succ, List.getElem_cons_zero, List.setIfInBounds_toArray, List.set_cons_zero, List.set_cons_succ]
      refine Go.Last.ready (rs := [7]) (by decide +kernel) (by simp) ?_
      refine Go.Last.Next.cons (o := _) rfl (fun K hK => ?_) Go.Last.Next.nil
      go_simp
      try dsimp only
      refine hK.out _ _ (.of (⟨kept_alloc hHeld.1 _, kept_alloc hHeld.2 _⟩)) (fun hHeld2 => ?_)
      clear hK K hHeld
      have hHeld := hHeld2.resolve_left (by decide)
      clear hHeld2
      try simp only [Act.put, List.getElem_toArray, List.getElem_cons_succ, List.getElem_cons_zero, List.setIfInBounds_toArray, List.set_cons_zero, List.set_cons_succ]
      refine Go.Last.ready (rs := [13]) (by decide +kernel) (by simp) ?_
      refine Go.Last.Next.cons (o := _) rfl (fun K hK => ?_) Go.Last.Next.nil
      (refine step_nodes rfl _ _ rfl wd.heap.size _ 0 [] rfl (by first | exact own_mt (World.alloc_heap_new wd _) (Nat.le_refl _) | exact own_mt (kept_alloc (World.alloc_heap_new wd _) _) (Nat.le_refl _) | exact own_mt (at_new2 wd _ _) (by omega)) pp2 ps2.length pc2 ps2 rfl (hsP.out _ (by first | exact Bel.new wd _ | exact Bel.alloc (Bel.new wd _) _)) (by omega) (by first | omega | (simp <;> omega)) ?_; intro v9 w9 hown9 hgrow9; rw [Nat.zero_add, List.nil_append] at hown9; obtain ⟨p9, c9, rfl, -⟩ := row_form hown9; have hb9 : Bel wd w9 := Below.grown (by first | exact Bel.new wd _ | exact Bel.alloc (Bel.new wd _) _) hgrow9 (by first | omega | (simp <;> omega)) (fun b e => by have h9 := Option.some.inj e; first | omega | (simp at h9 <;> omega)); have hz9 := hb9.size; have hzg := hgrow9.size; try simp only [World.size_alloc] at hzg)
      try dsimp only
      refine hK.out _ _ (.of (⟨(hgrow9.block _ (by first | omega | (simp <;> omega)) (fun e => by have h9 := Option.some.inj e; first | omega | (simp at h9 <;> omega))).trans hHeld.1, (hgrow9.block _ (by first | omega | (simp <;> omega)) (fun e => by have h9 := Option.some.inj e; first | omega | (simp at h9 <;> omega))).trans hHeld.2⟩)) (fun hHeld2 => ?_)
      clear hK K hHeld
      have hHeld := hHeld2.resolve_left (by decide)
      clear hHeld2
      try simp only [Act.put, List.getElem_toArray, List.getElem_cons_succ, List.getElem_cons_zero, List.setIfInBounds_toArray, List.set_cons_zero, List.set_cons_succ]
      refine Go.Last.ready (rs := [16]) (by decide +kernel) (by simp) ?_
      refine Go.Last.Next.cons (o := _) rfl (fun K hK => ?_) Go.Last.Next.nil
      (refine step_nodes rfl _ _ rfl wd.heap.size _ ps2.length ps2 rfl (by first | exact hown9 | exact hown9.alloc _) _ 1 1 [(T.mk kx u0x u1x u2x u3x px capx mnx mxx txx ksx)] rfl (by first | exact nsrc_one (World.alloc_heap_new w9 _) | exact nsrc_one ((hgrow9.block _ (by first | omega | (simp <;> omega)) (fun e => by have h9 := Option.some.inj e; first | omega | (simp at h9 <;> omega))).trans (at_new2 wd _ _)) | exact nsrc_one ((hgrow9.block _ (by first | omega | (simp <;> omega)) (fun e => by have h9 := Option.some.inj e; first | omega | (simp at h9 <;> omega))).trans (kept_alloc (World.alloc_heap_new wd _) _))) (by omega) (by first | omega | (simp <;> omega)) ?_; intro v10 w10 hown10 hgrow10; obtain ⟨p10, c10, rfl, -⟩ := row_form hown10; have hb10 : Bel wd w10 := Below.grown (by first | exact hb9 | exact Bel.alloc hb9 _) hgrow10 (by first | omega | (simp <;> omega)) (fun b e => (hown9.lt b e).1); have hz10 := hb10.size; obtain ⟨y0, y1, z0, z1⟩ := (hst6.out.step hb10).pil.cell (i := os2.length) (by simp))
      try dsimp only
      refine hK.out _ _ (.of (⟨(hgrow10.block _ (by first | omega | (simp <;> omega)) (fun e => by have := (hown9.lt _ e.symm).1; omega)).trans hHeld.1, (hgrow10.block _ (by first | omega | (simp <;> omega)) (fun e => by have := (hown9.lt _ e.symm).1; omega)).trans hHeld.2⟩)) (fun hHeld2 => ?_)
      clear hK K hHeld
      have hHeld := hHeld2.resolve_left (by decide)
      clear hHeld2
      try simp only [Act.put, List.getElem_toArray, List.getElem_cons_succ, List.getElem_cons_zero, List.setIfInBounds_toArray, List.set_cons_zero, List.set_cons_succ]
      refine Go.Last.take (i := 17) (v := ?v17u26) rfl (by decide +kernel) (by decide +kernel) (by decide +kernel) (fun _ _ _ h => h) (by decide +kernel) (Or.inl ⟨by rfl, ?h17u26⟩) hHeld ?r17u26
      case h17u26 => (intro wq9 hSw; go_simp <;> with_reducible rfl)
      try simp only [Act.put, List.getElem_toArray, List.getElem_cons_succ, List.getElem_cons_zero, List.setIfInBounds_toArray, List.set_cons_zero, List.set_cons_succ]
      refine Go.Last.take (i := 18) (v := ?v18u27) rfl (by decide +kernel) (by decide +kernel) (by decide +kernel) (fun _ _ _ h => h) (by decide +kernel) (Or.inl ⟨by rfl, ?h18u27⟩) hHeld ?r18u27
      case h18u27 => (intro wq9 hSw; have d1 : (os2.length : Int) < (os2.length : Int) + 1 := (by omega); go_simp <;> with_reducible rfl)
      try simp only [Act.put, List.getElem_toArray, List.getElem_cons_succ, List.getElem_cons_zero, List.setIfInBounds_toArray, List.set_cons_zero, List.set_cons_succ]
      refine Go.Last.ready (rs := [19]) (by decide +kernel) (by simp) ?_
      refine Go.Last.Next.cons (o := _) rfl (fun K hK => ?_) Go.Last.Next.nil
      go_simp
      try dsimp only
      refine hK.out _ _ .last (fun _ => ?_)
      clear hK K hHeld
      try simp only [Act.put, List.getElem_toArray, List.getElem_cons_succ, List.getElem_cons_zero, List.setIfInBounds_toArray, List.set_cons_zero, List.set_cons_succ]
      refine Go.Last.done (by decide +kernel) ?_ _
      go_wp2
      have hkid : ∀ t ∈ ps2 ++ [(T.mk kx u0x u1x u2x u3x px capx mnx mxx txx ksx)], T.InP w10 (Sb w10 (w.heap.size + 2) g) t := fun t ht => by
        rcases List.mem_append.1 ht with ht | ht
        · exact ((ns_kids e4.out t ht).keep fun b hS => hb10.block b hS.2.1).imp fun b hS => ⟨hS.1, Nat.lt_of_lt_of_le hS.2.1 hz10, hS.2.2⟩
        · simp only [List.mem_cons, List.not_mem_nil, or_false] at ht
          subst ht
          exact (hmP.out.keep fun b hS => hb10.block b hS.2.1).imp fun b hS => ⟨hS.1, Nat.lt_of_lt_of_le hS.2.1 hz10, hS.2.2⟩
      have hns : Ns w10 (Sb w10 (w.heap.size + 2) g) (.slice p10 (ps2.length + 1) c10) (ps2 ++ [(T.mk kx u0x u1x u2x u3x px capx mnx mxx txx ksx)]) := ns_of_own hown10 (by simp) hkid fun b h1 h2 => ⟨by omega, h2, by omega⟩
      have hst7 := hst6.out.step hb10
      have hPS := hst7.set (o' := (⟨.slice bp2 bs2.length bc2, .slice p10 (ps2.length + 1) c10, bs2, ps2 ++ [(T.mk kx u0x u1x u2x u3x px capx mnx mxx txx ksx)]⟩ : Opn)) rfl (hst7.each (⟨.slice bp2 bs2.length bc2, .slice pp2 ps2.length pc2, bs2, ps2⟩ : Opn) (by simp)).1 hns (by omega : k ≤ n) ⟨by show bs2.length ≤ n; omega, by simp; omega⟩
      go_roundw
      case rel => exact Lib.hid ⟨g, cap, os2 ++ [(⟨.slice bp2 bs2.length bc2, .slice p10 (ps2.length + 1) c10, bs2, ps2 ++ [(T.mk kx u0x u1x u2x u3x px capx mnx mxx txx ksx)]⟩ : Opn)], _, true, n, by rw [List.length_append]; rfl, rfl, rfl, by omega, hPS, by
        have e : opOf (⟨.slice bp2 bs2.length bc2, .slice p10 (ps2.length + 1) c10, bs2, ps2 ++ [(T.mk kx u0x u1x u2x u3x px capx mnx mxx txx ksx)]⟩ : Opn) = (bs2.map T.strip, ps2.map T.strip ++ [((T.mk kx u0x u1x u2x u3x px capx mnx mxx txx ksx)).strip]) := by unfold opOf; simp
        rw [e]
        exact hnx.out⟩
      case measure => simp [intOf]; omega



end Go.Proofs.YtjlmeegaiagfpaaDoor

namespace Go.Proofs.YtjlmeegaiagfpaaDoor
open Go.RowKit
open Go.Tree7
open S7
open S5 (nl nl_length nl_small at_nl nl_at Gives idx idx_at ix ix_no ix_yes)
theorem rparse_in {s : ByteArray} {out : Out} (hrun : Run (nl s) [([], [])] false 0 out) (hm : s.size ≤ 700) (w : World) : Calls Tryd.prog 8 #[.string s] w (GivesRP s w out) := (rp_cuts hrun hm w).whole ⟨rp_end hrun hm w⟩ ⟨rp_mark hrun hm w⟩ ⟨rp_open hrun hm w⟩ ⟨rp_bar hrun hm w⟩ ⟨rp_atom hrun hm w⟩
end Go.Proofs.YtjlmeegaiagfpaaDoor
