/- A string of the one and then one of the other: then, where both have some; none has the empty one. -/
import Derived.Deep.CutBlock
import Derived.Deep.DeepCutAuto
import Derived.Test.YtaebhbcamhmhoaaDoorVB
import Derived.Test.YtaebhbcamhmhoaaDoorLL
namespace Go.Proofs.YtaebhbcamhmhoaaDoor
open Go.RowKit
open Go.Tree7
open S7
open S5 (nl nl_length nl_small at_nl nl_at Gives idx idx_at ix ix_no ix_yes)
set_option maxHeartbeats 16000000 in
theorem then_ff {lo hi lo' hi' : Int} (F G H F' G' H' : Nat → Bool) (h : Within lo) (h' : Within lo') (k : Within hi) (k' : Within hi') (e1 : (lo == 0) = false) (e2 : (lo' == 0) = false) (w : World) : Calls Tryd.prog 60 #[.agg #[.int .i64 lo, .int .i64 hi, .int .u64 (S1.wd (F) 0), .int .u64 (S1.wd (F) 1), .int .u64 (S1.wd (F) 2), .int .u64 (S1.wd (F) 3), .int .u64 (S1.wd (G) 0), .int .u64 (S1.wd (G) 1), .int .u64 (S1.wd (G) 2), .int .u64 (S1.wd (G) 3), .int .u64 (S1.wd (H) 0), .int .u64 (S1.wd (H) 1), .int .u64 (S1.wd (H) 2), .int .u64 (S1.wd (H) 3)], .agg #[.int .i64 lo', .int .i64 hi', .int .u64 (S1.wd (F') 0), .int .u64 (S1.wd (F') 1), .int .u64 (S1.wd (F') 2), .int .u64 (S1.wd (F') 3), .int .u64 (S1.wd (G') 0), .int .u64 (S1.wd (G') 1), .int .u64 (S1.wd (G') 2), .int .u64 (S1.wd (G') 3), .int .u64 (S1.wd (H') 0), .int .u64 (S1.wd (H') 1), .int .u64 (S1.wd (H') 2), .int .u64 (S1.wd (H') 3)]] w fun e w' => e = .returned (.agg #[.int .i64 (cut20 (lo + lo')), .int .i64 (cut20 (hi + hi')), .int .u64 (S1.wd (F) 0), .int .u64 (S1.wd (F) 1), .int .u64 (S1.wd (F) 2), .int .u64 (S1.wd (F) 3), .int .u64 (S1.wd (G') 0), .int .u64 (S1.wd (G') 1), .int .u64 (S1.wd (G') 2), .int .u64 (S1.wd (G') 3), .int .u64 (S1.wd (S1.orS H H') 0), .int .u64 (S1.wd (S1.orS H H') 1), .int .u64 (S1.wd (S1.orS H H') 2), .int .u64 (S1.wd (S1.orS H H') 3)]) ∧ Below w.heap.size w w' := by
  have hV := fun w => lvoid_in ⟨lo, hi, F, G, H⟩ w
  have hV' := fun w => lvoid_in ⟨lo', hi', F', G', H'⟩ w
  simp only at hV hV'
  rw [show (lo == -1) = false by rw [beq_eq_false_iff_ne]; have := h.1; omega] at hV
  rw [show (lo' == -1) = false by rw [beq_eq_false_iff_ne]; have := h'.1; omega] at hV'
  obtain ⟨P1, hP1⟩ : ∃ P1, lo + lo' = P1 := ⟨_, rfl⟩
  obtain ⟨P2, hP2⟩ : ∃ P2, hi + hi' = P2 := ⟨_, rfl⟩
  rw [hP1, hP2]
  have k1 : IntKind.i64.wrap P1 = P1 := IntWalk.i64_in P1 (by obtain ⟨a, b⟩ := h; obtain ⟨c, d⟩ := h'; omega)
  have k2 : IntKind.i64.wrap P2 = P2 := IntWalk.i64_in P2 (by obtain ⟨a, b⟩ := k; obtain ⟨c, d⟩ := k'; omega)
  have c1 := Lib.hid fun w => lim_in P1 w
  have c2 := Lib.hid fun w => lim_in P2 w
  have c3 := Lib.hid fun w => S1.or_in H H' w
  have c4 := Lib.hid fun w => S1.or_in F F' w
  have c5 := Lib.hid fun w => S1.or_in G' G w
  have hN := fun w => lnull_in ⟨lo, hi, F, G, H⟩ w
  have hN' := fun w => lnull_in ⟨lo', hi', F', G', H'⟩ w
  simp only at hN hN'
  rw [e1] at hN
  rw [e2] at hN'
  clear e1 e2 h h' k k'
  obtain ⟨hx, hm, hr, hbel⟩ := new_three w #[.int .i64 lo, .int .i64 hi, .int .u64 (S1.wd (F) 0), .int .u64 (S1.wd (F) 1), .int .u64 (S1.wd (F) 2), .int .u64 (S1.wd (F) 3), .int .u64 (S1.wd (G) 0), .int .u64 (S1.wd (G) 1), .int .u64 (S1.wd (G) 2), .int .u64 (S1.wd (G) 3), .int .u64 (S1.wd (H) 0), .int .u64 (S1.wd (H) 1), .int .u64 (S1.wd (H) 2), .int .u64 (S1.wd (H) 3)] #[.int .i64 lo', .int .i64 hi', .int .u64 (S1.wd (F') 0), .int .u64 (S1.wd (F') 1), .int .u64 (S1.wd (F') 2), .int .u64 (S1.wd (F') 3), .int .u64 (S1.wd (G') 0), .int .u64 (S1.wd (G') 1), .int .u64 (S1.wd (G') 2), .int .u64 (S1.wd (G') 3), .int .u64 (S1.wd (H') 0), .int .u64 (S1.wd (H') 1), .int .u64 (S1.wd (H') 2), .int .u64 (S1.wd (H') 3)] #[.int .i64 0, .int .i64 0, .int .u64 0, .int .u64 0, .int .u64 0, .int .u64 0, .int .u64 0, .int .u64 0, .int .u64 0, .int .u64 0, .int .u64 0, .int .u64 0, .int .u64 0, .int .u64 0] 57 57 57
  replace hV := Lib.hid hV
  replace hV' := Lib.hid hV'
  replace hN := Lib.hid hN
  replace hN' := Lib.hid hN'
  replace hbel := Lib.hid hbel
  replace hr := Lib.hid hr
  replace hx := Lib.hid hx
  replace hm := Lib.hid hm
  go_enter Tryd.func60, Tryd.ntmps60
  go_upto_region 3 with (first | (go_at_call 32; (with_reducible refine (hV.out _).mono ?_); rintro e w1 ⟨rfl, hb1⟩; replace hx := Lib.hid (kept_row hx.out hb1); replace hm := Lib.hid (kept_row hm.out hb1); replace hr := Lib.hid (kept_row hr.out hb1); replace hbel := Lib.hid (hbel.out.trans (hb1.mono hbel.out.size)); clear hb1; (try (clear x0 x1 x2 x3 x4 x5 x6 x7 x8 x9 x10 x11 x12 x13)); (try (clear m0 m1 m2 m3 m4 m5 m6 m7 m8 m9 m10 m11 m12 m13)); (try (clear y0 y1 y2 y3 y4 y5 y6 y7 y8 y9 y10 y11 y12 y13 f0 f1 f2 f3 f4 f5 f6 f7 f8 f9 f10 f11 f12 f13)); obtain ⟨m0, m1, m2, m3, m4, m5, m6, m7, m8, m9, m10, m11, m12, m13⟩ := c14 hm.out) | (go_at_call 32; (with_reducible refine (hV'.out _).mono ?_); rintro e w1 ⟨rfl, hb1⟩; replace hx := Lib.hid (kept_row hx.out hb1); replace hm := Lib.hid (kept_row hm.out hb1); replace hr := Lib.hid (kept_row hr.out hb1); replace hbel := Lib.hid (hbel.out.trans (hb1.mono hbel.out.size)); clear hb1; (try (clear x0 x1 x2 x3 x4 x5 x6 x7 x8 x9 x10 x11 x12 x13)); (try (clear m0 m1 m2 m3 m4 m5 m6 m7 m8 m9 m10 m11 m12 m13)); (try (clear y0 y1 y2 y3 y4 y5 y6 y7 y8 y9 y10 y11 y12 y13 f0 f1 f2 f3 f4 f5 f6 f7 f8 f9 f10 f11 f12 f13)); skip))
  go_cut [5] (fun s5 wx => ∃ b, s5 = .pointer (some ⟨b, 0, none⟩) ∧ Hid (wx.heap[b]? = some (.cells #[.int .i64 (cut20 P1), .int .i64 (cut20 P2), .int .u64 (S1.wd (F) 0), .int .u64 (S1.wd (F) 1), .int .u64 (S1.wd (F) 2), .int .u64 (S1.wd (F) 3), .int .u64 (S1.wd (G') 0), .int .u64 (S1.wd (G') 1), .int .u64 (S1.wd (G') 2), .int .u64 (S1.wd (G') 3), .int .u64 (S1.wd (S1.orS H H') 0), .int .u64 (S1.wd (S1.orS H H') 1), .int .u64 (S1.wd (S1.orS H H') 2), .int .u64 (S1.wd (S1.orS H H') 3)] 57 (0, 0)) ∧ wx.heap[w.heap.size]? = some (.cells #[.int .i64 lo, .int .i64 hi, .int .u64 (S1.wd (F) 0), .int .u64 (S1.wd (F) 1), .int .u64 (S1.wd (F) 2), .int .u64 (S1.wd (F) 3), .int .u64 (S1.wd (G) 0), .int .u64 (S1.wd (G) 1), .int .u64 (S1.wd (G) 2), .int .u64 (S1.wd (G) 3), .int .u64 (S1.wd (H) 0), .int .u64 (S1.wd (H) 1), .int .u64 (S1.wd (H) 2), .int .u64 (S1.wd (H) 3)] 57 (0, 0)) ∧ wx.heap[w.heap.size + 1]? = some (.cells #[.int .i64 lo', .int .i64 hi', .int .u64 (S1.wd (F') 0), .int .u64 (S1.wd (F') 1), .int .u64 (S1.wd (F') 2), .int .u64 (S1.wd (F') 3), .int .u64 (S1.wd (G') 0), .int .u64 (S1.wd (G') 1), .int .u64 (S1.wd (G') 2), .int .u64 (S1.wd (G') 3), .int .u64 (S1.wd (H') 0), .int .u64 (S1.wd (H') 1), .int .u64 (S1.wd (H') 2), .int .u64 (S1.wd (H') 3)] 57 (0, 0)) ∧ wx.heap[w.heap.size + 1 + 1]? = some (.cells #[.int .i64 0, .int .i64 0, .int .u64 0, .int .u64 0, .int .u64 0, .int .u64 0, .int .u64 0, .int .u64 0, .int .u64 0, .int .u64 0, .int .u64 0, .int .u64 0, .int .u64 0, .int .u64 0] 57 (0, 0)) ∧ Below w.heap.size w wx ∧ w.heap.size + 1 + 1 < b))
  case first =>
    have hS3 : w1.drew.heap[w.heap.size]? = some (.cells #[.int .i64 lo, .int .i64 hi, .int .u64 (S1.wd (F) 0), .int .u64 (S1.wd (F) 1), .int .u64 (S1.wd (F) 2), .int .u64 (S1.wd (F) 3), .int .u64 (S1.wd (G) 0), .int .u64 (S1.wd (G) 1), .int .u64 (S1.wd (G) 2), .int .u64 (S1.wd (G) 3), .int .u64 (S1.wd (H) 0), .int .u64 (S1.wd (H) 1), .int .u64 (S1.wd (H) 2), .int .u64 (S1.wd (H) 3)] 57 (0, 0)) ∧ w1.drew.heap[w.heap.size + 1]? = some (.cells #[.int .i64 lo', .int .i64 hi', .int .u64 (S1.wd (F') 0), .int .u64 (S1.wd (F') 1), .int .u64 (S1.wd (F') 2), .int .u64 (S1.wd (F') 3), .int .u64 (S1.wd (G') 0), .int .u64 (S1.wd (G') 1), .int .u64 (S1.wd (G') 2), .int .u64 (S1.wd (G') 3), .int .u64 (S1.wd (H') 0), .int .u64 (S1.wd (H') 1), .int .u64 (S1.wd (H') 2), .int .u64 (S1.wd (H') 3)] 57 (0, 0)) := ⟨hx.out, hm.out⟩
    replace hr := Lib.hid (show w1.drew.heap[w.heap.size + 1 + 1]? = some (.cells #[.int .i64 0, .int .i64 0, .int .u64 0, .int .u64 0, .int .u64 0, .int .u64 0, .int .u64 0, .int .u64 0, .int .u64 0, .int .u64 0, .int .u64 0, .int .u64 0, .int .u64 0, .int .u64 0] 57 (0, 0)) from hr.out)
    replace hbel := Lib.hid (show Below w.heap.size w w1.drew from hbel.out.trans (Below.refl _ _).drew)
    clear hx hm hV hV' hN hN' c4 c5
    refine Go.Last.start (S := fun W => W.heap[w.heap.size]? = some (.cells #[.int .i64 lo, .int .i64 hi, .int .u64 (S1.wd (F) 0), .int .u64 (S1.wd (F) 1), .int .u64 (S1.wd (F) 2), .int .u64 (S1.wd (F) 3), .int .u64 (S1.wd (G) 0), .int .u64 (S1.wd (G) 1), .int .u64 (S1.wd (G) 2), .int .u64 (S1.wd (G) 3), .int .u64 (S1.wd (H) 0), .int .u64 (S1.wd (H) 1), .int .u64 (S1.wd (H) 2), .int .u64 (S1.wd (H) 3)] 57 (0, 0)) ∧ W.heap[w.heap.size + 1]? = some (.cells #[.int .i64 lo', .int .i64 hi', .int .u64 (S1.wd (F') 0), .int .u64 (S1.wd (F') 1), .int .u64 (S1.wd (F') 2), .int .u64 (S1.wd (F') 3), .int .u64 (S1.wd (G') 0), .int .u64 (S1.wd (G') 1), .int .u64 (S1.wd (G') 2), .int .u64 (S1.wd (G') 3), .int .u64 (S1.wd (H') 0), .int .u64 (S1.wd (H') 1), .int .u64 (S1.wd (H') 2), .int .u64 (S1.wd (H') 3)] 57 (0, 0))) (z := 23) (by decide +kernel) hS3 (fun hHeld => ?_)
    clear hS3
    generalize w1.drew = wd at *
    refine Go.Last.take (i := 0) (v := ?v0u158) rfl (by decide +kernel) (by decide +kernel) (by decide +kernel) (fun _ _ _ h => h) (by decide +kernel) (Or.inl ⟨by rfl, ?h0u158⟩) hHeld ?r0u158
    case h0u158 => (intro wq9 hSw; go_simp <;> with_reducible rfl)
    try simp only [Go.Last.pt]
    refine Go.Last.take (i := 1) (v := ?v1u159) rfl (by decide +kernel) (by decide +kernel) (by decide +kernel) (fun _ _ _ h => h) (by decide +kernel) (Or.inl ⟨by rfl, ?h1u159⟩) hHeld ?r1u159
    case h1u159 => (intro wq9 hSw; have x0 := (cells_of hSw.1 0 _ rfl).1; go_simp <;> with_reducible rfl)
    try simp only [Go.Last.pt]
    refine Go.Last.take (i := 2) (v := ?v2u160) rfl (by decide +kernel) (by decide +kernel) (by decide +kernel) (fun _ _ _ h => h) (by decide +kernel) (Or.inl ⟨by rfl, ?h2u160⟩) hHeld ?r2u160
    case h2u160 => (intro wq9 hSw; go_simp <;> with_reducible rfl)
    try simp only [Go.Last.pt]
    refine Go.Last.take (i := 3) (v := ?v3u161) rfl (by decide +kernel) (by decide +kernel) (by decide +kernel) (fun _ _ _ h => h) (by decide +kernel) (Or.inl ⟨by rfl, ?h3u161⟩) hHeld ?r3u161
    case h3u161 => (intro wq9 hSw; have m0 := (cells_of hSw.2 0 _ rfl).1; go_simp <;> with_reducible rfl)
    try simp only [Go.Last.pt]
    refine Go.Last.take (i := 4) (v := ?v4u162) rfl (by decide +kernel) (by decide +kernel) (by decide +kernel) (fun _ _ _ h => h) (by decide +kernel) (Or.inl ⟨by rfl, ?h4u162⟩) hHeld ?r4u162
    case h4u162 => (intro wq9 hSw; go_simp <;> with_reducible rfl)
    try simp only [Go.Last.pt]
    refine Go.Last.take (i := 6) (v := ?v6u163) rfl (by decide +kernel) (by decide +kernel) (by decide +kernel) (fun _ _ _ h => h) (by decide +kernel) (Or.inl ⟨by rfl, ?h6u163⟩) hHeld ?r6u163
    case h6u163 => (intro wq9 hSw; go_simp <;> with_reducible rfl)
    try simp only [Go.Last.pt]
    refine Go.Last.take (i := 7) (v := ?v7u164) rfl (by decide +kernel) (by decide +kernel) (by decide +kernel) (fun _ _ _ h => h) (by decide +kernel) (Or.inl ⟨by rfl, ?h7u164⟩) hHeld ?r7u164
    case h7u164 => (intro wq9 hSw; have x1 := (cells_of hSw.1 1 _ rfl).1; go_simp <;> with_reducible rfl)
    try simp only [Go.Last.pt]
    refine Go.Last.take (i := 8) (v := ?v8u165) rfl (by decide +kernel) (by decide +kernel) (by decide +kernel) (fun _ _ _ h => h) (by decide +kernel) (Or.inl ⟨by rfl, ?h8u165⟩) hHeld ?r8u165
    case h8u165 => (intro wq9 hSw; go_simp <;> with_reducible rfl)
    try simp only [Go.Last.pt]
    refine Go.Last.take (i := 9) (v := ?v9u166) rfl (by decide +kernel) (by decide +kernel) (by decide +kernel) (fun _ _ _ h => h) (by decide +kernel) (Or.inl ⟨by rfl, ?h9u166⟩) hHeld ?r9u166
    case h9u166 => (intro wq9 hSw; have m1 := (cells_of hSw.2 1 _ rfl).1; go_simp <;> with_reducible rfl)
    try simp only [Go.Last.pt]
    refine Go.Last.take (i := 10) (v := ?v10u167) rfl (by decide +kernel) (by decide +kernel) (by decide +kernel) (fun _ _ _ h => h) (by decide +kernel) (Or.inl ⟨by rfl, ?h10u167⟩) hHeld ?r10u167
    case h10u167 => (intro wq9 hSw; go_simp <;> with_reducible rfl)
    try simp only [Go.Last.pt]
    refine Go.Last.take (i := 12) (v := ?v12u168) rfl (by decide +kernel) (by decide +kernel) (by decide +kernel) (fun _ _ _ h => h) (by decide +kernel) (Or.inl ⟨by rfl, ?h12u168⟩) hHeld ?r12u168
    case h12u168 => (intro wq9 hSw; go_simp <;> with_reducible rfl)
    try simp only [Go.Last.pt]
    refine Go.Last.take (i := 13) (v := ?v13u169) rfl (by decide +kernel) (by decide +kernel) (by decide +kernel) (fun _ _ _ h => h) (by decide +kernel) (Or.inl ⟨by rfl, ?h13u169⟩) hHeld ?r13u169
    case h13u169 => (intro wq9 hSw; have x2 := (cells_of hSw.1 2 _ rfl).1; have x3 := (cells_of hSw.1 3 _ rfl).1; have x4 := (cells_of hSw.1 4 _ rfl).1; have x5 := (cells_of hSw.1 5 _ rfl).1; go_simp <;> with_reducible rfl)
    try simp only [Go.Last.pt]
    refine Go.Last.take (i := 14) (v := ?v14u170) rfl (by decide +kernel) (by decide +kernel) (by decide +kernel) (fun _ _ _ h => h) (by decide +kernel) (Or.inl ⟨by rfl, ?h14u170⟩) hHeld ?r14u170
    case h14u170 => (intro wq9 hSw; go_simp <;> with_reducible rfl)
    try simp only [Go.Last.pt]
    refine Go.Last.take (i := 15) (v := ?v15u171) rfl (by decide +kernel) (by decide +kernel) (by decide +kernel) (fun _ _ _ h => h) (by decide +kernel) (Or.inl ⟨by rfl, ?h15u171⟩) hHeld ?r15u171
    case h15u171 => (intro wq9 hSw; have m6 := (cells_of hSw.2 6 _ rfl).1; have m7 := (cells_of hSw.2 7 _ rfl).1; have m8 := (cells_of hSw.2 8 _ rfl).1; have m9 := (cells_of hSw.2 9 _ rfl).1; go_simp <;> with_reducible rfl)
    try simp only [Go.Last.pt]
    refine Go.Last.take (i := 16) (v := ?v16u172) rfl (by decide +kernel) (by decide +kernel) (by decide +kernel) (fun _ _ _ h => h) (by decide +kernel) (Or.inl ⟨by rfl, ?h16u172⟩) hHeld ?r16u172
    case h16u172 => (intro wq9 hSw; go_simp <;> with_reducible rfl)
    try simp only [Go.Last.pt]
    refine Go.Last.take (i := 17) (v := ?v17u173) rfl (by decide +kernel) (by decide +kernel) (by decide +kernel) (fun _ _ _ h => h) (by decide +kernel) (Or.inl ⟨by rfl, ?h17u173⟩) hHeld ?r17u173
    case h17u173 => (intro wq9 hSw; have x10 := (cells_of hSw.1 10 _ rfl).1; have x11 := (cells_of hSw.1 11 _ rfl).1; have x12 := (cells_of hSw.1 12 _ rfl).1; have x13 := (cells_of hSw.1 13 _ rfl).1; go_simp <;> with_reducible rfl)
    try simp only [Go.Last.pt]
    refine Go.Last.take (i := 18) (v := ?v18u174) rfl (by decide +kernel) (by decide +kernel) (by decide +kernel) (fun _ _ _ h => h) (by decide +kernel) (Or.inl ⟨by rfl, ?h18u174⟩) hHeld ?r18u174
    case h18u174 => (intro wq9 hSw; go_simp <;> with_reducible rfl)
    try simp only [Go.Last.pt]
    refine Go.Last.take (i := 19) (v := ?v19u175) rfl (by decide +kernel) (by decide +kernel) (by decide +kernel) (fun _ _ _ h => h) (by decide +kernel) (Or.inl ⟨by rfl, ?h19u175⟩) hHeld ?r19u175
    case h19u175 => (intro wq9 hSw; have m10 := (cells_of hSw.2 10 _ rfl).1; have m11 := (cells_of hSw.2 11 _ rfl).1; have m12 := (cells_of hSw.2 12 _ rfl).1; have m13 := (cells_of hSw.2 13 _ rfl).1; go_simp <;> with_reducible rfl)
    try simp only [Go.Last.pt]
    refine Go.Last.ready (rs := [5, 22]) (by decide +kernel) (by simp) ?_
    refine (Go.Last.Next.cons (o := _) rfl (fun K hK => ?_) (Go.Last.Next.cons (o := _) rfl (fun K hK => ?_) Go.Last.Next.nil))
    · go_simp
      (go_at_call 49; (with_reducible refine (c1.out _).mono ?_); rintro e w5 ⟨rfl, hb5⟩; replace hr := Lib.hid (kept_row hr.out hb5); replace hbel := Lib.hid (hbel.out.trans (hb5.mono hbel.out.size)))
      try dsimp only
      refine hK.out _ _ (.of (⟨kept_row hHeld.1 hb5, kept_row hHeld.2 hb5⟩)) (fun hHeld2 => ?_)
      clear hK K hHeld
      have hHeld := hHeld2.resolve_left (by decide)
      clear hHeld2
      try simp only [Go.Last.pt]
      refine Go.Last.ready (rs := [11, 22]) (by decide +kernel) (by simp) ?_
      refine (Go.Last.Next.cons (o := _) rfl (fun K hK => ?_) (Go.Last.Next.cons (o := _) rfl (fun K hK => ?_) Go.Last.Next.nil))
      · go_simp
        (go_at_call 49; (with_reducible refine (c2.out _).mono ?_); rintro e w11 ⟨rfl, hb11⟩; replace hr := Lib.hid (kept_row hr.out hb11); replace hbel := Lib.hid (hbel.out.trans (hb11.mono hbel.out.size)))
        try dsimp only
        refine hK.out _ _ (.of (⟨kept_row hHeld.1 hb11, kept_row hHeld.2 hb11⟩)) (fun hHeld2 => ?_)
        clear hK K hHeld
        have hHeld := hHeld2.resolve_left (by decide)
        clear hHeld2
        try simp only [Go.Last.pt]
        refine Go.Last.ready (rs := [20, 22]) (by decide +kernel) (by simp) ?_
        refine (Go.Last.Next.cons (o := _) rfl (fun K hK => ?_) (Go.Last.Next.cons (o := _) rfl (fun K hK => ?_) Go.Last.Next.nil))
        · go_simp
          (go_at_call 18; (with_reducible refine (c3.out _).mono ?_); rintro e w20 ⟨rfl, hb20⟩; replace hr := Lib.hid (kept_row hr.out hb20); replace hbel := Lib.hid (hbel.out.trans (hb20.mono hbel.out.size)))
          try dsimp only
          refine hK.out _ _ (.of (⟨kept_row hHeld.1 hb20, kept_row hHeld.2 hb20⟩)) (fun hHeld2 => ?_)
          clear hK K hHeld
          have hHeld := hHeld2.resolve_left (by decide)
          clear hHeld2
          try simp only [Go.Last.pt]
          refine Go.Last.ready (rs := [21, 22]) (by decide +kernel) (by simp) ?_
          refine (Go.Last.Next.cons (o := _) rfl (fun K hK => ?_) (Go.Last.Next.cons (o := _) rfl (fun K hK => ?_) Go.Last.Next.nil))
          · go_simp
            try dsimp only
            refine hK.out _ _ (.of (hHeld)) (fun hHeld2 => ?_)
            clear hK K hHeld
            have hHeld := hHeld2.resolve_left (by decide)
            clear hHeld2
            try simp only [Go.Last.pt]
            refine Go.Last.one 22 (by decide +kernel) rfl (fun K hK => ?_)
            go_simp
            have hx := Lib.hid hHeld.1; have hm := Lib.hid hHeld.2
            try dsimp only
            refine hK.out _ _ (.of (⟨kept_alloc9 hHeld.1 _, kept_alloc9 hHeld.2 _⟩)) (fun hHeld2 => ?_)
            clear hK K hHeld
            have hHeld := hHeld2.resolve_left (by decide)
            clear hHeld2
            try simp only [Go.Last.pt]
            refine Go.Last.one 23 (by decide +kernel) rfl (fun K hK => ?_)
            go_simp
            try dsimp only
            refine hK.out _ _ .last (fun _ => ?_)
            clear hK K hHeld
            try simp only [Go.Last.pt]
            refine Go.Last.done (by decide +kernel) ?_ _
            go_wp2
            go_meet
            exact ⟨_, rfl, Lib.hid ⟨World.alloc_heap_new _ _, kept_alloc9 hx.out _, kept_alloc9 hm.out _, kept_alloc9 hr.out _, hbel.out.alloc hbel.out.size _, lt_box hr.out⟩⟩
          · go_simp
            have hx := Lib.hid hHeld.1; have hm := Lib.hid hHeld.2
            try dsimp only
            refine hK.out _ _ (.of (⟨kept_alloc9 hHeld.1 _, kept_alloc9 hHeld.2 _⟩)) (fun hHeld2 => ?_)
            clear hK K hHeld
            have hHeld := hHeld2.resolve_left (by decide)
            clear hHeld2
            try simp only [Go.Last.pt]
            refine Go.Last.one 21 (by decide +kernel) rfl (fun K hK => ?_)
            go_simp
            try dsimp only
            refine hK.out _ _ (.of (hHeld)) (fun hHeld2 => ?_)
            clear hK K hHeld
            have hHeld := hHeld2.resolve_left (by decide)
            clear hHeld2
            try simp only [Go.Last.pt]
            refine Go.Last.one 23 (by decide +kernel) rfl (fun K hK => ?_)
            go_simp
            try dsimp only
            refine hK.out _ _ .last (fun _ => ?_)
            clear hK K hHeld
            try simp only [Go.Last.pt]
            refine Go.Last.done (by decide +kernel) ?_ _
            go_wp2
            go_meet
            exact ⟨_, rfl, Lib.hid ⟨World.alloc_heap_new _ _, kept_alloc9 hx.out _, kept_alloc9 hm.out _, kept_alloc9 hr.out _, hbel.out.alloc hbel.out.size _, lt_box hr.out⟩⟩
        · go_simp
          have hlt := lt_box hr.out; have hn := Lib.hid (World.alloc_heap_new w11 (.cells #[.int .i64 0, .int .i64 0, .int .u64 0, .int .u64 0, .int .u64 0, .int .u64 0, .int .u64 0, .int .u64 0, .int .u64 0, .int .u64 0, .int .u64 0, .int .u64 0, .int .u64 0, .int .u64 0] 57)); replace hr := Lib.hid (kept_alloc9 hr.out (.cells #[.int .i64 0, .int .i64 0, .int .u64 0, .int .u64 0, .int .u64 0, .int .u64 0, .int .u64 0, .int .u64 0, .int .u64 0, .int .u64 0, .int .u64 0, .int .u64 0, .int .u64 0, .int .u64 0] 57)); replace hbel := Lib.hid (hbel.out.alloc hbel.out.size (.cells #[.int .i64 0, .int .i64 0, .int .u64 0, .int .u64 0, .int .u64 0, .int .u64 0, .int .u64 0, .int .u64 0, .int .u64 0, .int .u64 0, .int .u64 0, .int .u64 0, .int .u64 0, .int .u64 0] 57))
          try dsimp only
          refine hK.out _ _ (.of (⟨kept_alloc9 hHeld.1 _, kept_alloc9 hHeld.2 _⟩)) (fun hHeld2 => ?_)
          clear hK K hHeld
          have hHeld := hHeld2.resolve_left (by decide)
          clear hHeld2
          try simp only [Go.Last.pt]
          refine Go.Last.one 20 (by decide +kernel) rfl (fun K hK => ?_)
          go_simp
          (go_at_call 18; (with_reducible refine (c3.out _).mono ?_); rintro e w20 ⟨rfl, hb20⟩; replace hr := Lib.hid (kept_row hr.out hb20); replace hbel := Lib.hid (hbel.out.trans (hb20.mono hbel.out.size)); replace hn := Lib.hid (kept_row hn.out hb20))
          try dsimp only
          refine hK.out _ _ (.of (⟨kept_row hHeld.1 hb20, kept_row hHeld.2 hb20⟩)) (fun hHeld2 => ?_)
          clear hK K hHeld
          have hHeld := hHeld2.resolve_left (by decide)
          clear hHeld2
          try simp only [Go.Last.pt]
          refine Go.Last.one 21 (by decide +kernel) rfl (fun K hK => ?_)
          go_simp
          have hx := Lib.hid hHeld.1; have hm := Lib.hid hHeld.2; obtain ⟨y0, f0, y1, f1, y2, f2, y3, f3, y4, f4, y5, f5, y6, f6, y7, f7, y8, f8, y9, f9, y10, f10, y11, f11, y12, f12, y13, f13⟩ := d14 hn.out
          try dsimp only
          refine hK.out _ _ (.of (hHeld)) (fun hHeld2 => ?_)
          clear hK K hHeld
          have hHeld := hHeld2.resolve_left (by decide)
          clear hHeld2
          try simp only [Go.Last.pt]
          refine Go.Last.one 23 (by decide +kernel) rfl (fun K hK => ?_)
          go_simp
          try dsimp only
          refine hK.out _ _ .last (fun _ => ?_)
          clear hK K hHeld
          try simp only [Go.Last.pt]
          refine Go.Last.done (by decide +kernel) ?_ _
          clear y0 y1 y2 y3 y4 y5 y6 y7 y8 y9 y10 y11 y12 y13 f0 f1 f2 f3 f4 f5 f6 f7 f8 f9 f10 f11 f12 f13
          obtain ⟨q1, q2, q3, q4⟩ := set14 (d0 := .int .i64 (cut20 P1)) (d1 := .int .i64 (cut20 P2)) (d2 := .int .u64 (S1.wd (F) 0)) (d3 := .int .u64 (S1.wd (F) 1)) (d4 := .int .u64 (S1.wd (F) 2)) (d5 := .int .u64 (S1.wd (F) 3)) (d6 := .int .u64 (S1.wd (G') 0)) (d7 := .int .u64 (S1.wd (G') 1)) (d8 := .int .u64 (S1.wd (G') 2)) (d9 := .int .u64 (S1.wd (G') 3)) (d10 := .int .u64 (S1.wd (S1.orS H H') 0)) (d11 := .int .u64 (S1.wd (S1.orS H H') 1)) (d12 := .int .u64 (S1.wd (S1.orS H H') 2)) (d13 := .int .u64 (S1.wd (S1.orS H H') 3)) hn.out _ rfl
          generalize hW : World.setCell _ (⟨w11.heap.size, 13, none⟩ : Addr) _ = W9 at *
          clear hW
          go_wp2
          go_meet
          exact ⟨_, rfl, Lib.hid ⟨q1, (q3 _ (by omega)).trans hx.out, (q3 _ (by omega)).trans hm.out, (q3 _ (by omega)).trans hr.out, hbel.out.trans (q4 _ (by omega)), by omega⟩⟩
      · go_simp
        have hlt := lt_box hr.out; have hn := Lib.hid (World.alloc_heap_new w5 (.cells #[.int .i64 0, .int .i64 0, .int .u64 0, .int .u64 0, .int .u64 0, .int .u64 0, .int .u64 0, .int .u64 0, .int .u64 0, .int .u64 0, .int .u64 0, .int .u64 0, .int .u64 0, .int .u64 0] 57)); replace hr := Lib.hid (kept_alloc9 hr.out (.cells #[.int .i64 0, .int .i64 0, .int .u64 0, .int .u64 0, .int .u64 0, .int .u64 0, .int .u64 0, .int .u64 0, .int .u64 0, .int .u64 0, .int .u64 0, .int .u64 0, .int .u64 0, .int .u64 0] 57)); replace hbel := Lib.hid (hbel.out.alloc hbel.out.size (.cells #[.int .i64 0, .int .i64 0, .int .u64 0, .int .u64 0, .int .u64 0, .int .u64 0, .int .u64 0, .int .u64 0, .int .u64 0, .int .u64 0, .int .u64 0, .int .u64 0, .int .u64 0, .int .u64 0] 57))
        try dsimp only
        refine hK.out _ _ (.of (⟨kept_alloc9 hHeld.1 _, kept_alloc9 hHeld.2 _⟩)) (fun hHeld2 => ?_)
        clear hK K hHeld
        have hHeld := hHeld2.resolve_left (by decide)
        clear hHeld2
        try simp only [Go.Last.pt]
        refine Go.Last.one 11 (by decide +kernel) rfl (fun K hK => ?_)
        go_simp
        (go_at_call 49; (with_reducible refine (c2.out _).mono ?_); rintro e w11 ⟨rfl, hb11⟩; replace hr := Lib.hid (kept_row hr.out hb11); replace hbel := Lib.hid (hbel.out.trans (hb11.mono hbel.out.size)); replace hn := Lib.hid (kept_row hn.out hb11))
        try dsimp only
        refine hK.out _ _ (.of (⟨kept_row hHeld.1 hb11, kept_row hHeld.2 hb11⟩)) (fun hHeld2 => ?_)
        clear hK K hHeld
        have hHeld := hHeld2.resolve_left (by decide)
        clear hHeld2
        try simp only [Go.Last.pt]
        refine Go.Last.one 20 (by decide +kernel) rfl (fun K hK => ?_)
        go_simp
        (go_at_call 18; (with_reducible refine (c3.out _).mono ?_); rintro e w20 ⟨rfl, hb20⟩; replace hr := Lib.hid (kept_row hr.out hb20); replace hbel := Lib.hid (hbel.out.trans (hb20.mono hbel.out.size)); replace hn := Lib.hid (kept_row hn.out hb20))
        try dsimp only
        refine hK.out _ _ (.of (⟨kept_row hHeld.1 hb20, kept_row hHeld.2 hb20⟩)) (fun hHeld2 => ?_)
        clear hK K hHeld
        have hHeld := hHeld2.resolve_left (by decide)
        clear hHeld2
        try simp only [Go.Last.pt]
        refine Go.Last.one 21 (by decide +kernel) rfl (fun K hK => ?_)
        go_simp
        have hx := Lib.hid hHeld.1; have hm := Lib.hid hHeld.2; obtain ⟨y0, f0, y1, f1, y2, f2, y3, f3, y4, f4, y5, f5, y6, f6, y7, f7, y8, f8, y9, f9, y10, f10, y11, f11, y12, f12, y13, f13⟩ := d14 hn.out
        try dsimp only
        refine hK.out _ _ (.of (hHeld)) (fun hHeld2 => ?_)
        clear hK K hHeld
        have hHeld := hHeld2.resolve_left (by decide)
        clear hHeld2
        try simp only [Go.Last.pt]
        refine Go.Last.one 23 (by decide +kernel) rfl (fun K hK => ?_)
        go_simp
        try dsimp only
        refine hK.out _ _ .last (fun _ => ?_)
        clear hK K hHeld
        try simp only [Go.Last.pt]
        refine Go.Last.done (by decide +kernel) ?_ _
        clear y0 y1 y2 y3 y4 y5 y6 y7 y8 y9 y10 y11 y12 y13 f0 f1 f2 f3 f4 f5 f6 f7 f8 f9 f10 f11 f12 f13
        obtain ⟨q1, q2, q3, q4⟩ := set14 (d0 := .int .i64 (cut20 P1)) (d1 := .int .i64 (cut20 P2)) (d2 := .int .u64 (S1.wd (F) 0)) (d3 := .int .u64 (S1.wd (F) 1)) (d4 := .int .u64 (S1.wd (F) 2)) (d5 := .int .u64 (S1.wd (F) 3)) (d6 := .int .u64 (S1.wd (G') 0)) (d7 := .int .u64 (S1.wd (G') 1)) (d8 := .int .u64 (S1.wd (G') 2)) (d9 := .int .u64 (S1.wd (G') 3)) (d10 := .int .u64 (S1.wd (S1.orS H H') 0)) (d11 := .int .u64 (S1.wd (S1.orS H H') 1)) (d12 := .int .u64 (S1.wd (S1.orS H H') 2)) (d13 := .int .u64 (S1.wd (S1.orS H H') 3)) hn.out _ rfl
        generalize hW : World.setCell _ (⟨w5.heap.size, 13, none⟩ : Addr) _ = W9 at *
        clear hW
        go_wp2
        go_meet
        exact ⟨_, rfl, Lib.hid ⟨q1, (q3 _ (by omega)).trans hx.out, (q3 _ (by omega)).trans hm.out, (q3 _ (by omega)).trans hr.out, hbel.out.trans (q4 _ (by omega)), by omega⟩⟩
    · go_simp
      have hlt := lt_box hr.out; have hn := Lib.hid (World.alloc_heap_new wd (.cells #[.int .i64 0, .int .i64 0, .int .u64 0, .int .u64 0, .int .u64 0, .int .u64 0, .int .u64 0, .int .u64 0, .int .u64 0, .int .u64 0, .int .u64 0, .int .u64 0, .int .u64 0, .int .u64 0] 57)); replace hr := Lib.hid (kept_alloc9 hr.out (.cells #[.int .i64 0, .int .i64 0, .int .u64 0, .int .u64 0, .int .u64 0, .int .u64 0, .int .u64 0, .int .u64 0, .int .u64 0, .int .u64 0, .int .u64 0, .int .u64 0, .int .u64 0, .int .u64 0] 57)); replace hbel := Lib.hid (hbel.out.alloc hbel.out.size (.cells #[.int .i64 0, .int .i64 0, .int .u64 0, .int .u64 0, .int .u64 0, .int .u64 0, .int .u64 0, .int .u64 0, .int .u64 0, .int .u64 0, .int .u64 0, .int .u64 0, .int .u64 0, .int .u64 0] 57))
      try dsimp only
      refine hK.out _ _ (.of (⟨kept_alloc9 hHeld.1 _, kept_alloc9 hHeld.2 _⟩)) (fun hHeld2 => ?_)
      clear hK K hHeld
      have hHeld := hHeld2.resolve_left (by decide)
      clear hHeld2
      try simp only [Go.Last.pt]
      refine Go.Last.one 5 (by decide +kernel) rfl (fun K hK => ?_)
      go_simp
      (go_at_call 49; (with_reducible refine (c1.out _).mono ?_); rintro e w5 ⟨rfl, hb5⟩; replace hr := Lib.hid (kept_row hr.out hb5); replace hbel := Lib.hid (hbel.out.trans (hb5.mono hbel.out.size)); replace hn := Lib.hid (kept_row hn.out hb5))
      try dsimp only
      refine hK.out _ _ (.of (⟨kept_row hHeld.1 hb5, kept_row hHeld.2 hb5⟩)) (fun hHeld2 => ?_)
      clear hK K hHeld
      have hHeld := hHeld2.resolve_left (by decide)
      clear hHeld2
      try simp only [Go.Last.pt]
      refine Go.Last.one 11 (by decide +kernel) rfl (fun K hK => ?_)
      go_simp
      (go_at_call 49; (with_reducible refine (c2.out _).mono ?_); rintro e w11 ⟨rfl, hb11⟩; replace hr := Lib.hid (kept_row hr.out hb11); replace hbel := Lib.hid (hbel.out.trans (hb11.mono hbel.out.size)); replace hn := Lib.hid (kept_row hn.out hb11))
      try dsimp only
      refine hK.out _ _ (.of (⟨kept_row hHeld.1 hb11, kept_row hHeld.2 hb11⟩)) (fun hHeld2 => ?_)
      clear hK K hHeld
      have hHeld := hHeld2.resolve_left (by decide)
      clear hHeld2
      try simp only [Go.Last.pt]
      refine Go.Last.one 20 (by decide +kernel) rfl (fun K hK => ?_)
      go_simp
      (go_at_call 18; (with_reducible refine (c3.out _).mono ?_); rintro e w20 ⟨rfl, hb20⟩; replace hr := Lib.hid (kept_row hr.out hb20); replace hbel := Lib.hid (hbel.out.trans (hb20.mono hbel.out.size)); replace hn := Lib.hid (kept_row hn.out hb20))
      try dsimp only
      refine hK.out _ _ (.of (⟨kept_row hHeld.1 hb20, kept_row hHeld.2 hb20⟩)) (fun hHeld2 => ?_)
      clear hK K hHeld
      have hHeld := hHeld2.resolve_left (by decide)
      clear hHeld2
      try simp only [Go.Last.pt]
      refine Go.Last.one 21 (by decide +kernel) rfl (fun K hK => ?_)
      go_simp
      have hx := Lib.hid hHeld.1; have hm := Lib.hid hHeld.2; obtain ⟨y0, f0, y1, f1, y2, f2, y3, f3, y4, f4, y5, f5, y6, f6, y7, f7, y8, f8, y9, f9, y10, f10, y11, f11, y12, f12, y13, f13⟩ := d14 hn.out
      try dsimp only
      refine hK.out _ _ (.of (hHeld)) (fun hHeld2 => ?_)
      clear hK K hHeld
      have hHeld := hHeld2.resolve_left (by decide)
      clear hHeld2
      try simp only [Go.Last.pt]
      refine Go.Last.one 23 (by decide +kernel) rfl (fun K hK => ?_)
      go_simp
      try dsimp only
      refine hK.out _ _ .last (fun _ => ?_)
      clear hK K hHeld
      try simp only [Go.Last.pt]
      refine Go.Last.done (by decide +kernel) ?_ _
      clear y0 y1 y2 y3 y4 y5 y6 y7 y8 y9 y10 y11 y12 y13 f0 f1 f2 f3 f4 f5 f6 f7 f8 f9 f10 f11 f12 f13
      obtain ⟨q1, q2, q3, q4⟩ := set14 (d0 := .int .i64 (cut20 P1)) (d1 := .int .i64 (cut20 P2)) (d2 := .int .u64 (S1.wd (F) 0)) (d3 := .int .u64 (S1.wd (F) 1)) (d4 := .int .u64 (S1.wd (F) 2)) (d5 := .int .u64 (S1.wd (F) 3)) (d6 := .int .u64 (S1.wd (G') 0)) (d7 := .int .u64 (S1.wd (G') 1)) (d8 := .int .u64 (S1.wd (G') 2)) (d9 := .int .u64 (S1.wd (G') 3)) (d10 := .int .u64 (S1.wd (S1.orS H H') 0)) (d11 := .int .u64 (S1.wd (S1.orS H H') 1)) (d12 := .int .u64 (S1.wd (S1.orS H H') 2)) (d13 := .int .u64 (S1.wd (S1.orS H H') 3)) hn.out _ rfl
      generalize hW : World.setCell _ (⟨wd.heap.size, 13, none⟩ : Addr) _ = W9 at *
      clear hW
      go_wp2
      go_meet
      exact ⟨_, rfl, Lib.hid ⟨q1, (q3 _ (by omega)).trans hx.out, (q3 _ (by omega)).trans hm.out, (q3 _ (by omega)).trans hr.out, hbel.out.trans (q4 _ (by omega)), by omega⟩⟩
  case rest =>
    clear hx hm hr hbel hV hV' c1 c2 c3 k1 k2
    obtain ⟨b, rfl, hf⟩ := hcut
    obtain ⟨f0, f1, f2, f3, f4, hlt⟩ := hf.out
    have hk := Lib.hid f0
    have hx := Lib.hid f1
    have hm := Lib.hid f2
    have hr := Lib.hid f3
    have hbel := Lib.hid f4
    clear hf f0 f1 f2 f3 f4
    obtain ⟨x0, x1, x2, x3, x4, x5, x6, x7, x8, x9, x10, x11, x12, x13⟩ := c14 hx.out
    go_upto_region 6 with (go_at_call 33; (with_reducible refine (hN.out _).mono ?_); rintro e w1 ⟨rfl, hb1⟩; replace hx := Lib.hid (kept_row hx.out hb1); replace hm := Lib.hid (kept_row hm.out hb1); replace hr := Lib.hid (kept_row hr.out hb1); replace hbel := Lib.hid (hbel.out.trans (hb1.mono hbel.out.size)); replace hk := Lib.hid (kept_row hk.out hb1); clear hb1; (try clear x0 x1 x2 x3 x4 x5 x6 x7 x8 x9 x10 x11 x12 x13); skip)
    obtain ⟨m0, m1, m2, m3, m4, m5, m6, m7, m8, m9, m10, m11, m12, m13⟩ := c14 hm.out
    go_upto_region 8 with (go_at_call 33; (with_reducible refine (hN'.out _).mono ?_); rintro e w1 ⟨rfl, hb1⟩; replace hx := Lib.hid (kept_row hx.out hb1); replace hm := Lib.hid (kept_row hm.out hb1); replace hr := Lib.hid (kept_row hr.out hb1); replace hbel := Lib.hid (hbel.out.trans (hb1.mono hbel.out.size)); replace hk := Lib.hid (kept_row hk.out hb1); clear hb1; (try clear m0 m1 m2 m3 m4 m5 m6 m7 m8 m9 m10 m11 m12 m13); skip)
    obtain ⟨k0, k1, k2, k3, k4, k5, k6, k7, k8, k9, k10, k11, k12, k13⟩ := c14 hk.out
    obtain ⟨y0, f0, y1, f1, y2, f2, y3, f3, y4, f4, y5, f5, y6, f6, y7, f7, y8, f8, y9, f9, y10, f10, y11, f11, y12, f12, y13, f13⟩ := d14 hr.out
    go_wp2
    clear y0 y1 y2 y3 y4 y5 y6 y7 y8 y9 y10 y11 y12 y13 f0 f1 f2 f3 f4 f5 f6 f7 f8 f9 f10 f11 f12 f13
    clear k0 k1 k2 k3 k4 k5 k6 k7 k8 k9 k10 k11 k12 k13
    obtain ⟨q1, q2, q3, q4⟩ := set14 (d0 := .int .i64 (cut20 P1)) (d1 := .int .i64 (cut20 P2)) (d2 := .int .u64 (S1.wd (F) 0)) (d3 := .int .u64 (S1.wd (F) 1)) (d4 := .int .u64 (S1.wd (F) 2)) (d5 := .int .u64 (S1.wd (F) 3)) (d6 := .int .u64 (S1.wd (G') 0)) (d7 := .int .u64 (S1.wd (G') 1)) (d8 := .int .u64 (S1.wd (G') 2)) (d9 := .int .u64 (S1.wd (G') 3)) (d10 := .int .u64 (S1.wd (S1.orS H H') 0)) (d11 := .int .u64 (S1.wd (S1.orS H H') 1)) (d12 := .int .u64 (S1.wd (S1.orS H H') 2)) (d13 := .int .u64 (S1.wd (S1.orS H H') 3)) hr.out _ rfl
    generalize hW : World.setCell _ (⟨w.heap.size + 1 + 1, 13, none⟩ : Addr) _ = W9 at *
    clear hW
    obtain ⟨o0, o1, o2, o3, o4, o5, o6, o7, o8, o9, o10, o11, o12, o13⟩ := c14 q1
    refine bodyPost_ret (v := .agg #[.int .i64 (cut20 P1), .int .i64 (cut20 P2), .int .u64 (S1.wd (F) 0), .int .u64 (S1.wd (F) 1), .int .u64 (S1.wd (F) 2), .int .u64 (S1.wd (F) 3), .int .u64 (S1.wd (G') 0), .int .u64 (S1.wd (G') 1), .int .u64 (S1.wd (G') 2), .int .u64 (S1.wd (G') 3), .int .u64 (S1.wd (S1.orS H H') 0), .int .u64 (S1.wd (S1.orS H H') 1), .int .u64 (S1.wd (S1.orS H H') 2), .int .u64 (S1.wd (S1.orS H H') 3)]) (by simp [results, Tryd.results60, go_sem, o0, o1, o2, o3, o4, o5, o6, o7, o8, o9, o10, o11, o12, o13]) rfl ?_
    exact ⟨rfl, hbel.out.trans (q4 _ (by omega))⟩
end Go.Proofs.YtaebhbcamhmhoaaDoor
