/- Texts merged: S9V8b, S9V7, S9V9, S9V9b. -/
import Derived.Deep.CutBlock
import Derived.Deep.DeepCutAuto
import Derived.Test.YtaebhbcamhmhoaaDoorVC
import Derived.Test.YtaebhbcamhmhoaaDoorVA
import Derived.Test.YtaebhbcamhmhoaaDoorLL
import Derived.Test.YtaebhbcamhmhoaaDoorWS
namespace Go.Proofs.YtaebhbcamhmhoaaDoor
open Go.RowKit
open Go.Tree7
open S7
open S5 (nl nl_length nl_small at_nl nl_at Gives idx idx_at ix ix_no ix_yes)
set_option maxRecDepth 10000 in
set_option maxHeartbeats 8000000 in
theorem der_bytes {w0 : World} {B0 : Nat} {u0 u1 u2 u3 : Int} {p : Option Addr} {cap : Nat} {mn mx : Int} {tx : ByteArray} {ks : List T} : Der9 w0 B0 (.mk 1 u0 u1 u2 u3 p cap mn mx tx ks) := by
  intro hA hT w hB0
  have hfit : fits 1 u0 u1 u2 u3 mn mx tx := by cases hT with | mk h1 h2 h3 => exact h3
  have hw4 := hfit.2.1
  obtain ⟨e0, e1, e2, e3⟩ := wd_f hw4
  have cO := fun w => oneOf9_in (S1.mem4 u0.toNat u1.toNat u2.toNat u3.toNat) w
  rw [e0, e1, e2, e3] at cO
  have e : oneL9 (S1.mem4 u0.toNat u1.toNat u2.toNat u3.toNat) = lgT (.mk 1 u0 u1 u2 u3 p cap mn mx tx ks) := by unfold oneL9; rw [lg_bytes, eqB_zero hw4]; rfl
  rw [e] at cO
  clear hA hT hB0 hw4 e0 e1 e2 e3 e
  generalize lgT (.mk 1 u0 u1 u2 u3 p cap mn mx tx ks) = X at *
  replace cO := Lib.hid cO
  replace hfit := Lib.hid hfit
  simp only [T.cells]
  obtain ⟨h1, h2, h4⟩ := two_new w #[.int .i64 1, .int .u64 u0, .int .u64 u1, .int .u64 u2, .int .u64 u3, .slice p ks.length cap, .int .i64 mn, .int .i64 mx, .string tx] #[.int .i64 0, .int .i64 0, .int .u64 0, .int .u64 0, .int .u64 0, .int .u64 0, .int .u64 0, .int .u64 0, .int .u64 0, .int .u64 0, .int .u64 0, .int .u64 0, .int .u64 0, .int .u64 0] 27 57
  have hbn := Lib.hid h1
  have hbr := Lib.hid h2
  have hbel := Lib.hid h4
  clear h1 h2 h4
  go_enter Tryd.func43, Tryd.ntmps43
  go_wp2_with (go_at_call 59; (with_reducible refine (cO.out _).mono ?_); rintro e w1 ⟨rfl, hb1⟩; replace hbr := Lib.hid (kept_row hbr.out hb1); replace hbel := Lib.hid (hbel.out.trans (hb1.mono hbel.out.size)); clear hb1; obtain ⟨y0, f0, y1, f1, y2, f2, y3, f3, y4, f4, y5, f5, y6, f6, y7, f7, y8, f8, y9, f9, y10, f10, y11, f11, y12, f12, y13, f13⟩ := d14 hbr.out)
  clear y0 y1 y2 y3 y4 y5 y6 y7 y8 y9 y10 y11 y12 y13 f0 f1 f2 f3 f4 f5 f6 f7 f8 f9 f10 f11 f12 f13
  obtain ⟨q1, q2, q3, q4⟩ := set14 (d0 := .int .i64 X.lo) (d1 := .int .i64 X.hi) (d2 := .int .u64 (S1.wd (X.fs) 0)) (d3 := .int .u64 (S1.wd (X.fs) 1)) (d4 := .int .u64 (S1.wd (X.fs) 2)) (d5 := .int .u64 (S1.wd (X.fs) 3)) (d6 := .int .u64 (S1.wd (X.ls) 0)) (d7 := .int .u64 (S1.wd (X.ls) 1)) (d8 := .int .u64 (S1.wd (X.ls) 2)) (d9 := .int .u64 (S1.wd (X.ls) 3)) (d10 := .int .u64 (S1.wd (X.al) 0)) (d11 := .int .u64 (S1.wd (X.al) 1)) (d12 := .int .u64 (S1.wd (X.al) 2)) (d13 := .int .u64 (S1.wd (X.al) 3)) hbr.out _ rfl
  generalize hW : World.setCell _ (⟨w.heap.size + 1, 13, none⟩ : Addr) _ = W9 at *
  clear hW
  obtain ⟨o0, o1, o2, o3, o4, o5, o6, o7, o8, o9, o10, o11, o12, o13⟩ := c14 q1
  refine bodyPost_ret (v := .agg #[.int .i64 X.lo, .int .i64 X.hi, .int .u64 (S1.wd (X.fs) 0), .int .u64 (S1.wd (X.fs) 1), .int .u64 (S1.wd (X.fs) 2), .int .u64 (S1.wd (X.fs) 3), .int .u64 (S1.wd (X.ls) 0), .int .u64 (S1.wd (X.ls) 1), .int .u64 (S1.wd (X.ls) 2), .int .u64 (S1.wd (X.ls) 3), .int .u64 (S1.wd (X.al) 0), .int .u64 (S1.wd (X.al) 1), .int .u64 (S1.wd (X.al) 2), .int .u64 (S1.wd (X.al) 3)]) (by simp [results, Tryd.results43, go_sem, o0, o1, o2, o3, o4, o5, o6, o7, o8, o9, o10, o11, o12, o13]) rfl ?_
  exact ⟨rfl, hbel.out.trans (q4 _ (by omega))⟩
set_option maxRecDepth 10000 in
set_option maxHeartbeats 8000000 in
theorem der_name {w0 : World} {B0 : Nat} {u0 u1 u2 u3 : Int} {p : Option Addr} {cap : Nat} {mn mx : Int} {tx : ByteArray} {ks : List T} : Der9 w0 B0 (.mk 5 u0 u1 u2 u3 p cap mn mx tx ks) := by
  intro hA hT w hB0
  rw [lg_name, voidL_v]
  have cE := fun w => void9_in w
  rw [voidL_v] at cE
  replace cE := Lib.hid cE
  clear hA hT hB0
  simp only [T.cells]
  obtain ⟨h1, h2, h4⟩ := two_new w #[.int .i64 5, .int .u64 u0, .int .u64 u1, .int .u64 u2, .int .u64 u3, .slice p ks.length cap, .int .i64 mn, .int .i64 mx, .string tx] #[.int .i64 0, .int .i64 0, .int .u64 0, .int .u64 0, .int .u64 0, .int .u64 0, .int .u64 0, .int .u64 0, .int .u64 0, .int .u64 0, .int .u64 0, .int .u64 0, .int .u64 0, .int .u64 0] 27 57
  have hbr := Lib.hid h2
  have hbel := Lib.hid h4
  clear h1 h2 h4
  go_enter Tryd.func43, Tryd.ntmps43
  go_wp2_with (go_at_call 42; (with_reducible refine (cE.out _).mono ?_); rintro e w1 ⟨rfl, hb1⟩; replace hbr := Lib.hid (kept_row hbr.out hb1); replace hbel := Lib.hid (hbel.out.trans (hb1.mono hbel.out.size)); clear hb1; obtain ⟨y0, f0, y1, f1, y2, f2, y3, f3, y4, f4, y5, f5, y6, f6, y7, f7, y8, f8, y9, f9, y10, f10, y11, f11, y12, f12, y13, f13⟩ := d14 hbr.out)
  clear y0 y1 y2 y3 y4 y5 y6 y7 y8 y9 y10 y11 y12 y13 f0 f1 f2 f3 f4 f5 f6 f7 f8 f9 f10 f11 f12 f13
  obtain ⟨q1, q2, q3, q4⟩ := set14 (d0 := .int .i64 (-1)) (d1 := .int .i64 (-1)) (d2 := .int .u64 0) (d3 := .int .u64 0) (d4 := .int .u64 0) (d5 := .int .u64 0) (d6 := .int .u64 0) (d7 := .int .u64 0) (d8 := .int .u64 0) (d9 := .int .u64 0) (d10 := .int .u64 0) (d11 := .int .u64 0) (d12 := .int .u64 0) (d13 := .int .u64 0) hbr.out _ rfl
  generalize hW : World.setCell _ (⟨w.heap.size + 1, 13, none⟩ : Addr) _ = W9 at *
  clear hW
  obtain ⟨o0, o1, o2, o3, o4, o5, o6, o7, o8, o9, o10, o11, o12, o13⟩ := c14 q1
  refine bodyPost_ret (v := .agg #[.int .i64 (-1), .int .i64 (-1), .int .u64 0, .int .u64 0, .int .u64 0, .int .u64 0, .int .u64 0, .int .u64 0, .int .u64 0, .int .u64 0, .int .u64 0, .int .u64 0, .int .u64 0, .int .u64 0]) (by simp [results, Tryd.results43, go_sem, o0, o1, o2, o3, o4, o5, o6, o7, o8, o9, o10, o11, o12, o13]) rfl ?_
  exact ⟨rfl, hbel.out.trans (q4 _ (by omega))⟩
set_option maxRecDepth 10000 in
set_option maxHeartbeats 8000000 in
theorem der_rep {w0 : World} {B0 : Nat} (hn0 : B0 ≤ w0.heap.size) {u0 u1 u2 u3 : Int} {p : Option Addr} {cap : Nat} {mn mx : Int} {tx : ByteArray} {t : T} (ih : Der9 w0 B0 t) (h3 : 0 ≤ mn ∧ mn ≤ 40) (h4 : mx = -1 ∨ (mn ≤ mx ∧ 1 ≤ mx ∧ mx ≤ 40)) : Der9 w0 B0 (.mk 4 u0 u1 u2 u3 p cap mn mx tx [t]) := by
  intro hA hT w hB0
  have hfit : fits 4 u0 u1 u2 u3 mn mx tx := by cases hT with | mk h1 h2 h3 => exact h3
  have hB0w : B0 ≤ w.heap.size := Nat.le_trans hn0 hB0.size
  have hAt : T.All (fun t => T.ok t = true) t := by cases hA with | mk h1 h2 => exact h2 t (by simp)
  have hlt : 0 < [t].length := by simp
  obtain ⟨b, o, hkid, hp, hb, hc⟩ := T.kid hT hlt
  have hcl : ∀ q, q < 9 → w0.cell? ⟨b, o + q, none⟩ = (t.cells)[q]? := fun q hq => by
    have h0 := hc q hq
    rw [Nat.zero_mul, Nat.add_zero] at h0
    rw [← show ([t][0]'hlt).cells[q]? = t.cells[q]? from rfl, ← h0]
  have cK := fun W h => ih hAt hkid W h
  rw [lg_rep hAt h3.1]
  have cT := fun W => oft9_in (lg_ok hAt) h3 (mx := mx) (by omega) W
  clear hA hT hc hkid h3 h4 hAt ih
  subst hp
  generalize lgT t = X at *
  replace cT := Lib.hid cT
  replace hfit := Lib.hid hfit
  cases t with
  | mk k' u0' u1' u2' u3' p' cap' mn' mx' tx' ks' =>
    simp only [T.cells] at hcl cK ⊢
    obtain ⟨c0, c1, c2, c3, c4, c5, c6, c7, c8⟩ := nine_of hcl
    clear hcl
    replace cK := Lib.hid cK
    obtain ⟨h1, h2, h4⟩ := two_new w #[.int .i64 4, .int .u64 u0, .int .u64 u1, .int .u64 u2, .int .u64 u3, .slice (some ⟨b, o, none⟩) 1 cap, .int .i64 mn, .int .i64 mx, .string tx] #[.int .i64 0, .int .i64 0, .int .u64 0, .int .u64 0, .int .u64 0, .int .u64 0, .int .u64 0, .int .u64 0, .int .u64 0, .int .u64 0, .int .u64 0, .int .u64 0, .int .u64 0, .int .u64 0] 27 57
    have hbn := Lib.hid h1
    have hbr := Lib.hid h2
    have hbel := Lib.hid h4
    have hBx := Lib.hid (hB0.trans (h4.mono hB0w))
    clear h1 h2 h4 hB0
    simp only [List.length_singleton]
    go_enter Tryd.func43, Tryd.ntmps43
    go_upto_region 21 with (fail)
    have hS3 : (((w.alloc (.cells #[.int .i64 4, .int .u64 u0, .int .u64 u1, .int .u64 u2, .int .u64 u3, .slice (some ⟨b, o, none⟩) 1 cap, .int .i64 mn, .int .i64 mx, .string tx] 27)).alloc (.cells #[.int .i64 0, .int .i64 0, .int .u64 0, .int .u64 0, .int .u64 0, .int .u64 0, .int .u64 0, .int .u64 0, .int .u64 0, .int .u64 0, .int .u64 0, .int .u64 0, .int .u64 0, .int .u64 0] 57)).drew.heap[w.heap.size]? = some (.cells #[.int .i64 4, .int .u64 u0, .int .u64 u1, .int .u64 u2, .int .u64 u3, .slice (some ⟨b, o, none⟩) 1 cap, .int .i64 mn, .int .i64 mx, .string tx] 27)) ∧ Below B0 w0 ((w.alloc (.cells #[.int .i64 4, .int .u64 u0, .int .u64 u1, .int .u64 u2, .int .u64 u3, .slice (some ⟨b, o, none⟩) 1 cap, .int .i64 mn, .int .i64 mx, .string tx] 27)).alloc (.cells #[.int .i64 0, .int .i64 0, .int .u64 0, .int .u64 0, .int .u64 0, .int .u64 0, .int .u64 0, .int .u64 0, .int .u64 0, .int .u64 0, .int .u64 0, .int .u64 0, .int .u64 0, .int .u64 0] 57)).drew := ⟨hbn.out, hBx.out.trans (Below.refl _ _).drew⟩
    replace hbel := Lib.hid (show Below w.heap.size w ((w.alloc (.cells #[.int .i64 4, .int .u64 u0, .int .u64 u1, .int .u64 u2, .int .u64 u3, .slice (some ⟨b, o, none⟩) 1 cap, .int .i64 mn, .int .i64 mx, .string tx] 27)).alloc (.cells #[.int .i64 0, .int .i64 0, .int .u64 0, .int .u64 0, .int .u64 0, .int .u64 0, .int .u64 0, .int .u64 0, .int .u64 0, .int .u64 0, .int .u64 0, .int .u64 0, .int .u64 0, .int .u64 0] 57)).drew from hbel.out.trans (Below.refl _ _).drew)
    replace hbr := Lib.hid (show ((w.alloc (.cells #[.int .i64 4, .int .u64 u0, .int .u64 u1, .int .u64 u2, .int .u64 u3, .slice (some ⟨b, o, none⟩) 1 cap, .int .i64 mn, .int .i64 mx, .string tx] 27)).alloc (.cells #[.int .i64 0, .int .i64 0, .int .u64 0, .int .u64 0, .int .u64 0, .int .u64 0, .int .u64 0, .int .u64 0, .int .u64 0, .int .u64 0, .int .u64 0, .int .u64 0, .int .u64 0, .int .u64 0] 57)).drew.heap[w.heap.size + 1]? = some (.cells #[.int .i64 0, .int .i64 0, .int .u64 0, .int .u64 0, .int .u64 0, .int .u64 0, .int .u64 0, .int .u64 0, .int .u64 0, .int .u64 0, .int .u64 0, .int .u64 0, .int .u64 0, .int .u64 0] 57) from hbr.out)
    clear hbn hBx
    refine Go.Last.start (S := (fun W => W.heap[w.heap.size]? = some (.cells #[.int .i64 4, .int .u64 u0, .int .u64 u1, .int .u64 u2, .int .u64 u3, .slice (some ⟨b, o, none⟩) 1 cap, .int .i64 mn, .int .i64 mx, .string tx] 27) ∧ Below B0 w0 W)) (z := 10) (by decide +kernel) hS3 (fun hHeld => ?_)
    clear hS3
    generalize ((w.alloc (.cells #[.int .i64 4, .int .u64 u0, .int .u64 u1, .int .u64 u2, .int .u64 u3, .slice (some ⟨b, o, none⟩) 1 cap, .int .i64 mn, .int .i64 mx, .string tx] 27)).alloc (.cells #[.int .i64 0, .int .i64 0, .int .u64 0, .int .u64 0, .int .u64 0, .int .u64 0, .int .u64 0, .int .u64 0, .int .u64 0, .int .u64 0, .int .u64 0, .int .u64 0, .int .u64 0, .int .u64 0] 57)).drew = wd at *
    refine Go.Last.take (i := 0) (v := ?v0u180) rfl (by decide +kernel) (by decide +kernel) (by decide +kernel) (fun _ _ _ h => h) (by decide +kernel) (Or.inl ⟨by rfl, ?h0u180⟩) hHeld ?r0u180
    case h0u180 => (intro wq9 hSw; go_simp <;> with_reducible rfl)
    try simp only [Go.Last.pt]
    refine Go.Last.take (i := 1) (v := ?v1u181) rfl (by decide +kernel) (by decide +kernel) (by decide +kernel) (fun _ _ _ h => h) (by decide +kernel) (Or.inl ⟨by rfl, ?h1u181⟩) hHeld ?r1u181
    case h1u181 => (intro wq9 hSw; obtain ⟨n0, n1, n2, n3, n4, n5, n6, n7, n8⟩ := c9 hSw.1; go_simp <;> with_reducible rfl)
    try simp only [Go.Last.pt]
    refine Go.Last.take (i := 5) (v := ?v5u182) rfl (by decide +kernel) (by decide +kernel) (by decide +kernel) (fun _ _ _ h => h) (by decide +kernel) (Or.inl ⟨by rfl, ?h5u182⟩) hHeld ?r5u182
    case h5u182 => (intro wq9 hSw; go_simp <;> with_reducible rfl)
    try simp only [Go.Last.pt]
    refine Go.Last.take (i := 6) (v := ?v6u183) rfl (by decide +kernel) (by decide +kernel) (by decide +kernel) (fun _ _ _ h => h) (by decide +kernel) (Or.inl ⟨by rfl, ?h6u183⟩) hHeld ?r6u183
    case h6u183 => (intro wq9 hSw; obtain ⟨n0, n1, n2, n3, n4, n5, n6, n7, n8⟩ := c9 hSw.1; go_simp <;> with_reducible rfl)
    try simp only [Go.Last.pt]
    refine Go.Last.take (i := 7) (v := ?v7u184) rfl (by decide +kernel) (by decide +kernel) (by decide +kernel) (fun _ _ _ h => h) (by decide +kernel) (Or.inl ⟨by rfl, ?h7u184⟩) hHeld ?r7u184
    case h7u184 => (intro wq9 hSw; go_simp <;> with_reducible rfl)
    try simp only [Go.Last.pt]
    refine Go.Last.take (i := 8) (v := ?v8u185) rfl (by decide +kernel) (by decide +kernel) (by decide +kernel) (fun _ _ _ h => h) (by decide +kernel) (Or.inl ⟨by rfl, ?h8u185⟩) hHeld ?r8u185
    case h8u185 => (intro wq9 hSw; obtain ⟨n0, n1, n2, n3, n4, n5, n6, n7, n8⟩ := c9 hSw.1; go_simp <;> with_reducible rfl)
    try simp only [Go.Last.pt]
    refine Go.Last.one 2 (by decide +kernel) rfl (fun K hK => ?_)
    go_simp
    try dsimp only
    refine hK.out _ _ (.of (hHeld)) (fun hHeld2 => ?_)
    clear hK K hHeld
    have hHeld := hHeld2.resolve_left (by decide)
    clear hHeld2
    try simp only [Go.Last.pt]
    refine Go.Last.take (i := 3) (v := ?v3u186) rfl (by decide +kernel) (by decide +kernel) (by decide +kernel) (fun _ _ _ h => h) (by decide +kernel) (Or.inl ⟨by rfl, ?h3u186⟩) hHeld ?r3u186
    case h3u186 => (intro wq9 hSw; have x0 := (hSw.2.cell (p := ⟨b, o, none⟩) hb).trans c0; have x1 := (hSw.2.cell (p := ⟨b, o + 1, none⟩) hb).trans c1; have x2 := (hSw.2.cell (p := ⟨b, o + 2, none⟩) hb).trans c2; have x3 := (hSw.2.cell (p := ⟨b, o + 3, none⟩) hb).trans c3; have x4 := (hSw.2.cell (p := ⟨b, o + 4, none⟩) hb).trans c4; have x5 := (hSw.2.cell (p := ⟨b, o + 5, none⟩) hb).trans c5; have x6 := (hSw.2.cell (p := ⟨b, o + 6, none⟩) hb).trans c6; have x7 := (hSw.2.cell (p := ⟨b, o + 7, none⟩) hb).trans c7; have x8 := (hSw.2.cell (p := ⟨b, o + 8, none⟩) hb).trans c8; go_simp <;> with_reducible rfl)
    try simp only [Go.Last.pt]
    refine Go.Last.one 4 (by decide +kernel) rfl (fun K hK => ?_)
    go_simp
    (go_at_call 43; (with_reducible refine (cK.out _ hHeld.2).mono ?_); rintro e w2 ⟨rfl, hb2⟩; replace hbr := Lib.hid (kept_row hbr.out hb2); replace hbel := Lib.hid (hbel.out.trans (hb2.mono hbel.out.size)))
    try dsimp only
    refine hK.out _ _ (.of (⟨kept_row hHeld.1 hb2, hHeld.2.trans (hb2.mono (Nat.le_trans hn0 hHeld.2.size))⟩)) (fun hHeld2 => ?_)
    clear hK K hHeld
    have hHeld := hHeld2.resolve_left (by decide)
    clear hHeld2
    try simp only [Go.Last.pt]
    refine Go.Last.one 9 (by decide +kernel) rfl (fun K hK => ?_)
    go_simp
    (go_at_call 62; (with_reducible refine (cT.out _).mono ?_); rintro e w3 ⟨rfl, hb3⟩; replace hbr := Lib.hid (kept_row hbr.out hb3); replace hbel := Lib.hid (hbel.out.trans (hb3.mono hbel.out.size)); obtain ⟨y0, f0, y1, f1, y2, f2, y3, f3, y4, f4, y5, f5, y6, f6, y7, f7, y8, f8, y9, f9, y10, f10, y11, f11, y12, f12, y13, f13⟩ := d14 hbr.out)
    try dsimp only
    refine hK.out _ _ (.of (⟨kept_row hHeld.1 hb3, hHeld.2.trans (hb3.mono (Nat.le_trans hn0 hHeld.2.size))⟩)) (fun hHeld2 => ?_)
    clear hK K hHeld
    have hHeld := hHeld2.resolve_left (by decide)
    clear hHeld2
    try simp only [Go.Last.pt]
    refine Go.Last.one 10 (by decide +kernel) rfl (fun K hK => ?_)
    go_simp
    try dsimp only
    refine hK.out _ _ .last (fun _ => ?_)
    clear hK K hHeld
    try simp only [Go.Last.pt]
    refine Go.Last.done (by decide +kernel) ?_ _
    clear y0 y1 y2 y3 y4 y5 y6 y7 y8 y9 y10 y11 y12 y13 f0 f1 f2 f3 f4 f5 f6 f7 f8 f9 f10 f11 f12 f13
    obtain ⟨q1, q2, q3, q4⟩ := set14 (d0 := .int .i64 (oftL X mn mx).lo) (d1 := .int .i64 (oftL X mn mx).hi) (d2 := .int .u64 (S1.wd ((oftL X mn mx).fs) 0)) (d3 := .int .u64 (S1.wd ((oftL X mn mx).fs) 1)) (d4 := .int .u64 (S1.wd ((oftL X mn mx).fs) 2)) (d5 := .int .u64 (S1.wd ((oftL X mn mx).fs) 3)) (d6 := .int .u64 (S1.wd ((oftL X mn mx).ls) 0)) (d7 := .int .u64 (S1.wd ((oftL X mn mx).ls) 1)) (d8 := .int .u64 (S1.wd ((oftL X mn mx).ls) 2)) (d9 := .int .u64 (S1.wd ((oftL X mn mx).ls) 3)) (d10 := .int .u64 (S1.wd ((oftL X mn mx).al) 0)) (d11 := .int .u64 (S1.wd ((oftL X mn mx).al) 1)) (d12 := .int .u64 (S1.wd ((oftL X mn mx).al) 2)) (d13 := .int .u64 (S1.wd ((oftL X mn mx).al) 3)) hbr.out _ rfl
    generalize hW : World.setCell _ (⟨w.heap.size + 1, 13, none⟩ : Addr) _ = W9 at *
    clear hW
    go_wp2
    obtain ⟨o0, o1, o2, o3, o4, o5, o6, o7, o8, o9, o10, o11, o12, o13⟩ := c14 q1
    refine bodyPost_ret (v := .agg #[.int .i64 (oftL X mn mx).lo, .int .i64 (oftL X mn mx).hi, .int .u64 (S1.wd ((oftL X mn mx).fs) 0), .int .u64 (S1.wd ((oftL X mn mx).fs) 1), .int .u64 (S1.wd ((oftL X mn mx).fs) 2), .int .u64 (S1.wd ((oftL X mn mx).fs) 3), .int .u64 (S1.wd ((oftL X mn mx).ls) 0), .int .u64 (S1.wd ((oftL X mn mx).ls) 1), .int .u64 (S1.wd ((oftL X mn mx).ls) 2), .int .u64 (S1.wd ((oftL X mn mx).ls) 3), .int .u64 (S1.wd ((oftL X mn mx).al) 0), .int .u64 (S1.wd ((oftL X mn mx).al) 1), .int .u64 (S1.wd ((oftL X mn mx).al) 2), .int .u64 (S1.wd ((oftL X mn mx).al) 3)]) (by simp [results, Tryd.results43, go_sem, o0, o1, o2, o3, o4, o5, o6, o7, o8, o9, o10, o11, o12, o13]) rfl ?_
    exact ⟨rfl, hbel.out.trans (q4 _ (by omega))⟩
theorem derived9_in {w0 : World} {B0 : Nat} (hn0 : B0 ≤ w0.heap.size) : ∀ t : T, Der9 w0 B0 t := by
  refine T.ind fun k u0 u1 u2 u3 p cap mn mx tx ks ih => ?_
  intro hA
  have ho : T.ok (.mk k u0 u1 u2 u3 p cap mn mx tx ks) = true := by cases hA with | mk h1 h2 => exact h1
  have hok := okn_of ho
  cases hok with
  | bytes e => subst e; exact der_bytes hA
  | cat e => subst e; exact der_cat hn0 ih hA
  | alt e => subst e; exact der_alt hn0 ih hA
  | rep e t h2 h3 h4 => subst e h2; exact der_rep hn0 (ih t (by simp)) h3 h4 hA
  | name e => subst e; exact der_name hA
end Go.Proofs.YtaebhbcamhmhoaaDoor
namespace Go.Proofs.YtaebhbcamhmhoaaDoor
open Go.RowKit
open Go.Tree7
open S7
open S5 (nl nl_length nl_small at_nl nl_at Gives idx idx_at ix ix_no ix_yes)
/-- How many times a kid's weight counts. -/
def cop9 (k mn mx : Int) : Int := if k = 4 then (if mx = -1 then mn + 1 else mx) else 1
set_option maxHeartbeats 2000000 in
theorem copies9_in {k u0 u1 u2 u3 : Int} {sl : Value} {mn mx : Int} {tx : ByteArray} (h : k = 4 → 0 ≤ mn ∧ mn ≤ 40) (w : World) : Calls Tryd.prog 50 #[.agg #[.int .i64 k, .int .u64 u0, .int .u64 u1, .int .u64 u2, .int .u64 u3, sl, .int .i64 mn, .int .i64 mx, .string tx]] w fun e w' => e = .returned (.int .i64 (cop9 k mn mx)) ∧ Below w.heap.size w w' := by
  unfold cop9
  by_cases hk : k = 4
  · have g1 : (k == 4) = true := by rw [beq_iff_eq]; exact hk
    rw [if_pos hk]
    have hw := h hk
    have k1 : IntKind.i64.wrap (mn + 1) = mn + 1 := IntWalk.i64_in _ ⟨by omega, by omega⟩
    clear h hw
    subst hk
    by_cases hm : mx = -1
    · have g2 : (mx == -1) = true := by rw [beq_iff_eq]; exact hm
      rw [if_pos hm]
      clear hm
      go_enter Tryd.func50, Tryd.ntmps50
      go_wp2
      go_ret
      exact ⟨rfl, (Below.refl _ _).alloc (Nat.le_refl _) _⟩
    · have g2 : (mx == -1) = false := by rw [beq_eq_false_iff_ne]; exact hm
      rw [if_neg hm]
      clear hm
      go_enter Tryd.func50, Tryd.ntmps50
      go_wp2
      go_ret
      exact ⟨rfl, (Below.refl _ _).alloc (Nat.le_refl _) _⟩
  · have g1 : (k == 4) = false := by rw [beq_eq_false_iff_ne]; exact hk
    rw [if_neg hk]
    clear hk h
    go_enter Tryd.func50, Tryd.ntmps50
    go_wp2
    go_ret
    exact ⟨rfl, (Below.refl _ _).alloc (Nat.le_refl _) _⟩
set_option maxRecDepth 10000 in
set_option maxHeartbeats 4000000 in
theorem weight9_in {w0 : World} {B0 : Nat} (hn0 : B0 ≤ w0.heap.size) : ∀ t : T, T.All (fun t => T.ok t = true) t → T.In w0 B0 t → ∀ w, Below B0 w0 w → Calls Tryd.prog 34 #[.agg t.cells.toArray] w fun e w' => e = .returned (.int .i64 (weightT t)) ∧ Below w.heap.size w w' := by
  refine T.ind fun k u0 u1 u2 u3 p cap mn mx tx ks ih => ?_
  intro hA hT w hB0
  have hks : ks.length ≤ 9223372036854775807 := by cases hT with | mk h1 h2 => unfold maxLen at h2; omega
  have hfit : fits k u0 u1 u2 u3 mn mx tx := by cases hT with | mk h1 h2 h3 => exact h3
  have hB0w : B0 ≤ w.heap.size := Nat.le_trans hn0 hB0.size
  obtain ⟨ho, hAk⟩ : T.ok (.mk k u0 u1 u2 u3 p cap mn mx tx ks) = true ∧ ∀ t ∈ ks, T.All (fun t => T.ok t = true) t := by cases hA with | mk h1 h2 => exact ⟨h1, h2⟩
  have hok := okn_of ho
  replace hT := Lib.hid hT
  replace hB0 := Lib.hid hB0
  replace ih := Lib.hid ih
  clear hA ho
  obtain ⟨Wt, hW0, hWs, hWb, hWe⟩ := weights_of hAk hok
  rw [weightT_mk, ← hWe]
  have hmn : k = 4 → 0 ≤ mn ∧ mn ≤ 40 := fun e => by cases hok with | rep _ _ _ h3 h4 => exact h3 | bytes h => omega | cat h => omega | alt h => omega | name h => omega
  have hcb : 0 ≤ cop9 k mn mx ∧ cop9 k mn mx ≤ 41 := by
    unfold cop9
    cases hok with
    | rep e _ _ h3 h4 => rw [if_pos e]; split <;> omega
    | _ => rw [if_neg (by omega)]; omega
  have cC := Lib.hid fun w => copies9_in (k := k) (u0 := u0) (u1 := u1) (u2 := u2) (u3 := u3) (sl := .slice p ks.length cap) (mn := mn) (mx := mx) (tx := tx) hmn w
  have hWs' : ∀ j (hj : j < ks.length), Wt (j + 1) = cut20 (Wt j + cop9 k mn mx * weightT ks[j]) := hWs
  replace hWs := Lib.hid hWs'
  replace hWb := Lib.hid hWb
  replace hAk := Lib.hid hAk
  replace hfit := Lib.hid hfit
  replace hok := Lib.hid hok
  clear hWs' hWe hmn
  generalize cop9 k mn mx = C at *
  replace hcb := Lib.hid hcb
  simp only [T.cells]
  have hbn := Lib.hid (World.alloc_heap_new w (.cells #[.int .i64 k, .int .u64 u0, .int .u64 u1, .int .u64 u2, .int .u64 u3, .slice p ks.length cap, .int .i64 mn, .int .i64 mx, .string tx] 27))
  go_enter Tryd.func34, Tryd.ntmps34
  go_wp2
  have h0 : Hid (Below w.heap.size w (w.alloc (.cells #[.int .i64 k, .int .u64 u0, .int .u64 u1, .int .u64 u2, .int .u64 u3, .slice p ks.length cap, .int .i64 mn, .int .i64 mx, .string tx] 27))) := Lib.hid ((Below.refl _ _).alloc (Nat.le_refl _) _)
  go_loopw [3, 9] (fun m i wr => ∃ j : Nat, j ≤ ks.length ∧ m = .int .i64 (Wt j) ∧ i = .int .i64 j ∧ Hid (Below w.heap.size w wr) ∧ Hid (wr.heap[w.heap.size]? = some (.cells #[.int .i64 k, .int .u64 u0, .int .u64 u1, .int .u64 u2, .int .u64 u3, .slice p ks.length cap, .int .i64 mn, .int .i64 mx, .string tx] 27))) (fun _ i _ => ks.length - (intOf i).toNat)
  case atStart => exact ⟨0, Nat.zero_le _, by rw [hW0], rfl, h0, hbn⟩
  case round =>
    clear h0 hbn hW0
    obtain ⟨j, hj, rfl, rfl, hbel, hbx⟩ := hrel
    have hsz := lt_box hbx.out
    by_cases hlt : j < ks.length
    · obtain ⟨b, o, hkid, hp, hb, hc⟩ := T.kid hT.out hlt
      have hBw : Below B0 w0 wr := hB0.out.trans (hbel.out.mono hB0w)
      have hcl : ∀ q, q < 9 → wr.cell? ⟨b, o + j * 9 + q, none⟩ = (ks[j].cells)[q]? := fun q hq => by
        rw [← hc q hq]
        exact hBw.cell (p := ⟨b, o + j * 9 + q, none⟩) hb
      have cK := ih.out ks[j] (List.getElem_mem hlt) (hAk.out _ (List.getElem_mem hlt)) hkid
      have hs := hWs.out j hlt
      have hw1 := hWb.out j
      have hx1 := weight_within (hAk.out _ (List.getElem_mem hlt))
      clear hc hkid
      subst hp
      generalize ks[j] = kd at *
      generalize weightT kd = X at *
      obtain ⟨P, hP⟩ : ∃ P, C * X = P := ⟨_, rfl⟩
      have hPb : 0 ≤ P ∧ P ≤ 41 * 1048576 := by rw [← hP]; exact ⟨Int.mul_nonneg hcb.out.1 (by omega), Int.mul_le_mul hcb.out.2 hx1.2 (by omega) (by omega)⟩
      rw [hP] at hs
      have kP : IntKind.i64.wrap P = P := IntWalk.i64_in P ⟨by omega, by omega⟩
      obtain ⟨S, hS⟩ : ∃ S, Wt j + P = S := ⟨_, rfl⟩
      have kS : IntKind.i64.wrap S = S := IntWalk.i64_in S ⟨by omega, by omega⟩
      rw [hS] at hs
      replace hs := Lib.hid hs
      have cL := Lib.hid fun w => lim_in S w
      clear hw1 hx1 hPb
      cases kd with
      | mk k' u0' u1' u2' u3' p' cap' mn' mx' tx' ks' =>
        simp only [T.cells] at hcl cK
        obtain ⟨c0, c1, c2, c3, c4, c5, c6, c7, c8⟩ := nine_of hcl
        clear hcl
        replace cK := Lib.hid cK
        obtain ⟨z5, -⟩ := cells_of hbx.out 5 _ rfl
        go_upto_region 5 with (fail)
        have hS3 : (wr.alloc (.cells #[.int .i64 k', .int .u64 u0', .int .u64 u1', .int .u64 u2', .int .u64 u3', .slice p' ks'.length cap', .int .i64 mn', .int .i64 mx', .string tx'] 27)).drew.heap[w.heap.size]? = some (.cells #[.int .i64 k, .int .u64 u0, .int .u64 u1, .int .u64 u2, .int .u64 u3, .slice (some ⟨b, o, none⟩) ks.length cap, .int .i64 mn, .int .i64 mx, .string tx] 27) ∧ (wr.alloc (.cells #[.int .i64 k', .int .u64 u0', .int .u64 u1', .int .u64 u2', .int .u64 u3', .slice p' ks'.length cap', .int .i64 mn', .int .i64 mx', .string tx'] 27)).drew.heap[wr.heap.size]? = some (.cells #[.int .i64 k', .int .u64 u0', .int .u64 u1', .int .u64 u2', .int .u64 u3', .slice p' ks'.length cap', .int .i64 mn', .int .i64 mx', .string tx'] 27) := ⟨kept_alloc9 hbx.out _, World.alloc_heap_new _ _⟩
        replace hBw := Lib.hid (show Below B0 w0 (wr.alloc (.cells #[.int .i64 k', .int .u64 u0', .int .u64 u1', .int .u64 u2', .int .u64 u3', .slice p' ks'.length cap', .int .i64 mn', .int .i64 mx', .string tx'] 27)).drew from (hBw.alloc (Nat.le_trans hB0w (by omega)) _).trans (Below.refl _ _).drew)
        replace hbel := Lib.hid (show Below w.heap.size w (wr.alloc (.cells #[.int .i64 k', .int .u64 u0', .int .u64 u1', .int .u64 u2', .int .u64 u3', .slice p' ks'.length cap', .int .i64 mn', .int .i64 mx', .string tx'] 27)).drew from (hbel.out.alloc (Nat.le_of_lt hsz) _).trans (Below.refl _ _).drew)
        clear hbx c0 c1 c2 c3 c4 c5 c6 c7 c8 z5
        refine wp_region_held_drew (S := fun W => W.heap[w.heap.size]? = some (.cells #[.int .i64 k, .int .u64 u0, .int .u64 u1, .int .u64 u2, .int .u64 u3, .slice (some ⟨b, o, none⟩) ks.length cap, .int .i64 mn, .int .i64 mx, .string tx] 27) ∧ W.heap[wr.heap.size]? = some (.cells #[.int .i64 k', .int .u64 u0', .int .u64 u1', .int .u64 u2', .int .u64 u3', .slice p' ks'.length cap', .int .i64 mn', .int .i64 mx', .string tx'] 27)) (by kernel_rfl) hS3 (fun hHeld => ?_)
        clear hS3
        generalize (wr.alloc (.cells #[.int .i64 k', .int .u64 u0', .int .u64 u1', .int .u64 u2', .int .u64 u3', .slice p' ks'.length cap', .int .i64 mn', .int .i64 mx', .string tx'] 27)).drew = wd at *
        refine wpAnyH_take (i := 0) (v := ?v0u261) rfl (by kernel_rfl) (by kernel_rfl) (by kernel_rfl) (fun _ _ _ h => h) (Or.inl ⟨by rfl, ?h0u261⟩) hHeld ?r0u261
        case h0u261 => (intro wq hSw; go_simp <;> with_reducible rfl)
        try simp only [Go.Last.pt]
        refine wpAnyH_take (i := 1) (v := ?v1u262) rfl (by kernel_rfl) (by kernel_rfl) (by kernel_rfl) (fun _ _ _ h => h) (Or.inl ⟨by rfl, ?h1u262⟩) hHeld ?r1u262
        case h1u262 => (intro wq hSw; obtain ⟨n0, n1, n2, n3, n4, n5, n6, n7, n8⟩ := c9 hSw.1; go_simp <;> with_reducible rfl)
        try simp only [Go.Last.pt]
        refine wpAnyH_take (i := 3) (v := ?v3u263) rfl (by kernel_rfl) (by kernel_rfl) (by kernel_rfl) (fun _ _ _ h => h) (Or.inl ⟨by rfl, ?h3u263⟩) hHeld ?r3u263
        case h3u263 => (intro wq hSw; obtain ⟨x0, x1, x2, x3, x4, x5, x6, x7, x8⟩ := c9 hSw.2; go_simp <;> with_reducible rfl)
        try simp only [Go.Last.pt]
        refine Go.Last.held 2 (by kernel_rfl) rfl (fun K hK => ?_)
        go_simp
        (go_at_call 50; (with_reducible refine (cC.out _).mono ?_); rintro e w2 ⟨rfl, hb2⟩; have hbel := Lib.hid (hbel.out.trans (hb2.mono hbel.out.size)); have hBw := Lib.hid (hBw.out.trans (hb2.mono (Nat.le_trans hn0 hBw.out.size))))
        try dsimp only
        refine hK.out _ _ (⟨kept_row hHeld.1 hb2, kept_row hHeld.2 hb2⟩) (fun hHeld2 => ?_)
        clear hK K hHeld
        have hHeld := hHeld2
        clear hHeld2
        try simp only [Go.Last.pt]
        refine Go.Last.held 4 (by kernel_rfl) rfl (fun K hK => ?_)
        go_simp
        (go_at_call 34; (with_reducible refine (cK.out _ (hBw.out)).mono ?_); rintro e w4 ⟨rfl, hb4⟩; have hbel := Lib.hid (hbel.out.trans (hb4.mono hbel.out.size)); have hBw := Lib.hid (hBw.out.trans (hb4.mono (Nat.le_trans hn0 hBw.out.size))))
        try dsimp only
        refine hK.out _ _ (⟨kept_row hHeld.1 hb4, kept_row hHeld.2 hb4⟩) (fun hHeld2 => ?_)
        clear hK K hHeld
        have hHeld := hHeld2
        clear hHeld2
        try simp only [Go.Last.pt]
        refine Go.Last.held 5 (by kernel_rfl) rfl (fun K hK => ?_)
        go_simp
        try dsimp only
        refine hK.out _ _ (hHeld) (fun hHeld2 => ?_)
        clear hK K hHeld
        have hHeld := hHeld2
        clear hHeld2
        try simp only [Go.Last.pt]
        refine Go.Last.held 6 (by kernel_rfl) rfl (fun K hK => ?_)
        go_simp
        try dsimp only
        refine hK.out _ _ (hHeld) (fun hHeld2 => ?_)
        clear hK K hHeld
        have hHeld := hHeld2
        clear hHeld2
        try simp only [Go.Last.pt]
        refine Go.Last.held 7 (by kernel_rfl) rfl (fun K hK => ?_)
        go_simp
        (go_at_call 49; (with_reducible refine (cL.out _).mono ?_); rintro e w7 ⟨rfl, hb7⟩; have hbel := Lib.hid (hbel.out.trans (hb7.mono hbel.out.size)); have hBw := Lib.hid (hBw.out.trans (hb7.mono (Nat.le_trans hn0 hBw.out.size))))
        try dsimp only
        refine hK.out _ _ (⟨kept_row hHeld.1 hb7, kept_row hHeld.2 hb7⟩) (fun hHeld2 => ?_)
        clear hK K hHeld
        have hHeld := hHeld2
        clear hHeld2
        try simp only [Go.Last.pt]
        refine Go.Last.held 8 (by kernel_rfl) rfl (fun K hK => ?_)
        go_simp
        try dsimp only
        refine hK.out _ _ (hHeld) (fun hHeld2 => ?_)
        clear hK K hHeld
        have hHeld := hHeld2
        clear hHeld2
        try simp only [Go.Last.pt]
        refine wpAnyH_done (by kernel_rfl) ?_ _
        go_wp2
        go_roundw
        case rel => exact ⟨j + 1, by omega, by rw [hs.out], by go_num, hbel, Lib.hid hHeld.1⟩
        case measure => simp [intOf]; omega
    · obtain rfl : j = ks.length := by omega
      obtain ⟨z5, -⟩ := cells_of hbx.out 5 _ rfl
      go_wp2
      go_ret
      exact ⟨rfl, hbel.out⟩
end Go.Proofs.YtaebhbcamhmhoaaDoor
namespace Go.Proofs.YtaebhbcamhmhoaaDoor
open Go.RowKit
open Go.Tree7
open S7
open S5 (nl nl_length nl_small at_nl nl_at Gives idx idx_at ix ix_no ix_yes)
/-- What is told of any tree. -/
noncomputable def lgR (n : T) : Lg := if rightB n = true then lgT n else voidL
theorem all_right {n : T} (h : rightB n = true) : T.All (fun t => T.ok t = true) n := (right_all ((rightB_iff n).1 h)).1
theorem lgR_eq (n : T) : lgR n = ⟨leastR n, mostR n, firstR false n, firstR true n, alphaR n⟩ := by
  unfold lgR leastR mostR firstR alphaR voidR
  cases hR : rightB n with
  | false => rfl
  | true =>
    rw [if_pos rfl]
    unfold lgT
    cases voidT n <;> rfl
theorem void_least (n : T) : voidR n = (leastR n == -1) := by
  unfold leastR
  cases hv : voidR n with
  | true => rfl
  | false =>
    rw [if_neg (by simp)]
    unfold voidR at hv
    rw [Bool.or_eq_false_iff] at hv
    have := (least_within (all_right (by simpa using hv.1)) hv.2).1
    symm
    rw [beq_eq_false_iff_ne]
    omega
theorem null_leastR (n : T) : (rightB n && nullT n) = (leastR n == 0) := by
  unfold leastR voidR
  cases hR : rightB n with
  | false => rfl
  | true =>
    have hA := all_right hR
    cases hv : voidT n with
    | true => rw [null_void hA hv]; rfl
    | false =>
      have := null_least hA hv
      simp only [Bool.not_true, Bool.or_false, Bool.false_eq_true, if_false, Bool.true_and]
      rw [Bool.eq_iff_iff, this, beq_iff_eq]
set_option maxHeartbeats 4000000 in
theorem of9_in {n : T} {w : World} (hT : T.In w w.heap.size n) : Calls Tryd.prog 29 #[.agg n.cells.toArray] w fun e w' => e = .returned (.agg #[.int .i64 (leastR n), .int .i64 (mostR n), .int .u64 (S1.wd (firstR false n) 0), .int .u64 (S1.wd (firstR false n) 1), .int .u64 (S1.wd (firstR false n) 2), .int .u64 (S1.wd (firstR false n) 3), .int .u64 (S1.wd (firstR true n) 0), .int .u64 (S1.wd (firstR true n) 1), .int .u64 (S1.wd (firstR true n) 2), .int .u64 (S1.wd (firstR true n) 3), .int .u64 (S1.wd (alphaR n) 0), .int .u64 (S1.wd (alphaR n) 1), .int .u64 (S1.wd (alphaR n) 2), .int .u64 (S1.wd (alphaR n) 3)]) ∧ Below w.heap.size w w' := by
  have hR := fun W (hb : Bel w W) => right_in (in_bel hT hb)
  have e := lgR_eq n
  have cE := fun w => void9_in w
  unfold lgR at e
  cases hr : rightB n with
  | false =>
    rw [hr] at hR e
    rw [if_neg (by simp)] at e
    rw [e] at cE
    simp only at cE
    clear hT e hr
    generalize leastR n = a0 at *
    generalize mostR n = a1 at *
    generalize firstR false n = a2 at *
    generalize firstR true n = a3 at *
    generalize alphaR n = a4 at *
    cases n with
    | mk k u0 u1 u2 u3 p cap mn mx tx ks =>
      simp only [T.cells] at hR ⊢
      obtain ⟨h1, h2, h4⟩ := two_new w #[.int .i64 k, .int .u64 u0, .int .u64 u1, .int .u64 u2, .int .u64 u3, .slice p ks.length cap, .int .i64 mn, .int .i64 mx, .string tx] #[.int .i64 0, .int .i64 0, .int .u64 0, .int .u64 0, .int .u64 0, .int .u64 0, .int .u64 0, .int .u64 0, .int .u64 0, .int .u64 0, .int .u64 0, .int .u64 0, .int .u64 0, .int .u64 0] 27 57
      have hbr := Lib.hid h2
      have hbel := Lib.hid h4
      have hq := Lib.hid (show Bel w ((w.alloc (.cells #[.int .i64 k, .int .u64 u0, .int .u64 u1, .int .u64 u2, .int .u64 u3, .slice p ks.length cap, .int .i64 mn, .int .i64 mx, .string tx] 27)).alloc (.cells #[.int .i64 0, .int .i64 0, .int .u64 0, .int .u64 0, .int .u64 0, .int .u64 0, .int .u64 0, .int .u64 0, .int .u64 0, .int .u64 0, .int .u64 0, .int .u64 0, .int .u64 0, .int .u64 0] 57)) from h4)
      clear h1 h2 h4
      replace hR := Lib.hid hR
      replace cE := Lib.hid cE
      go_enter Tryd.func29, Tryd.ntmps29
      go_wp2_with (first | (go_at_call 15; (with_reducible refine (hR.out _ hq.out).mono ?_); rintro e w1 ⟨rfl, hb1⟩; replace hbr := Lib.hid (kept_row hbr.out hb1); replace hbel := Lib.hid (hbel.out.trans (hb1.mono hbel.out.size)); clear hb1) | (go_at_call 42; (with_reducible refine (cE.out _).mono ?_); rintro e w1 ⟨rfl, hb1⟩; replace hbr := Lib.hid (kept_row hbr.out hb1); replace hbel := Lib.hid (hbel.out.trans (hb1.mono hbel.out.size)); clear hb1; obtain ⟨y0, f0, y1, f1, y2, f2, y3, f3, y4, f4, y5, f5, y6, f6, y7, f7, y8, f8, y9, f9, y10, f10, y11, f11, y12, f12, y13, f13⟩ := d14 hbr.out))
      clear y0 y1 y2 y3 y4 y5 y6 y7 y8 y9 y10 y11 y12 y13 f0 f1 f2 f3 f4 f5 f6 f7 f8 f9 f10 f11 f12 f13
      obtain ⟨q1, q2, q3, q4⟩ := set14 (d0 := .int .i64 a0) (d1 := .int .i64 a1) (d2 := .int .u64 (S1.wd (a2) 0)) (d3 := .int .u64 (S1.wd (a2) 1)) (d4 := .int .u64 (S1.wd (a2) 2)) (d5 := .int .u64 (S1.wd (a2) 3)) (d6 := .int .u64 (S1.wd (a3) 0)) (d7 := .int .u64 (S1.wd (a3) 1)) (d8 := .int .u64 (S1.wd (a3) 2)) (d9 := .int .u64 (S1.wd (a3) 3)) (d10 := .int .u64 (S1.wd (a4) 0)) (d11 := .int .u64 (S1.wd (a4) 1)) (d12 := .int .u64 (S1.wd (a4) 2)) (d13 := .int .u64 (S1.wd (a4) 3)) hbr.out _ rfl
      generalize hW : World.setCell _ (⟨w.heap.size + 1, 13, none⟩ : Addr) _ = W9 at *
      clear hW
      obtain ⟨o0, o1, o2, o3, o4, o5, o6, o7, o8, o9, o10, o11, o12, o13⟩ := c14 q1
      refine bodyPost_ret (v := .agg #[.int .i64 a0, .int .i64 a1, .int .u64 (S1.wd (a2) 0), .int .u64 (S1.wd (a2) 1), .int .u64 (S1.wd (a2) 2), .int .u64 (S1.wd (a2) 3), .int .u64 (S1.wd (a3) 0), .int .u64 (S1.wd (a3) 1), .int .u64 (S1.wd (a3) 2), .int .u64 (S1.wd (a3) 3), .int .u64 (S1.wd (a4) 0), .int .u64 (S1.wd (a4) 1), .int .u64 (S1.wd (a4) 2), .int .u64 (S1.wd (a4) 3)]) (by simp [results, Tryd.results29, go_sem, o0, o1, o2, o3, o4, o5, o6, o7, o8, o9, o10, o11, o12, o13]) rfl ?_
      exact ⟨rfl, hbel.out.trans (q4 _ (by omega))⟩
  | true =>
    have cD := fun W (hb : Below w.heap.size w W) => derived9_in (Nat.le_refl _) n (all_right hr) hT W hb
    rw [hr] at hR e
    rw [if_pos rfl] at e
    rw [e] at cD
    simp only at cD
    clear hT e hr cE
    generalize leastR n = a0 at *
    generalize mostR n = a1 at *
    generalize firstR false n = a2 at *
    generalize firstR true n = a3 at *
    generalize alphaR n = a4 at *
    cases n with
    | mk k u0 u1 u2 u3 p cap mn mx tx ks =>
      simp only [T.cells] at hR cD ⊢
      obtain ⟨h1, h2, h4⟩ := two_new w #[.int .i64 k, .int .u64 u0, .int .u64 u1, .int .u64 u2, .int .u64 u3, .slice p ks.length cap, .int .i64 mn, .int .i64 mx, .string tx] #[.int .i64 0, .int .i64 0, .int .u64 0, .int .u64 0, .int .u64 0, .int .u64 0, .int .u64 0, .int .u64 0, .int .u64 0, .int .u64 0, .int .u64 0, .int .u64 0, .int .u64 0, .int .u64 0] 27 57
      have hbn := Lib.hid h1
      have hbr := Lib.hid h2
      have hbel := Lib.hid h4
      have hq := Lib.hid (show Bel w ((w.alloc (.cells #[.int .i64 k, .int .u64 u0, .int .u64 u1, .int .u64 u2, .int .u64 u3, .slice p ks.length cap, .int .i64 mn, .int .i64 mx, .string tx] 27)).alloc (.cells #[.int .i64 0, .int .i64 0, .int .u64 0, .int .u64 0, .int .u64 0, .int .u64 0, .int .u64 0, .int .u64 0, .int .u64 0, .int .u64 0, .int .u64 0, .int .u64 0, .int .u64 0, .int .u64 0] 57)) from h4)
      clear h1 h2 h4
      replace hR := Lib.hid hR
      replace cD := Lib.hid cD
      go_enter Tryd.func29, Tryd.ntmps29
      go_wp2_with (first | (go_at_call 15; (with_reducible refine (hR.out _ hq.out).mono ?_); rintro e w1 ⟨rfl, hb1⟩; replace hbn := Lib.hid (kept_row hbn.out hb1); replace hbr := Lib.hid (kept_row hbr.out hb1); replace hbel := Lib.hid (hbel.out.trans (hb1.mono hbel.out.size)); clear hb1; obtain ⟨n0, n1, n2, n3, n4, n5, n6, n7, n8⟩ := c9 hbn.out) | (go_at_call 43; (with_reducible refine (cD.out _ hbel.out).mono ?_); rintro e w1 ⟨rfl, hb1⟩; replace hbr := Lib.hid (kept_row hbr.out hb1); replace hbel := Lib.hid (hbel.out.trans (hb1.mono hbel.out.size)); clear hb1; obtain ⟨y0, f0, y1, f1, y2, f2, y3, f3, y4, f4, y5, f5, y6, f6, y7, f7, y8, f8, y9, f9, y10, f10, y11, f11, y12, f12, y13, f13⟩ := d14 hbr.out))
      clear y0 y1 y2 y3 y4 y5 y6 y7 y8 y9 y10 y11 y12 y13 f0 f1 f2 f3 f4 f5 f6 f7 f8 f9 f10 f11 f12 f13
      obtain ⟨q1, q2, q3, q4⟩ := set14 (d0 := .int .i64 a0) (d1 := .int .i64 a1) (d2 := .int .u64 (S1.wd (a2) 0)) (d3 := .int .u64 (S1.wd (a2) 1)) (d4 := .int .u64 (S1.wd (a2) 2)) (d5 := .int .u64 (S1.wd (a2) 3)) (d6 := .int .u64 (S1.wd (a3) 0)) (d7 := .int .u64 (S1.wd (a3) 1)) (d8 := .int .u64 (S1.wd (a3) 2)) (d9 := .int .u64 (S1.wd (a3) 3)) (d10 := .int .u64 (S1.wd (a4) 0)) (d11 := .int .u64 (S1.wd (a4) 1)) (d12 := .int .u64 (S1.wd (a4) 2)) (d13 := .int .u64 (S1.wd (a4) 3)) hbr.out _ rfl
      generalize hW : World.setCell _ (⟨w.heap.size + 1, 13, none⟩ : Addr) _ = W9 at *
      clear hW
      obtain ⟨o0, o1, o2, o3, o4, o5, o6, o7, o8, o9, o10, o11, o12, o13⟩ := c14 q1
      refine bodyPost_ret (v := .agg #[.int .i64 a0, .int .i64 a1, .int .u64 (S1.wd (a2) 0), .int .u64 (S1.wd (a2) 1), .int .u64 (S1.wd (a2) 2), .int .u64 (S1.wd (a2) 3), .int .u64 (S1.wd (a3) 0), .int .u64 (S1.wd (a3) 1), .int .u64 (S1.wd (a3) 2), .int .u64 (S1.wd (a3) 3), .int .u64 (S1.wd (a4) 0), .int .u64 (S1.wd (a4) 1), .int .u64 (S1.wd (a4) 2), .int .u64 (S1.wd (a4) 3)]) (by simp [results, Tryd.results29, go_sem, o0, o1, o2, o3, o4, o5, o6, o7, o8, o9, o10, o11, o12, o13]) rfl ?_
      exact ⟨rfl, hbel.out.trans (q4 _ (by omega))⟩
end Go.Proofs.YtaebhbcamhmhoaaDoor
namespace Go.Proofs.YtaebhbcamhmhoaaDoor
open Go.RowKit
open Go.Tree7
open S7
open S5 (nl nl_length nl_small at_nl nl_at Gives idx idx_at ix ix_no ix_yes)
set_option maxRecDepth 100000 in
set_option maxHeartbeats 2000000 in
theorem void_in : void_holds := by
  intro n w hT
  have hO := fun W (hb : Bel w W) => of9_in (in_bel hT hb)
  rw [void_least]
  have hG := fun W => lvoid_in ⟨leastR n, mostR n, firstR false n, firstR true n, alphaR n⟩ W
  simp only at hG
  clear hT
  generalize leastR n = a0 at *
  generalize mostR n = a1 at *
  generalize firstR false n = a2 at *
  generalize firstR true n = a3 at *
  generalize alphaR n = a4 at *
  cases n with
  | mk k u0 u1 u2 u3 p cap mn mx tx ks =>
    simp only [T.cells] at hO ⊢
    have hbn := Lib.hid (World.alloc_heap_new w (.cells #[.int .i64 k, .int .u64 u0, .int .u64 u1, .int .u64 u2, .int .u64 u3, .slice p ks.length cap, .int .i64 mn, .int .i64 mx, .string tx] 27))
    have hq := Lib.hid (Bel.new w (.cells #[.int .i64 k, .int .u64 u0, .int .u64 u1, .int .u64 u2, .int .u64 u3, .slice p ks.length cap, .int .i64 mn, .int .i64 mx, .string tx] 27))
    have hbel := Lib.hid (show Below w.heap.size w (w.alloc (.cells #[.int .i64 k, .int .u64 u0, .int .u64 u1, .int .u64 u2, .int .u64 u3, .slice p ks.length cap, .int .i64 mn, .int .i64 mx, .string tx] 27)) from (Below.refl _ _).alloc (Nat.le_refl _) _)
    replace hO := Lib.hid hO
    replace hG := Lib.hid hG
    go_enter Tryd.func16, Tryd.ntmps16
    go_wp2_with (first | (go_at_call 29; (with_reducible refine (hO.out _ hq.out).mono ?_); rintro e w1 ⟨rfl, hb1⟩; replace hbel := Lib.hid (hbel.out.trans (hb1.mono hbel.out.size))) | (go_at_call 32; (with_reducible refine (hG.out _).mono ?_); rintro e w2 ⟨rfl, hb2⟩; replace hbel := Lib.hid (hbel.out.trans (hb2.mono hbel.out.size))))
    go_ret
    exact ⟨rfl, hbel.out⟩
set_option maxRecDepth 100000 in
set_option maxHeartbeats 2000000 in
theorem nullable_in : nullable_holds := by
  intro n w hT
  have hO := fun W (hb : Bel w W) => of9_in (in_bel hT hb)
  rw [null_leastR]
  have hG := fun W => lnull_in ⟨leastR n, mostR n, firstR false n, firstR true n, alphaR n⟩ W
  simp only at hG
  clear hT
  generalize leastR n = a0 at *
  generalize mostR n = a1 at *
  generalize firstR false n = a2 at *
  generalize firstR true n = a3 at *
  generalize alphaR n = a4 at *
  cases n with
  | mk k u0 u1 u2 u3 p cap mn mx tx ks =>
    simp only [T.cells] at hO ⊢
    have hbn := Lib.hid (World.alloc_heap_new w (.cells #[.int .i64 k, .int .u64 u0, .int .u64 u1, .int .u64 u2, .int .u64 u3, .slice p ks.length cap, .int .i64 mn, .int .i64 mx, .string tx] 27))
    have hq := Lib.hid (Bel.new w (.cells #[.int .i64 k, .int .u64 u0, .int .u64 u1, .int .u64 u2, .int .u64 u3, .slice p ks.length cap, .int .i64 mn, .int .i64 mx, .string tx] 27))
    have hbel := Lib.hid (show Below w.heap.size w (w.alloc (.cells #[.int .i64 k, .int .u64 u0, .int .u64 u1, .int .u64 u2, .int .u64 u3, .slice p ks.length cap, .int .i64 mn, .int .i64 mx, .string tx] 27)) from (Below.refl _ _).alloc (Nat.le_refl _) _)
    replace hO := Lib.hid hO
    replace hG := Lib.hid hG
    go_enter Tryd.func17, Tryd.ntmps17
    go_wp2_with (first | (go_at_call 29; (with_reducible refine (hO.out _ hq.out).mono ?_); rintro e w1 ⟨rfl, hb1⟩; replace hbel := Lib.hid (hbel.out.trans (hb1.mono hbel.out.size))) | (go_at_call 33; (with_reducible refine (hG.out _).mono ?_); rintro e w2 ⟨rfl, hb2⟩; replace hbel := Lib.hid (hbel.out.trans (hb2.mono hbel.out.size))))
    go_ret
    exact ⟨rfl, hbel.out⟩
set_option maxRecDepth 100000 in
set_option maxHeartbeats 2000000 in
theorem least_in : least_holds := by
  intro n w hT
  have hO := fun W (hb : Bel w W) => of9_in (in_bel hT hb)
  clear hT
  generalize leastR n = a0 at *
  generalize mostR n = a1 at *
  generalize firstR false n = a2 at *
  generalize firstR true n = a3 at *
  generalize alphaR n = a4 at *
  cases n with
  | mk k u0 u1 u2 u3 p cap mn mx tx ks =>
    simp only [T.cells] at hO ⊢
    have hbn := Lib.hid (World.alloc_heap_new w (.cells #[.int .i64 k, .int .u64 u0, .int .u64 u1, .int .u64 u2, .int .u64 u3, .slice p ks.length cap, .int .i64 mn, .int .i64 mx, .string tx] 27))
    have hq := Lib.hid (Bel.new w (.cells #[.int .i64 k, .int .u64 u0, .int .u64 u1, .int .u64 u2, .int .u64 u3, .slice p ks.length cap, .int .i64 mn, .int .i64 mx, .string tx] 27))
    have hbel := Lib.hid (show Below w.heap.size w (w.alloc (.cells #[.int .i64 k, .int .u64 u0, .int .u64 u1, .int .u64 u2, .int .u64 u3, .slice p ks.length cap, .int .i64 mn, .int .i64 mx, .string tx] 27)) from (Below.refl _ _).alloc (Nat.le_refl _) _)
    replace hO := Lib.hid hO
    have hfd : ∀ w : World, (Instr.field 57 (.agg #[.int .i64 a0, .int .i64 a1, .int .u64 (S1.wd (a2) 0), .int .u64 (S1.wd (a2) 1), .int .u64 (S1.wd (a2) 2), .int .u64 (S1.wd (a2) 3), .int .u64 (S1.wd (a3) 0), .int .u64 (S1.wd (a3) 1), .int .u64 (S1.wd (a3) 2), .int .u64 (S1.wd (a3) 3), .int .u64 (S1.wd (a4) 0), .int .u64 (S1.wd (a4) 1), .int .u64 (S1.wd (a4) 2), .int .u64 (S1.wd (a4) 3)]) 0).run Tryd.prog w = .ok (.int .i64 a0) w := fun _ => by kernel_rfl
    go_enter Tryd.func20, Tryd.ntmps20
    go_wp2_with (go_at_call 29; (with_reducible refine (hO.out _ hq.out).mono ?_); rintro e w1 ⟨rfl, hb1⟩; replace hbel := Lib.hid (hbel.out.trans (hb1.mono hbel.out.size)))
    go_ret
    exact ⟨rfl, hbel.out⟩
set_option maxRecDepth 100000 in
set_option maxHeartbeats 2000000 in
theorem most_in : most_holds := by
  intro n w hT
  have hO := fun W (hb : Bel w W) => of9_in (in_bel hT hb)
  clear hT
  generalize leastR n = a0 at *
  generalize mostR n = a1 at *
  generalize firstR false n = a2 at *
  generalize firstR true n = a3 at *
  generalize alphaR n = a4 at *
  cases n with
  | mk k u0 u1 u2 u3 p cap mn mx tx ks =>
    simp only [T.cells] at hO ⊢
    have hbn := Lib.hid (World.alloc_heap_new w (.cells #[.int .i64 k, .int .u64 u0, .int .u64 u1, .int .u64 u2, .int .u64 u3, .slice p ks.length cap, .int .i64 mn, .int .i64 mx, .string tx] 27))
    have hq := Lib.hid (Bel.new w (.cells #[.int .i64 k, .int .u64 u0, .int .u64 u1, .int .u64 u2, .int .u64 u3, .slice p ks.length cap, .int .i64 mn, .int .i64 mx, .string tx] 27))
    have hbel := Lib.hid (show Below w.heap.size w (w.alloc (.cells #[.int .i64 k, .int .u64 u0, .int .u64 u1, .int .u64 u2, .int .u64 u3, .slice p ks.length cap, .int .i64 mn, .int .i64 mx, .string tx] 27)) from (Below.refl _ _).alloc (Nat.le_refl _) _)
    replace hO := Lib.hid hO
    have hfd : ∀ w : World, (Instr.field 57 (.agg #[.int .i64 a0, .int .i64 a1, .int .u64 (S1.wd (a2) 0), .int .u64 (S1.wd (a2) 1), .int .u64 (S1.wd (a2) 2), .int .u64 (S1.wd (a2) 3), .int .u64 (S1.wd (a3) 0), .int .u64 (S1.wd (a3) 1), .int .u64 (S1.wd (a3) 2), .int .u64 (S1.wd (a3) 3), .int .u64 (S1.wd (a4) 0), .int .u64 (S1.wd (a4) 1), .int .u64 (S1.wd (a4) 2), .int .u64 (S1.wd (a4) 3)]) 1).run Tryd.prog w = .ok (.int .i64 a1) w := fun _ => by kernel_rfl
    go_enter Tryd.func21, Tryd.ntmps21
    go_wp2_with (go_at_call 29; (with_reducible refine (hO.out _ hq.out).mono ?_); rintro e w1 ⟨rfl, hb1⟩; replace hbel := Lib.hid (hbel.out.trans (hb1.mono hbel.out.size)))
    go_ret
    exact ⟨rfl, hbel.out⟩
set_option maxRecDepth 100000 in
set_option maxHeartbeats 2000000 in
theorem first_in : first_holds := by
  intro n w hT
  have hO := fun W (hb : Bel w W) => of9_in (in_bel hT hb)
  clear hT
  generalize leastR n = a0 at *
  generalize mostR n = a1 at *
  generalize firstR false n = a2 at *
  generalize firstR true n = a3 at *
  generalize alphaR n = a4 at *
  cases n with
  | mk k u0 u1 u2 u3 p cap mn mx tx ks =>
    simp only [T.cells] at hO ⊢
    obtain ⟨h1, h2, h4⟩ := two_new w #[.int .i64 k, .int .u64 u0, .int .u64 u1, .int .u64 u2, .int .u64 u3, .slice p ks.length cap, .int .i64 mn, .int .i64 mx, .string tx] #[.int .u64 0, .int .u64 0, .int .u64 0, .int .u64 0] 27 24
    have hbr := Lib.hid h2
    have hbel := Lib.hid h4
    have hq := Lib.hid (show Bel w ((w.alloc (.cells #[.int .i64 k, .int .u64 u0, .int .u64 u1, .int .u64 u2, .int .u64 u3, .slice p ks.length cap, .int .i64 mn, .int .i64 mx, .string tx] 27)).alloc (.cells #[.int .u64 0, .int .u64 0, .int .u64 0, .int .u64 0] 24)) from h4)
    clear h1 h2 h4
    replace hO := Lib.hid hO
    have hfd : ∀ w : World, (Instr.field 57 (.agg #[.int .i64 a0, .int .i64 a1, .int .u64 (S1.wd (a2) 0), .int .u64 (S1.wd (a2) 1), .int .u64 (S1.wd (a2) 2), .int .u64 (S1.wd (a2) 3), .int .u64 (S1.wd (a3) 0), .int .u64 (S1.wd (a3) 1), .int .u64 (S1.wd (a3) 2), .int .u64 (S1.wd (a3) 3), .int .u64 (S1.wd (a4) 0), .int .u64 (S1.wd (a4) 1), .int .u64 (S1.wd (a4) 2), .int .u64 (S1.wd (a4) 3)]) 2).run Tryd.prog w = .ok (.agg #[.int .u64 (S1.wd (a2) 0), .int .u64 (S1.wd (a2) 1), .int .u64 (S1.wd (a2) 2), .int .u64 (S1.wd (a2) 3)]) w := fun _ => by kernel_rfl
    go_enter Tryd.func12, Tryd.ntmps12
    go_wp2_with (go_at_call 29; (with_reducible refine (hO.out _ hq.out).mono ?_); rintro e w1 ⟨rfl, hb1⟩; replace hbr := Lib.hid (kept_row hbr.out hb1); replace hbel := Lib.hid (hbel.out.trans (hb1.mono hbel.out.size)); obtain ⟨y0, f0, y1, f1, y2, f2, y3, f3⟩ := d4 hbr.out)
    clear y0 y1 y2 y3 f0 f1 f2 f3
    obtain ⟨q1, q2, q3, q4⟩ := set4 (d0 := .int .u64 (S1.wd (a2) 0)) (d1 := .int .u64 (S1.wd (a2) 1)) (d2 := .int .u64 (S1.wd (a2) 2)) (d3 := .int .u64 (S1.wd (a2) 3)) hbr.out _ rfl
    generalize hW : World.setCell _ (⟨w.heap.size + 1, 3, none⟩ : Addr) _ = W9 at *
    clear hW
    have hk9 := cells_of q1
    obtain ⟨z0, -⟩ := hk9 0 _ rfl
    obtain ⟨z1, -⟩ := hk9 1 _ rfl
    obtain ⟨z2, -⟩ := hk9 2 _ rfl
    obtain ⟨z3, -⟩ := hk9 3 _ rfl
    clear hk9
    refine bodyPost_ret (v := .agg #[.int .u64 (S1.wd (a2) 0), .int .u64 (S1.wd (a2) 1), .int .u64 (S1.wd (a2) 2), .int .u64 (S1.wd (a2) 3)]) (by simp [results, Tryd.results12, go_sem, z0, z1, z2, z3]) rfl ?_
    exact ⟨rfl, hbel.out.trans (q4 _ (by omega))⟩
set_option maxRecDepth 100000 in
set_option maxHeartbeats 2000000 in
theorem last_in : last_holds := by
  intro n w hT
  have hO := fun W (hb : Bel w W) => of9_in (in_bel hT hb)
  clear hT
  generalize leastR n = a0 at *
  generalize mostR n = a1 at *
  generalize firstR false n = a2 at *
  generalize firstR true n = a3 at *
  generalize alphaR n = a4 at *
  cases n with
  | mk k u0 u1 u2 u3 p cap mn mx tx ks =>
    simp only [T.cells] at hO ⊢
    obtain ⟨h1, h2, h4⟩ := two_new w #[.int .i64 k, .int .u64 u0, .int .u64 u1, .int .u64 u2, .int .u64 u3, .slice p ks.length cap, .int .i64 mn, .int .i64 mx, .string tx] #[.int .u64 0, .int .u64 0, .int .u64 0, .int .u64 0] 27 24
    have hbr := Lib.hid h2
    have hbel := Lib.hid h4
    have hq := Lib.hid (show Bel w ((w.alloc (.cells #[.int .i64 k, .int .u64 u0, .int .u64 u1, .int .u64 u2, .int .u64 u3, .slice p ks.length cap, .int .i64 mn, .int .i64 mx, .string tx] 27)).alloc (.cells #[.int .u64 0, .int .u64 0, .int .u64 0, .int .u64 0] 24)) from h4)
    clear h1 h2 h4
    replace hO := Lib.hid hO
    have hfd : ∀ w : World, (Instr.field 57 (.agg #[.int .i64 a0, .int .i64 a1, .int .u64 (S1.wd (a2) 0), .int .u64 (S1.wd (a2) 1), .int .u64 (S1.wd (a2) 2), .int .u64 (S1.wd (a2) 3), .int .u64 (S1.wd (a3) 0), .int .u64 (S1.wd (a3) 1), .int .u64 (S1.wd (a3) 2), .int .u64 (S1.wd (a3) 3), .int .u64 (S1.wd (a4) 0), .int .u64 (S1.wd (a4) 1), .int .u64 (S1.wd (a4) 2), .int .u64 (S1.wd (a4) 3)]) 3).run Tryd.prog w = .ok (.agg #[.int .u64 (S1.wd (a3) 0), .int .u64 (S1.wd (a3) 1), .int .u64 (S1.wd (a3) 2), .int .u64 (S1.wd (a3) 3)]) w := fun _ => by kernel_rfl
    go_enter Tryd.func13, Tryd.ntmps13
    go_wp2_with (go_at_call 29; (with_reducible refine (hO.out _ hq.out).mono ?_); rintro e w1 ⟨rfl, hb1⟩; replace hbr := Lib.hid (kept_row hbr.out hb1); replace hbel := Lib.hid (hbel.out.trans (hb1.mono hbel.out.size)); obtain ⟨y0, f0, y1, f1, y2, f2, y3, f3⟩ := d4 hbr.out)
    clear y0 y1 y2 y3 f0 f1 f2 f3
    obtain ⟨q1, q2, q3, q4⟩ := set4 (d0 := .int .u64 (S1.wd (a3) 0)) (d1 := .int .u64 (S1.wd (a3) 1)) (d2 := .int .u64 (S1.wd (a3) 2)) (d3 := .int .u64 (S1.wd (a3) 3)) hbr.out _ rfl
    generalize hW : World.setCell _ (⟨w.heap.size + 1, 3, none⟩ : Addr) _ = W9 at *
    clear hW
    have hk9 := cells_of q1
    obtain ⟨z0, -⟩ := hk9 0 _ rfl
    obtain ⟨z1, -⟩ := hk9 1 _ rfl
    obtain ⟨z2, -⟩ := hk9 2 _ rfl
    obtain ⟨z3, -⟩ := hk9 3 _ rfl
    clear hk9
    refine bodyPost_ret (v := .agg #[.int .u64 (S1.wd (a3) 0), .int .u64 (S1.wd (a3) 1), .int .u64 (S1.wd (a3) 2), .int .u64 (S1.wd (a3) 3)]) (by simp [results, Tryd.results13, go_sem, z0, z1, z2, z3]) rfl ?_
    exact ⟨rfl, hbel.out.trans (q4 _ (by omega))⟩
set_option maxRecDepth 100000 in
set_option maxHeartbeats 2000000 in
theorem alphabet_in : alphabet_holds := by
  intro n w hT
  have hO := fun W (hb : Bel w W) => of9_in (in_bel hT hb)
  clear hT
  generalize leastR n = a0 at *
  generalize mostR n = a1 at *
  generalize firstR false n = a2 at *
  generalize firstR true n = a3 at *
  generalize alphaR n = a4 at *
  cases n with
  | mk k u0 u1 u2 u3 p cap mn mx tx ks =>
    simp only [T.cells] at hO ⊢
    obtain ⟨h1, h2, h4⟩ := two_new w #[.int .i64 k, .int .u64 u0, .int .u64 u1, .int .u64 u2, .int .u64 u3, .slice p ks.length cap, .int .i64 mn, .int .i64 mx, .string tx] #[.int .u64 0, .int .u64 0, .int .u64 0, .int .u64 0] 27 24
    have hbr := Lib.hid h2
    have hbel := Lib.hid h4
    have hq := Lib.hid (show Bel w ((w.alloc (.cells #[.int .i64 k, .int .u64 u0, .int .u64 u1, .int .u64 u2, .int .u64 u3, .slice p ks.length cap, .int .i64 mn, .int .i64 mx, .string tx] 27)).alloc (.cells #[.int .u64 0, .int .u64 0, .int .u64 0, .int .u64 0] 24)) from h4)
    clear h1 h2 h4
    replace hO := Lib.hid hO
    have hfd : ∀ w : World, (Instr.field 57 (.agg #[.int .i64 a0, .int .i64 a1, .int .u64 (S1.wd (a2) 0), .int .u64 (S1.wd (a2) 1), .int .u64 (S1.wd (a2) 2), .int .u64 (S1.wd (a2) 3), .int .u64 (S1.wd (a3) 0), .int .u64 (S1.wd (a3) 1), .int .u64 (S1.wd (a3) 2), .int .u64 (S1.wd (a3) 3), .int .u64 (S1.wd (a4) 0), .int .u64 (S1.wd (a4) 1), .int .u64 (S1.wd (a4) 2), .int .u64 (S1.wd (a4) 3)]) 4).run Tryd.prog w = .ok (.agg #[.int .u64 (S1.wd (a4) 0), .int .u64 (S1.wd (a4) 1), .int .u64 (S1.wd (a4) 2), .int .u64 (S1.wd (a4) 3)]) w := fun _ => by kernel_rfl
    go_enter Tryd.func14, Tryd.ntmps14
    go_wp2_with (go_at_call 29; (with_reducible refine (hO.out _ hq.out).mono ?_); rintro e w1 ⟨rfl, hb1⟩; replace hbr := Lib.hid (kept_row hbr.out hb1); replace hbel := Lib.hid (hbel.out.trans (hb1.mono hbel.out.size)); obtain ⟨y0, f0, y1, f1, y2, f2, y3, f3⟩ := d4 hbr.out)
    clear y0 y1 y2 y3 f0 f1 f2 f3
    obtain ⟨q1, q2, q3, q4⟩ := set4 (d0 := .int .u64 (S1.wd (a4) 0)) (d1 := .int .u64 (S1.wd (a4) 1)) (d2 := .int .u64 (S1.wd (a4) 2)) (d3 := .int .u64 (S1.wd (a4) 3)) hbr.out _ rfl
    generalize hW : World.setCell _ (⟨w.heap.size + 1, 3, none⟩ : Addr) _ = W9 at *
    clear hW
    have hk9 := cells_of q1
    obtain ⟨z0, -⟩ := hk9 0 _ rfl
    obtain ⟨z1, -⟩ := hk9 1 _ rfl
    obtain ⟨z2, -⟩ := hk9 2 _ rfl
    obtain ⟨z3, -⟩ := hk9 3 _ rfl
    clear hk9
    refine bodyPost_ret (v := .agg #[.int .u64 (S1.wd (a4) 0), .int .u64 (S1.wd (a4) 1), .int .u64 (S1.wd (a4) 2), .int .u64 (S1.wd (a4) 3)]) (by simp [results, Tryd.results14, go_sem, z0, z1, z2, z3]) rfl ?_
    exact ⟨rfl, hbel.out.trans (q4 _ (by omega))⟩
set_option maxRecDepth 100000 in
set_option maxHeartbeats 2000000 in
theorem weight_in : weight_holds := by
  intro n w hT
  have hR := fun W (hb : Bel w W) => right_in (in_bel hT hb)
  unfold weightR
  cases hr : rightB n with
  | false =>
    rw [hr] at hR
    rw [if_neg (by simp)]
    clear hT hr
    cases n with
    | mk k u0 u1 u2 u3 p cap mn mx tx ks =>
      simp only [T.cells] at hR ⊢
      have hq := Lib.hid (Bel.new w (.cells #[.int .i64 k, .int .u64 u0, .int .u64 u1, .int .u64 u2, .int .u64 u3, .slice p ks.length cap, .int .i64 mn, .int .i64 mx, .string tx] 27))
      have hbel := Lib.hid (show Below w.heap.size w (w.alloc (.cells #[.int .i64 k, .int .u64 u0, .int .u64 u1, .int .u64 u2, .int .u64 u3, .slice p ks.length cap, .int .i64 mn, .int .i64 mx, .string tx] 27)) from (Below.refl _ _).alloc (Nat.le_refl _) _)
      replace hR := Lib.hid hR
      go_enter Tryd.func19, Tryd.ntmps19
      go_wp2_with (go_at_call 15; (with_reducible refine (hR.out _ hq.out).mono ?_); rintro e w1 ⟨rfl, hb1⟩; replace hbel := Lib.hid (hbel.out.trans (hb1.mono hbel.out.size)))
      go_ret
      exact ⟨rfl, hbel.out⟩
  | true =>
    have cD := fun W (hb : Below w.heap.size w W) => weight9_in (Nat.le_refl _) n (all_right hr) hT W hb
    rw [hr] at hR
    rw [if_pos rfl]
    clear hT hr
    generalize weightT n = X at *
    cases n with
    | mk k u0 u1 u2 u3 p cap mn mx tx ks =>
      simp only [T.cells] at hR cD ⊢
      have hbn := Lib.hid (World.alloc_heap_new w (.cells #[.int .i64 k, .int .u64 u0, .int .u64 u1, .int .u64 u2, .int .u64 u3, .slice p ks.length cap, .int .i64 mn, .int .i64 mx, .string tx] 27))
      have hq := Lib.hid (Bel.new w (.cells #[.int .i64 k, .int .u64 u0, .int .u64 u1, .int .u64 u2, .int .u64 u3, .slice p ks.length cap, .int .i64 mn, .int .i64 mx, .string tx] 27))
      have hbel := Lib.hid (show Below w.heap.size w (w.alloc (.cells #[.int .i64 k, .int .u64 u0, .int .u64 u1, .int .u64 u2, .int .u64 u3, .slice p ks.length cap, .int .i64 mn, .int .i64 mx, .string tx] 27)) from (Below.refl _ _).alloc (Nat.le_refl _) _)
      replace hR := Lib.hid hR
      replace cD := Lib.hid cD
      go_enter Tryd.func19, Tryd.ntmps19
      go_wp2_with (first | (go_at_call 15; (with_reducible refine (hR.out _ hq.out).mono ?_); rintro e w1 ⟨rfl, hb1⟩; replace hbn := Lib.hid (kept_row hbn.out hb1); replace hbel := Lib.hid (hbel.out.trans (hb1.mono hbel.out.size)); clear hb1; obtain ⟨n0, n1, n2, n3, n4, n5, n6, n7, n8⟩ := c9 hbn.out) | (go_at_call 34; (with_reducible refine (cD.out _ hbel.out).mono ?_); rintro e w2 ⟨rfl, hb2⟩; replace hbel := Lib.hid (hbel.out.trans (hb2.mono hbel.out.size))))
      go_ret
      exact ⟨rfl, hbel.out⟩
end Go.Proofs.YtaebhbcamhmhoaaDoor
