/- The walk of MarksPlay. -/
import Derived.Test.YtkdjojmegohonaaDoorW16
import Derived.Deep.DeepCutAuto
import Derived.Deep.CutBlock
namespace Go.Proofs.YtkdjojmegohonaaDoor
open Go.RowKit
theorem u31 : Tryd.prog.underlying 31 = some (.slice 4) := by kernel_rfl
theorem info4 : (Tryd.prog.info? 4).map (fun i => (i.zero, i.size, i.bytes)) = some (some (.bool false), 1, 1) := by kernel_rfl
theorem bls_no (k : Nat) : madeCells #[.bool false] k = bls noS k := by
  apply Array.toList_inj.1
  rw [toList_madeCells_one]
  apply List.ext_getElem?
  intro j
  by_cases hj : j < k
  · simp [bls, hj, noS]
  · simp [bls, hj]
/-- A slice of acts that came in. -/
def Acts (w : World) (a : Option Addr) (l : List (Int × Int × Bool)) : Prop := ∀ k (h : k < l.length), ∃ b o, a = some ⟨b, o, none⟩ ∧ b < w.heap.size ∧
  w.cell? ⟨b, o + k * 3, none⟩ = some (.int .i64 l[k].1) ∧ w.cell? ⟨b, o + k * 3 + 1, none⟩ = some (.int .i64 l[k].2.1) ∧ w.cell? ⟨b, o + k * 3 + 2, none⟩ = some (.bool l[k].2.2)

theorem heap4 (w : World) (A B C D : Obj) : ((((w.alloc A).alloc B).alloc C).alloc D).heap[w.heap.size]? = some A ∧ ((((w.alloc A).alloc B).alloc C).alloc D).heap[w.heap.size + 1]? = some B ∧
    ((((w.alloc A).alloc B).alloc C).alloc D).heap[w.heap.size + 1 + 1]? = some C ∧ ((((w.alloc A).alloc B).alloc C).alloc D).heap[w.heap.size + 1 + 1 + 1]? = some D := by
  have h1 := heap_alloc2_new ((w.alloc A).alloc B) C D
  have h2 := heap_alloc2_old ((w.alloc A).alloc B) C D
  have h3 := heap2 w A B
  simp only [World.size_alloc] at h1 h2
  refine ⟨?_, ?_, h2, h1⟩
  · rw [heap_alloc_old _ _ (by simp <;> omega), heap_alloc_old _ _ (by simp <;> omega), h3.1]
  · rw [heap_alloc_old _ _ (by simp <;> omega), heap_alloc_old _ _ (by simp <;> omega), h3.2]
theorem st_new {w w3 W : World} {bx gx by' gy A C vb vg wb wg : Nat} (hA : A ≤ 65536) (hC : C ≤ 65536) (hX : Mk w3 bx gx A noS) (hY : Mk w3 by' gy C noS) (hB : Below w.heap.size w w3) (hxy : bx < by' ∧ gx < by' ∧ bx < gy ∧ gx < gy) (hbB : w.heap.size ≤ bx ∧ w.heap.size ≤ gx)
    (hb : Below w3.heap.size w3 W) (v1 : W.heap[vb]? = some (.cells #[.slice (some ⟨vg, 0, none⟩) A A] 33 (0, 0))) (v2 : W.heap[vg]? = some (.cells (madeCells #[.bool false] A) 4 (0, 0)))
    (w1 : W.heap[wb]? = some (.cells #[.slice (some ⟨wg, 0, none⟩) C C] 33 (0, 0))) (w2 : W.heap[wg]? = some (.cells (madeCells #[.bool false] C) 4 (0, 0)))
    (h1 : w3.heap.size ≤ vb ∧ w3.heap.size ≤ vg ∧ w3.heap.size ≤ wb ∧ w3.heap.size ≤ wg) (h2 : vb < vg ∨ vg < vb) (h3 : wb < wg ∨ wg < wb) (h4 : vg < wg ∨ wg < vg) (h5 : vg < wb ∨ wb < vg) (h6 : wg < vb ∨ vb < wg) :
    St w w.heap.size vb vg wb wg by' gy A C bx gx noS noS W := by
  have lx := hX.lt
  have ly := hY.lt
  have nx := hX.ne
  have ny := hY.ne
  rw [bls_no] at v2 w2
  refine ⟨hX.bel hb (Nat.le_refl _), hY.bel hb (Nat.le_refl _), ⟨v1, v2, by omega, fun _ _ => rfl, hA⟩, ⟨w1, w2, by omega, fun _ _ => rfl, hC⟩,
    ⟨⟨by omega, by omega, by omega, by omega, by omega, by omega⟩, ⟨by omega, by omega, by omega, by omega, by omega, by omega⟩, ⟨by omega, by omega, by omega, by omega, by omega, by omega⟩, ⟨by omega, by omega, by omega, by omega, by omega, by omega⟩⟩, ?_, hB.trans (hb.mono hB.size)⟩
  intro k hk
  simp only [List.mem_cons, List.not_mem_nil, or_false] at hk
  have := hB.size
  omega
theorem cell_far {w w1 : World} {g ab : Nat} {v : Value} (hg : w.grownBy w1 (some g)) (h : w.cell? ⟨ab, 1, none⟩ = some v) (hlt : g < ab) : w1.cell? ⟨ab, 1, none⟩ = some v :=
  hg.cell h (by simp; omega)
theorem bound_of (p : Int) : ∃ A : Nat, wrap64 ((IntKind.u64.wrap p).tmod 200) = (A : Int) ∧ A < 200 := by
  have h0 : 0 ≤ IntKind.u64.wrap p := by rw [wrap_u64]; omega
  rw [Int.tmod_eq_emod_of_nonneg h0]
  refine ⟨(IntKind.u64.wrap p % 200).toNat, ?_, by omega⟩
  rw [IntWalk.wrap64_in _ ⟨by omega, by omega⟩]
  omega
set_option maxRecDepth 100000 in
set_option maxHeartbeats 8000000 in
theorem play_in (w : World) (hT : Tab w) (p q : Int) (hp : -9223372036854775808 ≤ p ∧ p ≤ 9223372036854775807) (hq : -9223372036854775808 ≤ q ∧ q ≤ 9223372036854775807) (a0 : Option Addr) (c0 : Nat) (l : List (Int × Int × Bool)) (hl : Acts w a0 l) (hlm : l.length ≤ 9223372036854775807) :
    Calls Tryd.prog 3 #[.int .i64 p, .int .i64 q, .slice a0 l.length c0] w fun e w' => e = .returned (.bool true) ∧ Below w.heap.size w w' := by
  obtain ⟨i0, hi, hz0, hz1, hz2⟩ := info_parts info4
  have AL := alive_in w hT
  by_cases h1 : 60 < l.length
  · have q1 : decide ((60 : Int) < l.length) = true := by simp; omega
    generalize l.length = n at *
    clear hl
    go_enter Tryd.func3, Tryd.ntmps3
    go_wp2_with (go_at_call 5; refine AL.mono ?_; rintro e w' ⟨rfl, hb⟩; replace hb := Lib.hid hb)
    go_ret
    exact ⟨rfl, hb.out⟩
  have q1 : decide ((60 : Int) < l.length) = false := by simp; omega
  replace hl := Lib.hid hl
  replace hT := Lib.hid hT
  generalize hn : l.length = n at *
  replace hn := Lib.hid hn
  go_enter Tryd.func3, Tryd.ntmps3
  go_wp2_with (go_at_call 5; refine AL.mono ?_; rintro e w1 ⟨rfl, hB⟩; replace hB := Lib.hid hB; clear AL)
  obtain ⟨A, hA, hAm⟩ := bound_of p
  obtain ⟨C, hC, hCm⟩ := bound_of q
  rw [hA, hC]
  clear hA hC
  refine (new_in A (by omega) w1).mono ?_
  rintro e w2 ⟨bx, gx, rfl, hX, hbx, hgx, hB2⟩
  dsimp only
  go_wp2_with fail
  refine (new_in C (by omega) w2).mono ?_
  rintro e w3 ⟨by', gy, rfl, hY, hby, hgy, hB3⟩
  dsimp only
  have lx := hX.lt
  have hs1 := hB.out.size
  have hs2 := hB2.size
  have hs3 := hB3.size
  replace hX := hX.bel hB3 (Nat.le_refl _)
  have ly := hY.lt
  replace hB := hB.out.trans ((hB2.mono hs1).trans (hB3.mono (Nat.le_trans hs1 hs2)))
  clear hB2 hB3
  replace hX := Lib.hid hX
  replace hY := Lib.hid hY
  replace hB := Lib.hid hB
  have m1 := fun (w : World) => run_make (P := Tryd.prog) w 31 4 i0 (.bool false) u31 hi hz0 .i64 .i64 (A : Int) (A : Int) (by omega) (Int.le_refl _) (by rw [hz2]; omega) (by omega)
  have m2 := fun (w : World) => run_make (P := Tryd.prog) w 31 4 i0 (.bool false) u31 hi hz0 .i64 .i64 (C : Int) (C : Int) (by omega) (Int.le_refl _) (by rw [hz2]; omega) (by omega)
  go_upto_region 10 with (fail)
  go_cut [11, 12] (fun s11 s12 wx => ∃ vb vg wb wg, s11 = .pointer (some ⟨vb, 0, none⟩) ∧ s12 = .pointer (some ⟨wb, 0, none⟩) ∧ St w w.heap.size vb vg wb wg by' gy A C bx gx noS noS wx)
  case first =>
    go_region
    all_goals as_aux_lemma =>
      go_wp2
      go_meet
      first
        | exact ⟨_, w3.heap.size, _, w3.heap.size + 1, rfl, rfl, st_new (by omega) (by omega) hX.out hY.out hB.out (by omega) (by omega) ((((((Below.refl _ _).alloc (Nat.le_refl _) _).alloc (by simp <;> omega) _).alloc (by simp <;> omega) _).alloc (by simp <;> omega) _)).drew (by first | exact (heap4 _ _ _ _ _).1 | exact (heap4 _ _ _ _ _).2.1 | exact (heap4 _ _ _ _ _).2.2.1 | exact (heap4 _ _ _ _ _).2.2.2) (by first | exact (heap4 _ _ _ _ _).1 | exact (heap4 _ _ _ _ _).2.1 | exact (heap4 _ _ _ _ _).2.2.1 | exact (heap4 _ _ _ _ _).2.2.2) (by first | exact (heap4 _ _ _ _ _).1 | exact (heap4 _ _ _ _ _).2.1 | exact (heap4 _ _ _ _ _).2.2.1 | exact (heap4 _ _ _ _ _).2.2.2) (by first | exact (heap4 _ _ _ _ _).1 | exact (heap4 _ _ _ _ _).2.1 | exact (heap4 _ _ _ _ _).2.2.1 | exact (heap4 _ _ _ _ _).2.2.2) (by omega) (by omega) (by omega) (by omega) (by omega) (by omega)⟩
        | exact ⟨_, w3.heap.size, _, w3.heap.size + 1 + 1, rfl, rfl, st_new (by omega) (by omega) hX.out hY.out hB.out (by omega) (by omega) ((((((Below.refl _ _).alloc (Nat.le_refl _) _).alloc (by simp <;> omega) _).alloc (by simp <;> omega) _).alloc (by simp <;> omega) _)).drew (by first | exact (heap4 _ _ _ _ _).1 | exact (heap4 _ _ _ _ _).2.1 | exact (heap4 _ _ _ _ _).2.2.1 | exact (heap4 _ _ _ _ _).2.2.2) (by first | exact (heap4 _ _ _ _ _).1 | exact (heap4 _ _ _ _ _).2.1 | exact (heap4 _ _ _ _ _).2.2.1 | exact (heap4 _ _ _ _ _).2.2.2) (by first | exact (heap4 _ _ _ _ _).1 | exact (heap4 _ _ _ _ _).2.1 | exact (heap4 _ _ _ _ _).2.2.1 | exact (heap4 _ _ _ _ _).2.2.2) (by first | exact (heap4 _ _ _ _ _).1 | exact (heap4 _ _ _ _ _).2.1 | exact (heap4 _ _ _ _ _).2.2.1 | exact (heap4 _ _ _ _ _).2.2.2) (by omega) (by omega) (by omega) (by omega) (by omega) (by omega)⟩
        | exact ⟨_, w3.heap.size + 1, _, w3.heap.size, rfl, rfl, st_new (by omega) (by omega) hX.out hY.out hB.out (by omega) (by omega) ((((((Below.refl _ _).alloc (Nat.le_refl _) _).alloc (by simp <;> omega) _).alloc (by simp <;> omega) _).alloc (by simp <;> omega) _)).drew (by first | exact (heap4 _ _ _ _ _).1 | exact (heap4 _ _ _ _ _).2.1 | exact (heap4 _ _ _ _ _).2.2.1 | exact (heap4 _ _ _ _ _).2.2.2) (by first | exact (heap4 _ _ _ _ _).1 | exact (heap4 _ _ _ _ _).2.1 | exact (heap4 _ _ _ _ _).2.2.1 | exact (heap4 _ _ _ _ _).2.2.2) (by first | exact (heap4 _ _ _ _ _).1 | exact (heap4 _ _ _ _ _).2.1 | exact (heap4 _ _ _ _ _).2.2.1 | exact (heap4 _ _ _ _ _).2.2.2) (by first | exact (heap4 _ _ _ _ _).1 | exact (heap4 _ _ _ _ _).2.1 | exact (heap4 _ _ _ _ _).2.2.1 | exact (heap4 _ _ _ _ _).2.2.2) (by omega) (by omega) (by omega) (by omega) (by omega) (by omega)⟩
        | exact ⟨_, w3.heap.size + 1, _, w3.heap.size + 1 + 1, rfl, rfl, st_new (by omega) (by omega) hX.out hY.out hB.out (by omega) (by omega) ((((((Below.refl _ _).alloc (Nat.le_refl _) _).alloc (by simp <;> omega) _).alloc (by simp <;> omega) _).alloc (by simp <;> omega) _)).drew (by first | exact (heap4 _ _ _ _ _).1 | exact (heap4 _ _ _ _ _).2.1 | exact (heap4 _ _ _ _ _).2.2.1 | exact (heap4 _ _ _ _ _).2.2.2) (by first | exact (heap4 _ _ _ _ _).1 | exact (heap4 _ _ _ _ _).2.1 | exact (heap4 _ _ _ _ _).2.2.1 | exact (heap4 _ _ _ _ _).2.2.2) (by first | exact (heap4 _ _ _ _ _).1 | exact (heap4 _ _ _ _ _).2.1 | exact (heap4 _ _ _ _ _).2.2.1 | exact (heap4 _ _ _ _ _).2.2.2) (by first | exact (heap4 _ _ _ _ _).1 | exact (heap4 _ _ _ _ _).2.1 | exact (heap4 _ _ _ _ _).2.2.1 | exact (heap4 _ _ _ _ _).2.2.2) (by omega) (by omega) (by omega) (by omega) (by omega) (by omega)⟩
        | exact ⟨_, w3.heap.size + 1 + 1, _, w3.heap.size, rfl, rfl, st_new (by omega) (by omega) hX.out hY.out hB.out (by omega) (by omega) ((((((Below.refl _ _).alloc (Nat.le_refl _) _).alloc (by simp <;> omega) _).alloc (by simp <;> omega) _).alloc (by simp <;> omega) _)).drew (by first | exact (heap4 _ _ _ _ _).1 | exact (heap4 _ _ _ _ _).2.1 | exact (heap4 _ _ _ _ _).2.2.1 | exact (heap4 _ _ _ _ _).2.2.2) (by first | exact (heap4 _ _ _ _ _).1 | exact (heap4 _ _ _ _ _).2.1 | exact (heap4 _ _ _ _ _).2.2.1 | exact (heap4 _ _ _ _ _).2.2.2) (by first | exact (heap4 _ _ _ _ _).1 | exact (heap4 _ _ _ _ _).2.1 | exact (heap4 _ _ _ _ _).2.2.1 | exact (heap4 _ _ _ _ _).2.2.2) (by first | exact (heap4 _ _ _ _ _).1 | exact (heap4 _ _ _ _ _).2.1 | exact (heap4 _ _ _ _ _).2.2.1 | exact (heap4 _ _ _ _ _).2.2.2) (by omega) (by omega) (by omega) (by omega) (by omega) (by omega)⟩
        | exact ⟨_, w3.heap.size + 1 + 1, _, w3.heap.size + 1, rfl, rfl, st_new (by omega) (by omega) hX.out hY.out hB.out (by omega) (by omega) ((((((Below.refl _ _).alloc (Nat.le_refl _) _).alloc (by simp <;> omega) _).alloc (by simp <;> omega) _).alloc (by simp <;> omega) _)).drew (by first | exact (heap4 _ _ _ _ _).1 | exact (heap4 _ _ _ _ _).2.1 | exact (heap4 _ _ _ _ _).2.2.1 | exact (heap4 _ _ _ _ _).2.2.2) (by first | exact (heap4 _ _ _ _ _).1 | exact (heap4 _ _ _ _ _).2.1 | exact (heap4 _ _ _ _ _).2.2.1 | exact (heap4 _ _ _ _ _).2.2.2) (by first | exact (heap4 _ _ _ _ _).1 | exact (heap4 _ _ _ _ _).2.1 | exact (heap4 _ _ _ _ _).2.2.1 | exact (heap4 _ _ _ _ _).2.2.2) (by first | exact (heap4 _ _ _ _ _).1 | exact (heap4 _ _ _ _ _).2.1 | exact (heap4 _ _ _ _ _).2.2.1 | exact (heap4 _ _ _ _ _).2.2.2) (by omega) (by omega) (by omega) (by omega) (by omega) (by omega)⟩
  case rest =>
    obtain ⟨vb, vg, wb, wg, rfl, rfl, hS⟩ := hcut
    replace hS := Lib.hid hS
    clear hX hY hB
    go_wp2_with fail
    go_loopw [7, 73] (fun s7 s73 wr => ∃ (k bx gx : Nat) (f h : Nat → Bool), k ≤ n ∧ s73 = .int .i64 k ∧ s7 = .pointer (some ⟨bx, 0, none⟩) ∧ St w w.heap.size vb vg wb wg by' gy A C bx gx f h wr) (fun _ s73 _ => n - (intOf s73).toNat)
    case atStart => exact ⟨0, bx, gx, noS, noS, Nat.zero_le _, rfl, rfl, hS.out⟩
    case round =>
      clear hS lx ly hs1 hs2 hs3 hbx hgx hby hgy bx gx m1 m2
      obtain ⟨k, bx, gx, f, h, hk, rfl, rfl, hS⟩ := hrel
      by_cases hlt : k < n
      · obtain ⟨bl, ol, rfl, hbl, e0, e1, e2⟩ := hl.out k (by rw [hn.out]; exact hlt)
        replace e0 := (hS.below.cell (p := ⟨bl, ol + k * 3, none⟩) hbl).trans e0
        replace e1 := (hS.below.cell (p := ⟨bl, ol + k * 3 + 1, none⟩) hbl).trans e1
        replace e2 := (hS.below.cell (p := ⟨bl, ol + k * 3 + 2, none⟩) hbl).trans e2
        generalize l[k]'(by rw [hn.out]; exact hlt) = act at *
        obtain ⟨K, N, Wh⟩ := act
        dsimp only at e0 e1 e2
        have hblw : bl < wr.heap.size := Nat.lt_of_lt_of_le hbl hS.below.size
        replace hS := Lib.hid hS
        have hS2 := hS.out.bel (show Bel wr (wr.alloc (Obj.cells #[Value.int IntKind.i64 K, Value.int IntKind.i64 N, Value.bool Wh] 35)) from (Below.refl _ _).alloc (Nat.le_refl _) _)
        have hc0 : (wr.alloc (Obj.cells #[Value.int IntKind.i64 K, Value.int IntKind.i64 N, Value.bool Wh] 35)).cell? ⟨wr.heap.size, 1, none⟩ = some (.int .i64 N) := by simp
        have hlt_gx : Hid (gx < wr.heap.size) := Lib.hid hS.out.x.lt.2
        have hlt_vg : Hid (vg < wr.heap.size) := Lib.hid hS.out.v.lt.2
        have hlt_gy : Hid (gy < wr.heap.size) := Lib.hid hS.out.y.lt.2
        have hlt_wg : Hid (wg < wr.heap.size) := Lib.hid hS.out.u.lt.2
        clear hS
        replace hS2 := Lib.hid hS2
        replace hc0 := Lib.hid hc0
        cases Wh
        · go_upto_block 2 with (fail)
          have hS := hS2.out
          have hc0' := hc0.out
          clear hS2 hc0 e0 e1 e2 hblw hbl
          revert hS hc0' hlt_gx hlt_vg hlt_gy hlt_wg
          generalize wr.alloc (Obj.cells #[Value.int IntKind.i64 K, Value.int IntKind.i64 N, Value.bool false] 35) = W2
          generalize wr.heap.size = ab
          intro hlt_gx hlt_vg hlt_gy hlt_wg hS hc0
          have hc0d : W2.drew.cell? ⟨ab, 1, none⟩ = some (.int .i64 N) := hc0
          replace hS := Lib.hid hS
          go_cut [7] (fun s7 wx => ∃ (bx' gx' : Nat) (f' h' : Nat → Bool), s7 = .pointer (some ⟨bx', 0, none⟩) ∧ St w w.heap.size vb vg wb wg by' gy A C bx' gx' f' h' wx ∧ wx.cell? ⟨ab, 1, none⟩ = some (.int .i64 N))
          case first =>
            by_cases hK0 : K = 0
            · subst hK0
              as_aux_lemma =>
                go_wp2_with fail
                go_region_held3 (fun w' => w'.cell? ⟨ab, 1, none⟩ = some (.int .i64 N)) (first | exact hc0 | exact hc0d | exact hc1 | exact hc2)
                  (first
                    | (go_at_call 7; refine (put_in hS.out.drew.x N).mono ?_; rintro e w1 ⟨rfl, hM1, hg1⟩; have hV1 := Lib.hid (hS.out.drew.midV hg1); have hc1 := cell_far hg1 hc0d hlt_gx.out; replace hM1 := Lib.hid hM1; replace hg1 := Lib.hid hg1)
                    | (go_at_call 8; refine (rput_in hV1.out N).mono ?_; rintro e w2 ⟨rfl, hR2, hg2⟩; have hc2 := cell_far hg2 hc1 hlt_vg.out; replace hR2 := Lib.hid hR2; replace hg2 := Lib.hid hg2))
                all_goals
                  have hS2 := Lib.hid (hS.out.drew.stepX hM1.out hg1.out hR2.out hg2.out)
                  clear hM1 hg1 hR2 hg2 hV1
                  go_wp2_with fail
                  go_meet
                  exact ⟨_, _, _, _, rfl, hS2.out, hc2⟩
            by_cases hK1 : K = 1
            · subst hK1
              as_aux_lemma =>
                have k0 : ((1 : Int) == 0) = false := rfl
                go_wp2_with fail
                go_region_held3 (fun w' => w'.cell? ⟨ab, 1, none⟩ = some (.int .i64 N)) (first | exact hc0 | exact hc0d | exact hc1 | exact hc2)
                  (first
                    | (go_at_call 9; refine (out_in hS.out.drew.x N).mono ?_; rintro e w1 ⟨rfl, hM1, hg1⟩; have hV1 := Lib.hid (hS.out.drew.midV hg1); have hc1 := cell_far hg1 hc0d hlt_gx.out; replace hM1 := Lib.hid hM1; replace hg1 := Lib.hid hg1)
                    | (go_at_call 10; refine (rout_in hV1.out N).mono ?_; rintro e w2 ⟨rfl, hR2, hg2⟩; have hc2 := cell_far hg2 hc1 hlt_vg.out; replace hR2 := Lib.hid hR2; replace hg2 := Lib.hid hg2))
                all_goals
                  have hS2 := Lib.hid (hS.out.drew.stepX hM1.out hg1.out hR2.out hg2.out)
                  clear hM1 hg1 hR2 hg2 hV1
                  go_wp2_with fail
                  go_meet
                  exact ⟨_, _, _, _, rfl, hS2.out, hc2⟩
            by_cases hK2 : K = 2
            · subst hK2
              as_aux_lemma =>
                have k0 : ((2 : Int) == 0) = false := rfl
                have k1 : ((2 : Int) == 1) = false := rfl
                go_wp2_with (go_at_call 11; refine (rlist_in hS.out.u).mono ?_; rintro e w1 ⟨lv, rfl, hrow, hb1⟩; have hS1 := Lib.hid (hS.out.bel hb1); have hc1 := (hb1.cell (p := ⟨ab, 1, none⟩) (World.block_lt_of_cell? _ _ hc0)).trans hc0; have hvgw := Lib.hid hS.out.v.lt.2; clear hb1; obtain ⟨p', c', rfl, -⟩ := row_form hrow; replace hrow := Lib.hid hrow)
                have s1 := hS1.out
                have E1 := Lib.hid (fun r hr => fresh_end (f := f) (n := A) s1.y.top (r := r) hr)
                have E2 := Lib.hid (putsS_end (f := f) (n := A) s1.y.top)
                have N1 := Lib.hid (show (some vg : Option Nat) ≠ some bx by simpa using s1.ne.2.1.1)
                have N2 := Lib.hid (show (some vg : Option Nat) ≠ some gx by simpa using s1.ne.2.1.2.1)
                have N3 := Lib.hid (s1.y.lt)
                have O1 := Lib.hid s1.ne.1.1
                have O2 := Lib.hid s1.ne.1.2.1
                have Y1 := Lib.hid (fun (wz : World) (hg : w1.grownBy wz (some vg)) => s1.y.kept hg (by simpa using s1.ne.2.1.2.2.1) (by simpa using s1.ne.2.1.2.2.2.1))
                have hlm2 := mem_le h C
                clear s1
                generalize mem h C = ll at *
                go_loopw [19, 123] (fun s19 s123 wz => ∃ (j : Nat) (r : Bool), j ≤ ll.length ∧ s123 = .int .i64 j ∧ s19 = .bool r ∧ Hid (Fresh f A (ll.take j) r) ∧ Rf wz vb vg A (putsS f A (ll.take j)) ∧ wz.ownsRow W2.heap.size 3 1 (.slice p' ll.length c') ll.length (ll.map encI) ∧ w1.grownBy wz (some vg)) (fun _ s123 _ => ll.length - (intOf s123).toNat)
                case atStart => exact ⟨0, false, Nat.zero_le _, rfl, rfl, Lib.hid (by simp [Fresh]), hS1.out.v.congr (by simp [putsS]), hrow.out, grown_refl _⟩
                case round =>
                  clear hrow
                  obtain ⟨j, r, hj, rfl, rfl, hfr, hR, hrw, hg⟩ := hrel
                  by_cases hlt2 : j < ll.length
                  · obtain ⟨gl, rfl, y1, y2, y3, y4, hck⟩ := rowI_cell hrw hlt2
                    have P := rput_in hR (ll[j] : Int)
                    have hts : Hid (ll.take (j + 1) = ll.take j ++ [ll[j]]) := Lib.hid (List.take_succ_eq_append_getElem hlt2)
                    have hfs := fresh_snoc hfr.out ll[j]
                    have hps := Lib.hid (putsS_snoc f A (ll.take j) ll[j])
                    generalize ll[j] = x at *
                    clear y3 hR hfr
                    replace hrw := Lib.hid hrw
                    replace hg := Lib.hid hg
                    cases hx : fresh (putsS f A (ll.take j)) A (x : Int)
                    · rw [hx] at P
                      have hn2 := Lib.hid (hfs.2 hx)
                      clear hfs hx
                      go_wp2_with (go_at_call 8; refine P.mono ?_; rintro e w3 ⟨rfl, hR3, hg3⟩; replace hR3 := Lib.hid hR3; replace hg3 := Lib.hid hg3)
                      go_roundw
                      case rel => exact ⟨j + 1, r, by omega, by go_num, rfl, Lib.hid (by rw [hts.out]; exact hn2.out), by rw [hts.out]; exact hR3.out.congr hps.out, row_far hrw.out hg3.out hvgw.out, grown_trans hg.out hg3.out⟩
                      case measure => simp [intOf]; omega
                    · rw [hx] at P
                      have hn2 := Lib.hid (hfs.1 hx)
                      clear hfs hx
                      go_wp2_with (go_at_call 8; refine P.mono ?_; rintro e w3 ⟨rfl, hR3, hg3⟩; replace hR3 := Lib.hid hR3; replace hg3 := Lib.hid hg3)
                      go_roundw
                      case rel => exact ⟨j + 1, true, by omega, by go_num, rfl, Lib.hid (by rw [hts.out]; exact hn2.out), by rw [hts.out]; exact hR3.out.congr hps.out, row_far hrw.out hg3.out hvgw.out, grown_trans hg.out hg3.out⟩
                      case measure => simp [intOf]; omega
                  · have hjl : j = ll.length := by omega
                    have ht : ll.take j = ll := List.take_of_length_le (by omega)
                    rw [ht] at hR hfr
                    have hrr := E1.out r hfr.out
                    have hR2 := Lib.hid (hR.congr E2.out)
                    have hXz := hS1.out.x.kept hg N1.out N2.out
                    have hYz := Y1.out _ hg
                    have O := or_in hXz hYz O1.out O2.out hrr
                    have hcz := cell_far hg hc1 hlt_vg.out
                    replace hg := Lib.hid hg
                    replace hjl := Lib.hid hjl
                    clear hR hfr hrr hXz hYz ht hrw E1 E2 N1 N2 Y1
                    cases r
                    all_goals
                      go_wp2_with (go_at_call 12; refine O.mono ?_; rintro e w4 ⟨rfl, hM4, hg4⟩; replace hM4 := Lib.hid hM4; replace hg4 := Lib.hid hg4)
                      go_meet
                      exact ⟨_, _, _, _, rfl, hS1.out.orX hR2.out hg.out hM4.out hg4.out, cell_far hg4.out hcz hlt_gx.out⟩
            · skip
              as_aux_lemma =>
                have k0 : ((K : Int) == 0) = false := by simpa using hK0
                have k1 : ((K : Int) == 1) = false := by simpa using hK1
                have k2 : ((K : Int) == 2) = false := by simpa using hK2
                go_wp2_with (first
                  | (go_at_call 13; refine (copy_in hS.out.x).mono ?_; rintro e w1 ⟨b', g', rfl, hM1, hb', hg', hbw⟩; have hold := Lib.hid (hS.out.x.bel' hbw); have hc1 := (hbw.cell (p := ⟨ab, 1, none⟩) (World.block_lt_of_cell? _ _ hc0)).trans hc0; replace hM1 := Lib.hid hM1; replace hb' := Lib.hid hb'; replace hg' := Lib.hid hg'; replace hbw := Lib.hid hbw)
                  | (go_at_call 7; refine (put_in hold.out 0).mono ?_; rintro e w2 ⟨rfl, hold2, hg2⟩; have hc2 := cell_far hg2 hc1 hlt_gx.out; replace hold2 := Lib.hid hold2; replace hg2 := Lib.hid hg2)
                  | (go_at_call 9; refine (out_in hold2.out 1).mono ?_; rintro e w3 ⟨rfl, hold3, hg3⟩; have hc3 := cell_far hg3 hc2 hlt_gx.out; replace hg3 := Lib.hid hg3; clear hold3))
                go_meet
                exact ⟨_, _, _, _, rfl, hS.out.copied hbw.out hM1.out hb'.out hg'.out (grown_trans hg2.out hg3.out), hc3⟩
          case rest =>
            as_aux_lemma =>
              obtain ⟨bx', gx', f', h', rfl, hS', hcN⟩ := hcut
              clear hS hc0 hc0d hlt_gx hlt_vg hlt_gy hlt_wg
              replace hS' := Lib.hid hS'
              go_wp2_with (go_at_call 11; refine (rlist_in hS'.out.v).mono ?_; rintro e w1 ⟨lv, rfl, hrow, hb1⟩; have hS1 := Lib.hid (hS'.out.bel hb1); have hc1 := (hb1.cell (p := ⟨ab, 1, none⟩) (World.block_lt_of_cell? _ _ hcN)).trans hcN; clear hb1; obtain ⟨p', c', rfl, -⟩ := row_form hrow; replace hrow := Lib.hid hrow)
              have hfx := Lib.hid hS1.out.x.top
              have E1 := Lib.hid (fun r hr => among_end (h := h') hfx.out (r := r) hr)
              have E2 := Lib.hid (wasIn_nat hS1.out.y.top)
              have hlm2 := mem_le f' A
              have hU1 := Lib.hid hS1.out.u
              generalize hll : mem f' A = ll at *
              replace hll := Lib.hid hll
              go_loop [23, 139] (fun s23 s139 => ∃ (j : Nat) (m : Bool), j ≤ ll.length ∧ s139 = .int .i64 j ∧ s23 = .bool m ∧ Hid (Among h' (ll.take j) m)) (fun _ s139 => ll.length - (intOf s139).toNat)
              case atStart => exact ⟨0, false, Nat.zero_le _, rfl, rfl, Lib.hid (by simp [Among])⟩
              case round =>
                obtain ⟨j, m, hj, rfl, rfl, ham⟩ := hrel
                by_cases hlt2 : j < ll.length
                · obtain ⟨gl, rfl, y1, y2, y3, y4, hck⟩ := rowI_cell hrow.out hlt2
                  have P := rhas_in hU1.out (ll[j] : Int)
                  rw [E2.out ll[j]] at P
                  have hts : Hid (ll.take (j + 1) = ll.take j ++ [ll[j]]) := Lib.hid (List.take_succ_eq_append_getElem hlt2)
                  have hfs := Lib.hid (among_snoc ham.out ll[j])
                  generalize ll[j] = x at *
                  clear y3 ham
                  generalize h' x = hx at *
                  cases m
                  all_goals
                    go_wp2_with (go_at_call 14; refine P.mono ?_; rintro e w3 ⟨rfl, rfl⟩)
                    go_round
                    case rel => exact ⟨j + 1, _, by omega, by go_num, rfl, Lib.hid (by rw [hts.out]; simpa using hfs.out)⟩
                    case measure => simp [intOf]; omega
                · have hjl : j = ll.length := by omega
                  have ht : ll.take j = ll := List.take_of_length_le (by omega)
                  rw [ht] at ham
                  have hsh := Lib.hid (E1.out m ham.out)
                  replace hjl := Lib.hid hjl
                  obtain ⟨t, htl⟩ := tells_ex f' h'
                  have hag : Hid (Agree (mem f' A) (mem h' C) t) := Lib.hid (htl.trans ⟨fun e => mem_congr hS1.out.x.top hS1.out.y.top e, fun e => mem_inj hS1.out.x.top hS1.out.y.top e⟩)
                  have hl1 : (mem f' A).length ≤ 65536 := Nat.le_trans (mem_le f' A) (by omega)
                  have hl2 : (mem h' C).length ≤ 65536 := Nat.le_trans (mem_le h' C) (by omega)
                  have hT1 : Tab w1 := hT.out.below hS1.out.below hT.out.1
                  have CX := Lib.hid (fun w' (hb : Bel w1 w') => lawsame_in (hS1.out.bel hb).x (hS1.out.bel hb).v (hT1.bel hb) N)
                  have CY := Lib.hid (fun w' (hb : Bel w1 w') => lawsame_in (hS1.out.bel hb).y (hS1.out.bel hb).u (hT1.bel hb) N)
                  have CM := Lib.hid (fun w' (hb : Bel w1 w') => meets_in (hS1.out.bel hb).x (hS1.out.bel hb).y hsh.out)
                  have CS := Lib.hid (fun w' (hb : Bel w1 w') => same_in (hS1.out.bel hb).x (hS1.out.bel hb).y htl)
                  have CV := Lib.hid (fun w' (hb : Bel w1 w') => rlist_in (hS1.out.bel hb).v)
                  have CU := Lib.hid (fun w' (hb : Bel w1 w') => rlist_in (hS1.out.bel hb).u)
                  have hq := Lib.hid (Bel.refl w1)
                  clear E1 E2 hrow ham ht hU1 htl hT1 hfx hsh
                  cases m
                  all_goals
                    cases t
                    all_goals as_aux_lemma =>
                      go_wp2_with (first
                        | (go_at_call 15; first | ((with_reducible refine (CX.out _ hq.out).mono ?_); rintro e w' ⟨rfl, hb⟩; replace hq := Lib.hid (Bel.step hq.out hb); clear hb; have hcq := Bel.cell hq.out (World.block_lt_of_cell? _ _ hc1) hc1) | ((with_reducible refine (CY.out _ hq.out).mono ?_); rintro e w' ⟨rfl, hb⟩; replace hq := Lib.hid (Bel.step hq.out hb); clear hb))
                        | (go_at_call 16; refine (CM.out _ hq.out).mono ?_; rintro e w' ⟨rfl, hb⟩; replace hq := Lib.hid (Bel.step hq.out hb); clear hb)
                        | (go_at_call 17; refine (CS.out _ hq.out).mono ?_; rintro e w' ⟨rfl, rfl⟩)
                        | (go_at_call 11; first
                            | ((with_reducible refine (CV.out _ hq.out).mono ?_); rintro e w' ⟨v1, rfl, hr1, hb⟩; replace hr1 := Lib.hid hr1; replace hq := Lib.hid (Bel.step hq.out hb); clear hb)
                            | ((with_reducible refine (CU.out _ hq.out).mono ?_); rintro e w' ⟨v2, rfl, hr2, hb⟩; replace hr1 := Lib.hid (ownsRow_bel hr1.out hb); replace hr2 := Lib.hid hr2; replace hq := Lib.hid (Bel.step hq.out hb); clear hb))
                        | (go_at_call 18; refine (sameints_in hr1.out hr2.out hl1 hl2 hag.out).mono ?_; rintro e w' ⟨rfl, hb⟩; replace hq := Lib.hid (Bel.step hq.out hb); clear hb))
                      go_roundw
                      case rel => exact ⟨k + 1, _, _, _, _, by omega, by go_num, rfl, hS1.out.bel hq.out⟩
                      case measure => simp [intOf]; omega
        · go_upto_block 2 with (fail)
          have hS := hS2.out
          have hc0' := hc0.out
          clear hS2 hc0 e0 e1 e2 hblw hbl
          revert hS hc0' hlt_gx hlt_vg hlt_gy hlt_wg
          generalize wr.alloc (Obj.cells #[Value.int IntKind.i64 K, Value.int IntKind.i64 N, Value.bool true] 35) = W2
          generalize wr.heap.size = ab
          intro hlt_gx hlt_vg hlt_gy hlt_wg hS hc0
          have hc0d : W2.drew.cell? ⟨ab, 1, none⟩ = some (.int .i64 N) := hc0
          replace hS := Lib.hid hS
          go_cut [7] (fun s7 wx => ∃ (bx' gx' : Nat) (f' h' : Nat → Bool), s7 = .pointer (some ⟨bx', 0, none⟩) ∧ St w w.heap.size vb vg wb wg by' gy A C bx' gx' f' h' wx ∧ wx.cell? ⟨ab, 1, none⟩ = some (.int .i64 N))
          case first =>
            by_cases hK0 : K = 0
            · subst hK0
              as_aux_lemma =>
                go_wp2_with fail
                go_region_held3 (fun w' => w'.cell? ⟨ab, 1, none⟩ = some (.int .i64 N)) (first | exact hc0 | exact hc0d | exact hc1 | exact hc2)
                  (first
                    | (go_at_call 7; refine (put_in hS.out.drew.y N).mono ?_; rintro e w1 ⟨rfl, hM1, hg1⟩; have hV1 := Lib.hid (hS.out.drew.midU hg1); have hc1 := cell_far hg1 hc0d hlt_gy.out; replace hM1 := Lib.hid hM1; replace hg1 := Lib.hid hg1)
                    | (go_at_call 8; refine (rput_in hV1.out N).mono ?_; rintro e w2 ⟨rfl, hR2, hg2⟩; have hc2 := cell_far hg2 hc1 hlt_wg.out; replace hR2 := Lib.hid hR2; replace hg2 := Lib.hid hg2))
                all_goals
                  have hS2 := Lib.hid (hS.out.drew.stepY hM1.out hg1.out hR2.out hg2.out)
                  clear hM1 hg1 hR2 hg2 hV1
                  go_wp2_with fail
                  go_meet
                  exact ⟨_, _, _, _, rfl, hS2.out, hc2⟩
            by_cases hK1 : K = 1
            · subst hK1
              as_aux_lemma =>
                have k0 : ((1 : Int) == 0) = false := rfl
                go_wp2_with fail
                go_region_held3 (fun w' => w'.cell? ⟨ab, 1, none⟩ = some (.int .i64 N)) (first | exact hc0 | exact hc0d | exact hc1 | exact hc2)
                  (first
                    | (go_at_call 9; refine (out_in hS.out.drew.y N).mono ?_; rintro e w1 ⟨rfl, hM1, hg1⟩; have hV1 := Lib.hid (hS.out.drew.midU hg1); have hc1 := cell_far hg1 hc0d hlt_gy.out; replace hM1 := Lib.hid hM1; replace hg1 := Lib.hid hg1)
                    | (go_at_call 10; refine (rout_in hV1.out N).mono ?_; rintro e w2 ⟨rfl, hR2, hg2⟩; have hc2 := cell_far hg2 hc1 hlt_wg.out; replace hR2 := Lib.hid hR2; replace hg2 := Lib.hid hg2))
                all_goals
                  have hS2 := Lib.hid (hS.out.drew.stepY hM1.out hg1.out hR2.out hg2.out)
                  clear hM1 hg1 hR2 hg2 hV1
                  go_wp2_with fail
                  go_meet
                  exact ⟨_, _, _, _, rfl, hS2.out, hc2⟩
            by_cases hK2 : K = 2
            · subst hK2
              as_aux_lemma =>
                have k0 : ((2 : Int) == 0) = false := rfl
                have k1 : ((2 : Int) == 1) = false := rfl
                go_wp2_with (go_at_call 11; refine (rlist_in hS.out.v).mono ?_; rintro e w1 ⟨lv, rfl, hrow, hb1⟩; have hS1 := Lib.hid (hS.out.bel hb1); have hc1 := (hb1.cell (p := ⟨ab, 1, none⟩) (World.block_lt_of_cell? _ _ hc0)).trans hc0; have hvgw := Lib.hid hS.out.u.lt.2; clear hb1; obtain ⟨p', c', rfl, -⟩ := row_form hrow; replace hrow := Lib.hid hrow)
                have s1 := hS1.out
                have E1 := Lib.hid (fun r hr => fresh_end (f := h) (n := C) s1.x.top (r := r) hr)
                have E2 := Lib.hid (putsS_end (f := h) (n := C) s1.x.top)
                have N1 := Lib.hid (show (some wg : Option Nat) ≠ some by' by simpa using s1.ne.2.2.2.2.2.1)
                have N2 := Lib.hid (show (some wg : Option Nat) ≠ some gy by simpa using s1.ne.2.2.2.2.2.2.1)
                have N3 := Lib.hid (s1.x.lt)
                have O1 := Lib.hid s1.ne.2.2.1.1
                have O2 := Lib.hid s1.ne.2.2.1.2.1
                have Y1 := Lib.hid (fun (wz : World) (hg : w1.grownBy wz (some wg)) => s1.x.kept hg (by simpa using s1.ne.2.2.2.1) (by simpa using s1.ne.2.2.2.2.1))
                have hlm2 := mem_le f A
                clear s1
                generalize mem f A = ll at *
                go_loopw [19, 123] (fun s19 s123 wz => ∃ (j : Nat) (r : Bool), j ≤ ll.length ∧ s123 = .int .i64 j ∧ s19 = .bool r ∧ Hid (Fresh h C (ll.take j) r) ∧ Rf wz wb wg C (putsS h C (ll.take j)) ∧ wz.ownsRow W2.heap.size 3 1 (.slice p' ll.length c') ll.length (ll.map encI) ∧ w1.grownBy wz (some wg)) (fun _ s123 _ => ll.length - (intOf s123).toNat)
                case atStart => exact ⟨0, false, Nat.zero_le _, rfl, rfl, Lib.hid (by simp [Fresh]), hS1.out.u.congr (by simp [putsS]), hrow.out, grown_refl _⟩
                case round =>
                  clear hrow
                  obtain ⟨j, r, hj, rfl, rfl, hfr, hR, hrw, hg⟩ := hrel
                  by_cases hlt2 : j < ll.length
                  · obtain ⟨gl, rfl, y1, y2, y3, y4, hck⟩ := rowI_cell hrw hlt2
                    have P := rput_in hR (ll[j] : Int)
                    have hts : Hid (ll.take (j + 1) = ll.take j ++ [ll[j]]) := Lib.hid (List.take_succ_eq_append_getElem hlt2)
                    have hfs := fresh_snoc hfr.out ll[j]
                    have hps := Lib.hid (putsS_snoc h C (ll.take j) ll[j])
                    generalize ll[j] = x at *
                    clear y3 hR hfr
                    replace hrw := Lib.hid hrw
                    replace hg := Lib.hid hg
                    cases hx : fresh (putsS h C (ll.take j)) C (x : Int)
                    · rw [hx] at P
                      have hn2 := Lib.hid (hfs.2 hx)
                      clear hfs hx
                      go_wp2_with (go_at_call 8; refine P.mono ?_; rintro e w3 ⟨rfl, hR3, hg3⟩; replace hR3 := Lib.hid hR3; replace hg3 := Lib.hid hg3)
                      go_roundw
                      case rel => exact ⟨j + 1, r, by omega, by go_num, rfl, Lib.hid (by rw [hts.out]; exact hn2.out), by rw [hts.out]; exact hR3.out.congr hps.out, row_far hrw.out hg3.out hvgw.out, grown_trans hg.out hg3.out⟩
                      case measure => simp [intOf]; omega
                    · rw [hx] at P
                      have hn2 := Lib.hid (hfs.1 hx)
                      clear hfs hx
                      go_wp2_with (go_at_call 8; refine P.mono ?_; rintro e w3 ⟨rfl, hR3, hg3⟩; replace hR3 := Lib.hid hR3; replace hg3 := Lib.hid hg3)
                      go_roundw
                      case rel => exact ⟨j + 1, true, by omega, by go_num, rfl, Lib.hid (by rw [hts.out]; exact hn2.out), by rw [hts.out]; exact hR3.out.congr hps.out, row_far hrw.out hg3.out hvgw.out, grown_trans hg.out hg3.out⟩
                      case measure => simp [intOf]; omega
                  · have hjl : j = ll.length := by omega
                    have ht : ll.take j = ll := List.take_of_length_le (by omega)
                    rw [ht] at hR hfr
                    have hrr := E1.out r hfr.out
                    have hR2 := Lib.hid (hR.congr E2.out)
                    have hXz := hS1.out.y.kept hg N1.out N2.out
                    have hYz := Y1.out _ hg
                    have O := or_in hXz hYz O1.out O2.out hrr
                    have hcz := cell_far hg hc1 hlt_wg.out
                    replace hg := Lib.hid hg
                    replace hjl := Lib.hid hjl
                    clear hR hfr hrr hXz hYz ht hrw E1 E2 N1 N2 Y1
                    cases r
                    all_goals
                      go_wp2_with (go_at_call 12; refine O.mono ?_; rintro e w4 ⟨rfl, hM4, hg4⟩; replace hM4 := Lib.hid hM4; replace hg4 := Lib.hid hg4)
                      go_meet
                      exact ⟨_, _, _, _, rfl, hS1.out.orY hR2.out hg.out hM4.out hg4.out, cell_far hg4.out hcz hlt_gy.out⟩
            · skip
              as_aux_lemma =>
                have k0 : ((K : Int) == 0) = false := by simpa using hK0
                have k1 : ((K : Int) == 1) = false := by simpa using hK1
                have k2 : ((K : Int) == 2) = false := by simpa using hK2
                go_wp2_with (first
                  | (go_at_call 13; refine (copy_in hS.out.x).mono ?_; rintro e w1 ⟨b', g', rfl, hM1, hb', hg', hbw⟩; have hold := Lib.hid (hS.out.x.bel' hbw); have hc1 := (hbw.cell (p := ⟨ab, 1, none⟩) (World.block_lt_of_cell? _ _ hc0)).trans hc0; replace hM1 := Lib.hid hM1; replace hb' := Lib.hid hb'; replace hg' := Lib.hid hg'; replace hbw := Lib.hid hbw)
                  | (go_at_call 7; refine (put_in hold.out 0).mono ?_; rintro e w2 ⟨rfl, hold2, hg2⟩; have hc2 := cell_far hg2 hc1 hlt_gx.out; replace hold2 := Lib.hid hold2; replace hg2 := Lib.hid hg2)
                  | (go_at_call 9; refine (out_in hold2.out 1).mono ?_; rintro e w3 ⟨rfl, hold3, hg3⟩; have hc3 := cell_far hg3 hc2 hlt_gx.out; replace hg3 := Lib.hid hg3; clear hold3))
                go_meet
                exact ⟨_, _, _, _, rfl, hS.out.copied hbw.out hM1.out hb'.out hg'.out (grown_trans hg2.out hg3.out), hc3⟩
          case rest =>
            as_aux_lemma =>
              obtain ⟨bx', gx', f', h', rfl, hS', hcN⟩ := hcut
              clear hS hc0 hc0d hlt_gx hlt_vg hlt_gy hlt_wg
              replace hS' := Lib.hid hS'
              go_wp2_with (go_at_call 11; refine (rlist_in hS'.out.v).mono ?_; rintro e w1 ⟨lv, rfl, hrow, hb1⟩; have hS1 := Lib.hid (hS'.out.bel hb1); have hc1 := (hb1.cell (p := ⟨ab, 1, none⟩) (World.block_lt_of_cell? _ _ hcN)).trans hcN; clear hb1; obtain ⟨p', c', rfl, -⟩ := row_form hrow; replace hrow := Lib.hid hrow)
              have hfx := Lib.hid hS1.out.x.top
              have E1 := Lib.hid (fun r hr => among_end (h := h') hfx.out (r := r) hr)
              have E2 := Lib.hid (wasIn_nat hS1.out.y.top)
              have hlm2 := mem_le f' A
              have hU1 := Lib.hid hS1.out.u
              generalize hll : mem f' A = ll at *
              replace hll := Lib.hid hll
              go_loop [23, 139] (fun s23 s139 => ∃ (j : Nat) (m : Bool), j ≤ ll.length ∧ s139 = .int .i64 j ∧ s23 = .bool m ∧ Hid (Among h' (ll.take j) m)) (fun _ s139 => ll.length - (intOf s139).toNat)
              case atStart => exact ⟨0, false, Nat.zero_le _, rfl, rfl, Lib.hid (by simp [Among])⟩
              case round =>
                obtain ⟨j, m, hj, rfl, rfl, ham⟩ := hrel
                by_cases hlt2 : j < ll.length
                · obtain ⟨gl, rfl, y1, y2, y3, y4, hck⟩ := rowI_cell hrow.out hlt2
                  have P := rhas_in hU1.out (ll[j] : Int)
                  rw [E2.out ll[j]] at P
                  have hts : Hid (ll.take (j + 1) = ll.take j ++ [ll[j]]) := Lib.hid (List.take_succ_eq_append_getElem hlt2)
                  have hfs := Lib.hid (among_snoc ham.out ll[j])
                  generalize ll[j] = x at *
                  clear y3 ham
                  generalize h' x = hx at *
                  cases m
                  all_goals
                    go_wp2_with (go_at_call 14; refine P.mono ?_; rintro e w3 ⟨rfl, rfl⟩)
                    go_round
                    case rel => exact ⟨j + 1, _, by omega, by go_num, rfl, Lib.hid (by rw [hts.out]; simpa using hfs.out)⟩
                    case measure => simp [intOf]; omega
                · have hjl : j = ll.length := by omega
                  have ht : ll.take j = ll := List.take_of_length_le (by omega)
                  rw [ht] at ham
                  have hsh := Lib.hid (E1.out m ham.out)
                  replace hjl := Lib.hid hjl
                  obtain ⟨t, htl⟩ := tells_ex f' h'
                  have hag : Hid (Agree (mem f' A) (mem h' C) t) := Lib.hid (htl.trans ⟨fun e => mem_congr hS1.out.x.top hS1.out.y.top e, fun e => mem_inj hS1.out.x.top hS1.out.y.top e⟩)
                  have hl1 : (mem f' A).length ≤ 65536 := Nat.le_trans (mem_le f' A) (by omega)
                  have hl2 : (mem h' C).length ≤ 65536 := Nat.le_trans (mem_le h' C) (by omega)
                  have hT1 : Tab w1 := hT.out.below hS1.out.below hT.out.1
                  have CX := Lib.hid (fun w' (hb : Bel w1 w') => lawsame_in (hS1.out.bel hb).x (hS1.out.bel hb).v (hT1.bel hb) N)
                  have CY := Lib.hid (fun w' (hb : Bel w1 w') => lawsame_in (hS1.out.bel hb).y (hS1.out.bel hb).u (hT1.bel hb) N)
                  have CM := Lib.hid (fun w' (hb : Bel w1 w') => meets_in (hS1.out.bel hb).x (hS1.out.bel hb).y hsh.out)
                  have CS := Lib.hid (fun w' (hb : Bel w1 w') => same_in (hS1.out.bel hb).x (hS1.out.bel hb).y htl)
                  have CV := Lib.hid (fun w' (hb : Bel w1 w') => rlist_in (hS1.out.bel hb).v)
                  have CU := Lib.hid (fun w' (hb : Bel w1 w') => rlist_in (hS1.out.bel hb).u)
                  have hq := Lib.hid (Bel.refl w1)
                  clear E1 E2 hrow ham ht hU1 htl hT1 hfx hsh
                  cases m
                  all_goals
                    cases t
                    all_goals as_aux_lemma =>
                      go_wp2_with (first
                        | (go_at_call 15; first | ((with_reducible refine (CX.out _ hq.out).mono ?_); rintro e w' ⟨rfl, hb⟩; replace hq := Lib.hid (Bel.step hq.out hb); clear hb; have hcq := Bel.cell hq.out (World.block_lt_of_cell? _ _ hc1) hc1) | ((with_reducible refine (CY.out _ hq.out).mono ?_); rintro e w' ⟨rfl, hb⟩; replace hq := Lib.hid (Bel.step hq.out hb); clear hb))
                        | (go_at_call 16; refine (CM.out _ hq.out).mono ?_; rintro e w' ⟨rfl, hb⟩; replace hq := Lib.hid (Bel.step hq.out hb); clear hb)
                        | (go_at_call 17; refine (CS.out _ hq.out).mono ?_; rintro e w' ⟨rfl, rfl⟩)
                        | (go_at_call 11; first
                            | ((with_reducible refine (CV.out _ hq.out).mono ?_); rintro e w' ⟨v1, rfl, hr1, hb⟩; replace hr1 := Lib.hid hr1; replace hq := Lib.hid (Bel.step hq.out hb); clear hb)
                            | ((with_reducible refine (CU.out _ hq.out).mono ?_); rintro e w' ⟨v2, rfl, hr2, hb⟩; replace hr1 := Lib.hid (ownsRow_bel hr1.out hb); replace hr2 := Lib.hid hr2; replace hq := Lib.hid (Bel.step hq.out hb); clear hb))
                        | (go_at_call 18; refine (sameints_in hr1.out hr2.out hl1 hl2 hag.out).mono ?_; rintro e w' ⟨rfl, hb⟩; replace hq := Lib.hid (Bel.step hq.out hb); clear hb))
                      go_roundw
                      case rel => exact ⟨k + 1, _, _, _, _, by omega, by go_num, rfl, hS1.out.bel hq.out⟩
                      case measure => simp [intOf]; omega
      · replace hS := Lib.hid hS
        go_wp2
        go_ret
        exact ⟨rfl, hS.out.below⟩
end Go.Proofs.YtkdjojmegohonaaDoor
