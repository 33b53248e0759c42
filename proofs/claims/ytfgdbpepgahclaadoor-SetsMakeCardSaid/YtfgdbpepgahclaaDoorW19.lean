/- SetsMake returns true at every two bytes and every list of bytes; it asks that math/bits' table lie in block 0 and that the list lie in memory. -/
import Derived.Test.YtfgdbpepgahclaaDoorW18
import Derived.Test.YtfgdbpepgahclaaDoorW10
namespace Go.Proofs.YtfgdbpepgahclaaDoor
open Go.RowKit

set_option maxRecDepth 10000 in
set_option maxHeartbeats 4000000 in
theorem make_in (lo hi : Nat) (hlo : lo ≤ 255) (hhi : hi ≤ 255) (a : Option Addr) (c : Nat) (l : List Nat) (w : World) (hs : Src w a l.length c l) (hT : Tab w) :
    Calls Tryd.prog 3 #[.int .u8 lo, .int .u8 hi, .slice a l.length c] w fun e w' => e = .returned (.bool true) ∧ Below w.heap.size w w' := by
  have hA := alive_in w hT
  by_cases hm : l.length ≤ 1000
  · have hmk := make256
    have hsp : ∀ w, Calls Tryd.prog 11 #[.int .i64 0, .int .i64 255] w fun e w' => e = .returned (.agg #[.int .u64 (wd (spanS 0 255) 0), .int .u64 (wd (spanS 0 255) 1), .int .u64 (wd (spanS 0 255) 2), .int .u64 (wd (spanS 0 255) 3)]) ∧ Below w.heap.size w w' := refspan_in 0 255 (by decide) (by decide)
    have heq := eq28
    have s0 : wd (spanS lo lo) 0 = wd (oneS lo) 0 := wd_congr fun i _ => by simp only [spanS, oneS]; rw [Bool.eq_iff_iff]; simp; omega
    have a0 : wd (notS noS) 0 = wd (spanS 0 255) 0 := wd_congr fun i hi => by simp [spanS, notS, noS]; omega
    have s1 : wd (spanS lo lo) 1 = wd (oneS lo) 1 := wd_congr fun i _ => by simp only [spanS, oneS]; rw [Bool.eq_iff_iff]; simp; omega
    have a1 : wd (notS noS) 1 = wd (spanS 0 255) 1 := wd_congr fun i hi => by simp [spanS, notS, noS]; omega
    have s2 : wd (spanS lo lo) 2 = wd (oneS lo) 2 := wd_congr fun i _ => by simp only [spanS, oneS]; rw [Bool.eq_iff_iff]; simp; omega
    have a2 : wd (notS noS) 2 = wd (spanS 0 255) 2 := wd_congr fun i hi => by simp [spanS, notS, noS]; omega
    have s3 : wd (spanS lo lo) 3 = wd (oneS lo) 3 := wd_congr fun i _ => by simp only [spanS, oneS]; rw [Bool.eq_iff_iff]; simp; omega
    have a3 : wd (notS noS) 3 = wd (spanS 0 255) 3 := wd_congr fun i hi => by simp [spanS, notS, noS]; omega
    have wlo : IntKind.i64.wrap (lo : Int) = lo := by rw [IntKind.wrap_i64]; omega
    have whi : IntKind.i64.wrap (hi : Int) = hi := by rw [IntKind.wrap_i64]; omega
    replace hsp := Lib.hid hsp
    replace heq := Lib.hid heq
    replace s0 := Lib.hid s0
    replace s1 := Lib.hid s1
    replace s2 := Lib.hid s2
    replace s3 := Lib.hid s3
    replace a0 := Lib.hid a0
    replace a1 := Lib.hid a1
    replace a2 := Lib.hid a2
    replace a3 := Lib.hid a3
    replace wlo := Lib.hid wlo
    replace whi := Lib.hid whi
    replace hs := Lib.hid hs
    have hm1 : ¬ (1000 < (l.length : Int)) := by omega
    go_enter Tryd.func3, Tryd.ntmps3
    go_wp2_with fail
    refine hA.mono ?_
    rintro e w1 ⟨rfl, hb⟩
    have hB : Below w.heap.size w w1 := hb
    replace hs := Lib.hid (hs.out.bel hb)
    clear hA hT hb
    dsimp only
    replace hB := Lib.hid hB
    go_wp2_with fail
    rw [show decide (1000 < (l.length : Int)) = false by simp; omega]
    have hin := BoolRow.new w1 noS
    have hB2 : Bel w1 (w1.alloc (.cells (bl noS).toArray 4)) := (Below.refl _ _).alloc (Nat.le_refl _) _
    have hin := hin.congr (g := listS (l.take 0)) fun c _ => by simp [noS, listS]
    revert hin hB2
    generalize w1.alloc (.cells (bl noS).toArray 4) = w2
    intro hB2 hin
    go_loopw [20] (fun i wr => ∃ k : Nat, k ≤ l.length ∧ i = .int .i64 k ∧ BoolRow wr w1.heap.size (listS (l.take k)) ∧ Below w1.heap.size w1 wr) (fun i _ => l.length - (intOf i).toNat)
    case atStart => exact ⟨0, Nat.zero_le _, rfl, hin, hB2⟩
    case round =>
      clear hin hB2
      obtain ⟨k, hk, rfl, hin, hB2⟩ := hrel
      by_cases hlt : k < l.length
      · obtain ⟨b, off, rfl, hcl⟩ := (hs.out.bel hB2).at (by omega)
        have hcell := hcl k hlt
        have hx8 := hs.out.small l[k] (List.getElem_mem hlt)
        have hcap := hs.out.cap
        have hset := (hin.set l[k] true).congr (g := listS (l.take (k + 1))) fun c _ => by
          rw [← listS_snoc hlt c]
          unfold orS oneS
          by_cases e : c = l[k] <;> simp [e]
        clear hcl hmk
        generalize l[k] = x at *
        have hx1 : (x : Int) ≤ 255 := by omega
        have hxc := hin.cell (k := x) (by omega)
        have hxf := hin.frozen x
        have h1 := Lib.hid (hB2.setCell (p := ⟨w1.heap.size, x, none⟩) (Nat.le_refl _) (.bool true))
        replace hset := Lib.hid hset
        clear hin hB2
        go_wp2
        go_roundw
        case rel => exact ⟨k + 1, by omega, by go_num, hset.out, h1.out⟩
        case measure => simp [intOf]; omega
      · have e : l.take k = l := List.take_of_length_le (by omega)
        rw [e] at hin
        clear e
        have hsr := hs.out.bel hB2
        have hBy := bytes_in a l.length c l hm wr hsr
        have hBr := hB.out.trans (hB2.mono hB.out.size)
        replace hBr := Lib.hid hBr
        replace hin := Lib.hid hin
        replace hsr := Lib.hid hsr
        replace hBy := Lib.hid hBy
        have hsm := Lib.hid hs.out.small
        clear hmk hB2 hs hB
        go_wp2_with fail
        refine hBy.out.mono ?_
        rintro e w3 ⟨g, rfl, _, hmk, hb⟩
        have hof := of_in _ l hsm.out (by omega) w3 (hmk.bytes hm)
        have hB3 := hBr.out.trans (hb.mono hBr.out.size)
        replace hin := Lib.hid (hin.out.bel hb)
        replace hsr := Lib.hid (hsr.out.bel hb)
        replace hB3 := Lib.hid hB3
        replace hmk := Lib.hid hmk
        replace hof := Lib.hid hof
        clear hb hBr hBy
        dsimp only
        go_wp2_with fail
        refine hof.out.mono ?_
        rintro e w4 ⟨rfl, hb⟩
        replace hin := hin.out.bel hb
        replace hsr := hsr.out.bel hb
        replace hmk := hmk.out.bel hb
        have hB4 := hB3.out.trans (hb.mono hB3.out.size)
        replace hB4 := Lib.hid hB4
        clear hb hB3 hof
        obtain ⟨W, hW, bs, hBW⟩ := boxes1 w4 28 (.int .u64 (wd (listS l) 0)) (.int .u64 (wd (listS l) 1)) (.int .u64 (wd (listS l) 2)) (.int .u64 (wd (listS l) 3))
        replace hin := Lib.hid (hin.bel hBW)
        replace hsr := Lib.hid (hsr.bel hBW)
        replace hmk := Lib.hid (hmk.bel hBW)
        have hB5 := Lib.hid (hB4.out.trans (hBW.mono hB4.out.size))
        replace hW := Lib.hid hW
        replace bs := Lib.hid bs
        clear hBW hB4
        dsimp only
        go_wp2_with fail
        rw [hW.out]
        obtain ⟨f0, f1, f2, f3⟩ := bs.out.all
        have heq := heq.out
        have wlo := wlo.out
        have whi := whi.out
        have s0 := s0.out
        have s1 := s1.out
        have s2 := s2.out
        have s3 := s3.out
        have a0 := a0.out
        have a1 := a1.out
        have a2 := a2.out
        have a3 := a3.out
        refine wp_region_bel (by kernel_rfl) (by kernel_rfl) ?_
        repeat (first
          | go_big_quiet_skip
          | (go_big_quiet_want
             first
               | (refine BigFrame.quiet_move _ rfl ?_
                  simp only [Act.put, Act.eval, List.setIfInBounds_toArray, List.set_cons_zero, List.set_cons_succ, List.getD_toArray, List.getD_cons_zero, List.getD_cons_succ]
                  go_big_quiet_on)
               | (refine BigFrame.quiet_assign _ rfl ?_
                  simp only [Act.put, Act.eval, List.setIfInBounds_toArray, List.set_cons_zero, List.set_cons_succ, List.getD_toArray, List.getD_cons_zero, List.getD_cons_succ]
                  go_big_quiet_on)
               | (refine quiet_call 10 ?_
                  apply Exists.intro
                  refine ⟨fun w' hC => ?_, ?_⟩
                  · go_simp
                    with_reducible rfl
                  refine ⟨_, fun w' hC => Calls.bel hC (one_in lo hlo _), ?_⟩
                  simp only [Act.put, List.setIfInBounds_toArray, List.set_cons_zero, List.set_cons_succ]
                  go_big_quiet_on)
               | (refine quiet_call 11 ?_
                  apply Exists.intro
                  refine ⟨fun w' hC => ?_, ?_⟩
                  · go_simp
                    with_reducible rfl
                  refine ⟨_, fun w' hC => Calls.bel hC (by first | with_reducible exact refspan_in lo lo hlo hlo _ | with_reducible exact refspan_in lo hi hlo hhi _ | with_reducible exact hsp.out _), ?_⟩
                  simp only [Act.put, List.setIfInBounds_toArray, List.set_cons_zero, List.set_cons_succ]
                  go_big_quiet_on)
               | (refine quiet_call 12 ?_
                  apply Exists.intro
                  refine ⟨fun w' hC => ?_, ?_⟩
                  · go_simp
                    with_reducible rfl
                  refine ⟨_, fun w' hC => Calls.bel hC (span_in lo hi hlo hhi _), ?_⟩
                  simp only [Act.put, List.setIfInBounds_toArray, List.set_cons_zero, List.set_cons_succ]
                  go_big_quiet_on)
               | (refine quiet_call 13 ?_
                  apply Exists.intro
                  refine ⟨fun w' hC => ?_, ?_⟩
                  · go_simp
                    with_reducible rfl
                  refine ⟨_, fun w' hC => Calls.bel hC (refof_in (listS l) w1.heap.size _ (BoolRow.bel hin.out hC)), ?_⟩
                  simp only [Act.put, List.setIfInBounds_toArray, List.set_cons_zero, List.set_cons_succ]
                  go_big_quiet_on)
               | (refine quiet_call 14 ?_
                  apply Exists.intro
                  refine ⟨fun w' hC => ?_, ?_⟩
                  · go_simp
                    with_reducible rfl
                  refine ⟨_, fun w' hC => Calls.bel hC (kept_in a c g l hm _ (Src.bel hsr.out hC) (Marked.bel hmk.out hC)), ?_⟩
                  simp only [Act.put, List.setIfInBounds_toArray, List.set_cons_zero, List.set_cons_succ]
                  go_big_quiet_on)
               | (refine quiet_call 15 ?_
                  apply Exists.intro
                  refine ⟨fun w' hC => ?_, ?_⟩
                  · go_simp
                    with_reducible rfl
                  refine ⟨_, fun w' hC => Calls.bel hC (all_in _), ?_⟩
                  simp only [Act.put, List.setIfInBounds_toArray, List.set_cons_zero, List.set_cons_succ]
                  go_big_quiet_on)
               | (refine quiet_val ?_
                  apply Exists.intro
                  refine ⟨fun w' hC => ?_, ?_⟩
                  · go_simp
                    with_reducible rfl
                  simp only [Act.put, List.setIfInBounds_toArray, List.set_cons_zero, List.set_cons_succ]
                  go_big_quiet_on)))
        refine wpQuiet_nil ?_
        intro wq hq

        clear f0 f1 f2 f3 heq wlo whi s0 s1 s2 s3 a0 a1 a2 a3
        go_wp2
        go_ret
        exact ⟨rfl, hB5.out.trans (Below.mono hq hB5.out.size)⟩
  · have hm1 : 1000 < (l.length : Int) := by omega
    clear hs hT
    go_enter Tryd.func3, Tryd.ntmps3
    go_wp2_with fail
    refine hA.mono ?_
    rintro e w1 ⟨rfl, hb⟩
    clear hA
    dsimp only
    replace hb := Lib.hid hb
    go_wp2
    go_ret
    exact ⟨rfl, hb.out⟩
end Go.Proofs.YtfgdbpepgahclaaDoor
