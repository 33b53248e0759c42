/- Contracts of Span, Of and Len of package sets: each returns what the sets of its arguments say and touches no old memory. Of asks that its list lie in memory. -/
import Derived.Test.YtaahefhiiggagaaDoorS1W3
namespace Go.Proofs.YtaahefhiiggagaaDoor.S1
open Go.RowKit
def upS (lo k : Nat) : Nat → Bool := fun x => decide (lo ≤ x) && decide (x < k)
theorem wrap_u8_nat {n : Nat} (h : n ≤ 255) : IntKind.u8.wrap (n : Int) = n := by rw [IntKind.wrap_u8]; omega

set_option maxHeartbeats 1000000 in
theorem span_in (lo hi : Nat) (hlo : lo ≤ 255) (hhi : hi ≤ 255) (w : World) :
    Calls Tryd.prog 53 #[.int .u8 lo, .int .u8 hi] w fun e w' => e = .returned (.agg #[.int .u64 (wd (spanS lo hi) 0), .int .u64 (wd (spanS lo hi) 1), .int .u64 (wd (spanS lo hi) 2), .int .u64 (wd (spanS lo hi) 3)]) ∧ Below w.heap.size w w' := by
  have q1 : (lo : Int) ≤ 255 := by omega
  have q2 : (hi : Int) ≤ 255 := by omega
  go_enter Tryd.func53, Tryd.ntmps53
  go_wp2
  obtain ⟨W, hW, br, bs, hB⟩ := boxes2 w 24 24 (.int .u64 0) (.int .u64 0) (.int .u64 0) (.int .u64 0) (.int .u64 0) (.int .u64 0) (.int .u64 0) (.int .u64 0)
  rw [hW]
  clear hW
  have bs0 : SetBox W (w.heap.size + 1) 24 (upS lo lo) := by
    have : SetBox W (w.heap.size + 1) 24 noS := by unfold SetBox; simp only [no_wd]; exact bs
    exact this.congr fun c _ => by simp [noS, upS] <;> omega
  go_loopw [6] (fun i wr => ∃ k : Nat, lo ≤ k ∧ (k ≤ hi + 1 ∨ k = lo) ∧ i = .int .i64 k ∧ Blk4 wr w.heap.size 24 (.int .u64 0) (.int .u64 0) (.int .u64 0) (.int .u64 0) ∧ SetBox wr (w.heap.size + 1) 24 (upS lo k) ∧ Below w.heap.size w wr) (fun i _ => 256 - (intOf i).toNat)
  case atStart => exact ⟨lo, Nat.le_refl _, .inr rfl, rfl, br, bs0, hB⟩
  case round =>
    clear br bs bs0 hB
    obtain ⟨k, hk1, hk2, rfl, br, bs, hB⟩ := hrel
    by_cases hlt : k ≤ hi
    · have hk8 : IntKind.u8.wrap (k : Int) = k := wrap_u8_nat (by omega)
      have hkk : k ≤ 255 := by omega
      obtain ⟨f0, f1, f2, f3⟩ := bs.blk.all
      go_wp2_with fail
      refine wp_region_bel_tail 5 (by kernel_rfl) (by kernel_rfl) ?_
      simp only [List.take_succ_cons, List.take_zero, List.drop_succ_cons, List.drop_zero]
      repeat (first
        | go_big_quiet_skip
        | (go_big_quiet_want
           first
             | (refine BigFrame.quiet_move _ rfl ?_
                simp only [Act.put, Act.eval, List.setIfInBounds_toArray, List.set_cons_zero, List.set_cons_succ, List.getD_toArray, List.getD_cons_zero, List.getD_cons_succ]
                go_big_quiet_on)
             | (refine BigFrame.quiet_assign _ rfl ?_
                simp only [Act.put, Act.eval, List.setIfInBounds_toArray, List.set_cons_zero, List.set_cons_succ, List.getD_toArray, List.getD_cons_zero, List.getD_cons_succ]
                go_big_quiet_on)
             | (refine quiet_call 15 ?_
                apply Exists.intro
                refine ⟨fun w' hC => ?_, ?_⟩
                · go_simp
                  with_reducible rfl
                refine ⟨_, fun w' hC => Calls.bel hC (one_in k hkk _), ?_⟩
                simp only [Act.put, List.setIfInBounds_toArray, List.set_cons_zero, List.set_cons_succ]
                go_big_quiet_on)
             | (refine quiet_call 34 ?_
                apply Exists.intro
                refine ⟨fun w' hC => ?_, ?_⟩
                · go_simp
                  with_reducible rfl
                refine ⟨_, fun w' hC => Calls.bel hC (or_in (upS lo k) (oneS k) _), ?_⟩
                simp only [Act.put, List.setIfInBounds_toArray, List.set_cons_zero, List.set_cons_succ]
                go_big_quiet_on)
             | (refine quiet_val ?_
                apply Exists.intro
                refine ⟨fun w' hC => ?_, ?_⟩
                · go_simp
                  with_reducible rfl
                simp only [Act.put, List.setIfInBounds_toArray, List.set_cons_zero, List.set_cons_succ]
                go_big_quiet_on)))
      refine wpQuiet_nil ?_
      intro wq hq

      obtain ⟨⟨r0, r1, r2, r3⟩, z0, z1, z2, z3⟩ := (bs.blk.bel hq).facts
      have hfin := below_set4 (hB.trans (hq.mono hB.size)) (b := w.heap.size + 1) (by omega) (.int .u64 (wd (orS (upS lo k) (oneS k)) 0)) (.int .u64 (wd (orS (upS lo k) (oneS k)) 1)) (.int .u64 (wd (orS (upS lo k) (oneS k)) 2)) (.int .u64 (wd (orS (upS lo k) (oneS k)) 3))
      have hbx : SetBox _ (w.heap.size + 1) 24 (orS (upS lo k) (oneS k)) := (bs.blk.bel hq).set (.int .u64 (wd (orS (upS lo k) (oneS k)) 0)) (.int .u64 (wd (orS (upS lo k) (oneS k)) 1)) (.int .u64 (wd (orS (upS lo k) (oneS k)) 2)) (.int .u64 (wd (orS (upS lo k) (oneS k)) 3))
      have hbx := hbx.congr (g := upS lo (k + 1)) fun c _ => by
        simp only [orS, upS, oneS]
        rw [Bool.eq_iff_iff]; simp; omega
      have hbr := (br.bel hq).other (b' := w.heap.size + 1) (by omega) (.int .u64 (wd (orS (upS lo k) (oneS k)) 0)) (.int .u64 (wd (orS (upS lo k) (oneS k)) 1)) (.int .u64 (wd (orS (upS lo k) (oneS k)) 2)) (.int .u64 (wd (orS (upS lo k) (oneS k)) 3))
      have h1 := Lib.hid hfin
      have h2 := Lib.hid hbx
      have h3 := Lib.hid hbr
      clear hfin hbx hbr f0 f1 f2 f3 br bs hB
      go_wp2
      go_roundw
      case rel => exact ⟨k + 1, by omega, by omega, by go_num, h3.out, h2.out, h1.out⟩
      case measure => simp [intOf]; omega
    · obtain ⟨⟨f0, f1, f2, f3⟩, z0, z1, z2, z3⟩ := bs.blk.facts
      obtain ⟨⟨r0, r1, r2, r3⟩, y0, y1, y2, y3⟩ := br.facts
      have hbx := bs.congr (g := spanS lo hi) fun c _ => by
        simp only [upS, spanS]
        rw [Bool.eq_iff_iff]; simp; omega
      have hx := ((br.set (.int .u64 (wd (upS lo k) 0)) (.int .u64 (wd (upS lo k) 1)) (.int .u64 (wd (upS lo k) 2)) (.int .u64 (wd (upS lo k) 3)))).facts.1
      have h1 := Lib.hid hx
      have h2 := Lib.hid hB
      have h3 := Lib.hid hbx
      have h4 := Lib.hid bs
      clear hx hbx br bs hB
      go_wp2
      have e : (.agg #[.int .u64 (wd (upS lo k) 0), .int .u64 (wd (upS lo k) 1), .int .u64 (wd (upS lo k) 2), .int .u64 (wd (upS lo k) 3)]) = ((.agg #[.int .u64 (wd (spanS lo hi) 0), .int .u64 (wd (spanS lo hi) 1), .int .u64 (wd (spanS lo hi) 2), .int .u64 (wd (spanS lo hi) 3)]) : Value) := by
        have a := h3.out
        have b := h4.out
        unfold SetBox Blk4 at a b
        rw [a] at b
        simpa using b.symm
      exact bodyPost_ret (v := (.agg #[.int .u64 (wd (upS lo k) 0), .int .u64 (wd (upS lo k) 1), .int .u64 (wd (upS lo k) 2), .int .u64 (wd (upS lo k) 3)])) (by simp [results, Tryd.results53, go_sem, h1.out.1, h1.out.2.1, h1.out.2.2.1, h1.out.2.2.2]) rfl ⟨by rw [e], below_set4 h2.out (Nat.le_refl _) _ _ _ _⟩

/-- A slice that holds the bytes of l: nil, or the head of a block of its own. -/
def Bytes (w : World) (v : Value) (l : List Nat) : Prop := w.ownsRow 0 5 1 v l.length (l.map fun c : Nat => Value.int .u8 (c : Int))
theorem Bytes.below {w w' : World} {B : Nat} {v : Value} {l : List Nat} (h : Bytes w v l) (hb : Below B w w') (hB : w.heap.size ≤ B) : Bytes w' v l := by
  refine ⟨h.1, ?_⟩
  rcases h.2 with ⟨h1, h2⟩ | ⟨g, cap, cur, hv, hg, hh, r⟩
  · exact .inl ⟨h1, h2⟩
  · exact .inr ⟨g, cap, cur, hv, hg, (hb.block g (by have := (Array.getElem?_eq_some_iff.1 hh).1; omega)).trans hh, r⟩

theorem listS_snoc {l : List Nat} {k : Nat} (h : k < l.length) (c : Nat) : orS (listS (l.take k)) (oneS (l[k])) c = listS (l.take (k + 1)) c := by
  unfold orS listS oneS
  rw [List.take_succ_eq_append_getElem h]
  generalize l.take k = a
  generalize l[k] = b
  rw [Bool.eq_iff_iff]
  simp

set_option maxHeartbeats 1000000 in
theorem of_in (v : Value) (l : List Nat) (hl : ∀ c ∈ l, c ≤ 255) (hmax : l.length ≤ 9223372036854775807) (w : World) (hv : Bytes w v l) :
    Calls Tryd.prog 17 #[v] w fun e w' => e = .returned (.agg #[.int .u64 (wd (listS l) 0), .int .u64 (wd (listS l) 1), .int .u64 (wd (listS l) 2), .int .u64 (wd (listS l) 3)]) ∧ Below w.heap.size w w' := by
  obtain ⟨ptr, cap, rfl, hptr⟩ : ∃ (p : Option Addr) (cap : Nat), v = .slice p l.length cap ∧ ∀ k (h : k < l.length), ∃ g, p = some ⟨g, 0, none⟩ ∧ g < w.heap.size ∧ w.cell? ⟨g, k, none⟩ = some (.int .u8 ((l[k] : Nat) : Int)) ∧ l.length ≤ cap := by
    rcases hv.2 with ⟨h1, h2⟩ | ⟨g, cap, cur, hv2, hg, hh, hcap, r⟩
    · exact ⟨none, 0, by rw [h1, h2], fun k h => by omega⟩
    · subst hv2
      refine ⟨some ⟨g, 0, none⟩, cap, rfl, fun k h => ⟨g, rfl, (Array.getElem?_eq_some_iff.1 hh).1, ?_, hcap⟩⟩
      have := World.ownsRow.cellAt hv k (by omega)
      rw [this]; simp [List.getElem?_eq_getElem h]
  clear hv
  go_enter Tryd.func17, Tryd.ntmps17
  go_wp2
  obtain ⟨W, hW, br, bs, hB⟩ := boxes2 w 24 24 (.int .u64 0) (.int .u64 0) (.int .u64 0) (.int .u64 0) (.int .u64 0) (.int .u64 0) (.int .u64 0) (.int .u64 0)
  rw [hW]
  clear hW
  have bs0 : SetBox W (w.heap.size + 1) 24 (listS (l.take 0)) := by
    have : SetBox W (w.heap.size + 1) 24 noS := by unfold SetBox; simp only [no_wd]; exact bs
    exact this.congr fun c _ => by simp [noS, listS]
  go_loopw [8] (fun i wr => ∃ k : Nat, k ≤ l.length ∧ i = .int .i64 k ∧ Blk4 wr w.heap.size 24 (.int .u64 0) (.int .u64 0) (.int .u64 0) (.int .u64 0) ∧ SetBox wr (w.heap.size + 1) 24 (listS (l.take k)) ∧ Below w.heap.size w wr) (fun i _ => l.length - (intOf i).toNat)
  case atStart => exact ⟨0, Nat.zero_le _, rfl, br, bs0, hB⟩
  case round =>
    clear br bs bs0 hB
    obtain ⟨k, hk, rfl, br, bs, hB⟩ := hrel
    by_cases hlt : k < l.length
    · obtain ⟨g, rfl, hgw, hcell, hcap⟩ := hptr k hlt
      have hcell := (hB.cell (p := ⟨g, k, none⟩) hgw).trans hcell
      have hc8 := hl l[k] (List.getElem_mem hlt)
      have hsn := fun c (_ : c < 256) => listS_snoc hlt c
      clear hptr hl
      generalize l[k] = c at *
      obtain ⟨f0, f1, f2, f3⟩ := bs.blk.all
      have hsn := Lib.hid hsn
      go_wp2_with fail
      refine wp_region_bel_tail 4 (by kernel_rfl) (by kernel_rfl) ?_
      simp only [List.take_succ_cons, List.take_zero, List.drop_succ_cons, List.drop_zero]
      repeat (first
        | go_big_quiet_skip
        | (go_big_quiet_want
           first
             | (refine BigFrame.quiet_move _ rfl ?_
                simp only [Act.put, Act.eval, List.setIfInBounds_toArray, List.set_cons_zero, List.set_cons_succ, List.getD_toArray, List.getD_cons_zero, List.getD_cons_succ]
                go_big_quiet_on)
             | (refine BigFrame.quiet_assign _ rfl ?_
                simp only [Act.put, Act.eval, List.setIfInBounds_toArray, List.set_cons_zero, List.set_cons_succ, List.getD_toArray, List.getD_cons_zero, List.getD_cons_succ]
                go_big_quiet_on)
             | (refine quiet_call 15 ?_
                apply Exists.intro
                refine ⟨fun w' hC => ?_, ?_⟩
                · go_simp
                  with_reducible rfl
                refine ⟨_, fun w' hC => Calls.bel hC (one_in c hc8 _), ?_⟩
                simp only [Act.put, List.setIfInBounds_toArray, List.set_cons_zero, List.set_cons_succ]
                go_big_quiet_on)
             | (refine quiet_call 34 ?_
                apply Exists.intro
                refine ⟨fun w' hC => ?_, ?_⟩
                · go_simp
                  with_reducible rfl
                refine ⟨_, fun w' hC => Calls.bel hC (or_in (listS (l.take k)) (oneS c) _), ?_⟩
                simp only [Act.put, List.setIfInBounds_toArray, List.set_cons_zero, List.set_cons_succ]
                go_big_quiet_on)
             | (refine quiet_val ?_
                apply Exists.intro
                refine ⟨fun w' hC => ?_, ?_⟩
                · go_simp
                  with_reducible rfl
                simp only [Act.put, List.setIfInBounds_toArray, List.set_cons_zero, List.set_cons_succ]
                go_big_quiet_on)))
      refine wpQuiet_nil ?_
      intro wq hq

      obtain ⟨⟨r0, r1, r2, r3⟩, z0, z1, z2, z3⟩ := (bs.blk.bel hq).facts
      have hfin := below_set4 (hB.trans (hq.mono hB.size)) (b := w.heap.size + 1) (by omega) (.int .u64 (wd (orS (listS (l.take k)) (oneS c)) 0)) (.int .u64 (wd (orS (listS (l.take k)) (oneS c)) 1)) (.int .u64 (wd (orS (listS (l.take k)) (oneS c)) 2)) (.int .u64 (wd (orS (listS (l.take k)) (oneS c)) 3))
      have hbx : SetBox _ (w.heap.size + 1) 24 (orS (listS (l.take k)) (oneS c)) := (bs.blk.bel hq).set (.int .u64 (wd (orS (listS (l.take k)) (oneS c)) 0)) (.int .u64 (wd (orS (listS (l.take k)) (oneS c)) 1)) (.int .u64 (wd (orS (listS (l.take k)) (oneS c)) 2)) (.int .u64 (wd (orS (listS (l.take k)) (oneS c)) 3))
      have hbx := hbx.congr (g := listS (l.take (k + 1))) hsn.out
      have hbr := (br.bel hq).other (b' := w.heap.size + 1) (by omega) (.int .u64 (wd (orS (listS (l.take k)) (oneS c)) 0)) (.int .u64 (wd (orS (listS (l.take k)) (oneS c)) 1)) (.int .u64 (wd (orS (listS (l.take k)) (oneS c)) 2)) (.int .u64 (wd (orS (listS (l.take k)) (oneS c)) 3))
      have h1 := Lib.hid hfin
      have h2 := Lib.hid hbx
      have h3 := Lib.hid hbr
      clear hfin hbx hbr f0 f1 f2 f3 br bs hB
      go_wp2
      go_roundw
      case rel => exact ⟨k + 1, by omega, by go_num, h3.out, h2.out, h1.out⟩
      case measure => simp [intOf]; omega
    · obtain ⟨⟨f0, f1, f2, f3⟩, z0, z1, z2, z3⟩ := bs.blk.facts
      obtain ⟨⟨r0, r1, r2, r3⟩, y0, y1, y2, y3⟩ := br.facts
      have e : l.take k = l := List.take_of_length_le (by omega)
      rw [e] at bs f0 f1 f2 f3
      clear e
      have hx := ((br.set (.int .u64 (wd (listS l) 0)) (.int .u64 (wd (listS l) 1)) (.int .u64 (wd (listS l) 2)) (.int .u64 (wd (listS l) 3)))).facts.1
      have h1 := Lib.hid hx
      have h2 := Lib.hid hB
      clear hx br bs hB hptr hl
      go_wp2
      exact bodyPost_ret (v := (.agg #[.int .u64 (wd (listS l) 0), .int .u64 (wd (listS l) 1), .int .u64 (wd (listS l) 2), .int .u64 (wd (listS l) 3)])) (by simp [results, Tryd.results17, go_sem, h1.out.1, h1.out.2.1, h1.out.2.2.1, h1.out.2.2.2]) rfl ⟨rfl, below_set4 h2.out (Nat.le_refl _) _ _ _ _⟩

/-- How many bytes a set has. -/
def szS (f : Nat → Bool) : Nat := cnt (wd f 0).testBit 64 + cnt (wd f 1).testBit 64 + cnt (wd f 2).testBit 64 + cnt (wd f 3).testBit 64
set_option maxHeartbeats 1000000 in
theorem len_in (f : Nat → Bool) (w : World) :
    Calls Tryd.prog 20 #[(.agg #[.int .u64 (wd f 0), .int .u64 (wd f 1), .int .u64 (wd f 2), .int .u64 (wd f 3)])] w fun e w' => e = .returned (.int .i64 (szS f)) ∧ Below w.heap.size w w' := by
  have b0 := cnt_le (wd f 0).testBit 64
  have b1 := cnt_le (wd f 1).testBit 64
  have b2 := cnt_le (wd f 2).testBit 64
  have b3 := cnt_le (wd f 3).testBit 64
  have o0 := ones_in (wd f 0) (wd_lt f 0)
  have o1 := ones_in (wd f 1) (wd_lt f 1)
  have o2 := ones_in (wd f 2) (wd_lt f 2)
  have o3 := ones_in (wd f 3) (wd_lt f 3)
  have e : ((szS f : Nat) : Int) = (cnt (wd f 0).testBit 64 : Int) + cnt (wd f 1).testBit 64 + cnt (wd f 2).testBit 64 + cnt (wd f 3).testBit 64 := by unfold szS; omega
  rw [e]
  clear e
  generalize cnt (wd f 0).testBit 64 = n0 at *
  generalize cnt (wd f 1).testBit 64 = n1 at *
  generalize cnt (wd f 2).testBit 64 = n2 at *
  generalize cnt (wd f 3).testBit 64 = n3 at *
  have i0 : ∀ w, (Instr.index 24 (.agg #[.int .u64 (wd f 0), .int .u64 (wd f 1), .int .u64 (wd f 2), .int .u64 (wd f 3)]) (.int .i64 0)).run Tryd.prog w = .ok (.int .u64 (wd f 0)) w := fun _ => by kernel_rfl
  have i1 : ∀ w, (Instr.index 24 (.agg #[.int .u64 (wd f 0), .int .u64 (wd f 1), .int .u64 (wd f 2), .int .u64 (wd f 3)]) (.int .i64 1)).run Tryd.prog w = .ok (.int .u64 (wd f 1)) w := fun _ => by kernel_rfl
  have i2 : ∀ w, (Instr.index 24 (.agg #[.int .u64 (wd f 0), .int .u64 (wd f 1), .int .u64 (wd f 2), .int .u64 (wd f 3)]) (.int .i64 2)).run Tryd.prog w = .ok (.int .u64 (wd f 2)) w := fun _ => by kernel_rfl
  have i3 : ∀ w, (Instr.index 24 (.agg #[.int .u64 (wd f 0), .int .u64 (wd f 1), .int .u64 (wd f 2), .int .u64 (wd f 3)]) (.int .i64 3)).run Tryd.prog w = .ok (.int .u64 (wd f 3)) w := fun _ => by kernel_rfl
  go_enter Tryd.func20, Tryd.ntmps20
  go_wp2
  refine wp_loop_rounds 5 ?_
  rw [rounds_succ]
  go_wp2_with (go_at_call 36; refine (o0 _).mono ?_; rintro e w' ⟨rfl, rfl⟩)
  rw [rounds_succ]
  go_wp2_with (go_at_call 36; refine (o1 _).mono ?_; rintro e w' ⟨rfl, rfl⟩)
  rw [rounds_succ]
  go_wp2_with (go_at_call 36; refine (o2 _).mono ?_; rintro e w' ⟨rfl, rfl⟩)
  rw [rounds_succ]
  go_wp2_with (go_at_call 36; refine (o3 _).mono ?_; rintro e w' ⟨rfl, rfl⟩)
  rw [rounds_succ]
  go_wp2
  go_ret
  exact ⟨ret_int (by simp <;> omega), (Below.refl _ _).alloc (Nat.le_refl _) _⟩
end Go.Proofs.YtaahefhiiggagaaDoor.S1
