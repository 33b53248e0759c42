/- SetsTell returns true at every set, byte and number; it asks that math/bits' table lie in block 0. -/
import Derived.Test.YtfgdbpepgahclaaDoorW16
import Derived.Test.YtfgdbpepgahclaaDoorW10
import Derived.Deep.RegionHeld
import Derived.OrdersHeld
namespace Go.Proofs.YtfgdbpepgahclaaDoor
open Go.RowKit Go.Shelf

set_option maxRecDepth 100000 in
set_option maxHeartbeats 4000000 in
theorem tell_in (f : Nat → Bool) (c : Nat) (hc8 : c ≤ 255) (n : Int) (hn0 : -9223372036854775808 ≤ n) (hn1 : n ≤ 9223372036854775807) (w : World) (hT : Tab w) :
    Calls Tryd.prog 5 #[(.agg #[.int .u64 (wd f 0), .int .u64 (wd f 1), .int .u64 (wd f 2), .int .u64 (wd f 3)]), .int .u8 c, .int .i64 n] w fun e w' => e = .returned (.bool true) ∧ Below w.heap.size w w' := by
  have hA := alive_in
  have hRL := reflist_in f
  have hRS := refspans_in f
  have hP := spans_in f
  have hLi := list_in f
  have hLe := least_in f
  have hNt := nth_in f n
  have hsz := szS_el f
  have hem := empty_el f
  have hyl := el_len f 256
  have hpl := spAll_len (el f 256)
  have hys : ∀ c ∈ el f 256, c ≤ 255 := fun c hc => by have := el_lt hc; omega
  have hps := spAll_small (el f 256)
  generalize spAll (el f 256) = ps at *
  generalize el f 256 = ys at *
  have hfl := flat_len ps
  have hpn : ps.length ≤ 256 := by omega
  clear hpl
  replace hA := Lib.hid hA
  replace hRL := Lib.hid hRL
  replace hRS := Lib.hid hRS
  replace hP := Lib.hid hP
  replace hLi := Lib.hid hLi
  replace hLe := Lib.hid hLe
  replace hNt := Lib.hid hNt
  replace hsz := Lib.hid hsz
  replace hem := Lib.hid hem
  replace hys := Lib.hid hys
  replace hps := Lib.hid hps
  replace hfl := Lib.hid hfl
  replace hT := Lib.hid hT
  have hc1 : (c : Int) ≤ 255 := by omega
  go_enter Tryd.func5, Tryd.ntmps5
  go_wp2_with fail
  obtain ⟨W, hW, bf, hB⟩ := boxes1 w 28 (.int .u64 (wd f 0)) (.int .u64 (wd f 1)) (.int .u64 (wd f 2)) (.int .u64 (wd f 3))
  rw [hW]
  clear hW
  have hTW := hT.out.below hB hT.out.1
  refine (hA.out W hTW).mono ?_
  rintro e w1 ⟨rfl, hb⟩
  replace bf := bf.bel hb
  replace hTW := hTW.below hb hTW.1
  replace hB := hB.trans (hb.mono hB.size)
  clear hb
  obtain ⟨⟨f0, f1, f2, f3⟩, -⟩ := bf.facts
  replace hB := Lib.hid hB
  replace bf := Lib.hid bf
  replace hTW := Lib.hid hTW
  dsimp only
  go_wp2_with fail
  refine (hRL.out w1).mono ?_
  rintro e w2 ⟨vl, rfl, hrl, hb⟩
  replace bf := bf.out.bel hb
  replace hTW := hTW.out.below hb hTW.out.1
  replace hB := hB.out.trans (hb.mono hB.out.size)
  clear hb f0 f1 f2 f3
  obtain ⟨⟨f0, f1, f2, f3⟩, -⟩ := bf.facts
  replace hB := Lib.hid hB
  replace bf := Lib.hid bf
  replace hTW := Lib.hid hTW
  replace hrl := Lib.hid hrl
  dsimp only
  go_wp2_with fail
  refine (hRS.out w2).mono ?_
  rintro e w3 ⟨ve, rfl, hre, hb⟩
  replace bf := bf.out.bel hb
  replace hTW := hTW.out.below hb hTW.out.1
  replace hB := hB.out.trans (hb.mono hB.out.size)
  replace hrl := ownsRow_bel hrl.out hb
  clear hb f0 f1 f2 f3
  obtain ⟨⟨f0, f1, f2, f3⟩, -⟩ := bf.facts
  replace hB := Lib.hid hB
  replace bf := Lib.hid bf
  replace hTW := Lib.hid hTW
  replace hrl := Lib.hid hrl
  replace hre := Lib.hid hre
  dsimp only
  go_wp2_with fail
  refine (hP.out w3 hTW.out).mono ?_
  rintro e W4 ⟨vp, rfl, hrp, hb⟩
  replace bf := bf.out.bel hb
  have hT4 := hTW.out.below hb hTW.out.1
  replace hB := hB.out.trans (hb.mono hB.out.size)
  replace hrl := ownsRow_bel hrl.out hb
  replace hre := ownsRow_bel hre.out hb
  clear hb f0 f1 f2 f3 hTW hRL hRS hP hA hT
  have cvl : ∀ w', Bel W4 w' → (convert 22 9 vl).run Tryd.prog w' = .ok (.string (strN ys)) w' := fun w' h => conv_bytes (ownsRow_bel hrl h)
  obtain ⟨pl, capl, rfl, hpl⟩ := row_form hrl
  obtain ⟨pe, cape, rfl, hpe⟩ := row_form hre
  obtain ⟨pp, capp, rfl, hpp⟩ := row_form hrp
  clear hrl hre hrp
  obtain ⟨f0, f1, f2, f3⟩ := bf.all
  replace hB := Lib.hid hB
  replace bf := Lib.hid bf
  replace hpl := Lib.hid hpl
  replace hpe := Lib.hid hpe
  replace hpp := Lib.hid hpp
  replace hT4 := Lib.hid hT4
  have hR : Bel W4 W4 := Bel.refl W4
  have q1 : IntKind.i64.wrap (2 * (ps.length : Int)) = ((flat ps).length : Int) := by rw [IntKind.wrap_i64, hfl.out]; omega
  have hcw : IntKind.i64.wrap (c : Int) = c := by rw [IntKind.wrap_i64]; omega
  have q2 := hsz.out
  have q3 := hem.out
  have hR2 : Bel W4 W4.drew := Bel.drew hR
  go_wp2_with fail
  refine wp_region_held_drew (S := (Bel W4)) (by kernel_rfl) (by assumption) (fun hHeld => ?_)
  refine wpAnyH_take (i := 0) (oi := { dst := some 22, op := Op.load 28 (Operand.tmp 3), type := 28, pos := "law.go:50", after := #[], guard := none }) (v := ?v0) rfl (by kernel_rfl) (by kernel_rfl) (by kernel_rfl) (fun _ _ _ h => h) (Or.inl ⟨by rfl, ?h0⟩) (by assumption) ?r0
  case h0 => (intro w hSw; go_simp <;> with_reducible rfl)
  try simp only [Act.put, List.setIfInBounds_toArray, List.set_cons_zero, List.set_cons_succ]
  refine wpAnyH_take (i := 3) (oi := { dst := some 25, op := Op.move (Operand.tmp 7), type := 22, pos := "law.go:50", after := #[], guard := none }) (v := ?v3) rfl (by kernel_rfl) (by kernel_rfl) (by kernel_rfl) (fun _ _ _ h => h) (Or.inl ⟨by rfl, ?h3⟩) (by assumption) ?r3
  case h3 => (intro w hSw; go_simp <;> with_reducible rfl)
  try simp only [Act.put, List.setIfInBounds_toArray, List.set_cons_zero, List.set_cons_succ]
  refine wpAnyH_take (i := 4) (oi := { dst := some 26, op := Op.convert 22 9 (Operand.tmp 25), type := 9, pos := "law.go:50", after := #[{ on := 3, ground := Ground.data }], guard := none }) (v := ?v4) rfl (by kernel_rfl) (by kernel_rfl) (by kernel_rfl) (fun _ _ _ h => h) (Or.inl ⟨by rfl, ?h4⟩) (by assumption) ?r4
  case h4 => (intro w hSw; go_simp <;> with_reducible rfl)
  try simp only [Act.put, List.setIfInBounds_toArray, List.set_cons_zero, List.set_cons_succ]
  refine wpAnyH_ready (rs := [1]) (by kernel_rfl) (by simp) ?_
  refine AllReadyH.cons (o := { dst := some 23, op := Op.call { callee := Callee.value (Operand.func 24), args := #[Operand.tmp 22], argTypes := #[28] }, type := 22, pos := "law.go:50", after := #[{ on := 0, ground := Ground.data }], guard := none }) rfl (fun K hK => ?_) AllReadyH.nil
  go_simp
  refine (hLi.out _ (hT4.out.below ‹Bel W4 _› hT4.out.1)).mono ?_; rintro e wz ⟨v, rfl, hrw, hb0⟩; have hb := Bel.step ‹Bel W4 _› hb0; clear hb0; have cv := conv_bytes hrw; clear hrw
  try dsimp only
  refine hK.out _ _ (by assumption) (fun hHeld2 => ?_)
  clear hK K hHeld2
  try simp only [Act.put, List.setIfInBounds_toArray, List.set_cons_zero, List.set_cons_succ]
  refine wpAnyH_ready (rs := [2]) (by kernel_rfl) (by simp) ?_
  refine AllReadyH.cons (o := { dst := some 24, op := Op.convert 22 9 (Operand.tmp 23), type := 9, pos := "law.go:50", after := #[{ on := 1, ground := Ground.data }], guard := none }) rfl (fun K hK => ?_) AllReadyH.nil
  go_simp
  refine hK.out _ _ (by assumption) (fun hHeld2 => ?_)
  clear hK K hHeld2
  try simp only [Act.put, List.setIfInBounds_toArray, List.set_cons_zero, List.set_cons_succ]
  refine wpAnyH_take (i := 5) (oi := { dst := some 27, op := Op.binOp BinOp.neq 9 (Operand.tmp 24) (Operand.tmp 26) 9, type := 4, pos := "law.go:50", after := #[{ on := 2, ground := Ground.data }, { on := 4, ground := Ground.data }], guard := none }) (v := ?v5) rfl (by kernel_rfl) (by kernel_rfl) (by kernel_rfl) (fun _ _ _ h => h) (Or.inl ⟨by rfl, ?h5⟩) (by assumption) ?r5
  case h5 => (intro w hSw; go_simp <;> with_reducible rfl)
  try simp only [Act.put, List.setIfInBounds_toArray, List.set_cons_zero, List.set_cons_succ]
  refine wpAnyH_take (i := 6) (oi := { dst := some 28, op := Op.move (Operand.tmp 27), type := 4, pos := "law.go:50", after := #[{ on := 5, ground := Ground.data }, { on := 1, ground := Ground.chain }], guard := none }) (v := ?v6) rfl (by kernel_rfl) (by kernel_rfl) (by kernel_rfl) (fun _ _ _ h => h) (Or.inl ⟨by rfl, ?h6⟩) (by assumption) ?r6
  case h6 => (intro w hSw; go_simp <;> with_reducible rfl)
  try simp only [Act.put, List.setIfInBounds_toArray, List.set_cons_zero, List.set_cons_succ]
  refine wpAnyH_take (i := 7) (oi := { dst := some 29, op := Op.load 28 (Operand.tmp 3), type := 28, pos := "law.go:50", after := #[{ on := 6, ground := Ground.guard }], guard := some (6, false) }) (v := ?v7) rfl (by kernel_rfl) (by kernel_rfl) (by kernel_rfl) (fun _ _ _ h => h) (Or.inl ⟨by rfl, ?h7⟩) (by assumption) ?r7
  case h7 => (intro w hSw; go_simp <;> with_reducible rfl)
  try simp only [Act.put, List.setIfInBounds_toArray, List.set_cons_zero, List.set_cons_succ]
  refine wpAnyH_take (i := 9) (oi := { dst := some 31, op := Op.move (Operand.tmp 7), type := 22, pos := "law.go:50", after := #[{ on := 6, ground := Ground.guard }], guard := some (6, false) }) (v := ?v9) rfl (by kernel_rfl) (by kernel_rfl) (by kernel_rfl) (fun _ _ _ h => h) (Or.inl ⟨by rfl, ?h9⟩) (by assumption) ?r9
  case h9 => (intro w hSw; go_simp <;> with_reducible rfl)
  try simp only [Act.put, List.setIfInBounds_toArray, List.set_cons_zero, List.set_cons_succ]
  refine wpAnyH_take (i := 10) (oi := { dst := some 32, op := Op.call { callee := Callee.builtin Builtin.len, args := #[Operand.tmp 31], argTypes := #[22] }, type := 3, pos := "law.go:50", after := #[{ on := 9, ground := Ground.data }, { on := 6, ground := Ground.guard }], guard := some (6, false) }) (v := ?v10) rfl (by kernel_rfl) (by kernel_rfl) (by kernel_rfl) (fun _ _ _ h => h) (Or.inl ⟨by rfl, ?h10⟩) (by assumption) ?r10
  case h10 => (intro w hSw; go_simp <;> with_reducible rfl)
  try simp only [Act.put, List.setIfInBounds_toArray, List.set_cons_zero, List.set_cons_succ]
  refine wpAnyH_ready (rs := [8]) (by kernel_rfl) (by simp) ?_
  refine AllReadyH.cons (o := { dst := some 30, op := Op.call { callee := Callee.value (Operand.func 25), args := #[Operand.tmp 29], argTypes := #[28] }, type := 3, pos := "law.go:50", after := #[{ on := 7, ground := Ground.data }, { on := 6, ground := Ground.chain }, { on := 6, ground := Ground.guard }], guard := some (6, false) }) rfl (fun K hK => ?_) AllReadyH.nil
  go_simp
  (with_reducible refine (len_in _ _).mono ?_); rintro e wz ⟨rfl, hb0⟩; have hb := Bel.step ‹Bel W4 _› hb0; clear hb0
  try dsimp only
  refine hK.out _ _ (by assumption) (fun hHeld2 => ?_)
  clear hK K hHeld2
  try simp only [Act.put, List.setIfInBounds_toArray, List.set_cons_zero, List.set_cons_succ]
  refine wpAnyH_take (i := 11) (oi := { dst := some 33, op := Op.binOp BinOp.neq 3 (Operand.tmp 30) (Operand.tmp 32) 3, type := 4, pos := "law.go:50", after := #[{ on := 8, ground := Ground.data }, { on := 10, ground := Ground.data }, { on := 6, ground := Ground.guard }], guard := some (6, false) }) (v := ?v11) rfl (by kernel_rfl) (by kernel_rfl) (by kernel_rfl) (fun _ _ _ h => h) (Or.inl ⟨by rfl, ?h11⟩) (by assumption) ?r11
  case h11 => (intro w hSw; go_simp <;> with_reducible rfl)
  try simp only [Act.put, List.setIfInBounds_toArray, List.set_cons_zero, List.set_cons_succ]
  refine wpAnyH_take (i := 12) (oi := { dst := some 34, op := Op.pick (Operand.tmp 28) (Operand.const (Value.bool true)) (Operand.tmp 33), type := 4, pos := "law.go:50", after := #[{ on := 6, ground := Ground.data }, { on := 11, ground := Ground.data }], guard := none }) (v := ?v12) rfl (by kernel_rfl) (by kernel_rfl) (by kernel_rfl) (fun _ _ _ h => h) (Or.inl ⟨by rfl, ?h12⟩) (by assumption) ?r12
  case h12 => (intro w hSw; go_simp <;> with_reducible rfl)
  try simp only [Act.put, List.setIfInBounds_toArray, List.set_cons_zero, List.set_cons_succ]
  refine wpAnyH_take (i := 13) (oi := { dst := some 35, op := Op.move (Operand.tmp 34), type := 4, pos := "law.go:50", after := #[{ on := 12, ground := Ground.data }, { on := 8, ground := Ground.chain }], guard := none }) (v := ?v13) rfl (by kernel_rfl) (by kernel_rfl) (by kernel_rfl) (fun _ _ _ h => h) (Or.inl ⟨by rfl, ?h13⟩) (by assumption) ?r13
  case h13 => (intro w hSw; go_simp <;> with_reducible rfl)
  try simp only [Act.put, List.setIfInBounds_toArray, List.set_cons_zero, List.set_cons_succ]
  refine wpAnyH_take (i := 14) (oi := { dst := some 36, op := Op.load 28 (Operand.tmp 3), type := 28, pos := "law.go:50", after := #[{ on := 13, ground := Ground.guard }], guard := some (13, false) }) (v := ?v14) rfl (by kernel_rfl) (by kernel_rfl) (by kernel_rfl) (fun _ _ _ h => h) (Or.inl ⟨by rfl, ?h14⟩) (by assumption) ?r14
  case h14 => (intro w hSw; go_simp <;> with_reducible rfl)
  try simp only [Act.put, List.setIfInBounds_toArray, List.set_cons_zero, List.set_cons_succ]
  refine wpAnyH_take (i := 16) (oi := { dst := some 38, op := Op.move (Operand.tmp 7), type := 22, pos := "law.go:50", after := #[{ on := 13, ground := Ground.guard }], guard := some (13, false) }) (v := ?v16) rfl (by kernel_rfl) (by kernel_rfl) (by kernel_rfl) (fun _ _ _ h => h) (Or.inl ⟨by rfl, ?h16⟩) (by assumption) ?r16
  case h16 => (intro w hSw; go_simp <;> with_reducible rfl)
  try simp only [Act.put, List.setIfInBounds_toArray, List.set_cons_zero, List.set_cons_succ]
  refine wpAnyH_take (i := 17) (oi := { dst := some 39, op := Op.call { callee := Callee.builtin Builtin.len, args := #[Operand.tmp 38], argTypes := #[22] }, type := 3, pos := "law.go:50", after := #[{ on := 16, ground := Ground.data }, { on := 13, ground := Ground.guard }], guard := some (13, false) }) (v := ?v17) rfl (by kernel_rfl) (by kernel_rfl) (by kernel_rfl) (fun _ _ _ h => h) (Or.inl ⟨by rfl, ?h17⟩) (by assumption) ?r17
  case h17 => (intro w hSw; go_simp <;> with_reducible rfl)
  try simp only [Act.put, List.setIfInBounds_toArray, List.set_cons_zero, List.set_cons_succ]
  refine wpAnyH_take (i := 18) (oi := { dst := some 40, op := Op.binOp BinOp.eql 3 (Operand.tmp 39) (Operand.const (Value.int IntKind.i64 0)) 3, type := 4, pos := "law.go:50", after := #[{ on := 17, ground := Ground.data }, { on := 13, ground := Ground.guard }], guard := some (13, false) }) (v := ?v18) rfl (by kernel_rfl) (by kernel_rfl) (by kernel_rfl) (fun _ _ _ h => h) (Or.inl ⟨by rfl, ?h18⟩) (by assumption) ?r18
  case h18 => (intro w hSw; go_simp <;> with_reducible rfl)
  try simp only [Act.put, List.setIfInBounds_toArray, List.set_cons_zero, List.set_cons_succ]
  refine wpAnyH_ready (rs := [15]) (by kernel_rfl) (by simp) ?_
  refine AllReadyH.cons (o := { dst := some 37, op := Op.call { callee := Callee.value (Operand.func 26), args := #[Operand.tmp 36], argTypes := #[28] }, type := 4, pos := "law.go:50", after := #[{ on := 14, ground := Ground.data }, { on := 13, ground := Ground.chain }, { on := 13, ground := Ground.guard }], guard := some (13, false) }) rfl (fun K hK => ?_) AllReadyH.nil
  go_simp
  (with_reducible refine (empty_in _ _).mono ?_); rintro e wz ⟨rfl, hb0⟩; have hb := Bel.step ‹Bel W4 _› hb0; clear hb0
  try dsimp only
  refine hK.out _ _ (by assumption) (fun hHeld2 => ?_)
  clear hK K hHeld2
  try simp only [Act.put, List.setIfInBounds_toArray, List.set_cons_zero, List.set_cons_succ]
  refine wpAnyH_take (i := 19) (oi := { dst := some 41, op := Op.binOp BinOp.neq 4 (Operand.tmp 37) (Operand.tmp 40) 4, type := 4, pos := "law.go:50", after := #[{ on := 15, ground := Ground.data }, { on := 18, ground := Ground.data }, { on := 13, ground := Ground.guard }], guard := some (13, false) }) (v := ?v19) rfl (by kernel_rfl) (by kernel_rfl) (by kernel_rfl) (fun _ _ _ h => h) (Or.inl ⟨by rfl, ?h19⟩) (by assumption) ?r19
  case h19 => (intro w hSw; go_simp <;> with_reducible rfl)
  try simp only [Act.put, List.setIfInBounds_toArray, List.set_cons_zero, List.set_cons_succ]
  refine wpAnyH_take (i := 20) (oi := { dst := some 42, op := Op.pick (Operand.tmp 35) (Operand.const (Value.bool true)) (Operand.tmp 41), type := 4, pos := "law.go:50", after := #[{ on := 13, ground := Ground.data }, { on := 19, ground := Ground.data }], guard := none }) (v := ?v20) rfl (by kernel_rfl) (by kernel_rfl) (by kernel_rfl) (fun _ _ _ h => h) (Or.inl ⟨by rfl, ?h20⟩) (by assumption) ?r20
  case h20 => (intro w hSw; go_simp <;> with_reducible rfl)
  try simp only [Act.put, List.setIfInBounds_toArray, List.set_cons_zero, List.set_cons_succ]
  refine wpAnyH_take (i := 21) (oi := { dst := some 43, op := Op.move (Operand.tmp 42), type := 4, pos := "law.go:50", after := #[{ on := 20, ground := Ground.data }, { on := 15, ground := Ground.chain }], guard := none }) (v := ?v21) rfl (by kernel_rfl) (by kernel_rfl) (by kernel_rfl) (fun _ _ _ h => h) (Or.inl ⟨by rfl, ?h21⟩) (by assumption) ?r21
  case h21 => (intro w hSw; go_simp <;> with_reducible rfl)
  try simp only [Act.put, List.setIfInBounds_toArray, List.set_cons_zero, List.set_cons_succ]
  refine wpAnyH_take (i := 22) (oi := { dst := some 44, op := Op.load 28 (Operand.tmp 3), type := 28, pos := "law.go:50", after := #[{ on := 21, ground := Ground.guard }], guard := some (21, false) }) (v := ?v22) rfl (by kernel_rfl) (by kernel_rfl) (by kernel_rfl) (fun _ _ _ h => h) (Or.inl ⟨by rfl, ?h22⟩) (by assumption) ?r22
  case h22 => (intro w hSw; go_simp <;> with_reducible rfl)
  try simp only [Act.put, List.setIfInBounds_toArray, List.set_cons_zero, List.set_cons_succ]
  refine wpAnyH_take (i := 23) (oi := { dst := some 45, op := Op.move (Operand.tmp 1), type := 5, pos := "law.go:50", after := #[{ on := 21, ground := Ground.guard }], guard := some (21, false) }) (v := ?v23) rfl (by kernel_rfl) (by kernel_rfl) (by kernel_rfl) (fun _ _ _ h => h) (Or.inl ⟨by rfl, ?h23⟩) (by assumption) ?r23
  case h23 => (intro w hSw; go_simp <;> with_reducible rfl)
  try simp only [Act.put, List.setIfInBounds_toArray, List.set_cons_zero, List.set_cons_succ]
  refine wpAnyH_take (i := 25) (oi := { dst := some 47, op := Op.load 28 (Operand.tmp 3), type := 28, pos := "law.go:50", after := #[{ on := 21, ground := Ground.guard }], guard := some (21, false) }) (v := ?v25) rfl (by kernel_rfl) (by kernel_rfl) (by kernel_rfl) (fun _ _ _ h => h) (Or.inl ⟨by rfl, ?h25⟩) (by assumption) ?r25
  case h25 => (intro w hSw; go_simp <;> with_reducible rfl)
  try simp only [Act.put, List.setIfInBounds_toArray, List.set_cons_zero, List.set_cons_succ]
  refine wpAnyH_take (i := 26) (oi := { dst := some 48, op := Op.move (Operand.tmp 1), type := 5, pos := "law.go:50", after := #[{ on := 21, ground := Ground.guard }], guard := some (21, false) }) (v := ?v26) rfl (by kernel_rfl) (by kernel_rfl) (by kernel_rfl) (fun _ _ _ h => h) (Or.inl ⟨by rfl, ?h26⟩) (by assumption) ?r26
  case h26 => (intro w hSw; go_simp <;> with_reducible rfl)
  try simp only [Act.put, List.setIfInBounds_toArray, List.set_cons_zero, List.set_cons_succ]
  refine wpAnyH_take (i := 27) (oi := { dst := some 49, op := Op.convert 5 3 (Operand.tmp 48), type := 3, pos := "law.go:50", after := #[{ on := 26, ground := Ground.data }, { on := 21, ground := Ground.guard }], guard := some (21, false) }) (v := ?v27) rfl (by kernel_rfl) (by kernel_rfl) (by kernel_rfl) (fun _ _ _ h => h) (Or.inl ⟨by rfl, ?h27⟩) (by assumption) ?r27
  case h27 => (intro w hSw; go_simp <;> with_reducible rfl)
  try simp only [Act.put, List.setIfInBounds_toArray, List.set_cons_zero, List.set_cons_succ]
  refine wpAnyH_ready (rs := [24]) (by kernel_rfl) (by simp) ?_
  refine AllReadyH.cons (o := { dst := some 46, op := Op.call { callee := Callee.value (Operand.func 27), args := #[Operand.tmp 44, Operand.tmp 45], argTypes := #[28, 5] }, type := 4, pos := "law.go:50", after := #[{ on := 22, ground := Ground.data }, { on := 23, ground := Ground.data }, { on := 21, ground := Ground.chain }, { on := 21, ground := Ground.guard }], guard := some (21, false) }) rfl (fun K hK => ?_) AllReadyH.nil
  go_simp
  (with_reducible refine (has_in _ c hc8 _).mono ?_); rintro e wz ⟨rfl, hb0⟩; have hb := Bel.step ‹Bel W4 _› hb0; clear hb0
  try dsimp only
  refine hK.out _ _ (by assumption) (fun hHeld2 => ?_)
  clear hK K hHeld2
  try simp only [Act.put, List.setIfInBounds_toArray, List.set_cons_zero, List.set_cons_succ]
  refine wpAnyH_ready (rs := [28]) (by kernel_rfl) (by simp) ?_
  refine AllReadyH.cons (o := { dst := some 50, op := Op.call { callee := Callee.value (Operand.func 28), args := #[Operand.tmp 47, Operand.tmp 49], argTypes := #[27, 3] }, type := 4, pos := "law.go:50", after := #[{ on := 25, ground := Ground.data }, { on := 27, ground := Ground.data }, { on := 24, ground := Ground.chain }, { on := 21, ground := Ground.guard }], guard := some (21, false) }) rfl (fun K hK => ?_) AllReadyH.nil
  go_simp
  (with_reducible refine (has_ref _ c hc8 _).mono ?_); rintro e wz ⟨rfl, hb0⟩; have hb := Bel.step ‹Bel W4 _› hb0; clear hb0
  try dsimp only
  refine hK.out _ _ (by assumption) (fun hHeld2 => ?_)
  clear hK K hHeld2
  try simp only [Act.put, List.setIfInBounds_toArray, List.set_cons_zero, List.set_cons_succ]
  refine wpAnyH_take (i := 29) (oi := { dst := some 51, op := Op.binOp BinOp.neq 4 (Operand.tmp 46) (Operand.tmp 50) 4, type := 4, pos := "law.go:50", after := #[{ on := 24, ground := Ground.data }, { on := 28, ground := Ground.data }, { on := 21, ground := Ground.guard }], guard := some (21, false) }) (v := ?v29) rfl (by kernel_rfl) (by kernel_rfl) (by kernel_rfl) (fun _ _ _ h => h) (Or.inl ⟨by rfl, ?h29⟩) (by assumption) ?r29
  case h29 => (intro w hSw; go_simp <;> with_reducible rfl)
  try simp only [Act.put, List.setIfInBounds_toArray, List.set_cons_zero, List.set_cons_succ]
  refine wpAnyH_take (i := 30) (oi := { dst := some 52, op := Op.pick (Operand.tmp 43) (Operand.const (Value.bool true)) (Operand.tmp 51), type := 4, pos := "law.go:50", after := #[{ on := 21, ground := Ground.data }, { on := 29, ground := Ground.data }], guard := none }) (v := ?v30) rfl (by kernel_rfl) (by kernel_rfl) (by kernel_rfl) (fun _ _ _ h => h) (Or.inl ⟨by rfl, ?h30⟩) (by assumption) ?r30
  case h30 => (intro w hSw; go_simp <;> with_reducible rfl)
  try simp only [Act.put, List.setIfInBounds_toArray, List.set_cons_zero, List.set_cons_succ]
  refine wpAnyH_take (i := 31) (oi := { dst := some 53, op := Op.move (Operand.tmp 52), type := 4, pos := "law.go:50", after := #[{ on := 30, ground := Ground.data }, { on := 28, ground := Ground.chain }], guard := none }) (v := ?v31) rfl (by kernel_rfl) (by kernel_rfl) (by kernel_rfl) (fun _ _ _ h => h) (Or.inl ⟨by rfl, ?h31⟩) (by assumption) ?r31
  case h31 => (intro w hSw; go_simp <;> with_reducible rfl)
  try simp only [Act.put, List.setIfInBounds_toArray, List.set_cons_zero, List.set_cons_succ]
  refine wpAnyH_take (i := 32) (oi := { dst := some 54, op := Op.move (Operand.tmp 9), type := 43, pos := "law.go:50", after := #[{ on := 31, ground := Ground.guard }], guard := some (31, false) }) (v := ?v32) rfl (by kernel_rfl) (by kernel_rfl) (by kernel_rfl) (fun _ _ _ h => h) (Or.inl ⟨by rfl, ?h32⟩) (by assumption) ?r32
  case h32 => (intro w hSw; go_simp <;> with_reducible rfl)
  try simp only [Act.put, List.setIfInBounds_toArray, List.set_cons_zero, List.set_cons_succ]
  refine wpAnyH_take (i := 33) (oi := { dst := some 55, op := Op.call { callee := Callee.builtin Builtin.len, args := #[Operand.tmp 54], argTypes := #[43] }, type := 3, pos := "law.go:50", after := #[{ on := 32, ground := Ground.data }, { on := 31, ground := Ground.guard }], guard := some (31, false) }) (v := ?v33) rfl (by kernel_rfl) (by kernel_rfl) (by kernel_rfl) (fun _ _ _ h => h) (Or.inl ⟨by rfl, ?h33⟩) (by assumption) ?r33
  case h33 => (intro w hSw; go_simp <;> with_reducible rfl)
  try simp only [Act.put, List.setIfInBounds_toArray, List.set_cons_zero, List.set_cons_succ]
  refine wpAnyH_take (i := 34) (oi := { dst := some 56, op := Op.binOp BinOp.mul 3 (Operand.const (Value.int IntKind.i64 2)) (Operand.tmp 55) 3, type := 3, pos := "law.go:50", after := #[{ on := 33, ground := Ground.data }, { on := 31, ground := Ground.guard }], guard := some (31, false) }) (v := ?v34) rfl (by kernel_rfl) (by kernel_rfl) (by kernel_rfl) (fun _ _ _ h => h) (Or.inl ⟨by rfl, ?h34⟩) (by assumption) ?r34
  case h34 => (intro w hSw; go_simp <;> with_reducible rfl)
  try simp only [Act.put, List.setIfInBounds_toArray, List.set_cons_zero, List.set_cons_succ]
  refine wpAnyH_take (i := 35) (oi := { dst := some 57, op := Op.move (Operand.tmp 8), type := 41, pos := "law.go:50", after := #[{ on := 31, ground := Ground.guard }], guard := some (31, false) }) (v := ?v35) rfl (by kernel_rfl) (by kernel_rfl) (by kernel_rfl) (fun _ _ _ h => h) (Or.inl ⟨by rfl, ?h35⟩) (by assumption) ?r35
  case h35 => (intro w hSw; go_simp <;> with_reducible rfl)
  try simp only [Act.put, List.setIfInBounds_toArray, List.set_cons_zero, List.set_cons_succ]
  refine wpAnyH_take (i := 36) (oi := { dst := some 58, op := Op.call { callee := Callee.builtin Builtin.len, args := #[Operand.tmp 57], argTypes := #[41] }, type := 3, pos := "law.go:50", after := #[{ on := 35, ground := Ground.data }, { on := 31, ground := Ground.guard }], guard := some (31, false) }) (v := ?v36) rfl (by kernel_rfl) (by kernel_rfl) (by kernel_rfl) (fun _ _ _ h => h) (Or.inl ⟨by rfl, ?h36⟩) (by assumption) ?r36
  case h36 => (intro w hSw; go_simp <;> with_reducible rfl)
  try simp only [Act.put, List.setIfInBounds_toArray, List.set_cons_zero, List.set_cons_succ]
  refine wpAnyH_take (i := 37) (oi := { dst := some 59, op := Op.binOp BinOp.neq 3 (Operand.tmp 56) (Operand.tmp 58) 3, type := 4, pos := "law.go:50", after := #[{ on := 34, ground := Ground.data }, { on := 36, ground := Ground.data }, { on := 31, ground := Ground.guard }], guard := some (31, false) }) (v := ?v37) rfl (by kernel_rfl) (by kernel_rfl) (by kernel_rfl) (fun _ _ _ h => h) (Or.inl ⟨by rfl, ?h37⟩) (by assumption) ?r37
  case h37 => (intro w hSw; go_simp <;> with_reducible rfl)
  try simp only [Act.put, List.setIfInBounds_toArray, List.set_cons_zero, List.set_cons_succ]
  refine wpAnyH_take (i := 38) (oi := { dst := some 60, op := Op.pick (Operand.tmp 53) (Operand.const (Value.bool true)) (Operand.tmp 59), type := 4, pos := "law.go:50", after := #[{ on := 31, ground := Ground.data }, { on := 37, ground := Ground.data }], guard := none }) (v := ?v38) rfl (by kernel_rfl) (by kernel_rfl) (by kernel_rfl) (fun _ _ _ h => h) (Or.inl ⟨by rfl, ?h38⟩) (by assumption) ?r38
  case h38 => (intro w hSw; go_simp <;> with_reducible rfl)
  try simp only [Act.put, List.setIfInBounds_toArray, List.set_cons_zero, List.set_cons_succ]
  refine wpAnyH_done (by kernel_rfl) ?_ _
  have hq := ‹Bel W4 _›
  obtain ⟨w5, rfl⟩ : ∃ x : World, x = wz := ⟨_, rfl⟩
  replace hq := Lib.hid hq
  clear f0 f1 f2 f3 cvl q1 q2 q3 cv hR2
  clear hR
  go_wp2_with fail
  go_loopw [63, 10, 11] (fun i _ _ wr => ∃ k : Nat, k ≤ ps.length ∧ i = .int .i64 k ∧ Bel w5 wr) (fun i _ _ _ => ps.length - (intOf i).toNat)
  case atStart => exact ⟨0, Nat.zero_le _, rfl, Bel.refl _⟩
  case round =>
    obtain ⟨k, hk, rfl, hr⟩ := hrel
    replace hr := Lib.hid hr
    have hB4 : Bel W4 wr := Bel.step hq.out (Below.mono hr.out (Nat.le_refl _))
    by_cases hlt : k < ps.length
    · obtain ⟨gp, rfl, -, hgp, hcapp, hcp⟩ := hpp.out (by omega)
      obtain ⟨ge, rfl, -, hge, hcape, hce⟩ := hpe.out (by rw [hfl.out]; omega)
      have p0 := (Below.cell hB4 (p := ⟨gp, k * 2, none⟩) hgp).trans ((hcp (k * 2) (by omega)).trans (spCells_at ps hlt).1)
      have p1 := (Below.cell hB4 (p := ⟨gp, k * 2 + 1, none⟩) hgp).trans ((hcp (k * 2 + 1) (by omega)).trans (spCells_at ps hlt).2)
      have e0 := (Below.cell hB4 (p := ⟨ge, 2 * k, none⟩) hge).trans ((hce (2 * k) (by rw [hfl.out]; omega)).trans (by rw [List.getElem?_map, (flat_at ps hlt).1]; rfl : _ = some (encI ps[k].1)))
      have e1 := (Below.cell hB4 (p := ⟨ge, 2 * k + 1, none⟩) hge).trans ((hce (2 * k + 1) (by rw [hfl.out]; omega)).trans (by rw [List.getElem?_map, (flat_at ps hlt).2]; rfl : _ = some (encI ps[k].2)))
      have hab := hps.out ps[k] (List.getElem_mem hlt)
      have hge' : ge < wr.heap.size := Nat.lt_of_lt_of_le hge (Below.size hB4)
      unfold encI at e0 e1
      clear hcp hce hpl hys
      generalize ps[k].1 = a at *
      generalize ps[k].2 = b at *
      obtain ⟨W6, hW6, bx, hB6⟩ : ∃ W6, wr.alloc (.cells #[.int .u8 (a : Int), .int .u8 (b : Int)] 50) = W6 ∧ W6.heap[wr.heap.size]? = some (.cells #[.int .u8 (a : Int), .int .u8 (b : Int)] 50 (0, 0)) ∧ Bel wr W6 :=
        ⟨_, rfl, World.alloc_heap_new _ _, (Below.refl _ _).alloc (Nat.le_refl _) _⟩
      have hl6 : wr.heap.size < W6.heap.size := (Array.getElem?_eq_some_iff.1 bx).1
      have x0 : ∀ w', Bel W6 w' → w'.cell? ⟨wr.heap.size, 0, none⟩ = some (.int .u8 (a : Int)) := fun w' h => by
        have := (Below.block h wr.heap.size hl6).trans bx
        simp [World.cell?, this]
      have x1 : ∀ w', Bel W6 w' → w'.cell? ⟨wr.heap.size, 1, none⟩ = some (.int .u8 (b : Int)) := fun w' h => by
        have := (Below.block h wr.heap.size hl6).trans bx
        simp [World.cell?, this]
      have y0 : ∀ w', Bel W6 w' → w'.cell? ⟨ge, 2 * k, none⟩ = some (.int .i64 (a : Int)) := fun w' h => Bel.cell h (by show ge < W6.heap.size; omega) (Bel.cell hB6 hge' e0)
      have y1 : ∀ w', Bel W6 w' → w'.cell? ⟨ge, 2 * k + 1, none⟩ = some (.int .i64 (b : Int)) := fun w' h => Bel.cell h (by show ge < W6.heap.size; omega) (Bel.cell hB6 hge' e1)
      have m1 : IntKind.i64.wrap (2 * (k : Int)) = 2 * (k : Int) := by rw [IntKind.wrap_i64]; omega
      have m2 : IntKind.i64.wrap (2 * (k : Int) + 1) = 2 * (k : Int) + 1 := by rw [IntKind.wrap_i64]; omega
      have m3 : IntKind.i64.wrap (a : Int) = a := by rw [IntKind.wrap_i64]; omega
      have m4 : IntKind.i64.wrap (b : Int) = b := by rw [IntKind.wrap_i64]; omega
      have t1 : (2 * (k : Int)).toNat = 2 * k := by omega
      have t2 : (2 * (k : Int) + 1).toNat = 2 * k + 1 := by omega
      have l0 : (0 : Int) ≤ 2 * (k : Int) := by omega
      have l1 : (0 : Int) ≤ 2 * (k : Int) + 1 := by omega
      have l2 : 2 * (k : Int) < ((flat ps).length : Int) := by rw [hfl.out]; omega
      have l3 : 2 * (k : Int) + 1 < ((flat ps).length : Int) := by rw [hfl.out]; omega
      replace hW6 := Lib.hid hW6
      replace bx := Lib.hid bx
      replace hB6 := Lib.hid hB6
      clear e0 e1 hB4
      go_wp2_with fail
      rw [hW6.out]
      refine wp_region_bel (by kernel_rfl) (by kernel_rfl) ?_
      repeat (first
        | go_big_quiet_skip
        | (go_big_quiet_want
           first
             | (refine BigFrame.quiet_move _ rfl ?_
                simp only [Act.put, Act.eval, List.setIfInBounds_toArray, List.set_cons_zero, List.set_cons_succ, List.getD_toArray, List.getD_cons_zero, List.getD_cons_succ]
                go_big_quiet_on)
             | (refine BigFrame.quiet_assign _ rfl ?_
                simp only [Act.put, Act.eval, List.setIfInBounds_toArray, List.set_cons_zero, List.set_cons_succ, List.getD_toArray, List.getD_cons_zero, List.getD_cons_succ]
                go_big_quiet_on)
             | (refine quiet_val ?_
                apply Exists.intro
                refine ⟨fun w' hC => ?_, ?_⟩
                · go_simp
                  with_reducible rfl
                simp only [Act.put, List.setIfInBounds_toArray, List.set_cons_zero, List.set_cons_succ]
                go_big_quiet_on)))
      refine wpQuiet_nil ?_
      intro wq hq

      clear x0 x1 y0 y1 m1 m2 m3 m4 t1 t2 l0 l1 l2 l3
      have hr6 : Bel w5 wq := Bel.step (Bel.step hr.out hB6.out) hq
      go_wp2
      go_roundw
      case rel => exact ⟨k + 1, by omega, by go_num, hr6⟩
      case measure => simp [intOf]; omega
    · have hT6 := hT4.out.below hB4 hT4.out.1
      have bf6 : Blk4 wr w.heap.size 28 (.int .u64 (wd f 0)) (.int .u64 (wd f 1)) (.int .u64 (wd f 2)) (.int .u64 (wd f 3)) := Blk4.bel bf.out hB4
      have hBw := hB.out.trans (Below.mono hB4 hB.out.size)
      obtain ⟨⟨f0, f1, f2, f3⟩, -⟩ := bf6.facts
      have hys2 := hys.out
      have hcl : ∀ j (h : j < ys.length), ∃ g, pl = some ⟨g, 0, none⟩ ∧ ys.length ≤ capl ∧ wr.cell? ⟨g, j, none⟩ = some (.int .u8 ((ys[j] : Nat) : Int)) := by
        intro j h
        obtain ⟨g, e1, _, e2, e3, e4⟩ := hpl.out (by omega)
        refine ⟨g, e1, e3, (Below.cell hB4 (p := ⟨g, j, none⟩) e2).trans ((e4 j (by omega)).trans ?_)⟩
        simp [h]
      have hLe2 : ∀ (L : Int), L = (if 0 < ys.length then ((ys.getD 0 0 : Nat) : Int) else -1) → ∀ w, Tab w → Calls Tryd.prog 29 #[(.agg #[.int .u64 (wd f 0), .int .u64 (wd f 1), .int .u64 (wd f 2), .int .u64 (wd f 3)])] w fun e w' => e = .returned (.int .i64 L) ∧ Below w.heap.size w w' := by
        intro L hL w hw
        refine (hLe.out w hw).mono ?_
        rintro e w' ⟨r, rfl, hr, hb⟩
        refine ⟨ret_int ?_, hb⟩
        rw [hr, hL]
        rcases Nat.eq_zero_or_pos ys.length with h | h
        · have : ys = [] := List.length_eq_zero_iff.1 h
          subst this; rfl
        · rw [if_pos (Int.le_refl 0), if_pos h]
          rw [show ((0 : Int).toNat) = 0 from rfl, List.getElem?_eq_getElem h]
          simp [List.getD, h]
      have hNt2 : ∀ (L : Int), L = (if 0 ≤ n ∧ n < ys.length then ((ys.getD n.toNat 0 : Nat) : Int) else -1) → ∀ w, Tab w → Calls Tryd.prog 30 #[(.agg #[.int .u64 (wd f 0), .int .u64 (wd f 1), .int .u64 (wd f 2), .int .u64 (wd f 3)]), .int .i64 n] w fun e w' => e = .returned (.int .i64 L) ∧ Below w.heap.size w w' := by
        intro L hL w hw
        refine (hNt.out w hw).mono ?_
        rintro e w' ⟨r, rfl, hr, hb⟩
        refine ⟨ret_int ?_, hb⟩
        rw [hr, hL]
        by_cases h0 : 0 ≤ n
        · by_cases h1 : n < ys.length
          · have h2 : n.toNat < ys.length := by omega
            rw [if_pos h0, if_pos ⟨h0, h1⟩, List.getElem?_eq_getElem h2]
            simp [List.getD, h2]
          · rw [if_pos h0, if_neg (by omega), List.getElem?_eq_none (by omega)]
        · rw [if_neg h0, if_neg (by omega)]
      clear hLe hNt hpl hpe hpp hps hys hfl hLi hr bf
      replace hBw := Lib.hid hBw
      replace hT6 := Lib.hid hT6
      replace bf6 := Lib.hid bf6
      rcases Nat.eq_zero_or_pos ys.length with hy | hy
      · have hL1 := hLe2 (-1) (by rw [if_neg (by omega)])
        have hL2 := hNt2 (-1) (by rw [if_neg (by omega)])
        clear hLe2 hNt2 hcl hys2
        replace hL1 := Lib.hid hL1
        replace hL2 := Lib.hid hL2
        have hy1 : (ys.length : Int) ≤ 0 := by omega
        clear hy
        by_cases hn : 0 ≤ n
        · have hn2 : ¬ n < (ys.length : Int) := by omega
          go_wp2_with (first | (go_at_call 29; refine (hL1.out _ hT6.out).mono ?_; rintro e w7 ⟨rfl, hb7⟩; replace hT6 := Lib.hid (hT6.out.below hb7 hT6.out.1); replace hBw := Lib.hid (hBw.out.trans (hb7.mono hBw.out.size)); replace bf6 := Lib.hid (Blk4.bel bf6.out hb7); clear hb7; obtain ⟨⟨f0, f1, f2, f3⟩, -⟩ := bf6.out.facts) | (go_at_call 30; refine (hL2.out _ hT6.out).mono ?_; rintro e w8 ⟨rfl, hb8⟩; replace hBw := Lib.hid (hBw.out.trans (hb8.mono hBw.out.size)); clear hb8))
          go_ret
          exact ⟨rfl, hBw.out⟩
        · go_wp2_with (first | (go_at_call 29; refine (hL1.out _ hT6.out).mono ?_; rintro e w7 ⟨rfl, hb7⟩; replace hT6 := Lib.hid (hT6.out.below hb7 hT6.out.1); replace hBw := Lib.hid (hBw.out.trans (hb7.mono hBw.out.size)); replace bf6 := Lib.hid (Blk4.bel bf6.out hb7); clear hb7; obtain ⟨⟨f0, f1, f2, f3⟩, -⟩ := bf6.out.facts) | (go_at_call 30; refine (hL2.out _ hT6.out).mono ?_; rintro e w8 ⟨rfl, hb8⟩; replace hBw := Lib.hid (hBw.out.trans (hb8.mono hBw.out.size)); clear hb8))
          go_ret
          exact ⟨rfl, hBw.out⟩
      · have hL1 := hLe2 _ (by rw [if_pos hy])
        obtain ⟨g, rfl, hcap, hc0⟩ := hcl 0 hy
        have hgd : ys.getD 0 0 = ys[0] := by simp [List.getD, hy]
        have h08 := hys2 ys[0] (List.getElem_mem hy)
        rw [hgd] at hL1
        clear hgd
        generalize ys[0] = s0 at *
        have hs0 : (s0 : Int) ≤ 255 := by omega
        replace hL1 := Lib.hid hL1
        have hy1 : 0 < (ys.length : Int) := by omega
        by_cases hn : 0 ≤ n ∧ n < ys.length
        · have hL2 := hNt2 _ (by rw [if_pos hn])
          obtain ⟨m, rfl⟩ := Int.eq_ofNat_of_zero_le hn.1
          have hm : m < ys.length := by omega
          obtain ⟨g', hg', _, hcm⟩ := hcl m hm
          obtain rfl : g = g' := by simpa using hg'
          have hgd : ys.getD (m : Int).toNat 0 = ys[m] := by simp [List.getD, hm]
          have hm8 := hys2 ys[m] (List.getElem_mem hm)
          rw [hgd] at hL2
          clear hgd hg' hcl hys2 hLe2 hNt2
          generalize ys[m] = sm at *
          have hsm : (sm : Int) ≤ 255 := by omega
          have hm1 : (m : Int) < (ys.length : Int) := by omega
          replace hL2 := Lib.hid hL2
          clear hn
          go_wp2_with (first | (go_at_call 29; refine (hL1.out _ hT6.out).mono ?_; rintro e w7 ⟨rfl, hb7⟩; replace hT6 := Lib.hid (hT6.out.below hb7 hT6.out.1); replace hBw := Lib.hid (hBw.out.trans (hb7.mono hBw.out.size)); replace bf6 := Lib.hid (Blk4.bel bf6.out hb7); clear hb7; obtain ⟨⟨f0, f1, f2, f3⟩, -⟩ := bf6.out.facts) | (go_at_call 30; refine (hL2.out _ hT6.out).mono ?_; rintro e w8 ⟨rfl, hb8⟩; replace hBw := Lib.hid (hBw.out.trans (hb8.mono hBw.out.size)); clear hb8))
          go_ret
          exact ⟨rfl, hBw.out⟩
        · have hL2 := hNt2 _ (by rw [if_neg hn])
          clear hcl hys2 hLe2 hNt2
          replace hL2 := Lib.hid hL2
          by_cases hn3 : 0 ≤ n
          · have hn2 : ¬ n < (ys.length : Int) := by omega
            clear hn
            go_wp2_with (first | (go_at_call 29; refine (hL1.out _ hT6.out).mono ?_; rintro e w7 ⟨rfl, hb7⟩; replace hT6 := Lib.hid (hT6.out.below hb7 hT6.out.1); replace hBw := Lib.hid (hBw.out.trans (hb7.mono hBw.out.size)); replace bf6 := Lib.hid (Blk4.bel bf6.out hb7); clear hb7; obtain ⟨⟨f0, f1, f2, f3⟩, -⟩ := bf6.out.facts) | (go_at_call 30; refine (hL2.out _ hT6.out).mono ?_; rintro e w8 ⟨rfl, hb8⟩; replace hBw := Lib.hid (hBw.out.trans (hb8.mono hBw.out.size)); clear hb8))
            go_ret
            exact ⟨rfl, hBw.out⟩
          · clear hn
            go_wp2_with (first | (go_at_call 29; refine (hL1.out _ hT6.out).mono ?_; rintro e w7 ⟨rfl, hb7⟩; replace hT6 := Lib.hid (hT6.out.below hb7 hT6.out.1); replace hBw := Lib.hid (hBw.out.trans (hb7.mono hBw.out.size)); replace bf6 := Lib.hid (Blk4.bel bf6.out hb7); clear hb7; obtain ⟨⟨f0, f1, f2, f3⟩, -⟩ := bf6.out.facts) | (go_at_call 30; refine (hL2.out _ hT6.out).mono ?_; rintro e w8 ⟨rfl, hb8⟩; replace hBw := Lib.hid (hBw.out.trans (hb8.mono hBw.out.size)); clear hb8))
            go_ret
            exact ⟨rfl, hBw.out⟩
end Go.Proofs.YtfgdbpepgahclaaDoor
