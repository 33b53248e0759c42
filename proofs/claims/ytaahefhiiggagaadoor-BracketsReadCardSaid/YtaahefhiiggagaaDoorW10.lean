/- alive; BracketsRead. -/
import Derived.Test.YtaahefhiiggagaaDoorW9
import Derived.Test.YtaahefhiiggagaaDoorLE
import Derived.Test.YtaahefhiiggagaaDoorS1W16
namespace Go.Proofs.YtaahefhiiggagaaDoor
open Go.RowKit
open S5 (nl nl_length nl_small at_nl nl_at Rd Sp Gives Two errV)
open S1 (Blk4 SetBox BoolRow wd noS oneS spanS orS notS spU eqB el)
theorem Errs.thr {w : World} {A : Nat → Addr} (h : Errs w A) : Thr w (.pointer (some (A 0))) (.pointer (some (A 1))) (.pointer (some (A 3))) :=
  ⟨⟨h.var 1 (by decide), h.var 3 (by decide)⟩, h.var 0 (by decide)⟩
theorem num_nil (w : World) : Calls Tryd.prog 14 #[.nilIface] w fun e w' => e = .returned (.int .i64 0) ∧ Below w.heap.size w w' := by
  go_enter Tryd.func14, Tryd.ntmps14
  go_wp2
  go_ret
  exact ⟨rfl, Below.refl _ _⟩
theorem num_err {A : Nat → Addr} {e : Nat} (he : e = 1 ∨ e = 2 ∨ e = 4) (w : World) (hE : Errs w A) :
    Calls Tryd.prog 14 #[.iface 105 (errT (.pointer (some (A 0))) (.pointer (some (A 1))) (.pointer (some (A 3))) e)] w fun e' w' => e' = .returned (.int .i64 e) ∧ Below w.heap.size w w' := by
  rcases he with rfl | rfl | rfl
  · exact (num_in A 0 (by decide) w hE).mono fun _ _ h => ⟨by rw [h.1]; rfl, h.2⟩
  · exact (num_in A 1 (by decide) w hE).mono fun _ _ h => ⟨by rw [h.1]; rfl, h.2⟩
  · exact (num_in A 3 (by decide) w hE).mono fun _ _ h => ⟨by rw [h.1]; rfl, h.2⟩
abbrev aliveB : ByteArray := ⟨#[91, 97, 45, 99, 92, 110, 93]⟩
theorem alive_br : Br (nl aliveB) 0 (res false [(97, 99), (10, 10)]) 7 0 := by
  have e : nl aliveB = [91, 97, 45, 99, 92, 110, 93] := by decide
  rw [e]
  have nb : ∀ c : Nat, ¬ Bare c → ∀ (l : List Nat) (k : Nat), l[k]? = some c → ∀ x, l[k]? = some x → ¬ Bare x := fun c hc l k h x hx => by
    rw [h] at hx; cases hx; exact hc
  have o1 : One [91, 97, 45, 99, 92, 110, 93] 1 97 ((2 : Nat) : Int) 0 := .rd 1 97 _ 0 (nb 97 (by decide) _ _ (by decide)) (.plain 1 97 (by decide) (by decide))
  have o2 : One [91, 97, 45, 99, 92, 110, 93] 3 99 ((4 : Nat) : Int) 0 := .rd 3 99 _ 0 (nb 99 (by decide) _ _ (by decide)) (.plain 3 99 (by decide) (by decide))
  have o3 : One [91, 97, 45, 99, 92, 110, 93] 4 10 ((6 : Nat) : Int) 0 := .rd 4 10 _ 0 (nb 92 (by decide) _ _ (by decide)) (.blank 4 110 10 (by decide) (by decide) (by decide))
  exact Br.ok 0 _ 7 (by decide) (by decide) (.span true 1 97 2 99 4 _ _ _ (.inl rfl) o1 (by decide) o2 (by decide) (.one false 4 10 6 _ _ _ (.inr (by decide)) o3 (by decide) (.close 6 (by decide))))
theorem alive_sz : S1.szS (res false [(97, 99), (10, 10)]) = 4 := by
  rw [S1.szS_el]
  decide +kernel
set_option maxRecDepth 10000 in
set_option maxHeartbeats 2000000 in
theorem alive_in {E1 E2 E4 : Value} (w : World) (hT : Thr w E1 E2 E4) : Calls Tryd.prog 6 #[] w fun e w' => e = .returned (.bool true) ∧ Below w.heap.size w w' := by
  have C := bread_in (by decide) alive_br w hT
  rw [show outV E1 E2 E4 (res false [(97, 99), (10, 10)]) 7 0 = .tuple #[(.agg #[.int .u64 (S1.wd (res false [(97, 99), (10, 10)]) 0), .int .u64 (S1.wd (res false [(97, 99), (10, 10)]) 1), .int .u64 (S1.wd (res false [(97, 99), (10, 10)]) 2), .int .u64 (S1.wd (res false [(97, 99), (10, 10)]) 3)]), .int .i64 7, .nilIface] from rfl] at C
  have L := fun w => S1.len_in (res false [(97, 99), (10, 10)]) w
  rw [alive_sz] at L
  generalize res false [(97, 99), (10, 10)] = f at *
  unfold Gives at C
  replace C := Lib.hid C
  replace L := Lib.hid L
  clear hT
  go_enter Tryd.func6, Tryd.ntmps6
  go_wp2_with (first | (go_at_call 8; (with_reducible refine C.out.mono ?_); rintro e w1 ⟨rfl, h1⟩) | (go_at_call 20; (with_reducible refine (L.out _).mono ?_); rintro e w2 ⟨rfl, h2⟩))
  go_ret
  exact ⟨rfl, (h1.alloc h1.size _).trans (h2.mono (by have := h1.size; simp; omega))⟩
set_option maxRecDepth 100000 in
set_option maxHeartbeats 4000000 in
theorem bracketsRead_in {s : ByteArray} {i : Int} (hs : s.size ≤ 9223372036854775807) {A : Nat → Addr} (w : World) (hE : Errs w A) :
    Calls Tryd.prog 4 #[.string s, .int .i64 i] w fun e w' => e = .returned (.bool true) ∧ Below w.heap.size w w' := by
  have cA := Lib.hid (fun w' (hb : Bel w w') => alive_in w' (hE.bel hb).thr)
  by_cases h1 : 300 < s.size
  · have hq := Lib.hid (Bel.refl w)
    clear hE
    go_enter Tryd.func4, Tryd.ntmps4
    go_wp2_with (go_at_call 6; (with_reducible refine (cA.out _ hq.out).mono ?_); rintro e w1 ⟨rfl, hb⟩; replace hq := Lib.hid (hq.out.step hb); clear hb)
    go_ret
    exact ⟨rfl, hq.out⟩
  have hs' : s.size ≤ 300 := by omega
  clear hs h1
  obtain ⟨f, t, e, hR⟩ := br_some (nl s) i
  have cR := fun w' (hb : Bel w w') => bread_in (by omega) hR w' (hE.bel hb).thr
  have cQ := fun w' (_ : Bel w w') => rread_in (by omega) hR w'
  unfold Gives at cR cQ
  have hq := Lib.hid (Bel.refl w)
  by_cases he : e = 0
  · subst he
    simp only [outV, roV, if_true] at cR cQ
    have cN := Lib.hid (fun w' (_ : Bel w w') => num_nil w')
    have eq := fun w => S1.eq28 (wd f 0) (wd f 1) (wd f 2) (wd f 3) (wd f 0) (wd f 1) (wd f 2) (wd f 3) w
    simp only [beq_self_eq_true, Bool.and_true] at eq
    replace cR := Lib.hid cR
    replace cQ := Lib.hid cQ
    clear hE hR
    go_enter Tryd.func4, Tryd.ntmps4
    go_wp2_with (first
      | (go_at_call 6; (with_reducible refine (cA.out _ hq.out).mono ?_); rintro e w1 ⟨rfl, hb⟩; replace hq := Lib.hid (hq.out.step hb); clear hb)
      | (go_at_call 8; (with_reducible refine (cR.out _ hq.out).mono ?_); rintro e w1 ⟨rfl, hb⟩; replace hq := Lib.hid ((hq.out.step hb).alloc (.cells #[.int .u64 (S1.wd (f) 0), .int .u64 (S1.wd (f) 1), .int .u64 (S1.wd (f) 2), .int .u64 (S1.wd (f) 3)] 24)); have bx := S1.Blk4.new w1 24 (.int .u64 (S1.wd (f) 0)) (.int .u64 (S1.wd (f) 1)) (.int .u64 (S1.wd (f) 2)) (.int .u64 (S1.wd (f) 3)); clear hb)
      | (go_at_call 13; (with_reducible refine (cQ.out _ hq.out).mono ?_); rintro e w2 ⟨rfl, hb⟩; replace hq := Lib.hid ((hq.out.step hb).alloc (.cells #[.int .u64 (S1.wd (f) 0), .int .u64 (S1.wd (f) 1), .int .u64 (S1.wd (f) 2), .int .u64 (S1.wd (f) 3)] 23)); replace bx := (bx.bel hb).alloc (.cells #[.int .u64 (S1.wd (f) 0), .int .u64 (S1.wd (f) 1), .int .u64 (S1.wd (f) 2), .int .u64 (S1.wd (f) 3)] 23); obtain ⟨⟨g0, g1, g2, g3⟩, -⟩ := bx.facts; clear hb)
      | (go_at_call 14; (with_reducible refine (cN.out _ hq.out).mono ?_); rintro e w3 ⟨rfl, hb⟩; replace hq := Lib.hid (hq.out.step hb); clear hb))
    go_ret
    exact ⟨ret_bool (by first | rfl | simp), hq.out⟩
  · have he2 : e = 1 ∨ e = 2 ∨ e = 4 := by have := br_err hR; omega
    simp only [outV, roV, if_neg he] at cR cQ
    have cN := Lib.hid (fun w' (hb : Bel w w') => num_err he2 w' (hE.bel hb))
    generalize errT (.pointer (some (A 0))) (.pointer (some (A 1))) (.pointer (some (A 3))) e = V at *
    have eq := fun w => S1.eq28 0 0 0 0 0 0 0 0 w
    simp only [beq_self_eq_true, Bool.and_true] at eq
    replace cR := Lib.hid cR
    replace cQ := Lib.hid cQ
    clear hE hR he he2
    go_enter Tryd.func4, Tryd.ntmps4
    go_wp2_with (first
      | (go_at_call 6; (with_reducible refine (cA.out _ hq.out).mono ?_); rintro e w1 ⟨rfl, hb⟩; replace hq := Lib.hid (hq.out.step hb); clear hb)
      | (go_at_call 8; (with_reducible refine (cR.out _ hq.out).mono ?_); rintro e w1 ⟨rfl, hb⟩; replace hq := Lib.hid ((hq.out.step hb).alloc (.cells #[.int .u64 0, .int .u64 0, .int .u64 0, .int .u64 0] 24)); have bx := S1.Blk4.new w1 24 (.int .u64 0) (.int .u64 0) (.int .u64 0) (.int .u64 0); clear hb)
      | (go_at_call 13; (with_reducible refine (cQ.out _ hq.out).mono ?_); rintro e w2 ⟨rfl, hb⟩; replace hq := Lib.hid ((hq.out.step hb).alloc (.cells #[.int .u64 0, .int .u64 0, .int .u64 0, .int .u64 0] 23)); replace bx := (bx.bel hb).alloc (.cells #[.int .u64 0, .int .u64 0, .int .u64 0, .int .u64 0] 23); obtain ⟨⟨g0, g1, g2, g3⟩, -⟩ := bx.facts; clear hb)
      | (go_at_call 14; (with_reducible refine (cN.out _ hq.out).mono ?_); rintro e w3 ⟨rfl, hb⟩; replace hq := Lib.hid (hq.out.step hb); clear hb))
    go_ret
    exact ⟨ret_bool (by first | rfl | simp), hq.out⟩
end Go.Proofs.YtaahefhiiggagaaDoor
