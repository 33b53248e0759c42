/- errors.Is over the program's own error values: the same one, another one; the number of an error. -/
import Derived.Test.YtjlmeegaiagfpaaDoorChecked
import Derived.Test.YtjlmeegaiagfpaaDoorLB
import Derived.LaidEql
import Derived.Stop.Asserts
import Derived.RowKitTokens
namespace Go.Proofs.YtjlmeegaiagfpaaDoor
open Go.RowKit Go.Extern.Stop Go.Stop Go.Extern
/-- What reflectlite's Comparable asks of a type. -/
def cmpF (t : TypeId) : Sem Value := do
  Extern.Rtype.noPackHeld "Comparable" t
  pure (.bool (← typeInfo t).comparable)
theorem isTypeOf (v : Value) (w : World) : (Extern.ReflectliteType.typeOf #[.iface 139 v]).run Tryd.prog w = .ok (.iface 117 (.agg #[.pointer (some ⟨19, 139, none⟩)])) w := by kernel_rfl
theorem isComparable (w : World) : (Extern.ReflectliteType.method cmpF #[.agg #[.pointer (some ⟨19, 139, none⟩)]]).run Tryd.prog w = .ok (.bool true) w := by kernel_rfl
theorem isMethodComparable (v : Value) (w : World) : (Go.method 276 117 v "Comparable").run Tryd.prog w = .ok (112, v) w := by kernel_rfl
theorem isComp : (Tryd.prog.info? 139).map (·.comparable) = some true := by kernel_rfl
theorem isSize : (Tryd.prog.info? 164).map (·.size) = some 1 := by kernel_rfl
theorem noIsE (v : Value) (xT : TypeId) (w : World) : (Instr.typeAssert (.iface 139 v) xT 119 true).run Tryd.prog w = .ok (.tuple #[.nilIface, .bool false]) w := run_typeAssert_lacksB Tryd.underlying119 (by kernel_rfl) (by kernel_rfl) v xT w
theorem noUnwrapE (v : Value) (xT : TypeId) (w : World) : (Instr.typeAssert (.iface 139 v) xT 122 true).run Tryd.prog w = .ok (.tuple #[.nilIface, .bool false]) w := run_typeAssert_lacksB Tryd.underlying122 (by kernel_rfl) (by kernel_rfl) v xT w
theorem noUnwrapsE (v : Value) (xT : TypeId) (w : World) : (Instr.typeAssert (.iface 139 v) xT 124 true).run Tryd.prog w = .ok (.tuple #[.nilIface, .bool false]) w := run_typeAssert_lacksB Tryd.underlying124 (by kernel_rfl) (by kernel_rfl) v xT w

/-- errors.Is(x, x), x a pointer to an errors.errorString. -/
theorem is_same (a : Addr) (w : World) :
    Calls Tryd.prog 28 #[.iface 139 (.pointer (some a)), .iface 139 (.pointer (some a))] w fun e w' => e = .returned (.bool true) ∧ w = w' := by
  obtain ⟨i, hi, hcmp⟩ := Option.map_eq_some_iff.1 isComp
  obtain ⟨j, hj, hjs⟩ := Option.map_eq_some_iff.1 isSize
  have h8 := @run_callFunc_extern Tryd.prog 50 _ Extern.ReflectliteType.typeOf Tryd.func50 (by kernel_rfl) (by kernel_rfl) (by kernel_rfl) (by kernel_rfl)
  have h32 := @run_callFunc_extern Tryd.prog 112 _ (Extern.ReflectliteType.method cmpF) Tryd.func112 (by kernel_rfl) (by kernel_rfl) (by kernel_rfl) (by kernel_rfl)
  have tT := isTypeOf
  have cT := isComparable
  have mR := isMethodComparable
  have heq := run_eql_iface_ptr_same (P := Tryd.prog) w a Tryd.underlying30 Tryd.underlying139 hi hcmp hj
  go_enter Tryd.func28, Tryd.ntmps28
  go_wp2
  refine wp_loop_rounds 1 ?_
  rw [rounds_succ]
  go_wp2
  go_ret
  exact ⟨rfl, rfl⟩
/-- errors.Is(x, y), two different pointers to errors.errorString: neither has Is nor Unwrap: false. -/
theorem is_other (a b : Addr) (ca cb : Array Value) (ta tb : TypeId) (w : World) (hne : a ≠ b) (ha : w.heap[a.block]? = some (.cells ca ta (0, 0))) (hb : w.heap[b.block]? = some (.cells cb tb (0, 0))) :
    Calls Tryd.prog 28 #[.iface 139 (.pointer (some a)), .iface 139 (.pointer (some b))] w fun e w' => e = .returned (.bool false) ∧ w = w' := by
  obtain ⟨i, hi, hcmp⟩ := Option.map_eq_some_iff.1 isComp
  obtain ⟨j, hj, hjs⟩ := Option.map_eq_some_iff.1 isSize
  have h8 := @run_callFunc_extern Tryd.prog 50 _ Extern.ReflectliteType.typeOf Tryd.func50 (by kernel_rfl) (by kernel_rfl) (by kernel_rfl) (by kernel_rfl)
  have h32 := @run_callFunc_extern Tryd.prog 112 _ (Extern.ReflectliteType.method cmpF) Tryd.func112 (by kernel_rfl) (by kernel_rfl) (by kernel_rfl) (by kernel_rfl)
  have tT := isTypeOf
  have cT := isComparable
  have mR := isMethodComparable
  have nE := noIsE
  have uE := noUnwrapE
  have vE := noUnwrapsE
  have heq := run_eql_iface_ptr_other (P := Tryd.prog) w Tryd.underlying30 Tryd.underlying139 hi hcmp hj (by rw [hjs]; decide) hne ha hb
  go_enter Tryd.func28, Tryd.ntmps28
  go_wp2
  refine wp_loop_rounds 1 ?_
  rw [rounds_succ]
  go_wp2
  go_ret
  exact ⟨rfl, rfl⟩
/-- In which variable the k-th error lies. -/
def ord (k : Nat) : Nat := [3, 0, 4, 5, 6, 7, 1, 8, 2, 9, 10, 11, 12, 13, 14, 15, 16, 17].getD k 0
/-- The program's error values: the k-th variable holds a pointer to a cell of its own. -/
structure Errs (w : World) (A : Nat → Addr) : Prop where
  var : ∀ k, k < 18 → w.cell? ⟨ord k, 0, none⟩ = some (.iface 139 (.pointer (some (A k))))
  ne : ∀ i j, i < j → j < 18 → A i ≠ A j
  row : ∀ k, k < 18 → ∃ c t, w.heap[(A k).block]? = some (.cells c t (0, 0))
theorem Errs.bel {w w' : World} {A : Nat → Addr} (h : Errs w A) (hb : Bel w w') : Errs w' A :=
  ⟨fun k hk => hb.cell (World.block_lt_of_cell? _ _ (h.var k hk)) (h.var k hk), h.ne, fun k hk => by
    obtain ⟨c, t, hr⟩ := h.row k hk
    exact ⟨c, t, (Below.block hb _ (lt_of_block hr)).trans hr⟩⟩
theorem list18 (A : Nat → Addr) (i : Nat) (hi : i < 18) : (#[.iface 139 (.pointer (some (A 0))), .iface 139 (.pointer (some (A 1))), .iface 139 (.pointer (some (A 2))), .iface 139 (.pointer (some (A 3))), .iface 139 (.pointer (some (A 4))), .iface 139 (.pointer (some (A 5))), .iface 139 (.pointer (some (A 6))), .iface 139 (.pointer (some (A 7))), .iface 139 (.pointer (some (A 8))), .iface 139 (.pointer (some (A 9))), .iface 139 (.pointer (some (A 10))), .iface 139 (.pointer (some (A 11))), .iface 139 (.pointer (some (A 12))), .iface 139 (.pointer (some (A 13))), .iface 139 (.pointer (some (A 14))), .iface 139 (.pointer (some (A 15))), .iface 139 (.pointer (some (A 16))), .iface 139 (.pointer (some (A 17)))] : Array Value)[i]? = some (.iface 139 (.pointer (some (A i)))) := by
  match i, hi with
  | 0, _ => rfl
  | 1, _ => rfl
  | 2, _ => rfl
  | 3, _ => rfl
  | 4, _ => rfl
  | 5, _ => rfl
  | 6, _ => rfl
  | 7, _ => rfl
  | 8, _ => rfl
  | 9, _ => rfl
  | 10, _ => rfl
  | 11, _ => rfl
  | 12, _ => rfl
  | 13, _ => rfl
  | 14, _ => rfl
  | 15, _ => rfl
  | 16, _ => rfl
  | 17, _ => rfl
  | n + 18, h => omega
set_option maxRecDepth 100000 in
set_option maxHeartbeats 2000000 in
theorem num_in (A : Nat → Addr) (k : Nat) (hk : k < 18) (w : World) (hE : Errs w A) :
    Calls Tryd.prog 9 #[.iface 139 (.pointer (some (A k)))] w fun e w' => e = .returned (.int .i64 ((k : Int) + 1)) ∧ Below w.heap.size w w' := by
  have h0 : w.cell? ⟨3, 0, none⟩ = some (.iface 139 (.pointer (some (A 0)))) := hE.var 0 (by decide)
  have h1 : w.cell? ⟨0, 0, none⟩ = some (.iface 139 (.pointer (some (A 1)))) := hE.var 1 (by decide)
  have h2 : w.cell? ⟨4, 0, none⟩ = some (.iface 139 (.pointer (some (A 2)))) := hE.var 2 (by decide)
  have h3 : w.cell? ⟨5, 0, none⟩ = some (.iface 139 (.pointer (some (A 3)))) := hE.var 3 (by decide)
  have h4 : w.cell? ⟨6, 0, none⟩ = some (.iface 139 (.pointer (some (A 4)))) := hE.var 4 (by decide)
  have h5 : w.cell? ⟨7, 0, none⟩ = some (.iface 139 (.pointer (some (A 5)))) := hE.var 5 (by decide)
  have h6 : w.cell? ⟨1, 0, none⟩ = some (.iface 139 (.pointer (some (A 6)))) := hE.var 6 (by decide)
  have h7 : w.cell? ⟨8, 0, none⟩ = some (.iface 139 (.pointer (some (A 7)))) := hE.var 7 (by decide)
  have h8 : w.cell? ⟨2, 0, none⟩ = some (.iface 139 (.pointer (some (A 8)))) := hE.var 8 (by decide)
  have h9 : w.cell? ⟨9, 0, none⟩ = some (.iface 139 (.pointer (some (A 9)))) := hE.var 9 (by decide)
  have h10 : w.cell? ⟨10, 0, none⟩ = some (.iface 139 (.pointer (some (A 10)))) := hE.var 10 (by decide)
  have h11 : w.cell? ⟨11, 0, none⟩ = some (.iface 139 (.pointer (some (A 11)))) := hE.var 11 (by decide)
  have h12 : w.cell? ⟨12, 0, none⟩ = some (.iface 139 (.pointer (some (A 12)))) := hE.var 12 (by decide)
  have h13 : w.cell? ⟨13, 0, none⟩ = some (.iface 139 (.pointer (some (A 13)))) := hE.var 13 (by decide)
  have h14 : w.cell? ⟨14, 0, none⟩ = some (.iface 139 (.pointer (some (A 14)))) := hE.var 14 (by decide)
  have h15 : w.cell? ⟨15, 0, none⟩ = some (.iface 139 (.pointer (some (A 15)))) := hE.var 15 (by decide)
  have h16 : w.cell? ⟨16, 0, none⟩ = some (.iface 139 (.pointer (some (A 16)))) := hE.var 16 (by decide)
  have h17 : w.cell? ⟨17, 0, none⟩ = some (.iface 139 (.pointer (some (A 17)))) := hE.var 17 (by decide)
  obtain ⟨W, hW, hc, hB⟩ : ∃ W, w.alloc (.cells #[.iface 139 (.pointer (some (A 0))), .iface 139 (.pointer (some (A 1))), .iface 139 (.pointer (some (A 2))), .iface 139 (.pointer (some (A 3))), .iface 139 (.pointer (some (A 4))), .iface 139 (.pointer (some (A 5))), .iface 139 (.pointer (some (A 6))), .iface 139 (.pointer (some (A 7))), .iface 139 (.pointer (some (A 8))), .iface 139 (.pointer (some (A 9))), .iface 139 (.pointer (some (A 10))), .iface 139 (.pointer (some (A 11))), .iface 139 (.pointer (some (A 12))), .iface 139 (.pointer (some (A 13))), .iface 139 (.pointer (some (A 14))), .iface 139 (.pointer (some (A 15))), .iface 139 (.pointer (some (A 16))), .iface 139 (.pointer (some (A 17)))] 30) = W ∧ (∀ i, i < 18 → W.cell? ⟨w.heap.size, i, none⟩ = some (.iface 139 (.pointer (some (A i))))) ∧ Bel w W :=
    ⟨_, rfl, fun i hi => by rw [cell_of_row _ _ i _ _ _ (World.alloc_heap_new w _)]; exact list18 A i hi, Bel.new w _⟩
  have hEW := hE.bel hB
  have hsame := is_same (A k) W
  have hoth : ∀ i, i < k → Calls Tryd.prog 28 #[.iface 139 (.pointer (some (A k))), .iface 139 (.pointer (some (A i)))] W fun e w' => e = .returned (.bool false) ∧ W = w' := fun i hi => by
    obtain ⟨c1, t1, r1⟩ := hEW.row k hk
    obtain ⟨c2, t2, r2⟩ := hEW.row i (by omega)
    exact is_other (A k) (A i) c1 c2 t1 t2 W (fun e => hEW.ne i k hi hk e.symm) r1 r2
  have hv := fun i hi => hE.var i hi
  clear hEW hE hv
  replace hsame := Lib.hid hsame
  replace hoth := Lib.hid hoth
  replace hc := Lib.hid hc
  replace hB := Lib.hid hB
  replace hW := Lib.hid hW
  go_enter Tryd.func9, Tryd.ntmps9
  go_wp2
  rw [hW.out]
  clear h0 h1 h2 h3 h4 h5 h6 h7 h8 h9 h10 h11 h12 h13 h14 h15 h16 h17
  go_loop [29] (fun i => ∃ j : Nat, j ≤ k ∧ i = .int .i64 j) (fun i => k + 1 - (intOf i).toNat)
  case atStart => exact ⟨0, Nat.zero_le _, rfl⟩
  case round =>
    obtain ⟨j, hj, rfl⟩ := hrel
    have hcj := hc.out j (by omega)
    by_cases hlt : j < k
    · have ho := Lib.hid (hoth.out j hlt)
      go_wp2_with (go_at_call 28; refine ho.out.mono ?_; rintro e w' ⟨rfl, rfl⟩)
      go_round
      case rel => exact ⟨j + 1, by omega, by go_num⟩
      case measure => simp [intOf]; omega
    · have e : j = k := by omega
      subst e
      go_wp2_with (go_at_call 28; refine hsame.out.mono ?_; rintro e w' ⟨rfl, rfl⟩)
      go_ret
      exact ⟨rfl, hB.out⟩
end Go.Proofs.YtjlmeegaiagfpaaDoor
