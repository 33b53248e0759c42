/- How it is read: the program's coded, escaped, Read. -/
import Derived.Test.YtaahefhiiggagaaDoorS5W3
namespace Go.Proofs.YtaahefhiiggagaaDoor.S5
open Go.RowKit
/-- The value of an error's number: 0: none; 2: it ends; 4: it is no notation. -/
def errV (E2 E4 : Value) (e : Nat) : Value := if e = 0 then .nilIface else if e = 2 then .iface 105 E2 else .iface 105 E4
/-- The two error values lie in their variables. -/
structure Two (w : World) (E2 E4 : Value) : Prop where
  short : w.cell? ⟨0, 0, none⟩ = some (.iface 105 E2)
  form : w.cell? ⟨1, 0, none⟩ = some (.iface 105 E4)
theorem Two.bel {w w' : World} {E2 E4 : Value} (h : Two w E2 E4) (hb : Bel w w') : Two w' E2 E4 :=
  ⟨hb.cell (World.block_lt_of_cell? _ _ h.short) h.short, hb.cell (World.block_lt_of_cell? _ _ h.form) h.form⟩

/-- At a place behind a backslash and x: the first digit is missing. -/
theorem coded_0 {s : ByteArray} {k : Nat} (hk : k = s.size) (hm : s.size ≤ 100000) {E2 E4 : Value} (w : World) (hT : Two w E2 E4) :
    Calls Tryd.prog 63 #[.string s, .int .i64 k] w fun e w' => e = .returned (.tuple #[.int .u8 0, .int .i64 k, .iface 105 E2]) ∧ Below w.heap.size w w' := by
  have h1 := hT.short
  clear hT
  have g1 : ((k : Int) == (s.size : Int)) = true := by simp; omega
  have hkb : k ≤ 100000 := by omega
  clear hk
  go_enter Tryd.func63, Tryd.ntmps63
  go_wp2
  refine wp_loop_rounds 1 ?_
  rw [rounds_succ]
  go_wp2
  go_quiet (fail)
  go_wp2
  refine bodyPost_ret (v := .tuple #[.int .u8 0, .int .i64 k, .iface 105 E2]) (by simp [results, Tryd.results63, go_sem]) rfl ?_
  exact ⟨rfl, below_drewN (Below.refl _ _) _⟩
theorem coded_1 {s : ByteArray} {k c : Nat} (hk : (nl s)[k]? = some c) (hc : Fig c (-1)) (hm : s.size ≤ 100000) {E2 E4 : Value} (w : World) (hT : Two w E2 E4) :
    Calls Tryd.prog 63 #[.string s, .int .i64 k] w fun e w' => e = .returned (.tuple #[.int .u8 0, .int .i64 k, .iface 105 E4]) ∧ Below w.heap.size w w' := by
  have h1 := hT.form
  clear hT
  obtain ⟨hlt, hat⟩ := at_nl hk
  have hcs : c ≤ 255 := nl_small s c (List.mem_of_getElem? hk)
  have C := Lib.hid (fun w => value_in hc hcs w)
  clear hk hc
  have hne : ¬ k = s.size := by omega
  go_enter Tryd.func63, Tryd.ntmps63
  go_wp2
  refine wp_loop_rounds 1 ?_
  rw [rounds_succ]
  go_wp2_with (go_at_call 65; (with_reducible refine (C.out _).mono ?_); rintro e w' ⟨rfl, rfl⟩)
  go_quiet (fail)
  go_wp2
  refine bodyPost_ret (v := .tuple #[.int .u8 0, .int .i64 k, .iface 105 E4]) (by simp [results, Tryd.results63, go_sem]) rfl ?_
  exact ⟨rfl, below_drewN (Below.refl _ _) _⟩
theorem coded_2 {s : ByteArray} {k c d : Nat} (hk : (nl s)[k]? = some c) (hc : Fig c d) (he : k + 1 = s.size) (hm : s.size ≤ 100000) {E2 E4 : Value} (w : World) (hT : Two w E2 E4) :
    Calls Tryd.prog 63 #[.string s, .int .i64 k] w fun e w' => e = .returned (.tuple #[.int .u8 0, .int .i64 (k + 1), .iface 105 E2]) ∧ Below w.heap.size w w' := by
  have h1 := hT.short
  clear hT
  obtain ⟨hlt, hat⟩ := at_nl hk
  have hcs : c ≤ 255 := nl_small s c (List.mem_of_getElem? hk)
  have hd := fig_range hc
  have C := Lib.hid (fun w => value_in hc hcs w)
  clear hk hc
  have hne : ¬ k = s.size := by omega
  have g1 : ((k : Int) + 1 == (s.size : Int)) = true := by simp; omega
  have hkb : k ≤ 100000 := by omega
  clear he
  go_enter Tryd.func63, Tryd.ntmps63
  go_wp2
  refine wp_loop_rounds 2 ?_
  rw [rounds_succ]
  go_wp2_with (go_at_call 65; (with_reducible refine (C.out _).mono ?_); rintro e w' ⟨rfl, rfl⟩)
  rw [rounds_succ]
  go_wp2_with (go_at_call 65; (with_reducible refine (C.out _).mono ?_); rintro e w' ⟨rfl, rfl⟩)
  go_quiet (fail)
  go_wp2
  refine bodyPost_ret (v := .tuple #[.int .u8 0, .int .i64 (k + 1), .iface 105 E2]) (by simp [results, Tryd.results63, go_sem]) rfl ?_
  exact ⟨rfl, below_drewN (Below.refl _ _) _⟩
theorem coded_3 {s : ByteArray} {k c d b : Nat} (hk : (nl s)[k]? = some c) (hc : Fig c d) (hj : (nl s)[k + 1]? = some b) (hb : Fig b (-1)) (hm : s.size ≤ 100000) {E2 E4 : Value} (w : World) (hT : Two w E2 E4) :
    Calls Tryd.prog 63 #[.string s, .int .i64 k] w fun e w' => e = .returned (.tuple #[.int .u8 0, .int .i64 (k + 1), .iface 105 E4]) ∧ Below w.heap.size w w' := by
  have h1 := hT.form
  clear hT
  obtain ⟨hlt, hat⟩ := at_nl hk
  obtain ⟨hlt2, hat2⟩ := at_nl hj
  have hcs : c ≤ 255 := nl_small s c (List.mem_of_getElem? hk)
  have hbs : b ≤ 255 := nl_small s b (List.mem_of_getElem? hj)
  have hd := fig_range hc
  have C := Lib.hid (fun w => value_in hc hcs w)
  have C2 := Lib.hid (fun w => value_in hb hbs w)
  clear hk hc hj hb
  have hne : ¬ k = s.size := by omega
  have g1 : ((k : Int) + 1 == (s.size : Int)) = false := by simp; omega
  have hkb : k ≤ 100000 := by omega
  go_enter Tryd.func63, Tryd.ntmps63
  go_wp2
  refine wp_loop_rounds 2 ?_
  rw [rounds_succ]
  go_wp2_with (go_at_call 65; (with_reducible refine (C.out _).mono ?_); rintro e w' ⟨rfl, rfl⟩)
  rw [rounds_succ]
  go_wp2_with (go_at_call 65; (with_reducible refine (C2.out _).mono ?_); rintro e w' ⟨rfl, rfl⟩)
  go_quiet (fail)
  go_wp2
  refine bodyPost_ret (v := .tuple #[.int .u8 0, .int .i64 (k + 1), .iface 105 E4]) (by simp [results, Tryd.results63, go_sem]) rfl ?_
  exact ⟨rfl, below_drewN (Below.refl _ _) _⟩
theorem coded_4 {s : ByteArray} {k c d b e : Nat} (hk : (nl s)[k]? = some c) (hc : Fig c d) (hj : (nl s)[k + 1]? = some b) (hb : Fig b e) (hm : s.size ≤ 100000) (w : World) :
    Calls Tryd.prog 63 #[.string s, .int .i64 k] w fun e' w' => e' = .returned (.tuple #[.int .u8 (16 * d + e : Nat), .int .i64 (k + 2), .nilIface]) ∧ Below w.heap.size w w' := by
  obtain ⟨hlt, hat⟩ := at_nl hk
  obtain ⟨hlt2, hat2⟩ := at_nl hj
  have hcs : c ≤ 255 := nl_small s c (List.mem_of_getElem? hk)
  have hbs : b ≤ 255 := nl_small s b (List.mem_of_getElem? hj)
  have hd := fig_range hc
  have hd2 := fig_range hb
  have C := Lib.hid (fun w => value_in hc hcs w)
  have C2 := Lib.hid (fun w => value_in hb hbs w)
  clear hk hc hj hb
  have hne : ¬ k = s.size := by omega
  have g1 : ((k : Int) + 1 == (s.size : Int)) = false := by simp; omega
  have hkb : k ≤ 100000 := by omega
  go_enter Tryd.func63, Tryd.ntmps63
  go_wp2
  refine wp_loop_rounds 3 ?_
  rw [rounds_succ]
  go_wp2_with (go_at_call 65; (with_reducible refine (C.out _).mono ?_); rintro e w' ⟨rfl, rfl⟩)
  rw [rounds_succ]
  go_wp2_with (go_at_call 65; (with_reducible refine (C2.out _).mono ?_); rintro e w' ⟨rfl, rfl⟩)
  rw [rounds_succ]
  go_wp2
  refine bodyPost_ret (v := .tuple #[.int .u8 ((d : Int) * 16 + e), .int .i64 (k + 2), .nilIface]) (by simp [results, Tryd.results63, go_sem]) rfl ?_
  exact ⟨by rw [show ((16 * d + e : Nat) : Int) = (d : Int) * 16 + e by omega], Below.refl _ _⟩
end Go.Proofs.YtaahefhiiggagaaDoor.S5
