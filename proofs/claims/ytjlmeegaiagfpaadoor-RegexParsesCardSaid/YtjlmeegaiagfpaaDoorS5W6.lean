/- How it is read: the reference. -/
import Derived.Test.YtjlmeegaiagfpaaDoorS5A
import Derived.BigQuiet
import Derived.Deep.QuietTactic
import Derived.IntWalk
namespace Go.Proofs.YtjlmeegaiagfpaaDoor.S5
open Go.RowKit
set_option maxRecDepth 100000 in
set_option maxHeartbeats 1000000 in
theorem rread_out {s : ByteArray} {i : Int} (hi : i < 0 ∨ (s.size : Int) ≤ i) (_ : s.size ≤ 99990) (w : World) :
    Gives 49 #[.string s, .int .i64 i] (.tuple #[.int .u8 0, .int .i64 s.size, .int .i64 2]) w := by
  have g1 : decide ((s.size : Int) ≤ i) = true ∨ decide (i < 0) = true := by simp; omega
  unfold Gives
  go_enter Tryd.func49, Tryd.ntmps49
  go_wp2
  all_goals first | (exfalso; omega) | skip
  all_goals
    refine bodyPost_ret (v := .tuple #[.int .u8 0, .int .i64 s.size, .int .i64 2]) (by simp [results, Tryd.results49, go_sem]) rfl ?_
    exact ⟨rfl, Below.refl _ _⟩
set_option maxRecDepth 100000 in
set_option maxHeartbeats 1000000 in
theorem rread_plain {s : ByteArray} {k c : Nat} (h0 : (nl s)[k]? = some c) (hc : c ≠ 92) (hm : s.size ≤ 99990) (w : World) :
    Gives 49 #[.string s, .int .i64 k] (.tuple #[.int .u8 c, .int .i64 (k + 1), .int .i64 0]) w := by
  obtain ⟨l0, a0⟩ := at_nl h0
  clear h0
  have x1 : ((c : Int) == 92) = false := by simp; omega
  have x2 : ((c : Int) != 92) = true := by simp; omega
  clear hc
  unfold Gives
  go_enter Tryd.func49, Tryd.ntmps49
  go_wp2
  refine bodyPost_ret (v := .tuple #[.int .u8 c, .int .i64 (k + 1), .int .i64 0]) (by simp [results, Tryd.results49, go_sem]; try decide) rfl ?_
  exact ⟨rfl, Below.refl _ _⟩
set_option maxRecDepth 100000 in
set_option maxHeartbeats 1000000 in
theorem rread_ends1 {s : ByteArray} {k : Nat} (h0 : (nl s)[k]? = some 92) (he : k + 1 = s.size) (hm : s.size ≤ 99990) (w : World) :
    Gives 49 #[.string s, .int .i64 k] (.tuple #[.int .u8 0, .int .i64 (k + 1), .int .i64 2]) w := by
  obtain ⟨l0, a0⟩ := at_nl h0
  clear h0
  have e1 : ((k : Int) == (s.size : Int) - 1) = true := by simp; omega
  have e2 : (s.size : Int) = (k : Int) + 1 := by omega
  have e3 := Lib.hid e2
  clear he e2
  unfold Gives
  go_enter Tryd.func49, Tryd.ntmps49
  go_wp2
  refine bodyPost_ret (v := .tuple #[.int .u8 0, .int .i64 s.size, .int .i64 2]) (by simp [results, Tryd.results49, go_sem]) rfl ?_
  exact ⟨by rw [e3.out], Below.refl _ _⟩
set_option maxRecDepth 100000 in
set_option maxHeartbeats 1000000 in
theorem rread_b110 {s : ByteArray} {k : Nat} (h0 : (nl s)[k]? = some 92) (h1 : (nl s)[k + 1]? = some 110) (hm : s.size ≤ 99990) (w : World) :
    Gives 49 #[.string s, .int .i64 k] (.tuple #[.int .u8 10, .int .i64 (k + 2), .int .i64 0]) w := by
  obtain ⟨l0, a0⟩ := at_nl h0
  clear h0
  obtain ⟨l1, a1⟩ := at_nl h1
  clear h1
  have e1 : ((k : Int) == (s.size : Int) - 1) = false := by simp; omega
  unfold Gives
  go_enter Tryd.func49, Tryd.ntmps49
  go_wp2
  refine bodyPost_ret (v := .tuple #[.int .u8 10, .int .i64 (k + 2), .int .i64 0]) (by simp [results, Tryd.results49, go_sem]; try decide) rfl ?_
  exact ⟨rfl, Below.refl _ _⟩
set_option maxRecDepth 100000 in
set_option maxHeartbeats 1000000 in
theorem rread_b116 {s : ByteArray} {k : Nat} (h0 : (nl s)[k]? = some 92) (h1 : (nl s)[k + 1]? = some 116) (hm : s.size ≤ 99990) (w : World) :
    Gives 49 #[.string s, .int .i64 k] (.tuple #[.int .u8 9, .int .i64 (k + 2), .int .i64 0]) w := by
  obtain ⟨l0, a0⟩ := at_nl h0
  clear h0
  obtain ⟨l1, a1⟩ := at_nl h1
  clear h1
  have e1 : ((k : Int) == (s.size : Int) - 1) = false := by simp; omega
  unfold Gives
  go_enter Tryd.func49, Tryd.ntmps49
  go_wp2
  refine bodyPost_ret (v := .tuple #[.int .u8 9, .int .i64 (k + 2), .int .i64 0]) (by simp [results, Tryd.results49, go_sem]; try decide) rfl ?_
  exact ⟨rfl, Below.refl _ _⟩
set_option maxRecDepth 100000 in
set_option maxHeartbeats 1000000 in
theorem rread_b114 {s : ByteArray} {k : Nat} (h0 : (nl s)[k]? = some 92) (h1 : (nl s)[k + 1]? = some 114) (hm : s.size ≤ 99990) (w : World) :
    Gives 49 #[.string s, .int .i64 k] (.tuple #[.int .u8 13, .int .i64 (k + 2), .int .i64 0]) w := by
  obtain ⟨l0, a0⟩ := at_nl h0
  clear h0
  obtain ⟨l1, a1⟩ := at_nl h1
  clear h1
  have e1 : ((k : Int) == (s.size : Int) - 1) = false := by simp; omega
  unfold Gives
  go_enter Tryd.func49, Tryd.ntmps49
  go_wp2
  refine bodyPost_ret (v := .tuple #[.int .u8 13, .int .i64 (k + 2), .int .i64 0]) (by simp [results, Tryd.results49, go_sem]; try decide) rfl ?_
  exact ⟨rfl, Below.refl _ _⟩
set_option maxRecDepth 100000 in
set_option maxHeartbeats 1000000 in
theorem rread_b115 {s : ByteArray} {k : Nat} (h0 : (nl s)[k]? = some 92) (h1 : (nl s)[k + 1]? = some 115) (hm : s.size ≤ 99990) (w : World) :
    Gives 49 #[.string s, .int .i64 k] (.tuple #[.int .u8 32, .int .i64 (k + 2), .int .i64 0]) w := by
  obtain ⟨l0, a0⟩ := at_nl h0
  clear h0
  obtain ⟨l1, a1⟩ := at_nl h1
  clear h1
  have e1 : ((k : Int) == (s.size : Int) - 1) = false := by simp; omega
  unfold Gives
  go_enter Tryd.func49, Tryd.ntmps49
  go_wp2
  refine bodyPost_ret (v := .tuple #[.int .u8 32, .int .i64 (k + 2), .int .i64 0]) (by simp [results, Tryd.results49, go_sem]; try decide) rfl ?_
  exact ⟨rfl, Below.refl _ _⟩
set_option maxRecDepth 100000 in
set_option maxHeartbeats 1000000 in
theorem rread_blank {s : ByteArray} {k c d : Nat} (h0 : (nl s)[k]? = some 92) (h1 : (nl s)[k + 1]? = some c) (hd : [(10, 110), (9, 116), (13, 114), (32, 115)].contains (d, c) = true) (hm : s.size ≤ 99990) (w : World) :
    Gives 49 #[.string s, .int .i64 k] (.tuple #[.int .u8 d, .int .i64 (k + 2), .int .i64 0]) w := by
  simp at hd
  rcases hd with ⟨rfl, rfl⟩ | ⟨rfl, rfl⟩ | ⟨rfl, rfl⟩ | ⟨rfl, rfl⟩
  · exact rread_b110 h0 h1 hm w
  · exact rread_b116 h0 h1 hm w
  · exact rread_b114 h0 h1 hm w
  · exact rread_b115 h0 h1 hm w
set_option maxRecDepth 100000 in
set_option maxHeartbeats 1000000 in
theorem rread_ends2 {s : ByteArray} {k : Nat} (h0 : (nl s)[k]? = some 92) (h1 : (nl s)[k + 1]? = some 120) (he : k + 2 = s.size) (hm : s.size ≤ 99990) (w : World) :
    Gives 49 #[.string s, .int .i64 k] (.tuple #[.int .u8 0, .int .i64 (k + 2), .int .i64 2]) w := by
  obtain ⟨l0, a0⟩ := at_nl h0
  clear h0
  obtain ⟨l1, a1⟩ := at_nl h1
  clear h1
  have e1 : ((k : Int) == (s.size : Int) - 1) = false := by simp; omega
  have e5 : ((k : Int) + 2 == (s.size : Int)) = true := by simp; omega
  have e2 : (s.size : Int) = (k : Int) + 2 := by omega
  have e3 := Lib.hid e2
  clear he e2
  unfold Gives
  go_enter Tryd.func49, Tryd.ntmps49
  go_wp2
  refine bodyPost_ret (v := .tuple #[.int .u8 0, .int .i64 s.size, .int .i64 2]) (by simp [results, Tryd.results49, go_sem]) rfl ?_
  exact ⟨by rw [e3.out], Below.refl _ _⟩
set_option maxRecDepth 100000 in
set_option maxHeartbeats 1000000 in
theorem rread_bad2 {s : ByteArray} {k c : Nat} (h0 : (nl s)[k]? = some 92) (h1 : (nl s)[k + 1]? = some 120) (h2 : (nl s)[k + 2]? = some c) (f2 : Fig c (-1)) (hm : s.size ≤ 99990) (w : World) :
    Gives 49 #[.string s, .int .i64 k] (.tuple #[.int .u8 0, .int .i64 (k + 2), .int .i64 4]) w := by
  have c2 := Lib.hid (fun w => figure_in f2 (nl_small s _ (List.mem_of_getElem? h2)) w)
  obtain ⟨l0, a0⟩ := at_nl h0
  clear h0
  obtain ⟨l1, a1⟩ := at_nl h1
  clear h1
  obtain ⟨l2, a2⟩ := at_nl h2
  clear h2
  clear f2
  have e1 : ((k : Int) == (s.size : Int) - 1) = false := by simp; omega
  have e5 : ((k : Int) + 2 == (s.size : Int)) = false := by simp; omega
  unfold Gives
  go_enter Tryd.func49, Tryd.ntmps49
  go_wp2_with (first | (go_at_call 73; (with_reducible refine (c2.out _).mono ?_); rintro e w' ⟨rfl, rfl⟩))
  refine bodyPost_ret (v := .tuple #[.int .u8 0, .int .i64 (k + 2), .int .i64 4]) (by simp [results, Tryd.results49, go_sem]; try decide) rfl ?_
  exact ⟨rfl, Below.refl _ _⟩
set_option maxRecDepth 100000 in
set_option maxHeartbeats 1000000 in
theorem rread_ends3 {s : ByteArray} {k c d : Nat} (h0 : (nl s)[k]? = some 92) (h1 : (nl s)[k + 1]? = some 120) (h2 : (nl s)[k + 2]? = some c) (f2 : Fig c d) (he : k + 3 = s.size) (hm : s.size ≤ 99990) (w : World) :
    Gives 49 #[.string s, .int .i64 k] (.tuple #[.int .u8 0, .int .i64 (k + 3), .int .i64 2]) w := by
  have c2 := Lib.hid (fun w => figure_in f2 (nl_small s _ (List.mem_of_getElem? h2)) w)
  obtain ⟨l0, a0⟩ := at_nl h0
  clear h0
  obtain ⟨l1, a1⟩ := at_nl h1
  clear h1
  obtain ⟨l2, a2⟩ := at_nl h2
  clear h2
  clear f2
  have e1 : ((k : Int) == (s.size : Int) - 1) = false := by simp; omega
  have e5 : ((k : Int) + 2 == (s.size : Int)) = false := by simp; omega
  have e6 : ((k : Int) + 3 == (s.size : Int)) = true := by simp; omega
  have e2 : (s.size : Int) = (k : Int) + 3 := by omega
  have e3 := Lib.hid e2
  clear he e2
  unfold Gives
  go_enter Tryd.func49, Tryd.ntmps49
  go_wp2_with (first | (go_at_call 73; (with_reducible refine (c2.out _).mono ?_); rintro e w' ⟨rfl, rfl⟩))
  refine bodyPost_ret (v := .tuple #[.int .u8 0, .int .i64 s.size, .int .i64 2]) (by simp [results, Tryd.results49, go_sem]) rfl ?_
  exact ⟨by rw [e3.out], Below.refl _ _⟩
set_option maxRecDepth 100000 in
set_option maxHeartbeats 1000000 in
theorem rread_bad3 {s : ByteArray} {k c d b : Nat} (h0 : (nl s)[k]? = some 92) (h1 : (nl s)[k + 1]? = some 120) (h2 : (nl s)[k + 2]? = some c) (f2 : Fig c d) (h3 : (nl s)[k + 3]? = some b) (f3 : Fig b (-1)) (hm : s.size ≤ 99990) (w : World) :
    Gives 49 #[.string s, .int .i64 k] (.tuple #[.int .u8 0, .int .i64 (k + 3), .int .i64 4]) w := by
  have c2 := Lib.hid (fun w => figure_in f2 (nl_small s _ (List.mem_of_getElem? h2)) w)
  have c3 := Lib.hid (fun w => figure_in f3 (nl_small s _ (List.mem_of_getElem? h3)) w)
  obtain ⟨l0, a0⟩ := at_nl h0
  clear h0
  obtain ⟨l1, a1⟩ := at_nl h1
  clear h1
  obtain ⟨l2, a2⟩ := at_nl h2
  clear h2
  obtain ⟨l3, a3⟩ := at_nl h3
  clear h3
  clear f2 f3
  have e1 : ((k : Int) == (s.size : Int) - 1) = false := by simp; omega
  have e5 : ((k : Int) + 2 == (s.size : Int)) = false := by simp; omega
  have e6 : ((k : Int) + 3 == (s.size : Int)) = false := by simp; omega
  unfold Gives
  go_enter Tryd.func49, Tryd.ntmps49
  go_wp2_with (first | (go_at_call 73; (with_reducible refine (c2.out _).mono ?_); rintro e w' ⟨rfl, rfl⟩) | (go_at_call 73; (with_reducible refine (c3.out _).mono ?_); rintro e w' ⟨rfl, rfl⟩))
  refine bodyPost_ret (v := .tuple #[.int .u8 0, .int .i64 (k + 3), .int .i64 4]) (by simp [results, Tryd.results49, go_sem]; try decide) rfl ?_
  exact ⟨rfl, Below.refl _ _⟩
set_option maxRecDepth 100000 in
set_option maxHeartbeats 1000000 in
theorem rread_hex {s : ByteArray} {k c d b e : Nat} (h0 : (nl s)[k]? = some 92) (h1 : (nl s)[k + 1]? = some 120) (h2 : (nl s)[k + 2]? = some c) (f2 : Fig c d) (h3 : (nl s)[k + 3]? = some b) (f3 : Fig b e) (hm : s.size ≤ 99990) (w : World) :
    Gives 49 #[.string s, .int .i64 k] (.tuple #[.int .u8 (16 * d + e : Nat), .int .i64 (k + 4), .int .i64 0]) w := by
  have c2 := Lib.hid (fun w => figure_in f2 (nl_small s _ (List.mem_of_getElem? h2)) w)
  have c3 := Lib.hid (fun w => figure_in f3 (nl_small s _ (List.mem_of_getElem? h3)) w)
  have q2 := Lib.hid (fun w => (figure_in f2 (nl_small s _ (List.mem_of_getElem? h2)) w).mono fun _ _ h => (⟨h.1, h.2.symm⟩ : _ ∧ _ = w))
  have q3 := Lib.hid (fun w => (figure_in f3 (nl_small s _ (List.mem_of_getElem? h3)) w).mono fun _ _ h => (⟨h.1, h.2.symm⟩ : _ ∧ _ = w))
  have r2 := fig_range f2
  have r3 := fig_range f3
  obtain ⟨l0, a0⟩ := at_nl h0
  clear h0
  obtain ⟨l1, a1⟩ := at_nl h1
  clear h1
  obtain ⟨l2, a2⟩ := at_nl h2
  clear h2
  obtain ⟨l3, a3⟩ := at_nl h3
  clear h3
  clear f2 f3
  have e1 : ((k : Int) == (s.size : Int) - 1) = false := by simp; omega
  have e5 : ((k : Int) + 2 == (s.size : Int)) = false := by simp; omega
  have e6 : ((k : Int) + 3 == (s.size : Int)) = false := by simp; omega
  have k1 : IntKind.i64.wrap (16 * (d : Int)) = 16 * d := IntWalk.i64_in _ (by omega)
  have k2 : IntKind.i64.wrap (16 * (d : Int) + e) = 16 * d + e := IntWalk.i64_in _ (by omega)
  have k3 : IntKind.u8.wrap (16 * (d : Int) + e) = 16 * d + e := IntWalk.u8_in _ (by omega)
  have k4 : IntKind.i64.wrap ((k : Int) + 2) = k + 2 := IntWalk.i64_in _ (by omega)
  have k5 : IntKind.i64.wrap ((k : Int) + 3) = k + 3 := IntWalk.i64_in _ (by omega)
  have k6 : IntKind.i64.wrap ((k : Int) + 4) = k + 4 := IntWalk.i64_in _ (by omega)
  have k7 : ((k : Int) + 2).toNat = k + 2 := by omega
  have k8 : ((k : Int) + 3).toNat = k + 3 := by omega
  have k9 : (0 : Int) ≤ (k : Int) + 2 := by omega
  have k10 : (0 : Int) ≤ (k : Int) + 3 := by omega
  unfold Gives
  go_enter Tryd.func49, Tryd.ntmps49
  go_wp2_with (first | (go_at_call 73; (with_reducible refine (c2.out _).mono ?_); rintro e w' ⟨rfl, rfl⟩) | (go_at_call 73; (with_reducible refine (c3.out _).mono ?_); rintro e w' ⟨rfl, rfl⟩))
  go_quiet (first | (go_at_call 73; (with_reducible exact Calls.quiet_of_same (q2.out _))) | (go_at_call 73; (with_reducible exact Calls.quiet_of_same (q3.out _))))
  go_wp2
  refine bodyPost_ret (v := .tuple #[.int .u8 (16 * (d : Int) + e), .int .i64 (k + 4), .int .i64 0]) (by simp [results, Tryd.results49, go_sem]) rfl ?_
  exact ⟨by rw [show ((16 * d + e : Nat) : Int) = 16 * (d : Int) + e by omega], below_drewN (Below.refl _ _) _⟩
set_option maxRecDepth 100000 in
set_option maxHeartbeats 1000000 in
theorem rread_sign {s : ByteArray} {k c : Nat} (h0 : (nl s)[k]? = some 92) (h1 : (nl s)[k + 1]? = some c) (hc : Sign c) (hm : s.size ≤ 99990) (w : World) :
    Gives 49 #[.string s, .int .i64 k] (.tuple #[.int .u8 c, .int .i64 (k + 2), .int .i64 0]) w := by
  obtain ⟨l0, a0⟩ := at_nl h0
  clear h0
  obtain ⟨l1, a1⟩ := at_nl h1
  clear h1
  have e1 : ((k : Int) == (s.size : Int) - 1) = false := by simp; omega
  have x110 : ((c : Int) == 110) = false := by unfold Sign at hc; simp; omega
  have x116 : ((c : Int) == 116) = false := by unfold Sign at hc; simp; omega
  have x114 : ((c : Int) == 114) = false := by unfold Sign at hc; simp; omega
  have x115 : ((c : Int) == 115) = false := by unfold Sign at hc; simp; omega
  have x120 : ((c : Int) == 120) = false := by unfold Sign at hc; simp; omega
  unfold Sign at hc
  unfold Gives
  go_enter Tryd.func49, Tryd.ntmps49
  go_wp2
  all_goals first | (exfalso; omega) | skip
  all_goals
    refine bodyPost_ret (v := .tuple #[.int .u8 c, .int .i64 (k + 2), .int .i64 0]) (by simp [results, Tryd.results49, go_sem]) rfl ?_
    exact ⟨rfl, Below.refl _ _⟩
set_option maxRecDepth 100000 in
set_option maxHeartbeats 1000000 in
theorem rread_bad1 {s : ByteArray} {k c : Nat} (h0 : (nl s)[k]? = some 92) (h1 : (nl s)[k + 1]? = some c) (hc : ¬ Sign c) (n1 : c ≠ 110) (n2 : c ≠ 116) (n3 : c ≠ 114) (n4 : c ≠ 115) (n5 : c ≠ 120) (hm : s.size ≤ 99990) (w : World) :
    Gives 49 #[.string s, .int .i64 k] (.tuple #[.int .u8 0, .int .i64 (k + 1), .int .i64 4]) w := by
  obtain ⟨l0, a0⟩ := at_nl h0
  clear h0
  obtain ⟨l1, a1⟩ := at_nl h1
  clear h1
  have e1 : ((k : Int) == (s.size : Int) - 1) = false := by simp; omega
  have x110 : ((c : Int) == 110) = false := by simp; omega
  have x116 : ((c : Int) == 116) = false := by simp; omega
  have x114 : ((c : Int) == 114) = false := by simp; omega
  have x115 : ((c : Int) == 115) = false := by simp; omega
  have x120 : ((c : Int) == 120) = false := by simp; omega
  unfold Sign at hc
  clear n1 n2 n3 n4 n5
  unfold Gives
  go_enter Tryd.func49, Tryd.ntmps49
  go_wp2
  all_goals first | (exfalso; omega) | skip
  all_goals
    refine bodyPost_ret (v := .tuple #[.int .u8 0, .int .i64 (k + 1), .int .i64 4]) (by simp [results, Tryd.results49, go_sem]) rfl ?_
    exact ⟨rfl, Below.refl _ _⟩
theorem rread_in {s : ByteArray} {i : Int} {c : Nat} {t : Int} {e : Nat} (h : Rd (nl s) i c t e) (hm : s.size ≤ 99990) (w : World) :
    Gives 49 #[.string s, .int .i64 i] (.tuple #[.int .u8 c, .int .i64 t, .int .i64 e]) w := by
  have hn := nl_length s
  cases h with
  | outside i hi => rw [hn] at hi ⊢; exact rread_out hi hm w
  | plain k c h1 h2 => exact rread_plain h1 h2 hm w
  | ends1 k h1 h2 => exact rread_ends1 h1 (by omega) hm w
  | blank k c d h1 h2 h3 => exact rread_blank h1 h2 h3 hm w
  | ends2 k h1 h2 h3 => exact rread_ends2 h1 h2 (by omega) hm w
  | bad2 k c h1 h2 h3 h4 => exact rread_bad2 h1 h2 h3 h4 hm w
  | ends3 k c d h1 h2 h3 h4 h5 => exact rread_ends3 h1 h2 h3 h4 (by omega) hm w
  | bad3 k c d b h1 h2 h3 h4 h5 h6 => exact rread_bad3 h1 h2 h3 h4 h5 h6 hm w
  | hex k c d b e h1 h2 h3 h4 h5 h6 => exact rread_hex h1 h2 h3 h4 h5 h6 hm w
  | sign k c h1 h2 h3 => exact rread_sign h1 h2 h3 hm w
  | bad1 k c h1 h2 h3 h4 h5 h6 h7 h8 => exact rread_bad1 h1 h2 h3 h4 h5 h6 h7 h8 hm w
end Go.Proofs.YtjlmeegaiagfpaaDoor.S5
