/- Figures of small numbers: strconv.Itoa, the reference's small. -/
import Derived.Test.YtbkmoaollooomaaDoorW5
import Derived.Test.YtbkmoaollooomaaDoorS5A
namespace Go.Proofs.YtbkmoaollooomaaDoor
open Go.RowKit
open Go.Tree7
open S5 (nl nl_length nl_small at_nl nl_at nl_strN)
/-- A small number's figures. -/
def figs (n : Nat) : List Nat := if n < 10 then [48 + n] else [48 + n / 10, 48 + n % 10]
set_option maxRecDepth 10000 in
set_option maxHeartbeats 2000000 in
theorem iSmall_in {n : Nat} (h : n ≤ 40) (w : World) : Calls Tryd.prog 82 #[.int .i64 n] w fun e w' => e = .returned (.string (strN (figs n))) ∧ w = w' := by
  by_cases h9 : n < 10
  · go_enter Tryd.func82, Tryd.ntmps82
    go_wp2
    go_ret
    refine ⟨?_, rfl⟩
    refine (congrArg (fun b => Ending.returned (Value.string b)) ?_ : Ending.returned (.string _) = Ending.returned (.string _))
    refine (show ∀ m, m < 10 → ByteArray.extract _ m (m + 1) = strN (figs m) from ?_) n h9
    decide +kernel
  · go_enter Tryd.func82, Tryd.ntmps82
    go_wp2
    go_ret
    refine ⟨?_, rfl⟩
    refine (congrArg (fun b => Ending.returned (Value.string b)) ?_ : Ending.returned (.string _) = Ending.returned (.string _))
    have h41 : n < 41 := by omega
    have h10 : 10 ≤ n := by omega
    refine (show ∀ m, m < 41 → 10 ≤ m → ByteArray.extract _ (m * 2) (m * 2 + 2) = strN (figs m) from ?_) n h41 h10
    decide +kernel
set_option maxHeartbeats 1000000 in
theorem itoa_in {n : Nat} (h : n ≤ 40) (w : World) : Calls Tryd.prog 64 #[.int .i64 n] w fun e w' => e = .returned (.string (strN (figs n))) ∧ w = w' := by
  have C := iSmall_in h
  generalize strN (figs n) = F at *
  replace C := Lib.hid C
  have D : ∀ w, Calls Tryd.prog 78 #[.int .i64 n, .int .i64 10] w fun e w' => e = .returned (.string F) ∧ w = w' := fun w => by
    go_enter Tryd.func78, Tryd.ntmps78
    go_wp2_with (go_at_call 82; (with_reducible refine (C.out _).mono ?_); rintro e w1 ⟨rfl, rfl⟩)
    go_ret
    exact ⟨rfl, rfl⟩
  replace D := Lib.hid D
  have E : ∀ w, Calls Tryd.prog 73 #[.int .i64 n] w fun e w' => e = .returned (.string F) ∧ w = w' := fun w => by
    go_enter Tryd.func73, Tryd.ntmps73
    go_wp2_with (go_at_call 78; (with_reducible refine (D.out _).mono ?_); rintro e w1 ⟨rfl, rfl⟩)
    go_ret
    exact ⟨rfl, rfl⟩
  replace E := Lib.hid E
  go_enter Tryd.func64, Tryd.ntmps64
  go_wp2_with (go_at_call 73; (with_reducible refine (E.out _).mono ?_); rintro e w1 ⟨rfl, rfl⟩)
  go_ret
  exact ⟨rfl, rfl⟩
set_option maxRecDepth 10000 in
set_option maxHeartbeats 2000000 in
theorem small_in {n : Nat} (h : n ≤ 40) (w : World) : Calls Tryd.prog 30 #[.int .i64 n] w fun e w' => e = .returned (.string (strN (figs n))) ∧ Below w.heap.size w w' := by
  obtain ⟨a, ha⟩ : ∃ a, 48 + n % 10 = a := ⟨_, rfl⟩
  obtain ⟨b, hb⟩ : ∃ b, 48 + n / 10 = b := ⟨_, rfl⟩
  have ha' : a ≤ 57 := by omega
  have hb' : b ≤ 57 := by omega
  have k1 : IntKind.u8.wrap ((48 : Int) + (n : Int) % 10) = (a : Int) := by rw [show (48 : Int) + (n : Int) % 10 = (a : Int) by omega]; exact S5.wrap8 a (by omega)
  have k2 : IntKind.u8.wrap ((48 : Int) + (n : Int) / 10) = (b : Int) := by rw [show (48 : Int) + (n : Int) / 10 = (b : Int) by omega]; exact S5.wrap8 b (by omega)
  have hc1 : ∀ w : World, (convert 54 9 (.slice (some ⟨w.heap.size, 0, none⟩) 1 1)).run Tryd.prog (w.alloc (.cells #[.int .u8 a] 5)) = .ok (.string (strN [a])) (w.alloc (.cells #[.int .u8 a] 5)) := S5.conv_new [a] (by simp; omega)
  have hc2 : (convert 54 9 (.slice (some ⟨w.heap.size + 1, 0, none⟩) 1 1)).run Tryd.prog ((w.alloc (.cells #[.int .u8 a] 5)).alloc (.cells #[.int .u8 b] 5)) = .ok (.string (strN [b])) ((w.alloc (.cells #[.int .u8 a] 5)).alloc (.cells #[.int .u8 b] 5)) := by
    have := S5.conv_new [b] (by simp; omega) (w.alloc (.cells #[.int .u8 a] 5))
    rw [World.size_alloc] at this
    exact this
  have s1 : (strN [a]).size = 1 := strN_size [a]
  have s2 : (strN [b]).size = 1 := strN_size [b]
  by_cases h9 : n < 10
  · have hf : figs n = [a] := by unfold figs; rw [if_pos h9, ← ha, show n % 10 = n by omega]
    rw [hf]
    clear ha hb hf k2 hc2 s2 hb' b
    go_enter Tryd.func30, Tryd.ntmps30
    go_wp2
    go_ret
    exact ⟨rfl, (Below.refl w.heap.size w).alloc (Nat.le_refl _) _⟩
  · have hf : strN (figs n) = strN [b] ++ strN [a] := by unfold figs; rw [if_neg h9, ← ha, ← hb]; exact S5.strN_append [_] [_]
    rw [hf]
    clear ha hb hf
    go_enter Tryd.func30, Tryd.ntmps30
    go_wp2
    go_ret
    exact ⟨rfl, ((Below.refl w.heap.size w).alloc (Nat.le_refl _) _).alloc (by simp) _⟩
end Go.Proofs.YtbkmoaollooomaaDoor
