/- alive: the chapter's examples. -/
import Derived.Test.YtjlmeegaiagfpaaDoorWG
namespace Go.Proofs.YtjlmeegaiagfpaaDoor
open Go.RowKit
open Go.Tree7
open S7
open S5 (nl nl_length nl_small at_nl nl_at Gives idx idx_at ix ix_no ix_yes)
abbrev abB : ByteArray := ⟨#[97, 124, 98, 42]⟩
abbrev aaB : ByteArray := ⟨#[97, 42, 42]⟩
theorem nl_ab : nl abB = [97, 124, 98, 42] := by decide
theorem nl_aa : nl aaB = [97, 42, 42] := by decide
theorem run_ab : Run [97, 124, 98, 42] [([], [])] false 0 (.tree (tA [leafT (S1.oneS 97), tR 0 (-1) (leafT (S1.oneS 98))])) := by
  have a1 : Atm [97, 124, 98, 42] 0 (leafT (S1.oneS 97)) 1 := .byte 0 97 97 1 rfl (by decide) (.plain 0 97 rfl (by decide))
  have a2 : Atm [97, 124, 98, 42] 2 (leafT (S1.oneS 98)) 3 := .byte 2 98 98 3 rfl (by decide) (.plain 2 98 rfl (by decide))
  exact .step (.atom (by simp) a1) (.step (.bar rfl) (.step (.atom (by simp) a2) (.step (.mark (ps := []) (.star 3 rfl)) (.tree _ _ _ rfl))))
theorem run_aa : Run [97, 42, 42] [([], [])] false 0 (.tree (tR 0 (-1) (tR 0 (-1) (leafT (S1.oneS 97))))) := by
  have a1 : Atm [97, 42, 42] 0 (leafT (S1.oneS 97)) 1 := .byte 0 97 97 1 rfl (by decide) (.plain 0 97 rfl (by decide))
  exact .step (.atom (by simp) a1) (.step (.mark (ps := []) (.star 1 rfl)) (.step (.mark (ps := []) (.star 2 rfl)) (.tree _ _ _ rfl)))
theorem all_ab (x y : Nat → Bool) : deepOf (allT (tA [leafT x, tR 0 (-1) (leafT y)])) ≤ 24 ∧ (allT (tA [leafT x, tR 0 (-1) (leafT y)])).length ≤ 600 := by
  have e : allT (tA [leafT x, tR 0 (-1) (leafT y)]) = [(1, tA [leafT x, tR 0 (-1) (leafT y)]), (2, leafT x), (2, tR 0 (-1) (leafT y)), (3, leafT y)] := rfl
  rw [e]
  exact ⟨by simp [deepOf], by simp⟩
theorem all_aa (x : Nat → Bool) : deepOf (allT (tR 0 (-1) (tR 0 (-1) (leafT x)))) ≤ 24 ∧ (allT (tR 0 (-1) (tR 0 (-1) (leafT x)))).length ≤ 600 := by
  have e : allT (tR 0 (-1) (tR 0 (-1) (leafT x))) = [(1, tR 0 (-1) (tR 0 (-1) (leafT x))), (2, tR 0 (-1) (leafT x)), (3, leafT x)] := rfl
  rw [e]
  exact ⟨by simp [deepOf], by simp⟩
/-- A text whose tree is within the limits. -/
theorem parse_tree {s : ByteArray} {t : T} (hrun : Run (nl s) [([], [])] false 0 (.tree t)) (h1 : deepOf (allT t) ≤ 24) (h2 : (allT t).length ≤ 600) (hm : s.size ≤ 99990) {V : Nat → Value} (w : World) (hS : Six w V) :
    Calls Tryd.prog 7 #[.string s] w fun e w' => Below w.heap.size w w' ∧ ∃ m : T, m.strip = t.strip ∧ T.In w' w'.heap.size m ∧ e = .returned (.tuple #[.agg m.cells.toArray, .int .i64 s.size, .nilIface]) := by
  refine (parse_in hrun hm w hS).mono ?_
  rintro e w' ⟨hb, h⟩
  refine ⟨hb, ?_⟩
  rcases h with ⟨h, -⟩ | ⟨-, h, -⟩ | ⟨-, -, h⟩
  · omega
  · omega
  · exact h
theorem parse_ab {V : Nat → Value} (w : World) (hS : Six w V) : Calls Tryd.prog 7 #[.string abB] w fun e w' => ∃ (_ : Unit) (u0 u1 u2 u3 : Int) (p : Option Addr) (cap : Nat) (mn mx : Int) (tx : ByteArray), e = .returned (.tuple #[.agg #[.int .i64 3, .int .u64 u0, .int .u64 u1, .int .u64 u2, .int .u64 u3, .slice p 2 cap, .int .i64 mn, .int .i64 mx, .string tx], .int .i64 4, .nilIface]) ∧ Below w.heap.size w w' := by
  have hr := run_ab
  rw [← nl_ab] at hr
  refine (parse_tree hr (all_ab _ _).1 (all_ab _ _).2 (by decide) w hS).mono ?_
  rintro e w' ⟨hb, m, hms, -, rfl⟩
  obtain ⟨k, u0, u1, u2, u3, p, cap, mn, mx, tx, ks⟩ := m
  obtain ⟨rfl, -, -, -, -, -, -, -, h⟩ := strip_parts hms
  have hl := congrArg List.length h
  simp only [List.length_map, List.length_cons, List.length_nil] at hl
  exact ⟨(), u0, u1, u2, u3, p, cap, mn, mx, tx, by simp only [T.cells]; rw [hl]; rfl, hb⟩
theorem parse_aa {V : Nat → Value} (w : World) (hS : Six w V) : Calls Tryd.prog 7 #[.string aaB] w fun e w' => ∃ (u0 u1 u2 u3 : Int) (b : Addr) (cap : Nat) (mn mx : Int) (tx : ByteArray), e = .returned (.tuple #[.agg #[.int .i64 4, .int .u64 u0, .int .u64 u1, .int .u64 u2, .int .u64 u3, .slice (some b) 1 cap, .int .i64 mn, .int .i64 mx, .string tx], .int .i64 3, .nilIface]) ∧ Below w.heap.size w w' ∧ w'.cell? b = some (.int .i64 4) ∧ b.block < w'.heap.size := by
  have hr := run_aa
  rw [← nl_aa] at hr
  refine (parse_tree hr (all_aa _).1 (all_aa _).2 (by decide) w hS).mono ?_
  rintro e w' ⟨hb, m, hms, hmi, rfl⟩
  obtain ⟨k, u0, u1, u2, u3, p, cap, mn, mx, tx, ks⟩ := m
  obtain ⟨rfl, -, -, -, -, -, -, -, h⟩ := strip_parts hms
  rw [List.map_cons, List.map_nil, List.map_eq_singleton_iff] at h
  obtain ⟨y, rfl, hy⟩ := h
  obtain ⟨k, u0', u1', u2', u3', p', cap', mn', mx', tx', ks'⟩ := y
  obtain ⟨rfl, -⟩ := strip_parts hy
  cases hmi with
  | mk h1 h2 h3 h4 h5 =>
    obtain ⟨b, rfl, hbl, hc⟩ := h4 0 (by simp)
    have h6 := hc 0 (by decide)
    have e : b.add (0 * 9 + 0) = b := by unfold Addr.add; simp
    rw [e] at h6
    exact ⟨u0, u1, u2, u3, b, cap, mn, mx, tx, rfl, hb, h6, hbl⟩
set_option maxRecDepth 100000 in
set_option maxHeartbeats 4000000 in
theorem alive_in {V : Nat → Value} (w : World) (hS : Six w V) : Calls Tryd.prog 6 #[] w fun e w' => e = .returned (.bool true) ∧ Below w.heap.size w w' := by
  have c1 := Lib.hid (parse_ab w hS)
  have c2 := Lib.hid (fun w' (hb : Bel w w') => parse_aa w' (hS.bel hb))
  clear hS
  go_enter Tryd.func6, Tryd.ntmps6
  go_wp2_with (first | (go_at_call 7; (with_reducible refine c1.out.mono ?_); rintro e w1 ⟨k9, u0, u1, u2, u3, px, cx, mn, mx, tx, rfl, hb1⟩; have hz1 : w.heap.size ≤ w1.heap.size := hb1.size; replace hb1 := Lib.hid hb1) | (go_at_call 7; have hbq : Bel w (w1.alloc (.cells #[.int .i64 3, .int .u64 u0, .int .u64 u1, .int .u64 u2, .int .u64 u3, .slice px 2 cx, .int .i64 mn, .int .i64 mx, .string tx] 28)) := (Below.alloc hb1.out hz1 _); (with_reducible refine (c2.out _ hbq).mono ?_); rintro e w2 ⟨v0, v1, v2, v3, b, cy, vn, vx, ty, rfl, hb2, hby, hlt⟩; have hk := kept_row (World.alloc_heap_new w1 (.cells #[.int .i64 3, .int .u64 u0, .int .u64 u1, .int .u64 u2, .int .u64 u3, .slice px 2 cx, .int .i64 mn, .int .i64 mx, .string tx] 28)) hb2; have hkx := cells_of hk; obtain ⟨y0, -⟩ := hkx 0 _ rfl; obtain ⟨y5, -⟩ := hkx 5 _ rfl; clear hkx hk; have hz2 : w1.heap.size < w2.heap.size := Nat.lt_of_lt_of_le (by simp) hb2.size; have hB2 := Lib.hid (Bel.step hbq hb2); clear hb2 hbq))
  go_ret
  exact ⟨rfl, Below.alloc hB2.out (hB2.out.size) _⟩
end Go.Proofs.YtjlmeegaiagfpaaDoor
