/- TreeNames. -/
import Derived.Test.YtbkmoaollooomaaDoorW19
namespace Go.Proofs.YtbkmoaollooomaaDoor
open Go.RowKit
open Go.Tree7
open S5 (nl nl_length nl_small at_nl nl_at nl_strN nl_inj Bld)
def nameT (s : ByteArray) : T := .mk 5 0 0 0 0 none 0 0 0 s []
theorem nameT_in {s : ByteArray} (hs : s.size ≤ maxLen) (w : World) (B : Nat) : T.In w B (nameT s) :=
  .mk (Nat.le_refl _) (Nat.zero_le _) ⟨by decide, ⟨by decide, by decide, by decide, by decide⟩, by decide, by decide, hs⟩ (fun i hi => by simp at hi) (fun t ht => by simp at ht)
theorem eq_noS0 : S1.eqB (S1.mem4 0 0 0 0) S1.noS = true := S1.eqB_true fun c _ => by simp [S1.mem4, S1.noS]
theorem nameT_ok (s : ByteArray) : T.ok (nameT s) = nameB s := by
  show okB _ 5 0 0 0 s = nameB s
  have e : (⟨#[]⟩ : ByteArray).toList.isEmpty = true := by rw [ByteArray.toList_eq]; rfl
  unfold okB
  rw [if_neg (by decide), if_neg (by decide), if_neg (by decide), if_neg (by decide), if_pos rfl]
  unfold plainB T.f nameT
  simp only [Int.toNat_zero]
  rw [eq_noS0, e]
  simp
theorem nameT_right (s : ByteArray) : rightB (nameT s) = nameB s := by
  have e : allT (nameT s) = [(1, nameT s)] := rfl
  rw [Bool.eq_iff_iff, rightB_iff]
  unfold RightP
  rw [e]
  simp [nameT_ok]
theorem nameT_txt (s : ByteArray) : strN (T.txt (nameT s)) = ⟨#[123]⟩ ++ s ++ ⟨#[125]⟩ := by
  unfold nameT
  rw [txt_mk, if_neg (by decide), if_neg (by decide), if_neg (by decide), if_neg (by decide), S6.strN_app, S6.strN_app, lit123, lit125, strN_nl]
set_option maxRecDepth 10000 in
set_option maxHeartbeats 4000000 in
theorem treeNames_in {s : ByteArray} (hs : s.size ≤ maxLen) (w : World) (hTab : S1.Tab w) : Calls Tryd.prog 5 #[.string s] w fun e w' => e = .returned (.bool true) ∧ Below w.heap.size w w' := by
  have AL := Lib.hid (alive_in w hTab)
  have hs9 : s.size ≤ 9223372036854775807 := by unfold maxLen at hs; omega
  have RI := Lib.hid (fun w => risName_in hs9 (nameB_iff s) w)
  have PI := Lib.hid (fun w => isName_in hs9 (nameB_iff s) w)
  have RT := Lib.hid (fun w => right_in (nameT_in hs w w.heap.size))
  have TX := Lib.hid (fun w (hTab : S1.Tab w) => text_in (nameT_in hs w w.heap.size) hTab)
  rw [nameT_right] at RT
  have hX : textS (nameT s) = if nameB s = true then ⟨#[123]⟩ ++ s ++ ⟨#[125]⟩ else ⟨#[]⟩ := by unfold textS; rw [nameT_right, nameT_txt]
  rw [hX] at TX
  clear hX
  simp only [nameT, T.cells, List.length_nil] at RT TX
  generalize nameB s = r at *
  have hTab' := Lib.hid hTab
  clear hs hTab
  by_cases h100 : 100 < s.size
  · go_enter Tryd.func5, Tryd.ntmps5
    go_wp2_with (first | (go_at_call 7; (with_reducible refine AL.out.mono ?_); rintro e w1 ⟨rfl, hb1⟩; have hT1 := Lib.hid (hTab'.out.below hb1 hTab'.out.1); replace hb1 := Lib.hid hb1))
    go_ret
    exact ⟨rfl, hb1.out⟩
  · have hle : s.size ≤ 100 := by omega
    have hne : Hid (¬ (⟨#[123]⟩ ++ s ++ ⟨#[125]⟩ : ByteArray).toList = []) := Lib.hid fun e => by
      have h2 := congrArg List.length e
      rw [ByteArray.toList_eq] at h2
      simp at h2
    cases r with
    | true =>
      rw [if_pos rfl] at TX
      go_enter Tryd.func5, Tryd.ntmps5
      go_wp2_with (first | (go_at_call 7; (with_reducible refine AL.out.mono ?_); rintro e w1 ⟨rfl, hb1⟩; have hT1 := Lib.hid (hTab'.out.below hb1 hTab'.out.1); replace hb1 := Lib.hid hb1) | (go_at_call 22; (with_reducible refine (RI.out _).mono ?_); rintro e w2 ⟨rfl, rfl⟩) | (go_at_call 23; (with_reducible refine (PI.out _).mono ?_); rintro e w3 ⟨rfl, rfl⟩) | (go_at_call 13; (with_reducible refine (RT.out _).mono ?_); rintro e w4 ⟨rfl, hb4⟩; have hk := cells_of (kept_row (World.alloc_heap_new _ _) hb4); have x0 := (hk 0 _ rfl).1; have x1 := (hk 1 _ rfl).1; have x2 := (hk 2 _ rfl).1; have x3 := (hk 3 _ rfl).1; have x4 := (hk 4 _ rfl).1; have x5 := (hk 5 _ rfl).1; have x6 := (hk 6 _ rfl).1; have x7 := (hk 7 _ rfl).1; have x8 := (hk 8 _ rfl).1; clear hk; have hT4 := Lib.hid ((hT1.out.below ((Below.refl w1.heap.size w1).alloc (Nat.le_refl _) _) hT1.out.1).below hb4 (by simp)); have hB4 := Lib.hid (((Below.refl w1.heap.size w1).alloc (Nat.le_refl _) _).trans (hb4.mono (by simp))); clear hb4) | (go_at_call 14; (with_reducible refine (TX.out _ hT4.out).mono ?_); rintro e w5 ⟨rfl, hb5⟩; replace hb5 := Lib.hid hb5))
      go_ret
      exact ⟨ret_bool (by simp), hb1.out.trans ((hB4.out.trans (hb5.out.mono hB4.out.size)).mono hb1.out.size)⟩
    | false =>
      rw [if_neg (by simp)] at TX
      go_enter Tryd.func5, Tryd.ntmps5
      go_wp2_with (first | (go_at_call 7; (with_reducible refine AL.out.mono ?_); rintro e w1 ⟨rfl, hb1⟩; have hT1 := Lib.hid (hTab'.out.below hb1 hTab'.out.1); replace hb1 := Lib.hid hb1) | (go_at_call 22; (with_reducible refine (RI.out _).mono ?_); rintro e w2 ⟨rfl, rfl⟩) | (go_at_call 23; (with_reducible refine (PI.out _).mono ?_); rintro e w3 ⟨rfl, rfl⟩) | (go_at_call 13; (with_reducible refine (RT.out _).mono ?_); rintro e w4 ⟨rfl, hb4⟩; have hk := cells_of (kept_row (World.alloc_heap_new _ _) hb4); have x0 := (hk 0 _ rfl).1; have x1 := (hk 1 _ rfl).1; have x2 := (hk 2 _ rfl).1; have x3 := (hk 3 _ rfl).1; have x4 := (hk 4 _ rfl).1; have x5 := (hk 5 _ rfl).1; have x6 := (hk 6 _ rfl).1; have x7 := (hk 7 _ rfl).1; have x8 := (hk 8 _ rfl).1; clear hk; have hT4 := Lib.hid ((hT1.out.below ((Below.refl w1.heap.size w1).alloc (Nat.le_refl _) _) hT1.out.1).below hb4 (by simp)); have hB4 := Lib.hid (((Below.refl w1.heap.size w1).alloc (Nat.le_refl _) _).trans (hb4.mono (by simp))); clear hb4) | (go_at_call 14; (with_reducible refine (TX.out _ hT4.out).mono ?_); rintro e w5 ⟨rfl, hb5⟩; replace hb5 := Lib.hid hb5))
      go_ret
      exact ⟨ret_bool (by simpa using hne.out), hb1.out.trans ((hB4.out.trans (hb5.out.mono hB4.out.size)).mono hb1.out.size)⟩
end Go.Proofs.YtbkmoaollooomaaDoor
