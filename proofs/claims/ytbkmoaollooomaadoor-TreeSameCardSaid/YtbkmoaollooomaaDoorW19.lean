/- alive. -/
import Derived.Test.YtbkmoaollooomaaDoorW18
namespace Go.Proofs.YtbkmoaollooomaaDoor
open Go.RowKit
open Go.Tree7
open S5 (nl nl_length nl_small at_nl nl_at nl_strN nl_inj Bld)
/-- A leaf: one byte of a set. -/
def leafT (f : Nat → Bool) : T := .mk 1 (S1.wd f 0 : Nat) (S1.wd f 1 : Nat) (S1.wd f 2 : Nat) (S1.wd f 3 : Nat) none 0 0 0 ⟨#[]⟩ []
theorem wf_nat {n : Nat} (h : n < 18446744073709551616) : (Lit.int .u64 n).wf = true := WalkArith.wf_u64 (by omega)
theorem leaf_in (f : Nat → Bool) (w : World) (B : Nat) : T.In w B (leafT f) :=
  .mk (Nat.le_refl _) (Nat.zero_le _) ⟨by decide, ⟨wf_nat (S1.wd_lt f 0), wf_nat (S1.wd_lt f 1), wf_nat (S1.wd_lt f 2), wf_nat (S1.wd_lt f 3)⟩, by decide, by decide, by decide⟩ (fun i hi => by simp at hi) (fun t ht => by simp at ht)
theorem plain0 : plainB S1.noS 0 0 ⟨#[]⟩ = true := by
  have e : (⟨#[]⟩ : ByteArray).toList.isEmpty = true := by rw [ByteArray.toList_eq]; rfl
  unfold plainB
  rw [empty_noS, e]
  rfl
theorem leaf_ok (f : Nat → Bool) : T.ok (leafT f) = true := by
  show okB _ 1 0 0 0 ⟨#[]⟩ = true
  unfold okB
  rw [if_pos rfl, plain0]
  rfl
theorem el_a : S1.el (S1.oneS 97) 256 = [97] := by kernel_rfl
theorem leaf_txt : T.txt (leafT (S1.oneS 97)) = [97] := by
  unfold leafT
  rw [txt_mk, if_pos rfl]
  have h : S1.el (S1.mem4 (((S1.wd (S1.oneS 97) 0 : Nat) : Int)).toNat (((S1.wd (S1.oneS 97) 1 : Nat) : Int)).toNat (((S1.wd (S1.oneS 97) 2 : Nat) : Int)).toNat (((S1.wd (S1.oneS 97) 3 : Nat) : Int)).toNat) 256 = [97] := by
    rw [← el_a]
    refine el_congr fun c hc => ?_
    simp only [Int.toNat_natCast]
    exact mem4_wd _ hc
  unfold oneL
  rw [h]
  exact po_a
/-- The tree of the example. -/
def starT (g : Nat) : T := .mk 4 0 0 0 0 (some ⟨g, 0, none⟩) 1 0 (-1) ⟨#[]⟩ [leafT (S1.oneS 97)]
theorem star_ok (g : Nat) : T.ok (starT g) = true := by
  show okB _ 4 1 0 (-1) ⟨#[]⟩ = true
  have h0 : S1.eqB (S1.mem4 0 0 0 0) S1.noS = true := S1.eqB_true fun c _ => by simp [S1.mem4, S1.noS]
  have e : (⟨#[]⟩ : ByteArray).toList.isEmpty = true := by rw [ByteArray.toList_eq]; rfl
  unfold okB
  rw [if_neg (by decide), if_neg (by decide), if_neg (by decide), if_pos rfl]
  unfold plainB T.f starT
  simp only [Int.toNat_zero]
  rw [h0, e]
  rfl
theorem star_right (g : Nat) : rightB (starT g) = true := by
  refine (rightB_iff _).2 ?_
  have e : allT (starT g) = [(1, starT g), (2, leafT (S1.oneS 97))] := rfl
  refine ⟨fun x hx => ?_, by rw [e]; simp⟩
  rw [e] at hx
  simp only [List.mem_cons, List.not_mem_nil, or_false] at hx
  rcases hx with rfl | rfl
  · exact ⟨by simp, star_ok g⟩
  · exact ⟨by simp, leaf_ok _⟩
theorem star_txt (g : Nat) : T.txt (starT g) = [97, 42] := by
  unfold starT
  rw [txt_mk, if_neg (by decide), if_neg (by decide), if_neg (by decide), if_pos rfl]
  have e : its [2, 3, 4] [leafT (S1.oneS 97)] = [[97]] := by
    unfold its
    simp only [List.map_cons, List.map_nil]
    rw [leaf_txt]
    rfl
  rw [e]
  rfl
theorem star_in {g : Nat} {w : World} {B : Nat} {u0 u1 u2 u3 : Nat} (h0 : S1.wd (S1.oneS 97) 0 = u0) (h1 : S1.wd (S1.oneS 97) 1 = u1) (h2 : S1.wd (S1.oneS 97) 2 = u2) (h3 : S1.wd (S1.oneS 97) 3 = u3) (hB : g < B) (h : w.heap[g]? = some (.cells #[.int .i64 1, .int .u64 u0, .int .u64 u1, .int .u64 u2, .int .u64 u3, .slice none 0 0, .int .i64 0, .int .i64 0, .string ⟨#[]⟩] 27 (0, 0))) : T.In w B (starT g) := by
  refine .mk (Nat.le_refl _) (by decide) ⟨by decide, ⟨by decide, by decide, by decide, by decide⟩, by decide, by decide, by decide⟩ (fun i hi => ⟨⟨g, 0, none⟩, rfl, hB, fun j hj => ?_⟩) (fun t ht => ?_)
  · simp only [List.length_cons, List.length_nil] at hi
    obtain rfl : i = 0 := by omega
    have e : (⟨g, 0, none⟩ : Addr).add (0 * 9 + j) = ⟨g, j, none⟩ := by unfold Addr.add; split <;> simp_all
    rw [e, cell_of_row _ _ _ _ _ (0, 0) h]
    simp [leafT, T.cells, h0, h1, h2, h3]
  · simp only [List.mem_cons, List.not_mem_nil, or_false] at ht
    subst ht
    exact leaf_in _ _ _
theorem litA : strN [97, 42] = ⟨#[97, 42]⟩ := by decide +kernel
set_option maxRecDepth 10000 in
set_option maxHeartbeats 2000000 in
theorem alive_in (w : World) (hTab : S1.Tab w) : Calls Tryd.prog 7 #[] w fun e w' => e = .returned (.bool true) ∧ Below w.heap.size w w' := by
  have C := fun w => S1.one_in 97 (by decide) w
  obtain ⟨u0, h0⟩ : ∃ u0, S1.wd (S1.oneS 97) 0 = u0 := ⟨_, rfl⟩
  obtain ⟨u1, h1⟩ : ∃ u1, S1.wd (S1.oneS 97) 1 = u1 := ⟨_, rfl⟩
  obtain ⟨u2, h2⟩ : ∃ u2, S1.wd (S1.oneS 97) 2 = u2 := ⟨_, rfl⟩
  obtain ⟨u3, h3⟩ : ∃ u3, S1.wd (S1.oneS 97) 3 = u3 := ⟨_, rfl⟩
  rw [h0, h1, h2, h3] at C
  replace C := Lib.hid C
  have X : Hid (∀ w1, Below w.heap.size w w1 → Calls Tryd.prog 14 #[.agg #[.int .i64 4, .int .u64 0, .int .u64 0, .int .u64 0, .int .u64 0, .slice (some ⟨w1.heap.size, 0, none⟩) 1 1, .int .i64 0, .int .i64 (-1), .string ⟨#[]⟩]] (w1.alloc (.cells #[.int .i64 1, .int .u64 u0, .int .u64 u1, .int .u64 u2, .int .u64 u3, .slice none 0 0, .int .i64 0, .int .i64 0, .string ⟨#[]⟩] 27)) fun e w' => e = .returned (.string ⟨#[97, 42]⟩) ∧ Below w1.heap.size w1 w') := Lib.hid fun w1 hb => by
    have hb2 := (Below.refl w1.heap.size w1).alloc (Nat.le_refl _) (.cells #[.int .i64 1, .int .u64 u0, .int .u64 u1, .int .u64 u2, .int .u64 u3, .slice none 0 0, .int .i64 0, .int .i64 0, .string ⟨#[]⟩] 27)
    have hT : T.In (w1.alloc (.cells #[.int .i64 1, .int .u64 u0, .int .u64 u1, .int .u64 u2, .int .u64 u3, .slice none 0 0, .int .i64 0, .int .i64 0, .string ⟨#[]⟩] 27)) (w1.alloc (.cells #[.int .i64 1, .int .u64 u0, .int .u64 u1, .int .u64 u2, .int .u64 u3, .slice none 0 0, .int .i64 0, .int .i64 0, .string ⟨#[]⟩] 27)).heap.size (starT w1.heap.size) := star_in h0 h1 h2 h3 (by simp) (World.alloc_heap_new _ _)
    have := text_in hT ((hTab.below hb hTab.1).below hb2 (by have := hTab.1; have := hb.size; omega))
    have e : textS (starT w1.heap.size) = ⟨#[97, 42]⟩ := by unfold textS; rw [if_pos (star_right _), star_txt, litA]
    rw [e] at this
    exact this.mono fun e w' ⟨q1, q2⟩ => ⟨q1, hb2.trans (q2.mono hb2.size)⟩
  clear h0 h1 h2 h3 hTab
  go_enter Tryd.func7, Tryd.ntmps7
  go_wp2_with (first
    | (go_at_call 24; refine (C.out _).mono ?_; rintro e w1 ⟨rfl, hb1⟩; replace hb1 := Lib.hid hb1)
    | (go_at_call 14; (with_reducible refine (X.out _ hb1.out).mono ?_); rintro e w2 ⟨rfl, hb2⟩; replace hb2 := Lib.hid hb2))
  go_ret
  exact ⟨rfl, hb1.out.trans (hb2.out.mono hb1.out.size)⟩
end Go.Proofs.YtbkmoaollooomaaDoor
