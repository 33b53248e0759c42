/- text. -/
import Derived.Test.YtbkmoaollooomaaDoorW16
import Derived.Deep.RegionWith
import Derived.Deep.RegionHeld3
namespace Go.Proofs.YtbkmoaollooomaaDoor
open Go.RowKit
open Go.Tree7
open S5 (nl nl_length nl_small at_nl nl_at nl_strN nl_inj Bld)
theorem strN_nl (s : ByteArray) : strN (nl s) = s := nl_inj (nl_strN (nl_small s))
theorem litP : strN [40, 41] = ⟨#[40, 41]⟩ := by decide +kernel
theorem size_kid {ks : List T} {t : T} (h : t ∈ ks) : t.size ≤ (ks.map T.size).sum := by
  induction ks with
  | nil => cases h
  | cons x xs ih =>
    simp only [List.map_cons, List.sum_cons]
    rcases List.mem_cons.1 h with rfl | h
    · omega
    · have := ih h; omega
/-- joined, for a tree that text has in its hands. -/
theorem joined_of {w0 : World} {B0 : Nat} (hn0 : B0 ≤ w0.heap.size) {k u0 u1 u2 u3 : Int} {p : Option Addr} {cap : Nat} {mn mx : Int} {tx : ByteArray} {ks : List T} (hT : T.In w0 B0 (.mk k u0 u1 u2 u3 p cap mn mx tx ks))
    (hk : ∀ t ∈ ks, T.All (fun t => T.ok t = true) t) (ih : ∀ t ∈ ks, TextOf w0 B0 t) (hsz : 1 + (ks.map T.size).sum ≤ 600) (hne : ks.length ≠ 0)
    {cl : List Int} {m : Nat} (hm : cl.length = m) (hml : m ≤ 3) {s : ByteArray} {sep : List Nat} (hs : nl s = sep) (hsl : sep.length ≤ 1) (hss : ∀ x ∈ sep, x ≤ 255) :
    ∀ (X : World) (g : Nat), Below B0 w0 X → S1.Tab X → X.heap[g]? = some (.cells (cl.map fun c => Value.int .i64 c).toArray 3 (0, 0)) →
      Calls Tryd.prog 47 #[.slice p ks.length cap, .string s, .slice (some ⟨g, 0, none⟩) m m] X fun e w' => e = .returned (.string (strN (joinS sep (its cl ks)))) ∧ Below X.heap.size X w' := fun X g hB hTab hrow => by
  have hl : ∀ t ∈ ks, (T.txt t).length + 3 ≤ 2413 * t.size := fun t ht => txt_len (hk t ht)
  refine joined_in hT hB hn0 hTab ih hne hm hml hrow hs hsl hss (fun t ht => txt_ne (hk t ht)) (fun t ht => txt_small (hk t ht)) (fun t ht => ?_) ?_
  · have h1 := hl t ht
    have h2 := size_kid ht
    omega
  · have := its_sum (cl := cl) hsl hl
    omega
set_option maxRecDepth 10000 in
set_option maxHeartbeats 4000000 in
theorem text_all {w0 : World} {B0 : Nat} (hn0 : B0 ≤ w0.heap.size) {t : T} (h : T.All (fun t => T.ok t = true) t) : T.In w0 B0 t → t.size ≤ 600 → TextOf w0 B0 t := by
  induction h with
  | @mk k u0 u1 u2 u3 p cap mn mx tx ks h hk ih =>
    intro hT hsz
    rw [T.size_mk] at hsz
    have hks : ks.length ≤ 9223372036854775807 := by cases hT with | mk h1 h2 => unfold maxLen at h2; omega
    have hfit : fits k u0 u1 u2 u3 mn mx tx := by cases hT with | mk h1 h2 h3 => exact h3
    have ihT : ∀ t ∈ ks, TextOf w0 B0 t := fun t ht => ih t ht (by cases hT with | mk h1 h2 h3 h4 h5 => exact h5 t ht) (by have := size_kid ht; omega)
    unfold TextOf
    intro w hB hTab
    rw [txt_mk]
    have JO := fun (hne : ks.length ≠ 0) {cl : List Int} {m : Nat} (hm : cl.length = m) (hml : m ≤ 3) {s : ByteArray} {sep : List Nat} (hs : nl s = sep) (hsl : sep.length ≤ 1) (hss : ∀ x ∈ sep, x ≤ 255) => joined_of hn0 hT hk ihT hsz hne hm hml hs hsl hss
    have hBn : B0 ≤ w.heap.size := Nat.le_trans hn0 hB.size
    rcases ok5 h with rfl | rfl | ⟨rfl, h2⟩ | ⟨rfl, h2, hb⟩ | ⟨rfl, hn⟩
    · simp only [if_true]
      have C := fun w hT => oneOf_in (S1.mem4 u0.toNat u1.toNat u2.toNat u3.toNat) w hT
      obtain ⟨e0, e1, e2, e3⟩ := wd_f hfit.2.1
      rw [e0, e1, e2, e3] at C
      clear e0 e1 e2 e3
      generalize strN (oneL (S1.mem4 u0.toNat u1.toNat u2.toNat u3.toNat)) = F at *
      have C2 := Lib.hid (C (w.alloc (.cells #[.int .i64 1, .int .u64 u0, .int .u64 u1, .int .u64 u2, .int .u64 u3, .slice p ks.length cap, .int .i64 mn, .int .i64 mx, .string tx] 27)) (hTab.below ((Below.refl w.heap.size w).alloc (Nat.le_refl _) _) hTab.1))
      simp only [T.cells]
      clear C JO ihT ih hk h hsz hT hfit hB hTab
      go_enter Tryd.func33, Tryd.ntmps33
      go_wp2_with (go_at_call 46; (with_reducible refine C2.out.mono ?_); rintro e w1 ⟨rfl, hb⟩; replace hb := Lib.hid hb)
      go_ret
      exact ⟨rfl, ((Below.refl w.heap.size w).alloc (Nat.le_refl _) _).trans (hb.out.mono (by simp))⟩
    · simp only [show ¬ (2 : Int) = 1 by decide, if_false, if_true]
      by_cases hz : ks.length = 0
      · rw [if_pos hz, litP]
        have hz' : ((ks.length : Int) == 0) = true := by simp [hz]
        simp only [T.cells]
        clear JO ihT ih hk h hsz hT hfit hB hTab hz
        go_enter Tryd.func33, Tryd.ntmps33
        go_wp2
        go_ret
        exact ⟨rfl, (Below.refl w.heap.size w).alloc (Nat.le_refl _) _⟩
      · rw [if_neg hz]
        have hz' : ((ks.length : Int) == 0) = false := by rw [beq_eq_false_iff_ne]; omega
        have J2 := JO hz (cl := [2, 3]) (m := 2) rfl (by decide) (s := ⟨#[]⟩) (sep := []) (by rfl) (by simp) (by simp) ((w.alloc (.cells #[.int .i64 2, .int .u64 u0, .int .u64 u1, .int .u64 u2, .int .u64 u3, .slice p ks.length cap, .int .i64 mn, .int .i64 mx, .string tx] 27)).alloc (.cells #[.int .i64 2, .int .i64 3] 3)) (w.heap.size + 1)
          ((hB.alloc hBn _).alloc (Nat.le_trans hBn (by simp)) _) (hTab.below (((Below.refl w.heap.size w).alloc (Nat.le_refl _) _).alloc (by simp) _) hTab.1) (by have := World.alloc_heap_new (w.alloc (.cells #[.int .i64 2, .int .u64 u0, .int .u64 u1, .int .u64 u2, .int .u64 u3, .slice p ks.length cap, .int .i64 mn, .int .i64 mx, .string tx] 27)) (.cells #[.int .i64 2, .int .i64 3] 3); rw [World.size_alloc] at this; exact this)
        generalize strN (joinS [] (its [2, 3] ks)) = F at *
        replace J2 := Lib.hid J2
        simp only [T.cells]
        clear JO ihT ih hk h hsz hT hfit hB hTab hz
        go_enter Tryd.func33, Tryd.ntmps33
        go_wp2_with (go_at_call 47; (with_reducible refine J2.out.mono ?_); rintro e w1 ⟨rfl, hb⟩; replace hb := Lib.hid hb)
        go_ret
        exact ⟨rfl, (((Below.refl w.heap.size w).alloc (Nat.le_refl _) _).alloc (by simp) _).trans (hb.out.mono (by simp; omega))⟩
    · simp only [show ¬ (3 : Int) = 1 by decide, show ¬ (3 : Int) = 2 by decide, if_false, if_true]
      have J3 := JO (by omega) (cl := [3]) (m := 1) rfl (by decide) (s := ⟨#[124]⟩) (sep := [124]) (by rfl) (by simp) (by simp) ((w.alloc (.cells #[.int .i64 3, .int .u64 u0, .int .u64 u1, .int .u64 u2, .int .u64 u3, .slice p ks.length cap, .int .i64 mn, .int .i64 mx, .string tx] 27)).alloc (.cells #[.int .i64 3] 3)) (w.heap.size + 1)
          ((hB.alloc hBn _).alloc (Nat.le_trans hBn (by simp)) _) (hTab.below (((Below.refl w.heap.size w).alloc (Nat.le_refl _) _).alloc (by simp) _) hTab.1) (by have := World.alloc_heap_new (w.alloc (.cells #[.int .i64 3, .int .u64 u0, .int .u64 u1, .int .u64 u2, .int .u64 u3, .slice p ks.length cap, .int .i64 mn, .int .i64 mx, .string tx] 27)) (.cells #[.int .i64 3] 3); rw [World.size_alloc] at this; exact this)
      generalize strN (joinS [124] (its [3] ks)) = F at *
      replace J3 := Lib.hid J3
      simp only [T.cells]
      clear JO ihT ih hk h hsz hT hfit hB hTab
      go_enter Tryd.func33, Tryd.ntmps33
      go_wp2_with (go_at_call 47; (with_reducible refine J3.out.mono ?_); rintro e w1 ⟨rfl, hb⟩; replace hb := Lib.hid hb)
      go_ret
      exact ⟨rfl, (((Below.refl w.heap.size w).alloc (Nat.le_refl _) _).alloc (by simp) _).trans (hb.out.mono (by simp; omega))⟩
    · simp only [show ¬ (4 : Int) = 1 by decide, show ¬ (4 : Int) = 2 by decide, show ¬ (4 : Int) = 3 by decide, if_false, if_true]
      rw [S6.strN_app]
      have J4 := JO (by omega) (cl := [2, 3, 4]) (m := 3) rfl (by decide) (s := ⟨#[]⟩) (sep := []) (by rfl) (by simp) (by simp)
      have T4 := fun w => times_in hb w
      have sT : (strN (timesL mn mx)).size ≤ 10 := by rw [strN_size]; exact timesL_len mn mx
      have sF : (strN (joinS [] (its [2, 3, 4] ks))).size ≤ 2000000 := by
        rw [strN_size]
        have := its_sum (cl := [2, 3, 4]) (sep := []) (by simp) (fun t ht => txt_len (hk t ht))
        omega
      generalize strN (joinS [] (its [2, 3, 4] ks)) = F at *
      generalize strN (timesL mn mx) = G at *
      have hFG : Hid (¬ (9223372036854775807 < F.size + G.size)) := Lib.hid (by omega)
      replace J4 := Lib.hid J4
      replace T4 := Lib.hid T4
      have hB1 := Lib.hid ((Below.refl w.heap.size w).alloc (Nat.le_refl _) (.cells #[.int .i64 4, .int .u64 u0, .int .u64 u1, .int .u64 u2, .int .u64 u3, .slice p ks.length cap, .int .i64 mn, .int .i64 mx, .string tx] 27))
      have hB' := Lib.hid hB
      have hTab' := Lib.hid hTab
      have hbox : (w.alloc (.cells #[.int .i64 4, .int .u64 u0, .int .u64 u1, .int .u64 u2, .int .u64 u3, .slice p ks.length cap, .int .i64 mn, .int .i64 mx, .string tx] 27)).heap[w.heap.size]? = some (.cells #[.int .i64 4, .int .u64 u0, .int .u64 u1, .int .u64 u2, .int .u64 u3, .slice p ks.length cap, .int .i64 mn, .int .i64 mx, .string tx] 27 (0, 0)) := World.alloc_heap_new _ _
      simp only [T.cells]
      clear JO ihT ih hk h hsz hT hfit hB hTab
      have hlt1 : w.heap.size < (w.alloc (.cells #[.int .i64 4, .int .u64 u0, .int .u64 u1, .int .u64 u2, .int .u64 u3, .slice p ks.length cap, .int .i64 mn, .int .i64 mx, .string tx] 27)).heap.size := by simp
      have hTab1 := Lib.hid (hTab'.out.below hB1.out hTab'.out.1)
      have hB2 := Lib.hid (hB'.out.trans (hB1.out.mono hBn))
      generalize hw1 : w.alloc (.cells #[.int .i64 4, .int .u64 u0, .int .u64 u1, .int .u64 u2, .int .u64 u3, .slice p ks.length cap, .int .i64 mn, .int .i64 mx, .string tx] 27) = w1 at *
      have hR : Hid (Below w1.heap.size w1 (w1.alloc (.cells #[.int .i64 2, .int .i64 3, .int .i64 4] 3)).drew) := Lib.hid ((Below.refl w1.heap.size w1).alloc (Nat.le_refl _) _).drew
      have J5 := Lib.hid (J4.out (w1.alloc (.cells #[.int .i64 2, .int .i64 3, .int .i64 4] 3)).drew w1.heap.size (hB2.out.trans (hR.out.mono (Nat.le_trans hBn hB1.out.size))) (hTab1.out.below hR.out hTab1.out.1) (World.alloc_heap_new w1 _))
      clear J4 h2 hb
      replace hw1 := Lib.hid hw1
      go_enter Tryd.func33, Tryd.ntmps33
      go_wp2
      rw [hw1.out]
      refine wp_region_held_drew (S := Bel w1) (by kernel_rfl) (Bel.drew (Bel.refl _)) (fun hHeld => ?_)
      refine wpAnyH_take (i := 0) (v := ?v0u1) rfl (by kernel_rfl) (by kernel_rfl) (by kernel_rfl) (fun _ _ _ h => h) (Or.inl ⟨by rfl, ?h0u1⟩) hHeld ?r0u1
      case h0u1 => (intro wq hSw; go_simp <;> with_reducible rfl)
      try simp only [Act.put, List.setIfInBounds_toArray]
      refine wpAnyH_take (i := 1) (v := ?v1u2) rfl (by kernel_rfl) (by kernel_rfl) (by kernel_rfl) (fun _ _ _ h => h) (Or.inl ⟨by rfl, ?h1u2⟩) hHeld ?r1u2
      case h1u2 => (intro wq hSw; have hk := cells_of ((Below.block hSw _ hlt1).trans hbox); have c5 := (hk 5 _ rfl).1; have c6 := (hk 6 _ rfl).1; have c7 := (hk 7 _ rfl).1; clear hk; go_simp <;> with_reducible rfl)
      try simp only [Act.put]
      refine wpAnyH_take (i := 4) (v := ?v4u3) rfl (by kernel_rfl) (by kernel_rfl) (by kernel_rfl) (fun _ _ _ h => h) (Or.inl ⟨by rfl, ?h4u3⟩) hHeld ?r4u3
      case h4u3 => (intro wq hSw; go_simp <;> with_reducible rfl)
      try simp only [Act.put]
      refine wpAnyH_take (i := 5) (v := ?v5u4) rfl (by kernel_rfl) (by kernel_rfl) (by kernel_rfl) (fun _ _ _ h => h) (Or.inl ⟨by rfl, ?h5u4⟩) hHeld ?r5u4
      case h5u4 => (intro wq hSw; have hk := cells_of ((Below.block hSw _ hlt1).trans hbox); have c5 := (hk 5 _ rfl).1; have c6 := (hk 6 _ rfl).1; have c7 := (hk 7 _ rfl).1; clear hk; go_simp <;> with_reducible rfl)
      try simp only [Act.put]
      refine wpAnyH_take (i := 6) (v := ?v6u5) rfl (by kernel_rfl) (by kernel_rfl) (by kernel_rfl) (fun _ _ _ h => h) (Or.inl ⟨by rfl, ?h6u5⟩) hHeld ?r6u5
      case h6u5 => (intro wq hSw; go_simp <;> with_reducible rfl)
      try simp only [Act.put]
      refine wpAnyH_take (i := 7) (v := ?v7u6) rfl (by kernel_rfl) (by kernel_rfl) (by kernel_rfl) (fun _ _ _ h => h) (Or.inl ⟨by rfl, ?h7u6⟩) hHeld ?r7u6
      case h7u6 => (intro wq hSw; have hk := cells_of ((Below.block hSw _ hlt1).trans hbox); have c5 := (hk 5 _ rfl).1; have c6 := (hk 6 _ rfl).1; have c7 := (hk 7 _ rfl).1; clear hk; go_simp <;> with_reducible rfl)
      try simp only [Act.put]
      refine wpAnyH_ready (rs := [2]) (by kernel_rfl) (by simp) ?_
      refine AllReadyH.cons (o := _) rfl (fun K hK => ?_) AllReadyH.nil
      go_simp
      try dsimp only
      refine hK.out _ _ (by first | assumption | exact hHeld | exact Below.alloc hHeld (Below.size hHeld) _ | exact hB6.out) (fun hHeld2 => ?_)
      clear hK K hHeld
      have hHeld := hHeld2
      clear hHeld2
      try simp only [Act.put, List.setIfInBounds_toArray, List.set_cons_zero, List.set_cons_succ]
      refine wpAnyH_ready (rs := [3]) (by kernel_rfl) (by simp) ?_
      refine AllReadyH.cons (o := _) rfl (fun K hK => ?_) AllReadyH.nil
      go_simp
      (go_at_call 47; (with_reducible refine J5.out.mono ?_); rintro e w6 ⟨rfl, hb6⟩; have hB6 := Lib.hid (hR.out.trans (hb6.mono hR.out.size)); clear hb6)
      try dsimp only
      refine hK.out _ _ (by first | assumption | exact hHeld | exact Below.alloc hHeld (Below.size hHeld) _ | exact hB6.out) (fun hHeld2 => ?_)
      clear hK K hHeld
      have hHeld := hHeld2
      clear hHeld2
      try simp only [Act.put, List.setIfInBounds_toArray, List.set_cons_zero, List.set_cons_succ]
      refine wpAnyH_ready (rs := [8]) (by kernel_rfl) (by simp) ?_
      refine AllReadyH.cons (o := _) rfl (fun K hK => ?_) AllReadyH.nil
      go_simp
      (go_at_call 48; (with_reducible refine (T4.out _).mono ?_); rintro e w5 ⟨rfl, rfl⟩)
      try dsimp only
      refine hK.out _ _ (by first | assumption | exact hHeld | exact Below.alloc hHeld (Below.size hHeld) _ | exact hB6.out) (fun hHeld2 => ?_)
      clear hK K hHeld
      have hHeld := hHeld2
      clear hHeld2
      try simp only [Act.put, List.setIfInBounds_toArray, List.set_cons_zero, List.set_cons_succ]
      refine wpAnyH_ready (rs := [9]) (by kernel_rfl) (by simp) ?_
      refine AllReadyH.cons (o := _) rfl (fun K hK => ?_) AllReadyH.nil
      go_simp
      rw [if_neg hFG.out]
      go_simp
      try dsimp only
      refine hK.out _ _ (by first | assumption | exact hHeld | exact Below.alloc hHeld (Below.size hHeld) _ | exact hB6.out) (fun hHeld2 => ?_)
      clear hK K hHeld
      have hHeld := hHeld2
      clear hHeld2
      try simp only [Act.put, List.setIfInBounds_toArray, List.set_cons_zero, List.set_cons_succ]
      refine wpAnyH_ready (rs := [10]) (by kernel_rfl) (by simp) ?_
      refine AllReadyH.cons (o := _) rfl (fun K hK => ?_) AllReadyH.nil
      go_simp
      try dsimp only
      refine hK.out _ _ (by first | assumption | exact hHeld | exact Below.alloc hHeld (Below.size hHeld) _ | exact hB6.out) (fun hHeld2 => ?_)
      clear hK K hHeld
      have hHeld := hHeld2
      clear hHeld2
      try simp only [Act.put, List.setIfInBounds_toArray, List.set_cons_zero, List.set_cons_succ]
      refine wpAnyH_done (by kernel_rfl) ?_ _
      go_wp2
      go_ret
      exact ⟨rfl, hB1.out.trans (hB6.out.mono hB1.out.size)⟩

    · simp only [show ¬ (5 : Int) = 1 by decide, show ¬ (5 : Int) = 2 by decide, show ¬ (5 : Int) = 3 by decide, show ¬ (5 : Int) = 4 by decide, if_false]
      have htx : tx.size ≤ 12 := by rw [← nl_length]; exact hn.2.1
      have e : strN ([123] ++ nl tx ++ [125]) = ⟨#[123]⟩ ++ tx ++ ⟨#[125]⟩ := by rw [S6.strN_app, S6.strN_app, lit123, lit125, strN_nl]
      rw [e]
      simp only [T.cells]
      clear JO ihT ih hk h hsz hT hfit hB hTab e hn
      go_enter Tryd.func33, Tryd.ntmps33
      go_wp2
      go_ret
      exact ⟨rfl, (Below.refl w.heap.size w).alloc (Nat.le_refl _) _⟩
end Go.Proofs.YtbkmoaollooomaaDoor
