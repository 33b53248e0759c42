/- The program's equal, whole; Same. -/
import Derived.Test.YtbkmoaollooomaaDoorW35
import Derived.Test.YtbkmoaollooomaaDoorW9
namespace Go.Proofs.YtbkmoaollooomaaDoor
open Go.RowKit
open Go.Tree7
set_option maxRecDepth 10000 in
set_option maxHeartbeats 4000000 in
theorem equal_in {w0 : World} {B0 : Nat} (hn0 : B0 ≤ w0.heap.size) : ∀ a : T, T.In w0 B0 a → ∀ b : T, T.In w0 B0 b → EqOf w0 B0 a b := by
  refine T.ind fun k u0 u1 u2 u3 p cap mn mx tx ks ih => ?_
  intro hT b hT'
  cases b with
  | mk k' u0' u1' u2' u3' p' cap' mn' mx' tx' ks' =>
  unfold EqOf
  intro w hB0
  have hBB := Lib.hid (((Below.refl w.heap.size w).alloc (Nat.le_refl _) (.cells #[.int .i64 k, .int .u64 u0, .int .u64 u1, .int .u64 u2, .int .u64 u3, .slice p ks.length cap, .int .i64 mn, .int .i64 mx, .string tx] 27)).alloc (by simp) (.cells #[.int .i64 k', .int .u64 u0', .int .u64 u1', .int .u64 u2', .int .u64 u3', .slice p' ks'.length cap', .int .i64 mn', .int .i64 mx', .string tx'] 27))
  have ihT : ∀ a ∈ ks, ∀ b ∈ ks', EqOf w0 B0 a b := fun a ha b hb => ih a ha (by cases hT with | mk h1 h2 h3 h4 h5 => exact h5 a ha) b (by cases hT' with | mk h1 h2 h3 h4 h5 => exact h5 b hb)
  have hBn : B0 ≤ w.heap.size := Nat.le_trans hn0 hB0.size
  obtain ⟨E, hE⟩ : ∃ E, eqT (.mk k u0 u1 u2 u3 p cap mn mx tx ks) (.mk k' u0' u1' u2' u3' p' cap' mn' mx' tx' ks') = E := ⟨_, rfl⟩
  obtain ⟨R, hR⟩ : ∃ R : Bool, R = true ↔ ks.map T.strip = ks'.map T.strip := ⟨open Classical in decide (ks.map T.strip = ks'.map T.strip), by simp⟩
  have cF := Lib.hid (eqf_in hn0 (hB0.trans (hBB.out.mono hBn)) hT hT' ihT hR)
  have hno : (k = k' → u0 = u0' → u1 = u1' → u2 = u2' → u3 = u3' → mn = mn' → mx = mx' → tx = tx' → R = true → False) → E = false := fun h => by
    rw [← hE]
    refine eqT_no fun h2 => ?_
    obtain ⟨h3, h4, h5, h6, h7, h8, h9, h10, h11⟩ := strip_parts h2
    exact h h3 h4 h5 h6 h7 h8 h9 h10 (hR.2 h11)
  have hyes : k = k' → u0 = u0' → u1 = u1' → u2 = u2' → u3 = u3' → mn = mn' → mx = mx' → tx = tx' → R = true → E = true := fun h1 h2 h3 h4 h5 h6 h7 h8 h9 => by
    rw [← hE]
    refine (eqT_iff _ _).2 ?_
    rw [T.strip_mk, T.strip_mk, h1, h2, h3, h4, h5, h6, h7, h8, hR.1 h9]
  rw [hE]
  have he : ∀ w, (Op.equalIn 10000 24 (.agg #[.int .u64 u0, .int .u64 u1, .int .u64 u2, .int .u64 u3]) (.agg #[.int .u64 u0', .int .u64 u1', .int .u64 u2', .int .u64 u3'])).run Tryd.prog w = .ok ((u0 == u0') && (u1 == u1') && (u2 == u2') && (u3 == u3')) w := fun w => S1.eq28 _ _ _ _ _ _ _ _ w
  simp only [T.cells]
  clear hE ihT ih hT hT' hB0 hR
  by_cases q1 : k = k'
  · subst q1
    obtain ⟨SQ, hSQ⟩ : ∃ SQ, ((u0 == u0') && (u1 == u1') && (u2 == u2') && (u3 == u3')) = SQ := ⟨_, rfl⟩
    rw [hSQ] at he
    cases SQ with
    | false =>
      have hf := hno fun _ h1 h2 h3 h4 _ _ _ _ => by subst h1 h2 h3 h4; simp at hSQ
      subst hf
      clear hno hyes cF hSQ
      go_enter Tryd.func35, Tryd.ntmps35
      go_wp2
      go_ret
      exact ⟨ret_bool (by simp), hBB.out⟩
    | true =>
      simp only [Bool.and_eq_true, beq_iff_eq] at hSQ
      obtain ⟨⟨⟨s0, s1⟩, s2⟩, s3⟩ := hSQ
      by_cases q2 : mn = mn'
      · subst q2
        by_cases q3 : mx = mx'
        · subst q3
          by_cases q4 : tx = tx'
          · subst q4
            have hq : (tx.toList == tx.toList) = true := by simp
            cases R with
            | true =>
              have hf := hyes rfl s0 s1 s2 s3 rfl rfl rfl rfl
              subst hf
              clear hno hyes s0 s1 s2 s3
              go_enter Tryd.func35, Tryd.ntmps35
              go_wp2_with (go_at_call 50; (with_reducible refine cF.out.mono ?_); rintro e w2 ⟨rfl, hb⟩; replace hb := Lib.hid hb)
              go_ret
              exact ⟨ret_bool (by simp), hBB.out.trans (hb.out.mono hBB.out.size)⟩
            | false =>
              have hf := hno fun _ _ _ _ _ _ _ _ h => by cases h
              subst hf
              clear hno hyes s0 s1 s2 s3
              go_enter Tryd.func35, Tryd.ntmps35
              go_wp2_with (go_at_call 50; (with_reducible refine cF.out.mono ?_); rintro e w2 ⟨rfl, hb⟩; replace hb := Lib.hid hb)
              go_ret
              exact ⟨ret_bool (by simp), hBB.out.trans (hb.out.mono hBB.out.size)⟩
          · have hf := hno fun _ _ _ _ _ _ _ h _ => q4 h
            have hq : (tx.toList == tx'.toList) = false := by rw [beq_eq_false_iff_ne]; exact fun h => q4 (toList_inj2 h)
            subst hf
            clear hno hyes cF s0 s1 s2 s3 q4
            go_enter Tryd.func35, Tryd.ntmps35
            go_wp2
            go_ret
            exact ⟨ret_bool (by simp), hBB.out⟩
        · have hf := hno fun _ _ _ _ _ _ h _ _ => q3 h
          have hq : (mx == mx') = false := by rw [beq_eq_false_iff_ne]; exact q3
          subst hf
          clear hno hyes cF s0 s1 s2 s3 q3
          go_enter Tryd.func35, Tryd.ntmps35
          go_wp2
          go_ret
          exact ⟨ret_bool (by simp), hBB.out⟩
      · have hf := hno fun _ _ _ _ _ h _ _ _ => q2 h
        have hq : (mn == mn') = false := by rw [beq_eq_false_iff_ne]; exact q2
        subst hf
        clear hno hyes cF s0 s1 s2 s3 q2
        go_enter Tryd.func35, Tryd.ntmps35
        go_wp2
        go_ret
        exact ⟨ret_bool (by simp), hBB.out⟩
  · have hf := hno fun h _ _ _ _ _ _ _ _ => q1 h
    have hq : (k == k') = false := by rw [beq_eq_false_iff_ne]; exact q1
    subst hf
    clear hno hyes cF q1
    go_enter Tryd.func35, Tryd.ntmps35
    go_wp2
    go_ret
    exact ⟨ret_bool (by simp), hBB.out⟩
/-- Two trees, the first right. -/
noncomputable def sameT (a b : T) : Bool := rightB a && eqT a b
set_option maxRecDepth 10000 in
set_option maxHeartbeats 4000000 in
theorem same_in {w : World} {a b : T} (hT : T.In w w.heap.size a) (hT' : T.In w w.heap.size b) : Calls Tryd.prog 19 #[.agg a.cells.toArray, .agg b.cells.toArray] w fun e w' => e = .returned (.bool (sameT a b)) ∧ Below w.heap.size w w' := by
  have hB2 : Below w.heap.size w ((w.alloc (.cells a.cells.toArray 27)).alloc (.cells b.cells.toArray 27)) := ((Below.refl w.heap.size w).alloc (Nat.le_refl _) _).alloc (by simp) _
  have R := Lib.hid (right_in ((hT.keep hB2).mono hB2.size))
  have Q := Lib.hid (fun w' (h : Below w.heap.size w w') => equal_in (Nat.le_refl _) a hT b hT' w' h)
  have hb1 : ((w.alloc (.cells a.cells.toArray 27)).alloc (.cells b.cells.toArray 27)).heap[w.heap.size]? = some (.cells a.cells.toArray 27 (0, 0)) := (Below.heap_alloc _ _ _ (by simp)).trans (World.alloc_heap_new _ _)
  have hb2 : ((w.alloc (.cells a.cells.toArray 27)).alloc (.cells b.cells.toArray 27)).heap[w.heap.size + 1]? = some (.cells b.cells.toArray 27 (0, 0)) := by have := World.alloc_heap_new (w.alloc (.cells a.cells.toArray 27)) (.cells b.cells.toArray 27); rw [World.size_alloc] at this; exact this
  unfold sameT
  generalize rightB a = r at *
  generalize eqT a b = E at *
  replace hB2 := Lib.hid hB2
  clear hT hT'
  cases a with
  | mk k u0 u1 u2 u3 p cap mn mx tx ks =>
  cases b with
  | mk k' u0' u1' u2' u3' p' cap' mn' mx' tx' ks' =>
  simp only [T.cells] at *
  replace hb1 := Lib.hid hb1
  replace hb2 := Lib.hid hb2
  cases r with
  | true =>
    go_enter Tryd.func19, Tryd.ntmps19
    go_wp2_with (first | (go_at_call 13; (with_reducible refine R.out.mono ?_); rintro e w1 ⟨rfl, hb⟩; have hk := cells_of (kept_row hb1.out hb); have x0 := (hk 0 _ rfl).1; have x1 := (hk 1 _ rfl).1; have x2 := (hk 2 _ rfl).1; have x3 := (hk 3 _ rfl).1; have x4 := (hk 4 _ rfl).1; have x5 := (hk 5 _ rfl).1; have x6 := (hk 6 _ rfl).1; have x7 := (hk 7 _ rfl).1; have x8 := (hk 8 _ rfl).1; clear hk; have hk := cells_of (kept_row hb2.out hb); have y0 := (hk 0 _ rfl).1; have y1 := (hk 1 _ rfl).1; have y2 := (hk 2 _ rfl).1; have y3 := (hk 3 _ rfl).1; have y4 := (hk 4 _ rfl).1; have y5 := (hk 5 _ rfl).1; have y6 := (hk 6 _ rfl).1; have y7 := (hk 7 _ rfl).1; have y8 := (hk 8 _ rfl).1; clear hk; replace hb := Lib.hid (hB2.out.trans (hb.mono hB2.out.size))) | (go_at_call 35; (with_reducible refine (Q.out _ hb.out).mono ?_); rintro e w2 ⟨rfl, hc⟩; replace hc := Lib.hid hc))
    go_ret
    exact ⟨ret_bool (by simp), hb.out.trans (hc.out.mono hb.out.size)⟩
  | false =>
    go_enter Tryd.func19, Tryd.ntmps19
    go_wp2_with (go_at_call 13; (with_reducible refine R.out.mono ?_); rintro e w1 ⟨rfl, hb⟩; replace hb := Lib.hid (hB2.out.trans (hb.mono hB2.out.size)))
    go_ret
    exact ⟨ret_bool (by simp), hb.out⟩
end Go.Proofs.YtbkmoaollooomaaDoor
