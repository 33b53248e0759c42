/- Nth and Least of package sets: the member below which n members lie, and -1 where there is none. They ask that math/bits' table lie in block 0. -/
import Derived.Test.YtfgdbpepgahclaaDoorW8
import Derived.WalkSmall
namespace Go.Proofs.YtfgdbpepgahclaaDoor
open Go.RowKit Go.Shelf

attribute [local go_sem] Oper.semAt_some

theorem boxed_own' {X Y : World} {row : Option Nat} {B : Nat} {t : TypeId} {v : Value} (hs : Boxed X B t v) (hg : X.grownBy Y row) (hr : ∀ b, row = some b → ∃ o, X.heap[b]? = some o ∧ o.isCells = false) : Boxed Y B t v :=
  boxed_own B t (fun _ : Unit => v) () X Y row hs hg hr
/-- The member at place n. -/
def nthS (f : Nat → Bool) (n : Int) : Int := if 0 ≤ n then (match (el f 256)[n.toNat]? with | some c => (c : Int) | none => -1) else -1

def GivesNth (w0 : World) (ys : List Nat) (n : Int) (e : Ending) (w' : World) : Prop :=
  ∃ r : Int, e = .returned (.int .i64 r) ∧ r = (if 0 ≤ n then (match ys[n.toNat]? with | some c => (c : Int) | none => -1) else -1) ∧ Below w0.heap.size w0 w'

set_option maxRecDepth 100000 in
set_option maxHeartbeats 2000000 in
theorem nth_wide (N : Nat) (hN : 3 ≤ N) (f : Nat → Bool) (n : Int) (w : World) (hT : Tab w) :
    CallsIn Fence.wide N Tryd.prog 30 #[(.agg #[.int .u64 (wd f 0), .int .u64 (wd f 1), .int .u64 (wd f 2), .int .u64 (wd f 3)]), .int .i64 n] w (GivesNth w (el f 256) n) := by
  have h1 : 1 ≤ N := by omega
  have hlen := el_len f 256
  obtain ⟨W5, hW5, c1, c2, c3, bE, hB0, hs5⟩ : ∃ W5, ((((w.alloc (.cells #[.int .u64 (wd f 0), .int .u64 (wd f 1), .int .u64 (wd f 2), .int .u64 (wd f 3)] 28)).alloc (.cells #[.int .i64 n] 3)).alloc (.cells #[.int .i64 0] 3)).alloc (.cells #[.int .i64 0] 3)).alloc (.cells #[.int .u64 (wd f 0), .int .u64 (wd f 1), .int .u64 (wd f 2), .int .u64 (wd f 3)] 28) = W5 ∧
      Boxed W5 (w.heap.size + 1) 3 (.int .i64 n) ∧ Boxed W5 (w.heap.size + 1 + 1) 3 (.int .i64 0) ∧ Boxed W5 (w.heap.size + 1 + 1 + 1) 3 (.int .i64 0) ∧
      SetBox W5 (w.heap.size + 1 + 1 + 1 + 1) 28 f ∧ Below w.heap.size w W5 ∧ W5.heap.size = w.heap.size + 1 + 1 + 1 + 1 + 1 := by
    have b1 := Boxed.new (w.alloc (.cells #[.int .u64 (wd f 0), .int .u64 (wd f 1), .int .u64 (wd f 2), .int .u64 (wd f 3)] 28)) 3 (.int .i64 n)
    have b2 := Boxed.new ((w.alloc (.cells #[.int .u64 (wd f 0), .int .u64 (wd f 1), .int .u64 (wd f 2), .int .u64 (wd f 3)] 28)).alloc (.cells #[.int .i64 n] 3)) 3 (.int .i64 0)
    have b3 := Boxed.new (((w.alloc (.cells #[.int .u64 (wd f 0), .int .u64 (wd f 1), .int .u64 (wd f 2), .int .u64 (wd f 3)] 28)).alloc (.cells #[.int .i64 n] 3)).alloc (.cells #[.int .i64 0] 3)) 3 (.int .i64 0)
    have b4 := Blk4.new ((((w.alloc (.cells #[.int .u64 (wd f 0), .int .u64 (wd f 1), .int .u64 (wd f 2), .int .u64 (wd f 3)] 28)).alloc (.cells #[.int .i64 n] 3)).alloc (.cells #[.int .i64 0] 3)).alloc (.cells #[.int .i64 0] 3)) 28 (.int .u64 (wd f 0)) (.int .u64 (wd f 1)) (.int .u64 (wd f 2)) (.int .u64 (wd f 3))
    simp only [World.size_alloc] at b1 b2 b3 b4
    exact ⟨_, rfl, ((b1.alloc _).alloc _).alloc _, (b2.alloc _).alloc _, b3.alloc _, b4, (((((Below.refl _ w).alloc (Nat.le_refl _) _).alloc (by simp) _).alloc (by simp <;> omega) _).alloc (by simp <;> omega) _).alloc (by simp <;> omega) _, by simp⟩
  have hT5 : Tab W5 := hT.below hB0 hT.1
  have hst := each_stops (N - 1) (by omega) (w.heap.size + 1 + 1 + 1 + 1) w.heap.size hT.1 f W5 hB0.size bE hT5
  have hE := each_in (N - 1) f ((((w.alloc (.cells #[.int .u64 (wd f 0), .int .u64 (wd f 1), .int .u64 (wd f 2), .int .u64 (wd f 3)] 28)).alloc (.cells #[.int .i64 n] 3)).alloc (.cells #[.int .i64 0] 3)).alloc (.cells #[.int .i64 0] 3))
  have hly : ∀ c ∈ el f 256, c < 256 := fun c hc => el_lt hc
  clear bE hT5 hT
  generalize el f 256 = ys0 at *
  replace hE := Lib.hid hE
  replace hst := Lib.hid hst
  replace hW5 := Lib.hid hW5
  replace hs5 := Lib.hid hs5
  replace hly := Lib.hid hly
  refine callsIn_of_wp_marks Tryd.func30 rfl trivial ?_ rfl
  simp only [Tryd.ntmps30, List.size_toArray, List.length_cons, List.length_nil, Nat.reduceAdd, Nat.reduceSub, Array.replicate_succ, Array.replicate_zero, List.push_toArray, List.append_toArray, List.nil_append, List.cons_append]
  gi_wp2_with (refine ⟨trivial, ?_⟩; gi_at_call 31; refine hE.out.mono ?_; rintro e w' ⟨rfl, rfl⟩)
  rw [hW5.out]
  refine wpIn_rangeFunc_ownG rfl h1 (gf := 34) (lb := #[.pointer (some ⟨w.heap.size + 1 + 1 + 1 + 1, 0, none⟩)]) rfl trivial (enters_of Tryd.func34 (by kernel_rfl) rfl)
    hst.out belowK_t (belowK_b (by rw [hs5.out]; omega)) (Below.refl _ _) (fun _ => rfl)
    (fun (pre : List Nat) W => ((n < 0 ∨ (pre.length : Int) ≤ n) ∧ Boxed W (w.heap.size + 1) 3 (.int .i64 n) ∧ Boxed W (w.heap.size + 1 + 1) 3 (.int .i64 0) ∧ Boxed W (w.heap.size + 1 + 1 + 1) 3 (.int .i64 (pre.length : Int))) ∧ Below w.heap.size w W)
    (fun c (pre : List Nat) W => (c = .ret ∧ ∃ qs x, pre = qs ++ [x] ∧ (qs.length : Int) = n ∧ Boxed W (w.heap.size + 1 + 1) 3 (.int .i64 ((x % 256 : Nat) : Int))) ∧ Below w.heap.size w W)
    (OwnFrom.and (Own.from (fun s A B row hs hg hr => ⟨hs.1, boxed_own' hs.2.1 hg hr, boxed_own' hs.2.2.1 hg hr, boxed_own' hs.2.2.2 hg hr⟩) _) (ownFrom_below (Nat.le_refl _) (by rw [hs5.out]; omega)))
    (fun c => OwnFrom.and (Own.from (fun s A B row hs hg hr => ⟨hs.1, let ⟨qs, x, e1, e2, hb⟩ := hs.2; ⟨qs, x, e1, e2, boxed_own' hb hg hr⟩⟩) _) (ownFrom_below (Nat.le_refl _) (by rw [hs5.out]; omega)))
    ⟨⟨by simp; omega, c1, c2, by simpa using c3⟩, hB0⟩
    (fun x => { tmps := ((.agg #[.int .u64 (wd f 0), .int .u64 (wd f 1), .int .u64 (wd f 2), .int .u64 (wd f 3)]) :: .int .i64 n :: .pointer (some ⟨w.heap.size, 0, none⟩) :: .pointer (some ⟨w.heap.size + 1, 0, none⟩) :: .pointer (some ⟨w.heap.size + 1 + 1, 0, none⟩) :: .pointer (some ⟨w.heap.size + 1 + 1 + 1, 0, none⟩) :: .int .u8 ((x % 256 : Nat) : Int) :: (.agg #[.int .u64 (wd f 0), .int .u64 (wd f 1), .int .u64 (wd f 2), .int .u64 (wd f 3)]) :: .func (.func 34) #[] #[.pointer (some ⟨w.heap.size + 1 + 1 + 1 + 1, 0, none⟩)] :: .int .u8 ((x % 256 : Nat) : Int) :: undef :: undef :: undef :: undef :: undef :: undef :: undef :: []).toArray, defers := [] }) ?assign ?body ?done ?stop
  case assign =>
    intro l x W K hK
    gi_wp2
    exact hK
  case body =>
    rintro l pre x W ⟨⟨hp, b1, b2, b3⟩, hB⟩ hlt
    have hc1 := b1.cell
    have hc2 := b2.cell
    have hc3 := b3.cell
    have hz2 := b2.frozen
    have hz3 := b3.frozen
    have hx8 : ((x % 256 : Nat) : Int) ≤ 255 := by omega
    have hpl : (pre.length : Int) ≤ 256 := by omega
    have hb2 := b2.set (.int .i64 ((x % 256 : Nat) : Int))
    generalize hxe : x % 256 = y at *
    replace hxe := Lib.hid hxe
    replace hb2 := Lib.hid hb2
    by_cases hn : (pre.length : Int) = n
    · subst hn
      clear b1 b2 b3 hp
      gi_wp2
      exact ⟨(KeepsOthers.setCell _ _ _).from _, ⟨⟨rfl, pre, x, rfl, rfl, by rw [hxe.out]; exact hb2.out⟩, hB.setCell (p := ⟨w.heap.size + 1 + 1, 0, none⟩) (by simp; omega) _⟩⟩
    · have hnb : ((pre.length : Int) == n) = false := by simpa using hn
      have h1 := Lib.hid (b1.other (B' := w.heap.size + 1 + 1 + 1) (by omega) (.int .i64 ((pre.length : Int) + 1)))
      have h2 := Lib.hid (b2.other (B' := w.heap.size + 1 + 1 + 1) (by omega) (.int .i64 ((pre.length : Int) + 1)))
      have h3 := Lib.hid (b3.set (.int .i64 ((pre.length : Int) + 1)))
      clear b1 b2 b3
      gi_wp2
      refine ⟨(KeepsOthers.setCell _ _ _).from _, (Below.refl _ W).setCell (p := ⟨w.heap.size + 1 + 1 + 1, 0, none⟩) (by simp; omega) _, ⟨by simp; omega, h1.out, h2.out, ?_⟩, hB.setCell (p := ⟨w.heap.size + 1 + 1 + 1, 0, none⟩) (by simp; omega) _⟩
      have := h3.out
      simpa using this
  case done =>
    rintro D ys W hD rfl ⟨⟨hp, b1, b2, b3⟩, hB⟩ hK
    have hc2 := b2.cell
    have hz2 := b2.frozen
    gi_wp2
    have hK' := (KeepsOthers.setCell W ⟨w.heap.size + 1 + 1, 0, none⟩ (.int .i64 (-1))).same D _ hK rfl
    refine ⟨by simp, .inl ⟨_, _, rfl, run_takeDeferred hK', ?_⟩⟩
    have hc5 := (boxed_own' (b2.set (.int .i64 (-1))) (grownBy_putObj' _ D (.deferred none)) (fun r e => by cases e; exact ⟨_, hK', rfl⟩)).cell
    refine ⟨.int .i64 (-1), ?_, -1, rfl, ?_, (hB.setCell (p := ⟨w.heap.size + 1 + 1, 0, none⟩) (by simp; omega) _).trans (belowK_b (w := w) (Nat.le_refl _) _ D _ _ (by rw [hs5.out] at hD; omega) hK' rfl rfl)⟩
    · simp [results, Tryd.f30, go_sem, hc5]
    · rcases hp with h | h
      · rw [if_neg (by omega)]
      · rw [if_pos (by omega), List.getElem?_eq_none (by omega)]
  case stop =>
    rintro D c pre W hD hpre ⟨⟨rfl, qs, x, rfl, hqn, hb⟩, hB⟩ hK
    gi_wp2
    refine ⟨by simp, .inl ⟨_, _, rfl, run_takeDeferred hK, ?_⟩⟩
    have hc5 := (boxed_own' hb (grownBy_putObj' _ D (.deferred none)) (fun r e => by cases e; exact ⟨_, hK, rfl⟩)).cell
    refine ⟨.int .i64 ((x % 256 : Nat) : Int), ?_, _, rfl, ?_, hB.trans (belowK_b (w := w) (Nat.le_refl _) W D _ _ (by rw [hs5.out] at hD; omega) hK rfl rfl)⟩
    · simp [results, Tryd.f30, go_sem, hc5]
    · obtain ⟨rest, hr⟩ := hpre
      have hx : x < 256 := hly.out x (by rw [← hr]; simp)
      rw [if_pos (by omega), ← hr, ← hqn]
      simp [Nat.mod_eq_of_lt hx]
end Go.Proofs.YtfgdbpepgahclaaDoor
