/- Texts of earlier layers, merged: S1W12, S1W13, S1W14, S1W15, S1W16. -/
import Derived.Test.YtjlmeegaiagfpaaGreatDoorS1C
import Derived.WalkSmall
import Derived.OwnWalk
import Derived.Laws.BytesArg
namespace Go.Proofs.YtjlmeegaiagfpaaGreatDoor.S1
open Go.RowKit Go.Shelf

attribute [local go_sem] Oper.semAt_some

theorem boxed_own' {X Y : World} {row : Option Nat} {B : Nat} {t : TypeId} {v : Value} (hs : Boxed X B t v) (hg : X.grownBy Y row) (hr : ∀ b, row = some b → ∃ o, X.heap[b]? = some o ∧ o.isCells = false) : Boxed Y B t v :=
  boxed_own B t (fun _ : Unit => v) () X Y row hs hg hr
/-- The member at place n. -/
def nthS (f : Nat → Bool) (n : Int) : Int := if 0 ≤ n then (match (el f 256)[n.toNat]? with | some c => (c : Int) | none => -1) else -1

def GivesNth (w0 : World) (ys : List Nat) (n : Int) (e : Ending) (w' : World) : Prop :=
  ∃ r : Int, e = .returned (.int .i64 r) ∧ r = (if 0 ≤ n then (match ys[n.toNat]? with | some c => (c : Int) | none => -1) else -1) ∧ Below w0.heap.size w0 w'

set_option maxRecDepth 100000 in
set_option maxHeartbeats 2000000 in
theorem nth_wide (N : Nat) (hN : 3 ≤ N) (f : Nat → Bool) (n : Int) (w : World) (hT : Tab w) :
    CallsIn Fence.wide N Tryz.prog 65 #[(.agg #[.int .u64 (wd f 0), .int .u64 (wd f 1), .int .u64 (wd f 2), .int .u64 (wd f 3)]), .int .i64 n] w (GivesNth w (el f 256) n) := by
  have h1 : 1 ≤ N := by omega
  have hlen := el_len f 256
  obtain ⟨W5, hW5, c1, c2, c3, bE, hB0, hs5⟩ : ∃ W5, ((((w.alloc (.cells #[.int .u64 (wd f 0), .int .u64 (wd f 1), .int .u64 (wd f 2), .int .u64 (wd f 3)] 24)).alloc (.cells #[.int .i64 n] 3)).alloc (.cells #[.int .i64 0] 3)).alloc (.cells #[.int .i64 0] 3)).alloc (.cells #[.int .u64 (wd f 0), .int .u64 (wd f 1), .int .u64 (wd f 2), .int .u64 (wd f 3)] 24) = W5 ∧
      Boxed W5 (w.heap.size + 1) 3 (.int .i64 n) ∧ Boxed W5 (w.heap.size + 1 + 1) 3 (.int .i64 0) ∧ Boxed W5 (w.heap.size + 1 + 1 + 1) 3 (.int .i64 0) ∧
      SetBox W5 (w.heap.size + 1 + 1 + 1 + 1) 24 f ∧ Below w.heap.size w W5 ∧ W5.heap.size = w.heap.size + 1 + 1 + 1 + 1 + 1 := by
    have b1 := Boxed.new (w.alloc (.cells #[.int .u64 (wd f 0), .int .u64 (wd f 1), .int .u64 (wd f 2), .int .u64 (wd f 3)] 24)) 3 (.int .i64 n)
    have b2 := Boxed.new ((w.alloc (.cells #[.int .u64 (wd f 0), .int .u64 (wd f 1), .int .u64 (wd f 2), .int .u64 (wd f 3)] 24)).alloc (.cells #[.int .i64 n] 3)) 3 (.int .i64 0)
    have b3 := Boxed.new (((w.alloc (.cells #[.int .u64 (wd f 0), .int .u64 (wd f 1), .int .u64 (wd f 2), .int .u64 (wd f 3)] 24)).alloc (.cells #[.int .i64 n] 3)).alloc (.cells #[.int .i64 0] 3)) 3 (.int .i64 0)
    have b4 := Blk4.new ((((w.alloc (.cells #[.int .u64 (wd f 0), .int .u64 (wd f 1), .int .u64 (wd f 2), .int .u64 (wd f 3)] 24)).alloc (.cells #[.int .i64 n] 3)).alloc (.cells #[.int .i64 0] 3)).alloc (.cells #[.int .i64 0] 3)) 24 (.int .u64 (wd f 0)) (.int .u64 (wd f 1)) (.int .u64 (wd f 2)) (.int .u64 (wd f 3))
    simp only [World.size_alloc] at b1 b2 b3 b4
    exact ⟨_, rfl, ((b1.alloc _).alloc _).alloc _, (b2.alloc _).alloc _, b3.alloc _, b4, (((((Below.refl _ w).alloc (Nat.le_refl _) _).alloc (by simp) _).alloc (by simp <;> omega) _).alloc (by simp <;> omega) _).alloc (by simp <;> omega) _, by simp⟩
  have hT5 : Tab W5 := hT.below hB0 hT.1
  have hst := each_stops (N - 1) (by omega) (w.heap.size + 1 + 1 + 1 + 1) w.heap.size hT.1 f W5 hB0.size bE hT5
  have hE := each_in (N - 1) f ((((w.alloc (.cells #[.int .u64 (wd f 0), .int .u64 (wd f 1), .int .u64 (wd f 2), .int .u64 (wd f 3)] 24)).alloc (.cells #[.int .i64 n] 3)).alloc (.cells #[.int .i64 0] 3)).alloc (.cells #[.int .i64 0] 3))
  have hly : ∀ c ∈ el f 256, c < 256 := fun c hc => el_lt hc
  clear bE hT5 hT
  generalize el f 256 = ys0 at *
  replace hE := Lib.hid hE
  replace hst := Lib.hid hst
  replace hW5 := Lib.hid hW5
  replace hs5 := Lib.hid hs5
  replace hly := Lib.hid hly
  refine callsIn_of_wp_marks Tryz.func65 rfl trivial ?_ rfl
  simp only [Tryz.ntmps65, List.size_toArray, List.length_cons, List.length_nil, Nat.reduceAdd, Nat.reduceSub, Array.replicate_succ, Array.replicate_zero, List.push_toArray, List.append_toArray, List.nil_append, List.cons_append]
  gi_wp2_with (refine ⟨trivial, ?_⟩; gi_at_call 78; refine hE.out.mono ?_; rintro e w' ⟨rfl, rfl⟩)
  rw [hW5.out]
  refine wpIn_rangeFunc_ownG rfl h1 (gf := 88) (lb := #[.pointer (some ⟨w.heap.size + 1 + 1 + 1 + 1, 0, none⟩)]) rfl trivial (enters_of Tryz.func88 (by kernel_rfl) rfl)
    hst.out belowK_t (belowK_b (by rw [hs5.out]; omega)) (Below.refl _ _) (fun _ => rfl)
    (fun (pre : List Nat) W => ((n < 0 ∨ (pre.length : Int) ≤ n) ∧ Boxed W (w.heap.size + 1) 3 (.int .i64 n) ∧ Boxed W (w.heap.size + 1 + 1) 3 (.int .i64 0) ∧ Boxed W (w.heap.size + 1 + 1 + 1) 3 (.int .i64 (pre.length : Int))) ∧ Below w.heap.size w W)
    (fun c (pre : List Nat) W => (c = .ret ∧ ∃ qs x, pre = qs ++ [x] ∧ (qs.length : Int) = n ∧ Boxed W (w.heap.size + 1 + 1) 3 (.int .i64 ((x % 256 : Nat) : Int))) ∧ Below w.heap.size w W)
    (OwnFrom.and (Own.from (fun s A B row hs hg hr => ⟨hs.1, boxed_own' hs.2.1 hg hr, boxed_own' hs.2.2.1 hg hr, boxed_own' hs.2.2.2 hg hr⟩) _) (ownFrom_below (Nat.le_refl _) (by rw [hs5.out]; omega)))
    (fun c => OwnFrom.and (Own.from (fun s A B row hs hg hr => ⟨hs.1, let ⟨qs, x, e1, e2, hb⟩ := hs.2; ⟨qs, x, e1, e2, boxed_own' hb hg hr⟩⟩) _) (ownFrom_below (Nat.le_refl _) (by rw [hs5.out]; omega)))
    ⟨⟨by simp; omega, c1, c2, by simpa using c3⟩, hB0⟩
    (fun x => { tmps := ((.agg #[.int .u64 (wd f 0), .int .u64 (wd f 1), .int .u64 (wd f 2), .int .u64 (wd f 3)]) :: .int .i64 n :: .pointer (some ⟨w.heap.size, 0, none⟩) :: .pointer (some ⟨w.heap.size + 1, 0, none⟩) :: .pointer (some ⟨w.heap.size + 1 + 1, 0, none⟩) :: .pointer (some ⟨w.heap.size + 1 + 1 + 1, 0, none⟩) :: .int .u8 ((x % 256 : Nat) : Int) :: (.agg #[.int .u64 (wd f 0), .int .u64 (wd f 1), .int .u64 (wd f 2), .int .u64 (wd f 3)]) :: .func (.func 88) #[] #[.pointer (some ⟨w.heap.size + 1 + 1 + 1 + 1, 0, none⟩)] :: .int .u8 ((x % 256 : Nat) : Int) :: undef :: undef :: undef :: undef :: undef :: undef :: undef :: []).toArray, defers := [] }) ?assign ?body ?done ?stop
  case assign =>
    intro l x W K hK
    gi_wp2
    exact hK
  case body =>
    rintro l pre x W ⟨⟨hp, b1, b2, b3⟩, hB⟩ hlt
    have hc1 := b1.cell
    have hc2 := b2.cell
    have hc3 := b3.cell
    have hz2 := b2.frozen
    have hz3 := b3.frozen
    have hx8 : ((x % 256 : Nat) : Int) ≤ 255 := by omega
    have hpl : (pre.length : Int) ≤ 256 := by omega
    have hb2 := b2.set (.int .i64 ((x % 256 : Nat) : Int))
    generalize hxe : x % 256 = y at *
    replace hxe := Lib.hid hxe
    replace hb2 := Lib.hid hb2
    by_cases hn : (pre.length : Int) = n
    · subst hn
      clear b1 b2 b3 hp
      gi_wp2
      exact ⟨(KeepsOthers.setCell _ _ _).from _, ⟨⟨rfl, pre, x, rfl, rfl, by rw [hxe.out]; exact hb2.out⟩, hB.setCell (p := ⟨w.heap.size + 1 + 1, 0, none⟩) (by simp; omega) _⟩⟩
    · have hnb : ((pre.length : Int) == n) = false := by simpa using hn
      have h1 := Lib.hid (b1.other (B' := w.heap.size + 1 + 1 + 1) (by omega) (.int .i64 ((pre.length : Int) + 1)))
      have h2 := Lib.hid (b2.other (B' := w.heap.size + 1 + 1 + 1) (by omega) (.int .i64 ((pre.length : Int) + 1)))
      have h3 := Lib.hid (b3.set (.int .i64 ((pre.length : Int) + 1)))
      clear b1 b2 b3
      gi_wp2
      refine ⟨(KeepsOthers.setCell _ _ _).from _, (Below.refl _ W).setCell (p := ⟨w.heap.size + 1 + 1 + 1, 0, none⟩) (by simp; omega) _, ⟨by simp; omega, h1.out, h2.out, ?_⟩, hB.setCell (p := ⟨w.heap.size + 1 + 1 + 1, 0, none⟩) (by simp; omega) _⟩
      have := h3.out
      simpa using this
  case done =>
    rintro D ys W hD rfl ⟨⟨hp, b1, b2, b3⟩, hB⟩ hK
    have hc2 := b2.cell
    have hz2 := b2.frozen
    gi_wp2
    have hK' := (KeepsOthers.setCell W ⟨w.heap.size + 1 + 1, 0, none⟩ (.int .i64 (-1))).same D _ hK rfl
    refine ⟨by simp, .inl ⟨_, _, rfl, run_takeDeferred hK', ?_⟩⟩
    have hc5 := (boxed_own' (b2.set (.int .i64 (-1))) (grownBy_putObj' _ D (.deferred none)) (fun r e => by cases e; exact ⟨_, hK', rfl⟩)).cell
    refine ⟨.int .i64 (-1), ?_, -1, rfl, ?_, (hB.setCell (p := ⟨w.heap.size + 1 + 1, 0, none⟩) (by simp; omega) _).trans (belowK_b (w := w) (Nat.le_refl _) _ D _ _ (by rw [hs5.out] at hD; omega) hK' rfl rfl)⟩
    · simp [results, Tryz.f65, go_sem, hc5]
    · rcases hp with h | h
      · rw [if_neg (by omega)]
      · rw [if_pos (by omega), List.getElem?_eq_none (by omega)]
  case stop =>
    rintro D c pre W hD hpre ⟨⟨rfl, qs, x, rfl, hqn, hb⟩, hB⟩ hK
    gi_wp2
    refine ⟨by simp, .inl ⟨_, _, rfl, run_takeDeferred hK, ?_⟩⟩
    have hc5 := (boxed_own' hb (grownBy_putObj' _ D (.deferred none)) (fun r e => by cases e; exact ⟨_, hK, rfl⟩)).cell
    refine ⟨.int .i64 ((x % 256 : Nat) : Int), ?_, _, rfl, ?_, hB.trans (belowK_b (w := w) (Nat.le_refl _) W D _ _ (by rw [hs5.out] at hD; omega) hK rfl rfl)⟩
    · simp [results, Tryz.f65, go_sem, hc5]
    · obtain ⟨rest, hr⟩ := hpre
      have hx : x < 256 := hly.out x (by rw [← hr]; simp)
      rw [if_pos (by omega), ← hr, ← hqn]
      simp [Nat.mod_eq_of_lt hx]
end Go.Proofs.YtjlmeegaiagfpaaGreatDoor.S1

namespace Go.Proofs.YtjlmeegaiagfpaaGreatDoor.S1
open Go.RowKit Go.Shelf

theorem nth_in (f : Nat → Bool) (n : Int) (w : World) (hT : Tab w) : Calls Tryz.prog 65 #[(.agg #[.int .u64 (wd f 0), .int .u64 (wd f 1), .int .u64 (wd f 2), .int .u64 (wd f 3)]), .int .i64 n] w (GivesNth w (el f 256) n) := (callsIn_wide (n := 5)).1 (nth_wide 5 (by decide) f n w hT)

set_option maxHeartbeats 1000000 in
theorem least_in (f : Nat → Bool) (w : World) (hT : Tab w) : Calls Tryz.prog 48 #[(.agg #[.int .u64 (wd f 0), .int .u64 (wd f 1), .int .u64 (wd f 2), .int .u64 (wd f 3)])] w (GivesNth w (el f 256) 0) := by
  have hN := nth_in f 0
  generalize el f 256 = ys at *
  obtain ⟨W, hW, b1, hB⟩ := boxes1 w 24 (.int .u64 (wd f 0)) (.int .u64 (wd f 1)) (.int .u64 (wd f 2)) (.int .u64 (wd f 3))
  have hTW := hT.below hB hT.1
  have hc := hN W hTW
  clear hN b1 hTW hT
  replace hc := Lib.hid hc
  replace hW := Lib.hid hW
  replace hB := Lib.hid hB
  go_enter Tryz.func48, Tryz.ntmps48
  go_wp2_with (go_at_call 65; rw [hW.out]; refine hc.out.mono ?_; rintro e w' ⟨r, rfl, hr, hb⟩; replace hr := Lib.hid hr; replace hb := Lib.hid hb)
  go_ret
  exact ⟨r, rfl, hr.out, hB.out.trans (hb.out.mono hB.out.size)⟩

theorem ownsRow_bel {w w' : World} {base : Nat} {e : TypeId} {size : Nat} {v : Value} {n : Nat} {xs : List Value} (h : w.ownsRow base e size v n xs) (hb : Below w.heap.size w w') : w'.ownsRow base e size v n xs := by
  refine ⟨h.1, ?_⟩
  rcases h.2 with h1 | ⟨g, cap, cur, hv, hg, hh, r⟩
  · exact .inl h1
  · exact .inr ⟨g, cap, cur, hv, hg, (hb.block g (Array.getElem?_eq_some_iff.1 hh).1).trans hh, r⟩
theorem Blk4.grown {w w1 : World} {b : Nat} {t : TypeId} {v0 v1 v2 v3 : Value} {base : Nat} {e : TypeId} {size : Nat} {v : Value} {n : Nat} {xs : List Value} {tmp : Obj} (h : Blk4 w b t v0 v1 v2 v3)
    (hrow : w.ownsRow base e size v n xs) (hte : t ≠ e) (hg : (w.alloc tmp).grownBy w1 v.ownBlock) : Blk4 w1 b t v0 v1 v2 v3 := by
  have h1 := h.alloc tmp
  refine (hg.block b h1.lt ?_).trans h1
  rcases hrow.2 with ⟨rfl, _⟩ | ⟨g, cap, cur, rfl, _, hgb, _⟩
  · simp [Value.ownBlock]
  · intro e'
    obtain rfl : b = g := by simpa [Value.ownBlock] using e'
    have := (show w.heap[b]? = _ from h).symm.trans hgb
    simp at this
    exact hte this.2
theorem below_grown {a w w1 : World} {B : Nat} {e : TypeId} {size : Nat} {v : Value} {n : Nat} {xs : List Value} {tmp : Obj} (h : Below B a w) (hB : B ≤ w.heap.size)
    (hrow : w.ownsRow B e size v n xs) (hg : (w.alloc tmp).grownBy w1 v.ownBlock) : Below B a w1 :=
  (h.alloc hB tmp).grown hg (by simp; omega) fun k ek => (hrow.lt k ek).1

def encN (c : Nat) : Value := .int .u8 (c : Int)
end Go.Proofs.YtjlmeegaiagfpaaGreatDoor.S1

namespace Go.Proofs.YtjlmeegaiagfpaaGreatDoor.S1
open Go.RowKit Go.Shelf

def enA (f : Nat → Bool) (k : Nat) : List Nat := if k = 0 ∨ f (k - 1) = false then [k] else []
def enZ (f : Nat → Bool) (k : Nat) : List Nat := if k = 255 ∨ f (k + 1) = false then [k] else []
/-- The beginnings and ends met below p. -/
def en (f : Nat → Bool) : Nat → List Nat
  | 0 => []
  | p + 1 => if f p = true then en f p ++ enA f p ++ enZ f p else en f p
theorem en_len (f : Nat → Bool) (p : Nat) : (en f p).length ≤ 2 * p := by
  induction p with
  | zero => simp [en]
  | succ p ih =>
    rw [en]
    split
    · simp only [List.length_append, enA, enZ]; split <;> split <;> simp <;> omega
    · omega
def flat (ps : List (Nat × Nat)) : List Nat := ps.flatMap fun p => [p.1, p.2]
theorem flat_snoc (ps : List (Nat × Nat)) (a b : Nat) : flat (ps ++ [(a, b)]) = flat ps ++ [a, b] := by simp [flat]
theorem flat_len (ps : List (Nat × Nat)) : (flat ps).length = 2 * ps.length := by
  induction ps with
  | nil => rfl
  | cons p ps ih => simp only [flat, List.flatMap_cons, List.length_append, List.length_cons, List.length_nil] at *; omega
theorem flat_at (ps : List (Nat × Nat)) : ∀ {k : Nat} (h : k < ps.length), (flat ps)[2 * k]? = some ps[k].1 ∧ (flat ps)[2 * k + 1]? = some ps[k].2 := by
  induction ps with
  | nil => intro k h; simp at h
  | cons p ps ih =>
    intro k h
    have e : flat (p :: ps) = p.1 :: p.2 :: flat ps := by simp [flat]
    rw [e]
    cases k with
    | zero => exact ⟨rfl, rfl⟩
    | succ k =>
      have := ih (k := k) (by simp at h; omega)
      have e1 : 2 * (k + 1) = 2 * k + 1 + 1 := by omega
      rw [e1]
      simpa using this

theorem en_flat (f : Nat → Bool) : ∀ p, p ≤ 256 → (if 0 < p ∧ p < 256 ∧ f (p - 1) = true ∧ f p = true then en f p ++ [p - 1] else en f p) = flat (spAll (el f p)) := by
  intro p
  induction p with
  | zero => intro _; simp [en, el, spAll, flat]
  | succ p ih =>
    intro hp
    have ih := ih (by omega)
    obtain ⟨i1, i2, i3⟩ := spAll_el f p (by omega)
    cases hf : f p
    · have c1 : ¬ (0 < p ∧ p < 256 ∧ f (p - 1) = true ∧ f p = true) := by simp [hf]
      have c2 : ¬ (0 < p + 1 ∧ p + 1 < 256 ∧ f (p + 1 - 1) = true ∧ f (p + 1) = true) := by simp [hf]
      rw [if_neg c1] at ih
      rw [if_neg c2, el_snoc_miss hf, ← ih, en, if_neg (by simp [hf])]
    · have hen : en f (p + 1) = en f p ++ enA f p ++ enZ f p := by rw [en, if_pos hf]
      rw [el_snoc_hit hf, spAll_snoc, Nat.mod_eq_of_lt (by omega : p < 256)]
      -- what is told of p at the end
      have hz : (if 0 < p + 1 ∧ p + 1 < 256 ∧ f (p + 1 - 1) = true ∧ f (p + 1) = true then en f (p + 1) ++ [p + 1 - 1] else en f (p + 1)) = en f p ++ enA f p ++ [p] := by
        rw [hen]
        unfold enZ
        by_cases hc : p = 255 ∨ f (p + 1) = false
        · have : ¬ (0 < p + 1 ∧ p + 1 < 256 ∧ f (p + 1 - 1) = true ∧ f (p + 1) = true) := by
            rcases hc with h | h
            · omega
            · simp [h]
          rw [if_neg this, if_pos hc]
        · have h1 : f (p + 1) = true := by
            cases h : f (p + 1)
            · exact absurd (.inr h) hc
            · rfl
          have : 0 < p + 1 ∧ p + 1 < 256 ∧ f (p + 1 - 1) = true ∧ f (p + 1) = true := ⟨by omega, by omega, by simpa using hf, h1⟩
          rw [if_pos this, if_neg hc]
          simp
      rw [hz]
      by_cases hp0 : p = 0 ∨ f (p - 1) = false
      · have c1 : ¬ (0 < p ∧ p < 256 ∧ f (p - 1) = true ∧ f p = true) := by
          rcases hp0 with h | h
          · omega
          · simp [h]
        rw [if_neg c1] at ih
        have hA : enA f p = [p] := by unfold enA; rw [if_pos hp0]
        have hnew : spA (spAll (el f p)) p = spAll (el f p) ++ [(p, p)] := by
          rcases List.eq_nil_or_concat (spAll (el f p)) with hnil | ⟨qs, ⟨a, b⟩, hcon⟩
          · rw [hnil, spA_nil]; rfl
          · rw [List.concat_eq_append] at hcon
            obtain ⟨j1, j2, j3⟩ := i3 qs a b hcon
            rw [hcon]
            refine spA_new fun hb => ?_
            have hb1 : b = p - 1 := by omega
            rcases hp0 with h | h
            · omega
            · rw [← hb1, j1] at h; cases h
        rw [hnew, flat_snoc, hA, ← ih]; simp
      · have hp1 : 0 < p := by
          rcases Nat.eq_zero_or_pos p with h | h
          · exact absurd (.inl h) hp0
          · exact h
        have hfp : f (p - 1) = true := by
          cases h : f (p - 1)
          · exact absurd (.inr h) hp0
          · rfl
        rw [if_pos ⟨hp1, by omega, hfp, hf⟩] at ih
        have hA : enA f p = [] := by unfold enA; rw [if_neg hp0]
        rw [hA]
        rcases List.eq_nil_or_concat (spAll (el f p)) with hnil | ⟨qs, ⟨a, b⟩, hcon⟩
        · rw [hnil] at ih
          simp [flat] at ih
        · rw [List.concat_eq_append] at hcon
          obtain ⟨j1, j2, j3⟩ := i3 qs a b hcon
          have hb1 : b = p - 1 := by
            rcases Nat.lt_or_ge b (p - 1) with h | h
            · have := j3 (p - 1) h (by omega); rw [hfp] at this; cases this
            · omega
          rw [hcon] at ih ⊢
          rw [spA_join (by omega), flat_snoc]
          rw [flat_snoc, hb1] at ih
          have e : flat qs ++ [a, p - 1] = (flat qs ++ [a]) ++ [p - 1] := by simp
          rw [e] at ih
          have := List.append_cancel_right ih
          rw [this]; simp
theorem en_all (f : Nat → Bool) : en f 256 = flat (spAll (el f 256)) := by
  have := en_flat f 256 (Nat.le_refl _)
  rw [if_neg (by omega)] at this
  exact this

theorem info3 : (Tryz.prog.info? 3).map (fun i => (i.zero, i.size, i.bytes)) = some (some (.int .i64 0), 1, 8) := by kernel_rfl
def encI (c : Nat) : Value := .int .i64 (c : Int)
def GivesInts (w0 : World) (l : List Nat) (e : Ending) (w' : World) : Prop := ∃ v, e = .returned v ∧ w'.ownsRow w0.heap.size 3 1 v l.length (l.map encI) ∧ Below w0.heap.size w0 w'

end Go.Proofs.YtjlmeegaiagfpaaGreatDoor.S1

namespace Go.Proofs.YtjlmeegaiagfpaaGreatDoor.S1
open Go.RowKit Go.Shelf

end Go.Proofs.YtjlmeegaiagfpaaGreatDoor.S1

namespace Go.Proofs.YtjlmeegaiagfpaaGreatDoor.S1
open Go.RowKit Go.Shelf

theorem row_form {w : World} {base : Nat} {e : TypeId} {size : Nat} {v : Value} {n : Nat} {xs : List Value} (h : w.ownsRow base e size v n xs) :
    ∃ (p : Option Addr) (cap : Nat), v = .slice p n cap ∧ (0 < n → ∃ g, p = some ⟨g, 0, none⟩ ∧ base ≤ g ∧ g < w.heap.size ∧ n ≤ cap ∧ ∀ j, j < n * size → w.cell? ⟨g, j, none⟩ = xs[j]?) := by
  rcases h.2 with ⟨h1, h2⟩ | ⟨g, cap, cur, hv2, hg, hh, hcap, r⟩
  · exact ⟨none, 0, by rw [h1, h2], fun h => by omega⟩
  · subst hv2
    exact ⟨some ⟨g, 0, none⟩, cap, rfl, fun _ => ⟨g, rfl, hg, (Array.getElem?_eq_some_iff.1 hh).1, hcap, fun j hj => h.cellAt j hj⟩⟩

def strN (ys : List Nat) : ByteArray := strOfNums (ys.map fun c : Nat => (c : Int))
theorem u22 : Tryz.prog.underlying 82 = some (.slice 5) := by kernel_rfl
theorem u9 : Tryz.prog.underlying 9 = some .string := by kernel_rfl
theorem u5' : Tryz.prog.underlying 5 = some (.int .u8) := by kernel_rfl
theorem conv_bytes {w : World} {base : Nat} {v : Value} {ys : List Nat} (h : w.ownsRow base 5 1 v ys.length (ys.map fun c : Nat => Value.int .u8 (c : Int))) :
    (convert 82 9 v).run Tryz.prog w = .ok (.string (strN ys)) w := by
  obtain ⟨p, cap, rfl, hc⟩ := row_form h
  rcases Nat.eq_zero_or_pos ys.length with h0 | h0
  · obtain rfl : ys = [] := List.length_eq_zero_iff.1 h0
    cases p with
    | none => rw [run_convert_bytes_nil w 82 5 u22 u5' _ _ 9 u9]; rfl
    | some a =>
      rw [run_convert_bytes_string w 82 9 5 (some a) _ cap u22 u5' u9]
      have := run_bytesToString (P := Tryz.prog) w a 0 cap [] (by simp [loadCells, loadCellsFrom])
      exact this
  · obtain ⟨g, rfl, _, _, hcap, hcell⟩ := hc h0
    refine run_convert_bytes_arg w 82 5 u22 u5' g 0 ys.length cap _ (by simp) (fun i hi => ?_) 9 u9
    rw [Nat.zero_add, hcell i (by omega)]
    simp [hi]

theorem el_cnt (f : Nat → Bool) (k : Nat) : ∀ n, n ≤ 64 → (el f (64 * k + n)).length = (el f (64 * k)).length + cnt (wd f k).testBit n := by
  intro n
  induction n with
  | zero => intro _; simp [cnt]
  | succ n ih =>
    intro hn
    have := ih (by omega)
    rw [show 64 * k + (n + 1) = (64 * k + n) + 1 by omega, el, List.length_append, this, cnt, testBit_wd]
    have hlt : n < 64 := by omega
    cases f (64 * k + n) <;> simp [hlt]
    omega
theorem szS_el (f : Nat → Bool) : szS f = (el f 256).length := by
  have h0 := el_cnt f 0 64 (by omega)
  have h1 := el_cnt f 1 64 (by omega)
  have h2 := el_cnt f 2 64 (by omega)
  have h3 := el_cnt f 3 64 (by omega)
  simp only [Nat.mul_zero, Nat.zero_add, Nat.reduceMul, Nat.reduceAdd] at h0 h1 h2 h3
  have e0 : (el f 0).length = 0 := rfl
  unfold szS
  omega
theorem empty_el (f : Nat → Bool) : eqB f noS = (((el f 256).length : Int) == 0) := by
  rw [Bool.eq_iff_iff, eqB_iff, beq_iff_eq]
  constructor
  · intro h
    have : el f 256 = [] := by
      apply List.eq_nil_iff_forall_not_mem.2
      intro x hx
      obtain ⟨h1, h2⟩ := el_mem.1 hx
      rw [h x h1] at h2
      cases h2
    rw [this]; rfl
  · intro h c hc
    have h0 : el f 256 = [] := List.length_eq_zero_iff.1 (by omega)
    cases hf : f c
    · rfl
    · have := el_mem.2 ⟨hc, hf⟩
      rw [h0] at this
      cases this
end Go.Proofs.YtjlmeegaiagfpaaGreatDoor.S1
