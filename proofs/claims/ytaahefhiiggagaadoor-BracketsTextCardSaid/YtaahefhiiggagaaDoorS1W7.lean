/- The bytes of a set in rising order, and the iterator of package sets over them: it yields them in that order, for every loop body that keeps what lay below a bound. It asks that math/bits' table lie in block 0. -/
import Derived.RangeFuncNested
import Derived.RangeFuncBound
import Derived.RangeFuncCalls
import Derived.RangeFuncLeaves
import Derived.RangeFuncBox
import Derived.Shelf.Abstract
import Derived.Shelf.RegionOpen
import Derived.WalkKit
import Derived.OwnWalkIn
import Derived.TacticsInMore
import Derived.LoopNIn
import Derived.LoopIn
import Derived.Maps.AppendAt
import Derived.Test.YtaahefhiiggagaaDoorS1W4
namespace Go.Proofs.YtaahefhiiggagaaDoor.S1
open Go.RowKit Go.Shelf

attribute [local go_sem] Oper.semAt_some

/-- The members below p, rising. -/
def el (f : Nat → Bool) : Nat → List Nat
  | 0 => []
  | p + 1 => el f p ++ (if f p then [p] else [])
theorem el_prefix (f : Nat → Bool) {p q : Nat} (h : p ≤ q) : el f p <+: el f q := by
  induction h with
  | refl => exact List.prefix_rfl
  | step _ ih => exact ih.trans (List.prefix_append _ _)
theorem el_skip {f : Nat → Bool} {p q : Nat} (h : p ≤ q) (hn : ∀ x, p ≤ x → x < q → f x = false) : el f q = el f p := by
  induction h with
  | refl => rfl
  | step hq ih =>
    rw [el, ih fun x h1 h2 => hn x h1 (Nat.lt_succ_of_lt h2), hn _ hq (Nat.lt_succ_self _)]
    simp
theorem el_next {f : Nat → Bool} {p c : Nat} (h : p ≤ c) (hc : f c = true) (hn : ∀ x, p ≤ x → x < c → f x = false) : el f (c + 1) = el f p ++ [c] := by
  rw [el, el_skip h hn, hc]; simp
theorem el_lt {f : Nat → Bool} {p x : Nat} (h : x ∈ el f p) : x < p := by
  induction p with
  | zero => simp [el] at h
  | succ p ih =>
    rw [el, List.mem_append] at h
    rcases h with h | h
    · exact Nat.lt_succ_of_lt (ih h)
    · split at h <;> simp at h; omega
theorem el_mem {f : Nat → Bool} {p x : Nat} : x ∈ el f p ↔ x < p ∧ f x = true := by
  induction p with
  | zero => simp [el]
  | succ p ih =>
    rw [el, List.mem_append, ih]
    by_cases hp : f p = true
    · simp only [hp, if_true, List.mem_singleton]
      constructor
      · rintro (h | h)
        · exact ⟨by omega, h.2⟩
        · subst h; exact ⟨by omega, hp⟩
      · rintro ⟨h1, h2⟩
        by_cases e : x = p
        · exact .inr e
        · exact .inl ⟨by omega, h2⟩
    · simp only [hp]
      constructor
      · rintro (h | h)
        · exact ⟨by omega, h.2⟩
        · simp at h
      · rintro ⟨h1, h2⟩
        refine .inl ⟨?_, h2⟩
        have : x ≠ p := fun e => hp (e ▸ h2)
        omega
theorem el_len (f : Nat → Bool) (p : Nat) : (el f p).length ≤ p := by
  induction p with
  | zero => simp [el]
  | succ p ih => rw [el, List.length_append]; split <;> simp <;> omega

def fromS (f : Nat → Bool) (p : Nat) : Nat → Bool := fun x => f x && decide (p ≤ x)
/-- The least member of word k that is p or more: what the word is behind it. -/
theorem word_next {f : Nat → Bool} {k p : Nat} (hp : 64 * k ≤ p) (hx : wd (fromS f p) k ≠ 0) :
    ∃ t, t < 64 ∧ (wd (fromS f p) k).testBit t = true ∧ (∀ i, i < t → (wd (fromS f p) k).testBit i = false) ∧ p ≤ 64 * k + t ∧ f (64 * k + t) = true ∧
      (∀ x, p ≤ x → x < 64 * k + t → f x = false) ∧ wd (fromS f p) k &&& (wd (fromS f p) k - 1) = wd (fromS f (64 * k + t + 1)) k := by
  obtain ⟨t, h1, h0⟩ := least_bit hx
  have h1' := h1
  rw [testBit_wd] at h1'
  simp only [Bool.and_eq_true, decide_eq_true_eq, fromS] at h1'
  obtain ⟨ht, hf, hpt⟩ := h1'
  have hno : ∀ x, p ≤ x → x < 64 * k + t → f x = false := fun x a b => by
    have := h0 (x - 64 * k) (by omega)
    rw [testBit_wd] at this
    have e : 64 * k + (x - 64 * k) = x := by omega
    have e2 : x - 64 * k < 64 := by omega
    simpa [fromS, e, e2, a] using this
  refine ⟨t, ht, h1, h0, hpt, hf, hno, eq_wd (Nat.lt_of_le_of_lt Nat.and_le_left (wd_lt _ _)) fun i hi => ?_⟩
  rw [and_pred h1 h0, testBit_wd]
  simp only [hi, decide_true, Bool.true_and, fromS]
  rcases Nat.lt_trichotomy i t with h | h | h
  · have a : ¬ 64 * k + t + 1 ≤ 64 * k + i := by omega
    by_cases b : p ≤ 64 * k + i
    · simp [hno _ b (by omega)]
    · simp [a, b]
  · subst h
    simp
  · have a : 64 * k + t + 1 ≤ 64 * k + i := by omega
    have b : p ≤ 64 * k + i := by omega
    have c : i ≠ t := by omega
    simp [a, b, c]
theorem word_done {f : Nat → Bool} {k p : Nat} (hp : 64 * k ≤ p) (hx : wd (fromS f p) k = 0) : ∀ x, p ≤ x → x < 64 * k + 64 → f x = false := fun x a b => by
  have : (wd (fromS f p) k).testBit (x - 64 * k) = false := by rw [hx]; simp
  rw [testBit_wd] at this
  have e : 64 * k + (x - 64 * k) = x := by omega
  have e2 : x - 64 * k < 64 := by omega
  simpa [fromS, e, e2, a] using this
theorem word_first (f : Nat → Bool) (k : Nat) : wd (fromS f (64 * k)) k = wd f k := wd_congr fun i _ => by simp [fromS]

def encB (x : Nat) : Array Value := #[.int .u8 ((x % 256 : Nat) : Int)]

set_option maxRecDepth 100000 in
set_option maxHeartbeats 2000000 in
theorem each1_in (n : Nat) (hn : 1 ≤ n) (l Bs n₀ : Nat) (hn0 : 18 < n₀) (f : Nat → Bool) (J Jx : List Nat → World → Prop)
    (hY : ∀ pre x W, J pre W → pre.length < (el f 256).length → YieldAt Fence.wide (n - 1) Tryd.prog l (encB x) W fun e W' =>
      (e = .returned (.bool true) ∧ J (pre ++ [x]) W' ∧ Below n₀ W W') ∨ (e = .returned (.bool false) ∧ Jx (pre ++ [x]) W'))
    (W : World) (hbox : SetBox W Bs 24 f) (hT : Tab W) (h0 : J [] W) :
    CallsIn Fence.wide n Tryd.prog 49 #[.func (.yield l) #[] #[], .pointer (some ⟨Bs, 0, none⟩)] W fun e W' => (∃ v, e = .returned v) ∧
      ((∃ ys, ys = el f 256 ∧ J ys W') ∨ (∃ pre, pre <+: el f 256 ∧ Jx pre W')) := by
  have hn1 : 1 ≤ n := hn
  obtain ⟨⟨b0, b1, b2, b3⟩, _⟩ := hbox.blk.facts
  refine callsIn_of_wp Tryd.func49 rfl trivial ?_ rfl
  simp only [Tryd.ntmps49, List.size_toArray, List.length_cons, List.length_nil, Nat.reduceAdd, Nat.reduceSub, Array.replicate_succ, Array.replicate_zero, List.push_toArray, List.append_toArray, List.nil_append, List.cons_append]
  gi_wp2
  have hix : ∀ (k : Nat), k < 4 → ∀ w, (Instr.index 24 (.agg #[.int .u64 (wd f 0), .int .u64 (wd f 1), .int .u64 (wd f 2), .int .u64 (wd f 3)]) (.int .i64 (k : Int))).run Tryd.prog w = .ok (.int .u64 (wd f k)) w := by
    intro k hk
    have : k = 0 ∨ k = 1 ∨ k = 2 ∨ k = 3 := by omega
    rcases this with rfl | rfl | rfl | rfl
    · exact fun _ => by kernel_rfl
    · exact fun _ => by kernel_rfl
    · exact fun _ => by kernel_rfl
    · exact fun _ => by kernel_rfl
  have hix := Lib.hid hix
  clear b0 b1 b2 b3 hbox
  gi_loopw [3, 4, 6] (fun _ _ i wr => ∃ k : Nat, k ≤ 4 ∧ i = .int .i64 k ∧ J (el f (64 * k)) wr ∧ Tab wr) (fun _ _ i _ => 4 - (intOf i).toNat)
  case atStart => exact ⟨0, Nat.zero_le _, rfl, h0, hT⟩
  case round =>
    clear h0 hT
    obtain ⟨k, hk, rfl, hJ, hT⟩ := hrel
    by_cases hlt : k < 4
    · have hx := hix.out k hlt
      clear hix
      gi_wp2
      rw [show decide ((k : Int) < 4) = true by simp; omega]
      clear hx
      obtain ⟨wo, rfl⟩ : ∃ wo : World, wo = wr := ⟨_, rfl⟩
      gi_loopw [4] (fun v wr => ∃ p : Nat, 64 * k ≤ p ∧ p ≤ 64 * k + 64 ∧ v = .int .u64 (wd (fromS f p) k) ∧ J (el f p) wr ∧ Tab wr) (fun v _ => (intOf v).toNat)
      case atStart => exact ⟨64 * k, Nat.le_refl _, by omega, by rw [word_first], hJ, hT⟩
      case round =>
        clear hJ hT
        obtain ⟨p, hp1, hp2, rfl, hJ, hT⟩ := hrel
        by_cases hz : wd (fromS f p) k = 0
        · have hsk := el_skip (f := f) (p := p) (q := 64 * (k + 1)) (by omega) fun x a b => word_done hp1 hz x a (by omega)
          rw [← hsk] at hJ
          rw [hz]
          have hJ := Lib.hid hJ
          clear hsk hz hY
          gi_wp2
          go_roundw
          case rel => exact ⟨k + 1, by omega, by go_num, hJ.out, hT⟩
          case measure => simp [intOf]; omega
        · obtain ⟨t, ht, h1, hlow, hpt, hft, hno, hand⟩ := word_next hp1 hz
          have hpre := el_next hpt hft hno
          have hlen : (el f p).length < (el f 256).length := by
            have := (el_prefix f (p := 64 * k + t + 1) (q := 256) (by omega)).length_le
            rw [hpre] at this; simp at this; omega
          have hwlt := wd_lt (fromS f p) k
          have hctz := ctz_in (wd (fromS f p) k) t hwlt h1 hlow wr hT
          have hb := (bitsN (wd (fromS f p) k) (wd (fromS f p) k - 1) hwlt (by omega)).1
          rw [hand] at hb
          have hsub : IntKind.u64.wrap ((wd (fromS f p) k : Int) - 1) = ((wd (fromS f p) k - 1 : Nat) : Int) := by
            have e : (wd (fromS f p) k : Int) - 1 = ((wd (fromS f p) k - 1 : Nat) : Int) := by omega
            rw [e]; exact wrap_nat (by omega)
          have hdec : wd (fromS f (64 * k + t + 1)) k < wd (fromS f p) k := by
            rw [← hand]
            exact Nat.lt_of_le_of_lt Nat.and_le_right (by omega)
          obtain ⟨fn, tmps, assign, body, hy, hR⟩ := hY (el f p) (64 * k + t) wr hJ hlen
          have hne : ((wd (fromS f p) k : Int) != 0) = true := by simpa using hz
          unfold encB at hy
          rw [show (((64 * k + t) % 256 : Nat) : Int) = 64 * (k : Int) + t by omega] at hy
          rw [← hpre] at hR
          have hpc : 64 * k + t + 1 ≤ 64 * k + 64 := by omega
          have hpre' := el_prefix f (p := 64 * k + t + 1) (q := 256) (by omega)
          have hq1 : 64 * k ≤ 64 * k + t + 1 := by omega
          have hpre' := Lib.hid hpre'
          clear hpre hno hlow h1 hz hand hft hwlt hlen hp1 hp2 hpt hJ
          obtain ⟨x', hx'⟩ : ∃ x', wd (fromS f (64 * k + t + 1)) k = x' := ⟨_, rfl⟩
          rw [hx'] at hb hdec
          have hx' := Lib.hid hx'
          have hdec := Lib.hid hdec
          generalize wd (fromS f p) k = x at *
          have hctz := Lib.hid hctz
          gi_wp2_with (refine ⟨trivial, ?_⟩; gi_at_call 50; refine (callsIn_wide.2 hctz.out).mono ?_; rintro e w' ⟨rfl, rfl⟩)
          refine hR.mono ?_
          rintro e W3 (⟨rfl, hJ3, hk3⟩ | ⟨rfl, hJx3⟩)
          · have hT3 := hT.below hk3 hn0
            clear hctz hR hy hY hT hix
            gi_wp2
            go_roundw
            case rel => exact ⟨64 * k + t + 1, hq1, hpc, by rw [hx'.out], hJ3, hT3⟩
            case measure => have := hdec.out; simp [intOf]; omega
          · gi_wp2
            refine bodyPost_ret (results_none rfl _ _ _) rfl ?_
            exact ⟨⟨_, rfl⟩, .inr ⟨_, hpre'.out, hJx3⟩⟩
    · have e : k = 4 := by omega
      subst e
      clear hix hY
      gi_wp2
      go_end0
      exact ⟨⟨_, rfl⟩, .inl ⟨_, rfl, hJ⟩⟩
end Go.Proofs.YtaahefhiiggagaaDoor.S1
