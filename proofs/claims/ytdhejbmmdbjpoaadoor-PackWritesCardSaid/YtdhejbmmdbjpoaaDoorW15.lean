/- The law's SameInts on equal rows; what the law's values are written as. -/
import Derived.Test.YtdhejbmmdbjpoaaDoorW14
namespace Go.Proofs.YtdhejbmmdbjpoaaDoor
open Go.RowKit
theorem Ints.of_owns {w : World} {base : Nat} {v : Value} {xs : List Int} (h : w.ownsRow base 3 1 v xs.length (xs.map encI)) (hb : ∀ k (hk : k < xs.length), -9223372036854775808 ≤ xs[k] ∧ xs[k] ≤ 9223372036854775807) :
    ∃ p cap, v = .slice p xs.length cap ∧ Ints w p xs := by
  obtain ⟨p, cap, rfl, hcap, hnil, hc⟩ := row_form h
  refine ⟨p, cap, rfl, fun k hk => ?_⟩
  obtain ⟨g, rfl, -, hl, hcell⟩ := hc (by omega)
  refine ⟨g, 0, rfl, hl, ?_, hb k hk⟩
  rw [Nat.zero_add, hcell k (by omega), List.getElem?_map, List.getElem?_eq_getElem hk]
  rfl
theorem below_drewN {B : Nat} {a w : World} (h : Below B a w) (n : Nat) : Below B a (w.drewN n) := ⟨h.os, h.tape, h.output, h.size, h.block⟩
set_option maxHeartbeats 1000000 in
theorem sameints_in {w : World} {a1 a2 : Option Addr} {c1 c2 : Nat} {xs : List Int} (h1 : Ints w a1 xs) (h2 : Ints w a2 xs) (hn : xs.length ≤ 9223372036854775807) :
    Calls Tryd.prog 28 #[.slice a1 xs.length c1, .slice a2 xs.length c2] w fun e w' => e = .returned (.bool true) ∧ Bel w w' := by
  have hc : ∀ w' k, k < xs.length → Bel w w' → ∃ x g1 o1 g2 o2, a1 = some ⟨g1, o1, none⟩ ∧ a2 = some ⟨g2, o2, none⟩ ∧ w'.cell? ⟨g1, o1 + k, none⟩ = some (.int .i64 x) ∧ w'.cell? ⟨g2, o2 + k, none⟩ = some (.int .i64 x) := fun w' k hk hb => by
    obtain ⟨g1, o1, e1, _, q1, _⟩ := h1.bel hb k hk
    obtain ⟨g2, o2, e2, _, q2, _⟩ := h2.bel hb k hk
    exact ⟨_, g1, o1, g2, o2, e1, e2, q1, q2⟩
  replace hc := Lib.hid hc
  clear h1 h2
  generalize xs.length = n at *
  have hb0 := Lib.hid (Bel.refl w)
  go_enter Tryd.func28, Tryd.ntmps28
  go_wp2
  go_loopw [13] (fun i wr => ∃ k : Nat, k ≤ n ∧ i = .int .i64 k ∧ Hid (Bel w wr)) (fun i _ => n - (intOf i).toNat)
  case atStart => exact ⟨0, by omega, rfl, hb0⟩
  case round =>
    clear hb0
    obtain ⟨k, hk, rfl, hB⟩ := hrel
    by_cases hlt : k < n
    · obtain ⟨x, g1, o1, g2, o2, rfl, rfl, q1, q2⟩ := hc.out wr k hlt hB.out
      have b1 : (0 : Int) ≤ k := by omega
      go_wp2
      go_quiet (fail)
      go_wp2
      go_roundw
      case rel => exact ⟨k + 1, by omega, by go_num, Lib.hid (below_drewN hB.out _)⟩
      case measure => simp [intOf]; omega
    · obtain rfl : k = n := by omega
      go_wp2
      go_ret
      exact ⟨rfl, hB.out⟩

theorem Apt.undrew {w w' : World} {b : Nat} {r : Option Nat} (h : Apt w.drew w' b r) : Apt w w' b r := ⟨h.os, h.tape, h.output, h.size, h.block⟩
/-- What a value is written as. -/
def encV (v : Va) : List Nat := if v.kind = 0 then numL v.num.toNat else if v.kind = 1 then [byteOf v.num] else if v.kind = 2 ∨ v.kind = 3 then numL v.bl.length ++ v.bl else rowL v.rl
def encVs (l : List Va) : List Nat := (l.map encV).flatten
/-- A value that is not bad, nor too long. -/
structure Fine (v : Va) : Prop where
  ok : badV v = false
  bl : v.bl.length ≤ 300
  rl : v.rl.length ≤ 60
theorem encVs_cons (v : Va) (l : List Va) : encVs (v :: l) = encV v ++ encVs l := rfl
theorem encVs_snoc (l : List Va) (v : Va) : encVs (l ++ [v]) = encVs l ++ encV v := by simp [encVs]
theorem rowL_len {xs : List Int} (h : xs.any badR = false) (hn : xs.length ≤ 60) : (rowL xs).length ≤ 305 := by
  rw [rowL_eq, List.length_append]
  have h1 := cells1_len xs h
  have h2 := num_len (n := xs.length) (by omega)
  omega
theorem Fine.num {v : Va} (h : Fine v) (h0 : v.kind = 0) : badN v.num = false := by have := h.ok; unfold badV at this; rwa [if_pos h0] at this
theorem Fine.row {v : Va} (h : Fine v) (h0 : v.kind ≠ 0) (h1 : ¬ (1 ≤ v.kind ∧ v.kind ≤ 3)) : v.rl.any badR = false := by have := h.ok; unfold badV at this; rwa [if_neg h0, if_neg h1] at this
theorem encV_len {v : Va} (h : Fine v) : (encV v).length ≤ 305 := by
  unfold encV
  split
  · have h1 := h.num ‹_›
    unfold badN at h1
    simp at h1
    have := num_len (n := v.num.toNat) (by omega)
    omega
  · split
    · simp
    · split
      · have h1 := h.bl
        have := num_len (n := v.bl.length) (by omega)
        rw [List.length_append]
        omega
      · exact rowL_len (h.row ‹_› (by omega)) h.rl
theorem encVs_len : ∀ (l : List Va), (∀ v ∈ l, Fine v) → (encVs l).length ≤ 305 * l.length := by
  intro l
  induction l with
  | nil => intro _; simp [encVs]
  | cons v l ih =>
    intro h
    have h1 := ih fun x hx => h x (by simp [hx])
    have h2 := encV_len (h v (by simp))
    rw [encVs_cons, List.length_append, List.length_cons]
    omega
end Go.Proofs.YtdhejbmmdbjpoaaDoor
