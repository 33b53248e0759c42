/- The walk of MarksKeys. -/
import Derived.Test.YtkdjojmegohonaaDoorW7
import Derived.Test.YtkdjojmegohonaaDoorQ
namespace Go.Proofs.YtkdjojmegohonaaDoor
open Go.RowKit
/-- A slice of numbers that came in: it holds xs. -/
def Ints (w : World) (a : Option Addr) (xs : List Int) : Prop := ∀ k (h : k < xs.length), ∃ b o, a = some ⟨b, o, none⟩ ∧ b < w.heap.size ∧ w.cell? ⟨b, o + k, none⟩ = some (.int .i64 xs[k]) ∧ -9223372036854775808 ≤ xs[k] ∧ xs[k] ≤ 9223372036854775807

theorem below_put {w w1 w2 : World} {B g : Nat} (h : Below B w w1) (hB : B ≤ w1.heap.size) (hg : w1.grownBy w2 (some g)) (hgB : B ≤ g) : Below B w w2 :=
  h.grown hg hB fun k e => by cases e; exact hgB
theorem strs_beq {f g : Nat → Bool} {n m : Nat} {r : Bool} (hn : n ≤ 65536) (hm : m ≤ 65536) (hf : ∀ i, n ≤ i → f i = false) (hg : ∀ i, m ≤ i → g i = false) (hr : Tells f g r) :
    (strN (keyN (mem f n)) = strN (keyN (mem g m))) ↔ r = true := by
  refine Iff.trans ?_ hr.symm
  constructor
  · intro h
    have h1 := strN_inj (keyN_small _) (keyN_small _) h
    have h2 := keyN_inj _ _ (fun x hx => by have := (mem_mem.1 hx).1; omega) (fun x hx => by have := (mem_mem.1 hx).1; omega) h1
    exact mem_inj hf hg h2
  · intro h
    rw [mem_congr hf hg h]
theorem bel_of {W : World} {b g n : Nat} {f : Nat → Bool} (_ : Mk W b g n f) : Bel W W := Bel.refl W
theorem Tab.bel {W w' : World} (h : Tab W) (hb : Bel W w') : Tab w' := h.below hb h.1
theorem Mk.bel' {W w' : World} {b g n : Nat} {f : Nat → Bool} (h : Mk W b g n f) (hb : Bel W w') : Mk w' b g n f := h.bel hb (Nat.le_refl _)
theorem keyW {W : World} {b g n : Nat} {f : Nat → Bool} (h : Mk W b g n f) (hT : Tab W) : ∀ w', Bel W w' → Calls Tryd.prog 19 #[.pointer (some ⟨b, 0, none⟩)] w' fun e w'' => e = .returned (.string (strN (keyN (mem f n)))) ∧ Bel W w'' :=
  fun _ hb => (key_in (h.bel' hb) (hT.bel hb)).mono fun _ _ ⟨he, h2⟩ => ⟨he, hb.step h2⟩
theorem sameW {w : World} {bf gf nf bg gg ng : Nat} {f g : Nat → Bool} {r : Bool} (hf : Mk w bf gf nf f) (hg : Mk w bg gg ng g) (hr : Tells f g r) : ∀ w', Bel w w' →
    Calls Tryd.prog 17 #[.pointer (some ⟨bf, 0, none⟩), .pointer (some ⟨bg, 0, none⟩)] w' fun e w'' => e = .returned (.bool r) ∧ w' = w'' :=
  fun _ hb => same_in (hf.bel' hb) (hg.bel' hb) hr
theorem lenW {w : World} {b g n : Nat} {f : Nat → Bool} (h : Mk w b g n f) : ∀ w', Bel w w' → Calls Tryd.prog 20 #[.pointer (some ⟨b, 0, none⟩)] w' fun e w'' => e = .returned (.int .i64 (cnt f n)) ∧ w' = w'' := fun _ hb => len_in (h.bel' hb)
theorem bytes_ext {a b : ByteArray} (h : a.toList = b.toList) : a = b := by
  rw [ByteArray.toList_eq, ByteArray.toList_eq] at h
  cases a; cases b
  simp only [ByteArray.mk.injEq]
  exact Array.toList_inj.1 h
set_option maxHeartbeats 4000000 in
theorem keys_in (w : World) (hT : Tab w) (a0 a1 : Option Addr) (c0 c1 : Nat) (xs ys : List Int) (hx : Ints w a0 xs) (hy : Ints w a1 ys) (hxm : xs.length ≤ 9223372036854775807) (hym : ys.length ≤ 9223372036854775807) :
    Calls Tryd.prog 4 #[.slice a0 xs.length c0, .slice a1 ys.length c1] w fun e w' => e = .returned (.bool true) ∧ Below w.heap.size w w' := by
  have AL := alive_in w hT
  by_cases h1 : 60 < xs.length
  · have q1 : decide ((60 : Int) < xs.length) = true := by simp; omega
    generalize xs.length = n at *
    clear hx hy
    go_enter Tryd.func4, Tryd.ntmps4
    go_wp2_with (go_at_call 5; refine AL.mono ?_; rintro e w' ⟨rfl, hb⟩; replace hb := Lib.hid hb)
    go_ret
    exact ⟨rfl, hb.out⟩
  by_cases h2 : 60 < ys.length
  · have q1 : decide ((60 : Int) < xs.length) = false := by simp; omega
    have q2 : decide ((60 : Int) < ys.length) = true := by simp; omega
    generalize xs.length = n at *
    generalize ys.length = m at *
    clear hx hy
    go_enter Tryd.func4, Tryd.ntmps4
    go_wp2_with (go_at_call 5; refine AL.mono ?_; rintro e w' ⟨rfl, hb⟩; replace hb := Lib.hid hb)
    go_ret
    exact ⟨rfl, hb.out⟩
  have q1 : decide ((60 : Int) < xs.length) = false := by simp; omega
  have q2 : decide ((60 : Int) < ys.length) = false := by simp; omega
  replace hx := Lib.hid hx
  replace hy := Lib.hid hy
  replace hT := Lib.hid hT
  generalize hn : xs.length = n at *
  generalize hm : ys.length = m at *
  replace hn := Lib.hid hn
  replace hm := Lib.hid hm
  have NW : ∀ w' : World, Calls Tryd.prog 6 #[.int .i64 300] w' _ := fun w' => new_in 300 (by decide) w'
  replace NW := Lib.hid NW
  have tok := Lib.hid trivial
  go_enter Tryd.func4, Tryd.ntmps4
  go_wp2_with (first
    | (go_at_call 5; refine AL.mono ?_; rintro e w1 ⟨rfl, hB⟩; replace hB := Lib.hid hB; clear AL)
    | (go_at_call 6; have _t := tok; refine (NW.out _).mono ?_; rintro e w2 ⟨bx, gx, rfl, hX, hbx, hgx, hB2⟩; have hsz := hB.out.size; replace hB := Lib.hid (hB.out.trans (hB2.mono hsz)); have hs2 := hB2.size; clear hB2; replace hX := Lib.hid hX; clear tok)
    | (go_at_call 6; refine (NW.out _).mono ?_; rintro e w3 ⟨by', gy, rfl, hY, hby, hgy, hB3⟩; have hltx := hX.out.lt; replace hX := Lib.hid (hX.out.bel hB3 (Nat.le_refl _)); replace hB := Lib.hid (hB.out.trans (hB3.mono hB.out.size)); clear hB3; replace hY := Lib.hid hY))
  obtain ⟨n1, n2, n3, n4⟩ : gx ≠ by' ∧ gx ≠ gy ∧ gy ≠ bx ∧ gy ≠ gx := by omega
  have hgyB : w.heap.size ≤ gy := by omega
  have hgxB : w.heap.size ≤ gx := by omega
  clear NW hltx hbx hby hs2 hsz
  replace n1 := Lib.hid n1
  replace n2 := Lib.hid n2
  replace n3 := Lib.hid n3
  replace n4 := Lib.hid n4
  replace hgxB := Lib.hid hgxB
  replace hgyB := Lib.hid hgyB
  clear hgy hgx
  have hX0 := hX.out
  have hY0 := hY.out
  have hB0 := hB.out
  clear hX hY hB
  go_loopw [39] (fun i wr => ∃ (k : Nat) (f : Nat → Bool), k ≤ n ∧ i = .int .i64 k ∧ Mk wr bx gx 300 f ∧ Mk wr by' gy 300 noS ∧ Below w.heap.size w wr) (fun i _ => n - (intOf i).toNat)
  case atStart => exact ⟨0, noS, Nat.zero_le _, rfl, hX0, hY0, hB0⟩
  case round =>
    clear hX0 hY0 hB0
    obtain ⟨k, f, hk, rfl, hX, hY, hB⟩ := hrel
    by_cases hlt : k < n
    · obtain ⟨b, o, rfl, hbw, hc, hlo, hhi⟩ := hx.out k (by rw [hn.out]; exact hlt)
      replace hc := (hB.cell (p := ⟨b, o + k, none⟩) hbw).trans hc
      generalize xs[k]'(by rw [hn.out]; exact hlt) = x at *
      have P := put_in hX x
      replace hX := Lib.hid hX
      replace hY := Lib.hid hY
      replace hB := Lib.hid hB
      go_wp2_with (go_at_call 7; refine P.mono ?_; rintro e w' ⟨rfl, hX', hg⟩; replace hX := Lib.hid hX'; clear hX'; replace hY := Lib.hid (hY.out.kept hg (by simpa using n1.out) (by simpa using n2.out)); replace hB := Lib.hid (below_put hB.out hB.out.size hg hgxB.out); clear hg)
      go_roundw
      case rel => exact ⟨k + 1, _, by omega, by go_num, hX.out, hY.out, hB.out⟩
      case measure => simp [intOf]; omega
    · obtain rfl : k = n := by omega
      go_wp2
      go_loopw [49] (fun i wr => ∃ (j : Nat) (g : Nat → Bool), j ≤ m ∧ i = .int .i64 j ∧ Mk wr bx gx 300 f ∧ Mk wr by' gy 300 g ∧ Below w.heap.size w wr) (fun i _ => m - (intOf i).toNat)
      case atStart => exact ⟨0, noS, Nat.zero_le _, rfl, hX, hY, hB⟩
      case round =>
        clear hX hY hB
        obtain ⟨j, g, hj, rfl, hX, hY, hB⟩ := hrel
        by_cases hlt : j < m
        · obtain ⟨b, o, rfl, hbw, hc, hlo, hhi⟩ := hy.out j (by rw [hm.out]; exact hlt)
          replace hc := (hB.cell (p := ⟨b, o + j, none⟩) hbw).trans hc
          generalize ys[j]'(by rw [hm.out]; exact hlt) = x at *
          have P := put_in hY x
          replace hX := Lib.hid hX
          replace hY := Lib.hid hY
          replace hB := Lib.hid hB
          go_wp2_with (go_at_call 7; refine P.mono ?_; rintro e w' ⟨rfl, hY', hg⟩; replace hY := Lib.hid hY'; clear hY'; replace hX := Lib.hid (hX.out.kept hg (by simpa using n3.out) (by simpa using n4.out)); replace hB := Lib.hid (below_put hB.out hB.out.size hg hgyB.out); clear hg)
          go_roundw
          case rel => exact ⟨j + 1, _, by omega, by go_num, hX.out, hY.out, hB.out⟩
          case measure => simp [intOf]; omega
        · obtain rfl : j = m := by omega
          have hTW := hT.out.below hB hT.out.1
          obtain ⟨r, hr⟩ := tells_ex f g
          have KX := Lib.hid (keyW hX hTW)
          have KY := Lib.hid (keyW hY hTW)
          have SXY := Lib.hid (sameW hX hY hr)
          have SYX := Lib.hid (sameW hY hX (tells_symm hr))
          have LX := Lib.hid (lenW hX)
          have hq := Lib.hid (bel_of hX)
          have hst := Lib.hid (strs_beq hX.le hY.le hX.top hY.top hr)
          have hsz : Hid ((strN (keyN (mem f 300))).size = 4 * cnt f 300) := Lib.hid (by rw [strN_size, keyN_len, mem_len])
          have hcl := cnt_le f 300
          replace hB := Lib.hid hB
          clear hX hY hTW hr
          generalize strN (keyN (mem f 300)) = SX at *
          generalize strN (keyN (mem g 300)) = SY at *
          generalize cnt f 300 = cf at *
          have hszb : ((SX.size : Int) == 4 * (cf : Int)) = true := by have := hsz.out; simp; omega
          cases r
          · have hne : ¬ SX.toList = SY.toList := fun e => by
              have := hst.out.1 (bytes_ext e)
              cases this
            have hneb : (SX.toList == SY.toList) = false := by simpa using hne
            go_wp2_with (first
              | (go_at_call 19; first | ((with_reducible refine (KX.out _ hq.out).mono ?_); rintro e w' ⟨rfl, hq'⟩; replace hq := Lib.hid hq'; clear hq') | ((with_reducible refine (KY.out _ hq.out).mono ?_); rintro e w' ⟨rfl, hq'⟩; replace hq := Lib.hid hq'; clear hq'))
              | (go_at_call 17; first | ((with_reducible refine (SXY.out _ hq.out).mono ?_); rintro e w' ⟨rfl, rfl⟩) | ((with_reducible refine (SYX.out _ hq.out).mono ?_); rintro e w' ⟨rfl, rfl⟩))
              | (go_at_call 20; refine (LX.out _ hq.out).mono ?_; rintro e w' ⟨rfl, rfl⟩))
            go_ret
            exact ⟨rfl, hB.out.trans (Below.mono hq.out hB.out.size)⟩
          · obtain rfl : SX = SY := hst.out.2 rfl
            go_wp2_with (first
              | (go_at_call 19; first | ((with_reducible refine (KX.out _ hq.out).mono ?_); rintro e w' ⟨rfl, hq'⟩; replace hq := Lib.hid hq'; clear hq') | ((with_reducible refine (KY.out _ hq.out).mono ?_); rintro e w' ⟨rfl, hq'⟩; replace hq := Lib.hid hq'; clear hq'))
              | (go_at_call 17; first | ((with_reducible refine (SXY.out _ hq.out).mono ?_); rintro e w' ⟨rfl, rfl⟩) | ((with_reducible refine (SYX.out _ hq.out).mono ?_); rintro e w' ⟨rfl, rfl⟩))
              | (go_at_call 20; refine (LX.out _ hq.out).mono ?_; rintro e w' ⟨rfl, rfl⟩))
            go_ret
            exact ⟨rfl, hB.out.trans (Below.mono hq.out hB.out.size)⟩
end Go.Proofs.YtkdjojmegohonaaDoor
