/- The program's equal. -/
import Derived.Test.YtbkmoaollooomaaDoorW23
import Derived.Test.YtbkmoaollooomaaDoorW22a
namespace Go.Proofs.YtbkmoaollooomaaDoor
open Go.RowKit
open Go.Tree7
open Classical in
/-- Two trees are equal but for their places. -/
noncomputable def eqT (a b : T) : Bool := decide (a.strip = b.strip)
theorem eqT_iff (a b : T) : eqT a b = true ↔ a.strip = b.strip := by unfold eqT; simp
theorem eqT_no {a b : T} (h : a.strip ≠ b.strip) : eqT a b = false := by unfold eqT; simp [h]
theorem toList_inj2 {a b : ByteArray} (h : a.toList = b.toList) : a = b := bytes_inj h
/-- What equal is asked of two kids. -/
def EqOf (w0 : World) (B0 : Nat) (a b : T) : Prop := ∀ w', Below B0 w0 w' → Calls Tryd.prog 35 #[.agg a.cells.toArray, .agg b.cells.toArray] w' fun e w'' => e = .returned (.bool (eqT a b)) ∧ Below w'.heap.size w' w''
set_option maxRecDepth 10000 in
set_option maxHeartbeats 4000000 in
theorem eqf_in {w0 w : World} {B0 : Nat} (hn0 : B0 ≤ w0.heap.size) (hB0 : Below B0 w0 w) {k u0 u1 u2 u3 : Int} {p : Option Addr} {cap : Nat} {mn mx : Int} {tx : ByteArray} {ks : List T} (hT : T.In w0 B0 (.mk k u0 u1 u2 u3 p cap mn mx tx ks))
    {k' u0' u1' u2' u3' : Int} {p' : Option Addr} {cap' : Nat} {mn' mx' : Int} {tx' : ByteArray} {ks' : List T} (hT' : T.In w0 B0 (.mk k' u0' u1' u2' u3' p' cap' mn' mx' tx' ks')) (ih : ∀ a ∈ ks, ∀ b ∈ ks', EqOf w0 B0 a b) {r : Bool} (hr : r = true ↔ ks.map T.strip = ks'.map T.strip) :
    Calls Tryd.prog 50 #[.slice p ks.length cap, .slice p' ks'.length cap', .func (.func 35) #[] #[]] w fun e w' => e = .returned (.bool r) ∧ Below w.heap.size w w' := by
  have hks : ks.length ≤ 9223372036854775807 := by cases hT with | mk h1 h2 => unfold maxLen at h2; omega
  have hks' : ks'.length ≤ 9223372036854775807 := by cases hT' with | mk h1 h2 => unfold maxLen at h2; omega
  have hBn : B0 ≤ w.heap.size := Nat.le_trans hn0 hB0.size
  by_cases hlen : ks.length = ks'.length
  · have hend : Hid ((∀ i (h1 : i < ks.length) (h2 : i < ks'.length), eqT ks[i] ks'[i] = true) → r = true) := Lib.hid fun h => hr.2 (List.ext_getElem (by simp [hlen]) fun i h1 h2 => by
      rw [List.getElem_map, List.getElem_map]
      exact (eqT_iff _ _).1 (h i (by simpa using h1) (by simpa using h2)))
    have hno : Hid (∀ i (h1 : i < ks.length) (h2 : i < ks'.length), eqT ks[i] ks'[i] = false → r = false) := Lib.hid fun i h1 h2 h => by
      cases r with
      | false => rfl
      | true =>
        have h3 := hr.1 rfl
        have h4 : (ks.map T.strip)[i]? = (ks'.map T.strip)[i]? := by rw [h3]
        rw [List.getElem?_map, List.getElem?_map, List.getElem?_eq_getElem h1, List.getElem?_eq_getElem h2] at h4
        simp only [Option.map_some, Option.some.injEq] at h4
        rw [(eqT_iff _ _).2 h4] at h
        cases h
    obtain ⟨n, hn⟩ : ∃ n, ks.length = n := ⟨_, rfl⟩
    have hn' : ks'.length = n := by omega
    rw [hn] at hks ⊢
    rw [hn'] at ⊢
    have d0 : ((n : Int) != n) = false := by simp
    have h1n := Lib.hid hn
    have h2n := Lib.hid hn'
    replace hT := Lib.hid hT
    replace hT' := Lib.hid hT'
    replace ih := Lib.hid ih
    replace hB0 := Lib.hid hB0
    clear hr hlen hn hn' hks'
    go_enter Tryd.func50, Tryd.ntmps50
    go_wp2
    go_loopw [17] (fun i wr => ∃ j : Nat, j ≤ n ∧ i = .int .i64 j ∧ Hid (Below w.heap.size w wr) ∧ Hid (∀ i (h1 : i < ks.length) (h2 : i < ks'.length), i < j → eqT ks[i] ks'[i] = true)) (fun i _ => n - (intOf i).toNat)
    case atStart => exact ⟨0, Nat.zero_le _, rfl, Lib.hid (Below.refl _ _), Lib.hid fun i h1 h2 h => by omega⟩
    case round =>
      obtain ⟨j, hj, rfl, hB, hso⟩ := hrel
      by_cases hlt : j < n
      · have hj1 : j < ks.length := by have := h1n.out; omega
        have hj2 : j < ks'.length := by have := h2n.out; omega
        obtain ⟨b1, o1, hkid1, hp1, hb1, hc1⟩ := T.kid hT.out hj1
        obtain ⟨b2, o2, hkid2, hp2, hb2, hc2⟩ := T.kid hT'.out hj2
        have hww : Below B0 w0 wr := hB0.out.trans (hB.out.mono hBn)
        have hcl1 : ∀ q, q < 9 → wr.cell? ⟨b1, o1 + j * 9 + q, none⟩ = (ks[j].cells)[q]? := fun q hq => by
          rw [← hc1 q hq]
          exact hww.cell (p := ⟨b1, o1 + j * 9 + q, none⟩) hb1
        have hcl2 : ∀ q, q < 9 → wr.cell? ⟨b2, o2 + j * 9 + q, none⟩ = (ks'[j].cells)[q]? := fun q hq => by
          rw [← hc2 q hq]
          exact hww.cell (p := ⟨b2, o2 + j * 9 + q, none⟩) hb2
        have hi := ih.out _ (List.getElem_mem hj1) _ (List.getElem_mem hj2)
        unfold EqOf at hi
        have hno2 := Lib.hid (hno.out j hj1 hj2)
        have hso2 : Hid (eqT ks[j] ks'[j] = true → ∀ i (h1 : i < ks.length) (h2 : i < ks'.length), i < j + 1 → eqT ks[i] ks'[i] = true) := Lib.hid fun h i h1 h2 h3 => by
          by_cases e : i = j
          · subst e; exact h
          · exact hso.out i h1 h2 (by omega)
        have lt1 : b1 < wr.heap.size := Nat.lt_of_lt_of_le hb1 (Nat.le_trans hBn hB.out.size)
        have lt2 : b2 < wr.heap.size := Nat.lt_of_lt_of_le hb2 (Nat.le_trans hBn hB.out.size)
        clear hkid1 hkid2 hc1 hc2 hso
        generalize ks[j] = ka at *
        generalize ks'[j] = kb at *
        obtain ⟨E, hE⟩ : ∃ E, eqT ka kb = E := ⟨_, rfl⟩
        rw [hE] at hi hno2 hso2
        clear hE
        obtain ⟨ka, u0a, u1a, u2a, u3a, pa, capa, mna, mxa, txa, ksa⟩ := ka
        obtain ⟨kb, u0b, u1b, u2b, u3b, pb, capb, mnb, mxb, txb, ksb⟩ := kb
        simp only [T.cells] at *
        obtain ⟨c0, c1, c2, c3, c4, c5, c6, c7, c8⟩ := nine_of hcl1
        obtain ⟨d0, d1, d2, d3, d4, d5, d6, d7, d8⟩ := nine_of hcl2
        subst hp1 hp2
        clear hcl1 hcl2
        have hwsz := hB.out.size
        have hBx : Hid (Below w.heap.size w ((wr.alloc (.cells #[.int .i64 ka, .int .u64 u0a, .int .u64 u1a, .int .u64 u2a, .int .u64 u3a, .slice pa ksa.length capa, .int .i64 mna, .int .i64 mxa, .string txa] 27)).alloc (.cells #[.int .i64 kb, .int .u64 u0b, .int .u64 u1b, .int .u64 u2b, .int .u64 u3b, .slice pb ksb.length capb, .int .i64 mnb, .int .i64 mxb, .string txb] 27))) := Lib.hid ((hB.out.alloc hwsz _).alloc (by simp; omega) _)
        have cE := Lib.hid (hi _ (hB0.out.trans (hBx.out.mono hBn)))
        clear hi hww
        cases E with
        | true =>
          have hso3 := Lib.hid (hso2.out rfl)
          clear hso2 hno2
          go_wp2_with (go_at_call 35; (with_reducible refine cE.out.mono ?_); rintro e w2 ⟨rfl, hb⟩; replace hb := Lib.hid (hBx.out.trans (hb.mono hBx.out.size)))
          go_roundw
          case rel => exact ⟨j + 1, by omega, by go_num, hb, hso3⟩
          case measure => simp [intOf]; omega
        | false =>
          have hrf := Lib.hid (hno2.out rfl)
          clear hso2 hno2
          go_wp2_with (go_at_call 35; (with_reducible refine cE.out.mono ?_); rintro e w2 ⟨rfl, hb⟩; replace hb := Lib.hid (hBx.out.trans (hb.mono hBx.out.size)))
          go_ret
          exact ⟨by rw [hrf.out]; rfl, hb.out⟩
      · have hrt := Lib.hid (hend.out fun i h1 h2 => hso.out i h1 h2 (by have := h1n.out; omega))
        clear hso
        go_wp2
        go_ret
        exact ⟨by rw [hrt.out]; rfl, hB.out⟩
  · have hrf : r = false := by
      cases r with
      | false => rfl
      | true =>
        have := congrArg List.length (hr.1 rfl)
        simp at this
        exact absurd this hlen
    rw [hrf]
    have d0 : ((ks.length : Int) != ks'.length) = true := by rw [bne_iff_ne]; omega
    clear hr hT hT' ih hlen hrf
    go_enter Tryd.func50, Tryd.ntmps50
    go_wp2
    go_ret
    exact ⟨rfl, Below.refl _ _⟩
end Go.Proofs.YtbkmoaollooomaaDoor
