/- The program's lone, padded, Plain. -/
import Derived.Test.YtjlmeegaiagfpaaDoorWE
import Derived.Test.YtjlmeegaiagfpaaDoorS7W9
namespace Go.Proofs.YtjlmeegaiagfpaaDoor
open Go.RowKit
open Go.Tree7
open S7
open S5 (nl nl_length nl_small at_nl nl_at Gives idx idx_at ix ix_no ix_yes)
/-- A Cat of one kid. -/
def loneB : T → Bool
  | .mk k _ _ _ _ _ _ _ _ _ ks => decide (k = 2) && decide (ks.length = 1)
theorem loneB_iff (t : T) : loneB t = true ↔ T.one t := by
  cases t
  simp [loneB, T.one]
/-- Some Cat has one kid. -/
def padB : T → Bool
  | .mk k _ _ _ _ _ _ _ _ _ ks => (decide (k = 2) && decide (ks.length = 1)) || (ks.attach.any fun ⟨t, _⟩ => padB t)
theorem padB_mk (k u0 u1 u2 u3 : Int) (p : Option Addr) (cap : Nat) (mn mx : Int) (tx : ByteArray) (ks : List T) : padB (.mk k u0 u1 u2 u3 p cap mn mx tx ks) = ((decide (k = 2) && decide (ks.length = 1)) || ks.any padB) := by
  rw [padB]
  congr 1
  rw [Bool.eq_iff_iff, List.any_eq_true, List.any_eq_true]
  constructor
  · rintro ⟨⟨t, ht⟩, -, h⟩; exact ⟨t, ht, h⟩
  · rintro ⟨t, ht, h⟩; exact ⟨⟨t, ht⟩, by simp, h⟩
theorem padB_iff : ∀ t : T, padB t = false ↔ T.All (fun t => ¬ T.one t) t := by
  refine T.ind fun k u0 u1 u2 u3 p cap mn mx tx ks ih => ?_
  rw [padB_mk]
  constructor
  · intro h
    rw [Bool.or_eq_false_iff] at h
    refine .mk (fun h1 => ?_) fun t ht => (ih t ht).1 ?_
    · have := h.1
      obtain ⟨e1, e2⟩ := h1
      simp [e1, e2] at this
    · cases e : padB t with
      | false => rfl
      | true => have := List.any_eq_true.2 ⟨t, ht, e⟩; rw [h.2] at this; cases this
  · intro h
    cases h with
    | mk h1 h2 =>
      rw [Bool.or_eq_false_iff]
      refine ⟨?_, ?_⟩
      · cases e : (decide (k = 2) && decide (ks.length = 1)) with
        | false => rfl
        | true => rw [Bool.and_eq_true, decide_eq_true_eq, decide_eq_true_eq] at e; exact absurd e h1
      · cases e : ks.any padB with
        | false => rfl
        | true =>
          obtain ⟨t, ht, e⟩ := List.any_eq_true.1 e
          rw [(ih t ht).2 (h2 t ht)] at e
          cases e
theorem lone_in (t : T) (hks : t.kids.length ≤ 9223372036854775807) (w : World) : Calls Tryd.prog 57 #[.agg t.cells.toArray] w fun e w' => e = .returned (.bool (loneB t)) ∧ Below w.heap.size w w' := by
  obtain ⟨k, u0, u1, u2, u3, p, cap, mn, mx, tx, ks⟩ := t
  simp only [T.kids] at hks
  simp only [T.cells, loneB]
  by_cases h1 : k = 2
  · subst h1
    have hG : ∃ G, G = decide (ks.length = 1) := ⟨_, rfl⟩
    obtain ⟨G, hG⟩ := hG
    have g1 : ((ks.length : Int) == 1) = G := by rw [hG, Bool.eq_iff_iff]; simp; omega
    rw [← hG]
    clear hG
    go_enter Tryd.func57, Tryd.ntmps57
    go_wp2
    go_ret
    exact ⟨ret_bool (by simp), (Below.refl _ _).alloc (Nat.le_refl _) _⟩
  · have g1 : (k == 2) = false := by rw [beq_eq_false_iff_ne]; exact h1
    have e : decide (k = 2) = false := by rw [decide_eq_false_iff_not]; exact h1
    rw [e, Bool.false_and]
    clear h1 e
    go_enter Tryd.func57, Tryd.ntmps57
    go_wp2
    go_ret
    exact ⟨rfl, (Below.refl _ _).alloc (Nat.le_refl _) _⟩
def PadOf (w0 : World) (B0 : Nat) (t : T) : Prop := ∀ w', Below B0 w0 w' → Calls Tryd.prog 31 #[.agg t.cells.toArray] w' fun e w'' => e = .returned (.bool (padB t)) ∧ Below w'.heap.size w' w''
set_option maxRecDepth 10000 in
set_option maxHeartbeats 4000000 in
theorem iFunc_in {w0 w : World} {B0 : Nat} (hn0 : B0 ≤ w0.heap.size) (hB0 : Below B0 w0 w) {k u0 u1 u2 u3 : Int} {p : Option Addr} {cap : Nat} {mn mx : Int} {tx : ByteArray} {ks : List T} (hT : T.In w0 B0 (.mk k u0 u1 u2 u3 p cap mn mx tx ks)) (ih : ∀ a ∈ ks, PadOf w0 B0 a) :
    Calls Tryd.prog 75 #[.slice p ks.length cap, .func (.func 31) #[] #[]] w fun e w' => ∃ i : Int, e = .returned (.int .i64 i) ∧ (decide (0 ≤ i) = ks.any padB) ∧ Below w.heap.size w w' := by
  have hks : ks.length ≤ 9223372036854775807 := by cases hT with | mk h1 h2 => unfold maxLen at h2; omega
  have hBn : B0 ≤ w.heap.size := Nat.le_trans hn0 hB0.size
  have hyes : Hid (∀ (j : Nat) (h1 : j < ks.length), padB ks[j] = true → ks.any padB = true) := Lib.hid fun j h1 h => List.any_eq_true.2 ⟨_, List.getElem_mem h1, h⟩
  have hno : Hid ((∀ i (h1 : i < ks.length), padB ks[i] = false) → ks.any padB = false) := Lib.hid fun h => by
    cases e : ks.any padB with
    | false => rfl
    | true =>
      obtain ⟨t, ht, e⟩ := List.any_eq_true.1 e
      obtain ⟨i, hi, rfl⟩ := List.getElem_of_mem ht
      rw [h i hi] at e
      cases e
  replace hT := Lib.hid hT
  replace ih := Lib.hid ih
  replace hB0 := Lib.hid hB0
  obtain ⟨n, hn⟩ : ∃ n, ks.length = n := ⟨_, rfl⟩
  rw [hn] at hks ⊢
  have h1n := Lib.hid hn
  clear hn
  go_enter Tryd.func75, Tryd.ntmps75
  go_wp2
  go_loopw [8] (fun i wr => ∃ j : Nat, j ≤ n ∧ i = .int .i64 j ∧ Hid (Below w.heap.size w wr) ∧ Hid (∀ i (h1 : i < ks.length), i < j → padB ks[i] = false)) (fun i _ => n - (intOf i).toNat)
  case atStart => exact ⟨0, Nat.zero_le _, rfl, Lib.hid (Below.refl _ _), Lib.hid fun i h1 h => by omega⟩
  case round =>
    obtain ⟨j, hj, rfl, hB, hso⟩ := hrel
    by_cases hlt : j < n
    · have hj1 : j < ks.length := by have := h1n.out; omega
      obtain ⟨b1, o1, hkid1, hp1, hb1, hc1⟩ := T.kid hT.out hj1
      have hww : Below B0 w0 wr := hB0.out.trans (hB.out.mono hBn)
      have hcl1 : ∀ q, q < 9 → wr.cell? ⟨b1, o1 + j * 9 + q, none⟩ = (ks[j].cells)[q]? := fun q hq => by
        rw [← hc1 q hq]
        exact hww.cell (p := ⟨b1, o1 + j * 9 + q, none⟩) hb1
      have hi := ih.out _ (List.getElem_mem hj1)
      unfold PadOf at hi
      have hyes2 := Lib.hid (hyes.out j hj1)
      have hso2 : Hid (padB ks[j] = false → ∀ i (h1 : i < ks.length), i < j + 1 → padB ks[i] = false) := Lib.hid fun h i h1 h3 => by
        by_cases e : i = j
        · subst e; exact h
        · exact hso.out i h1 (by omega)
      have lt1 : b1 < wr.heap.size := Nat.lt_of_lt_of_le hb1 (Nat.le_trans hBn hB.out.size)
      clear hkid1 hc1 hso
      generalize ks[j] = kd at *
      obtain ⟨E, hE⟩ : ∃ E, padB kd = E := ⟨_, rfl⟩
      rw [hE] at hi hyes2 hso2
      clear hE
      obtain ⟨ka, u0a, u1a, u2a, u3a, pa, capa, mna, mxa, txa, ksa⟩ := kd
      simp only [T.cells] at *
      obtain ⟨c0, c1, c2, c3, c4, c5, c6, c7, c8⟩ := nine_of hcl1
      subst hp1
      clear hcl1
      have hBx : Hid (Below w.heap.size w wr) := hB
      have cE := Lib.hid (hi wr hww)
      clear hi hww
      cases E with
      | false =>
        have hso3 := Lib.hid (hso2.out rfl)
        clear hso2 hyes2
        go_wp2_with (go_at_call 31; (with_reducible refine cE.out.mono ?_); rintro e w2 ⟨rfl, hb⟩; replace hb := Lib.hid (hBx.out.trans (hb.mono hBx.out.size)))
        go_roundw
        case rel => exact ⟨j + 1, by omega, by go_num, hb, hso3⟩
        case measure => simp [intOf]; omega
      | true =>
        have hrt := Lib.hid (hyes2.out rfl)
        clear hso2 hyes2
        go_wp2_with (go_at_call 31; (with_reducible refine cE.out.mono ?_); rintro e w2 ⟨rfl, hb⟩; replace hb := Lib.hid (hBx.out.trans (hb.mono hBx.out.size)))
        go_ret
        exact ⟨j, rfl, by rw [hrt.out, decide_eq_true_eq]; omega, hb.out⟩
    · have hrt := Lib.hid (hno.out fun i h1 => hso.out i h1 (by have := h1n.out; omega))
      clear hso
      go_wp2
      go_ret
      exact ⟨-1, rfl, by rw [hrt.out]; rfl, hB.out⟩
theorem cFunc_in {w0 w : World} {B0 : Nat} (hn0 : B0 ≤ w0.heap.size) (hB0 : Below B0 w0 w) {k u0 u1 u2 u3 : Int} {p : Option Addr} {cap : Nat} {mn mx : Int} {tx : ByteArray} {ks : List T} (hT : T.In w0 B0 (.mk k u0 u1 u2 u3 p cap mn mx tx ks)) (ih : ∀ a ∈ ks, PadOf w0 B0 a) :
    Calls Tryd.prog 58 #[.slice p ks.length cap, .func (.func 31) #[] #[]] w fun e w' => e = .returned (.bool (ks.any padB)) ∧ Below w.heap.size w w' := by
  have cI := Lib.hid (iFunc_in hn0 hB0 hT ih)
  clear hT ih hB0
  obtain ⟨r, hr⟩ : ∃ r, r = ks.any padB := ⟨_, rfl⟩
  rw [← hr] at cI ⊢
  clear hr
  go_enter Tryd.func58, Tryd.ntmps58
  go_wp2_with (go_at_call 75; (with_reducible refine cI.out.mono ?_); rintro e w2 ⟨i, rfl, hi, hb⟩; replace hb := Lib.hid hb)
  go_ret
  exact ⟨ret_bool (by simp), hb.out⟩
set_option maxRecDepth 10000 in
set_option maxHeartbeats 4000000 in
theorem padded_in {w0 : World} {B0 : Nat} (hn0 : B0 ≤ w0.heap.size) : ∀ t : T, T.In w0 B0 t → PadOf w0 B0 t := by
  refine T.ind fun k u0 u1 u2 u3 p cap mn mx tx ks ih => ?_
  intro hT
  unfold PadOf
  intro w hB0
  have hks : ks.length ≤ 9223372036854775807 := by cases hT with | mk h1 h2 => unfold maxLen at h2; omega
  have cL := Lib.hid (fun w => lone_in (.mk k u0 u1 u2 u3 p cap mn mx tx ks) hks w)
  have cC := Lib.hid (fun w' (hb : Bel w w') => cFunc_in (w := w') hn0 (hB0.trans (hb.mono (Nat.le_trans hn0 hB0.size))) hT fun a ha => ih a ha (by cases hT with | mk h1 h2 h3 h4 h5 => exact h5 a ha))
  rw [padB_mk]
  simp only [loneB, T.cells] at cL ⊢
  generalize (decide (k = 2) && decide (ks.length = 1)) = L at *
  generalize ks.any padB = E at *
  clear hT ih hB0
  cases L with
  | true =>
    go_enter Tryd.func31, Tryd.ntmps31
    go_wp2_with (go_at_call 57; (with_reducible refine (cL.out _).mono ?_); rintro e w1 ⟨rfl, hb1⟩; have hx1 := kept_row (World.alloc_heap_new w (.cells #[.int .i64 k, .int .u64 u0, .int .u64 u1, .int .u64 u2, .int .u64 u3, .slice p ks.length cap, .int .i64 mn, .int .i64 mx, .string tx] 28)) hb1; have hkx := cells_of hx1; obtain ⟨y5, -⟩ := hkx 5 _ rfl; clear hkx; have hq1 := Lib.hid (Bel.step (show Bel w (w.alloc (.cells #[.int .i64 k, .int .u64 u0, .int .u64 u1, .int .u64 u2, .int .u64 u3, .slice p ks.length cap, .int .i64 mn, .int .i64 mx, .string tx] 28)) from (Below.refl _ _).alloc (Nat.le_refl _) _) hb1); clear hb1)
    go_ret
    exact ⟨rfl, hq1.out⟩
  | false =>
    go_enter Tryd.func31, Tryd.ntmps31
    go_wp2_with (first | (go_at_call 57; (with_reducible refine (cL.out _).mono ?_); rintro e w1 ⟨rfl, hb1⟩; have hx1 := kept_row (World.alloc_heap_new w (.cells #[.int .i64 k, .int .u64 u0, .int .u64 u1, .int .u64 u2, .int .u64 u3, .slice p ks.length cap, .int .i64 mn, .int .i64 mx, .string tx] 28)) hb1; have hkx := cells_of hx1; obtain ⟨y5, -⟩ := hkx 5 _ rfl; clear hkx; have hq1 := Lib.hid (Bel.step (show Bel w (w.alloc (.cells #[.int .i64 k, .int .u64 u0, .int .u64 u1, .int .u64 u2, .int .u64 u3, .slice p ks.length cap, .int .i64 mn, .int .i64 mx, .string tx] 28)) from (Below.refl _ _).alloc (Nat.le_refl _) _) hb1); clear hb1) | (go_at_call 58; (with_reducible refine (cC.out _ hq1.out).mono ?_); rintro e w2 ⟨rfl, hb2⟩; have hq2 := Lib.hid (Bel.step hq1.out hb2); clear hb2))
    go_ret
    exact ⟨rfl, hq2.out⟩
/-- Plain: right, and no Cat of one kid. -/
noncomputable def plainT (t : T) : Bool := rightB t && !padB t
set_option maxRecDepth 10000 in
set_option maxHeartbeats 4000000 in
theorem plain_in8 {w : World} {t : T} (hT : T.In w w.heap.size t) : Calls Tryd.prog 13 #[.agg t.cells.toArray] w fun e w' => e = .returned (.bool (plainT t)) ∧ Below w.heap.size w w' := by
  have cR : ∀ w', Bel w w' → Calls Tryd.prog 12 #[.agg t.cells.toArray] w' fun e w'' => e = .returned (.bool (rightB t)) ∧ Below w'.heap.size w' w'' := fun w' hb => right_in ((hT.toP.keep (w' := w') fun b hl => hb.block b hl).toIn fun b hl => Nat.lt_of_lt_of_le hl hb.size)
  have cP : ∀ w', Bel w w' → Calls Tryd.prog 31 #[.agg t.cells.toArray] w' fun e w'' => e = .returned (.bool (padB t)) ∧ Below w'.heap.size w' w'' := fun w' hb => padded_in (Nat.le_refl _) t hT w' hb
  unfold plainT
  generalize rightB t = R at *
  generalize padB t = E at *
  obtain ⟨k, u0, u1, u2, u3, p, cap, mn, mx, tx, ks⟩ := t
  simp only [T.cells] at *
  replace cR := Lib.hid cR
  replace cP := Lib.hid cP
  have hq0 := Lib.hid (show Bel w (w.alloc (.cells #[.int .i64 k, .int .u64 u0, .int .u64 u1, .int .u64 u2, .int .u64 u3, .slice p ks.length cap, .int .i64 mn, .int .i64 mx, .string tx] 28)) from (Below.refl _ _).alloc (Nat.le_refl _) _)
  have hx0 := Lib.hid (World.alloc_heap_new w (.cells #[.int .i64 k, .int .u64 u0, .int .u64 u1, .int .u64 u2, .int .u64 u3, .slice p ks.length cap, .int .i64 mn, .int .i64 mx, .string tx] 28))
  clear hT
  cases R with
  | false =>
    go_enter Tryd.func13, Tryd.ntmps13
    go_wp2_with (go_at_call 12; (with_reducible refine (cR.out _ hq0.out).mono ?_); rintro e w1 ⟨rfl, hb1⟩; have hx1 := kept_row hx0.out hb1; have hkx := cells_of hx1; obtain ⟨y0, -⟩ := hkx 0 _ rfl; obtain ⟨y1, -⟩ := hkx 1 _ rfl; obtain ⟨y2, -⟩ := hkx 2 _ rfl; obtain ⟨y3, -⟩ := hkx 3 _ rfl; obtain ⟨y4, -⟩ := hkx 4 _ rfl; obtain ⟨y5, -⟩ := hkx 5 _ rfl; obtain ⟨y6, -⟩ := hkx 6 _ rfl; obtain ⟨y7, -⟩ := hkx 7 _ rfl; obtain ⟨y8, -⟩ := hkx 8 _ rfl; clear hkx; have hq1 := Lib.hid (Bel.step hq0.out hb1); clear hb1)
    go_ret
    exact ⟨rfl, hq1.out⟩
  | true =>
    go_enter Tryd.func13, Tryd.ntmps13
    go_wp2_with (first | (go_at_call 12; (with_reducible refine (cR.out _ hq0.out).mono ?_); rintro e w1 ⟨rfl, hb1⟩; have hx1 := kept_row hx0.out hb1; have hkx := cells_of hx1; obtain ⟨y0, -⟩ := hkx 0 _ rfl; obtain ⟨y1, -⟩ := hkx 1 _ rfl; obtain ⟨y2, -⟩ := hkx 2 _ rfl; obtain ⟨y3, -⟩ := hkx 3 _ rfl; obtain ⟨y4, -⟩ := hkx 4 _ rfl; obtain ⟨y5, -⟩ := hkx 5 _ rfl; obtain ⟨y6, -⟩ := hkx 6 _ rfl; obtain ⟨y7, -⟩ := hkx 7 _ rfl; obtain ⟨y8, -⟩ := hkx 8 _ rfl; clear hkx; have hq1 := Lib.hid (Bel.step hq0.out hb1); clear hb1) | (go_at_call 31; (with_reducible refine (cP.out _ hq1.out).mono ?_); rintro e w2 ⟨rfl, hb2⟩; have hq2 := Lib.hid (Bel.step hq1.out hb2); clear hb2))
    go_ret
    exact ⟨ret_bool (by simp), hq2.out⟩
end Go.Proofs.YtjlmeegaiagfpaaDoor
