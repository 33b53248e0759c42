/- Texts of earlier layers, merged: S7W24, S7W35, S7W36, S7W39. -/
import Derived.Test.YtjlmeegaiagfpaaDoorS7C
import Derived.Maps.AppendAt
import Derived.Test.YtjlmeegaiagfpaaDoorS7W9
namespace Go.Proofs.YtjlmeegaiagfpaaDoor.S7
open Go.RowKit
open Go.Tree7
theorem infoRN : (Tryd.prog.info? 35).map (fun i => (i.zero, i.size, i.bytes)) = some (some (.agg #[.int .i64 0, .int .u64 0, .int .u64 0, .int .u64 0, .int .u64 0, .slice none 0 0, .int .i64 0, .int .i64 0, .string ⟨#[]⟩]), 9, 96) := by kernel_rfl
/-- What Of gives back: a tree that lies in new blocks; the same one, where there is room. -/
def GivesTree (left : Nat) (w : World) (t : T) (e : Ending) (w' : World) : Prop :=
  ∃ m : T, e = .returned (.tuple #[.agg m.cells.toArray, .int .i64 ((left - t.size : Nat) : Int)]) ∧ Below w.heap.size w w' ∧ (t.size < left → T.InP w' (fun b => w.heap.size ≤ b ∧ b < w'.heap.size) m ∧ m.strip = t.strip)
/-- The kids that were copied lie apart from the row. -/
def Kept (w : World) (b0 : Nat) (v : Value) (ms : List T) : Prop := ∀ t ∈ ms, T.InP w (fun b => b0 ≤ b ∧ b < w.heap.size ∧ v.ownBlock ≠ some b) t
theorem Kept.bel {w w' : World} {b0 : Nat} {v : Value} {ms : List T} (h : Kept w b0 v ms) (hb : Below w.heap.size w w') : Kept w' b0 v ms := fun t ht =>
  ((h t ht).keep (fun b hS => hb.block b hS.2.1)).imp fun _ hS => ⟨hS.1, Nat.lt_of_lt_of_le hS.2.1 hb.size, hS.2.2⟩
theorem Kept.grown {w w' : World} {b0 : Nat} {v v' : Value} {ms : List T} (h : Kept w b0 v ms) (hg : w.grownBy w' v.ownBlock) (ho : v'.ownBlock = v.ownBlock ∨ v'.ownBlock = some w.heap.size) : Kept w' b0 v' ms := fun t ht =>
  ((h t ht).keep (fun b hS => hg.block b hS.2.1 (fun e => hS.2.2 e.symm))).imp fun b hS => ⟨hS.1, Nat.lt_of_lt_of_le hS.2.1 hg.size, by
    rcases ho with ho | ho
    · rw [ho]; exact hS.2.2
    · rw [ho]; intro e; have := Option.some.inj e; omega⟩
theorem Kept.set {w : World} {b0 : Nat} {v : Value} {ms : List T} (h : Kept w b0 v ms) {a : Addr} (ha : a.block < b0) (u : Value) : Kept (w.setCell a u) b0 v ms := fun t ht =>
  ((h t ht).keep (fun b hS => Below.heap_setCell _ _ _ _ (by omega))).imp fun b hS => ⟨hS.1, by rw [size_set]; exact hS.2.1, hS.2.2⟩
/-- The loop's state. -/
structure OfSt (w wr : World) (k u0 u1 u2 u3 mn mx : Int) (tx : ByteArray) (ks : List T) (left j l : Nat) (p2 : Option Addr) (cap2 : Nat) (ms : List T) (sj : Nat) : Prop where
  len : ms.length = j
  lft : l = left - 1 - sj
  b6 : wr.heap[w.heap.size + 1 + 1]? = some (.cells #[.int .i64 k, .int .u64 u0, .int .u64 u1, .int .u64 u2, .int .u64 u3, .slice p2 j cap2, .int .i64 mn, .int .i64 mx, .string tx] 35 (0, 0))
  b4 : wr.heap[w.heap.size + 1]? = some (.cells #[.int .i64 0, .int .u64 0, .int .u64 0, .int .u64 0, .int .u64 0, .slice none 0 0, .int .i64 0, .int .i64 0, .string ⟨#[]⟩] 35 (0, 0))
  own : wr.ownsRow (w.heap.size + 3) 35 9 (.slice p2 j cap2) j (ms.flatMap T.cells)
  bel : Below w.heap.size w wr
  siz : w.heap.size + 3 ≤ wr.heap.size
  good : 1 + sj < left → Kept wr (w.heap.size + 3) (.slice p2 j cap2) ms ∧ ms.map T.strip = (ks.take j).map T.strip
theorem own_keep2 {w w' : World} {base size n : Nat} {e : TypeId} {v : Value} {xs : List Value} (h : w.ownsRow base e size v n xs) (hk : ∀ g, v.ownBlock = some g → g < w.heap.size → w'.heap[g]? = w.heap[g]?) : w'.ownsRow base e size v n xs := by
  refine ⟨h.1, ?_⟩
  rcases h.2 with h2 | ⟨g, cap, cur, rfl, h3, h4, h5⟩
  · exact .inl h2
  · exact .inr ⟨g, cap, cur, rfl, h3, (hk g rfl (Array.getElem?_eq_some_iff.1 h4).1).trans h4, h5⟩
theorem flat9 : ∀ (l : List T) (i j : Nat) (hi : i < l.length), j < 9 → (l.flatMap T.cells)[i * 9 + j]? = (l[i].cells)[j]? := by
  intro l
  induction l with
  | nil => intro i j hi; simp at hi
  | cons t l ih =>
    intro i j hi hj
    rw [List.flatMap_cons]
    cases i with
    | zero => rw [List.getElem?_append_left (by rw [T.cells_length]; omega)]; simp
    | succ i =>
      rw [List.getElem?_append_right (by rw [T.cells_length]; omega), T.cells_length, show (i + 1) * 9 + j - 9 = i * 9 + j by omega]
      exact ih i j (by simpa using hi) hj
/-- A tree whose kids lie in a row of one's own. -/
theorem inP_of_row {w : World} {b0 b1 : Nat} {tp : TypeId} {k u0 u1 u2 u3 : Int} {p : Option Addr} {cap : Nat} {mn mx : Int} {tx : ByteArray} {ms : List T} {n : Nat} (hn : ms.length = n) (hf : fits k u0 u1 u2 u3 mn mx tx) (h : w.ownsRow b0 tp 9 (.slice p n cap) n (ms.flatMap T.cells)) (hk : Kept w b0 (.slice p n cap) ms) (hb : b1 ≤ b0) :
    T.InP w (fun b => b1 ≤ b ∧ b < w.heap.size) (.mk k u0 u1 u2 u3 p cap mn mx tx ms) := by
  subst hn
  obtain ⟨p', cap', hv, hcap, hnil, hc⟩ := row_form h
  have hmax : cap ≤ maxLen := by
    rcases h.2 with ⟨e, -⟩ | ⟨g, cap', cur, e, -, -, -, hm, -⟩
    · simp only [Value.slice.injEq] at e; rw [e.2.2]; exact Nat.zero_le _
    · simp only [Value.slice.injEq] at e; rw [e.2.2]; exact hm
  simp only [Value.slice.injEq, true_and] at hv
  obtain ⟨rfl, rfl⟩ := hv
  refine .mk hcap hmax hf (fun i hi => ?_) (fun t ht => ((hk t ht).imp fun b hS => ⟨by omega, hS.2.1⟩))
  obtain ⟨g, rfl, h1, h2, hcell⟩ := hc (by omega)
  refine ⟨⟨g, 0, none⟩, rfl, ⟨by show b1 ≤ g; omega, h2⟩, fun j hj => ?_⟩
  have e : (⟨g, 0, none⟩ : Addr).add (i * 9 + j) = ⟨g, i * 9 + j, none⟩ := by unfold Addr.add; split <;> simp_all
  rw [e, hcell _ (by omega), flat9 ms i j hi hj]
theorem sum_take (ks : List T) {j : Nat} (hj : j < ks.length) : ((ks.take (j + 1)).map T.size).sum = ((ks.take j).map T.size).sum + ks[j].size := by
  rw [List.take_succ_eq_append_getElem hj, List.map_append, List.sum_append]
  simp only [List.map_cons, List.map_nil, List.sum_cons, List.sum_nil, Nat.add_zero]
theorem sum_le (ks : List T) (j : Nat) : ((ks.take j).map T.size).sum ≤ (ks.map T.size).sum := by
  have : (ks.map T.size).sum = ((ks.take j).map T.size).sum + ((ks.drop j).map T.size).sum := by
    rw [← List.sum_append, ← List.map_append, List.take_append_drop]
  omega
theorem len_sum (ks : List T) {j : Nat} (hj : j ≤ ks.length) : j ≤ ((ks.take j).map T.size).sum := by
  induction j with
  | zero => exact Nat.zero_le _
  | succ j ih =>
    rw [sum_take ks (by omega)]
    have := ih (by omega)
    have := T.size_pos (ks[j]'(by omega))
    omega
end Go.Proofs.YtjlmeegaiagfpaaDoor.S7

namespace Go.Proofs.YtjlmeegaiagfpaaDoor.S7
open Go.RowKit
open Go.Tree7
open Classical in
/-- Two trees are equal but for their places. -/
noncomputable def eqT (a b : T) : Bool := decide (a.strip = b.strip)
theorem eqT_iff (a b : T) : eqT a b = true ↔ a.strip = b.strip := by unfold eqT; simp
theorem eqT_no {a b : T} (h : a.strip ≠ b.strip) : eqT a b = false := by unfold eqT; simp [h]
theorem toList_inj2 {a b : ByteArray} (h : a.toList = b.toList) : a = b := bytes_inj h
/-- What equal is asked of two kids. -/
def EqOf (w0 : World) (B0 : Nat) (a b : T) : Prop := ∀ w', Below B0 w0 w' → Calls Tryd.prog 35 #[.agg a.cells.toArray, .agg b.cells.toArray] w' fun e w'' => e = .returned (.bool (eqT a b)) ∧ Below w'.heap.size w' w''
set_option maxRecDepth 10000 in
set_option maxHeartbeats 4000000 in
theorem eqf_in {w0 w : World} {B0 : Nat} (hn0 : B0 ≤ w0.heap.size) (hB0 : Below B0 w0 w) {k u0 u1 u2 u3 : Int} {p : Option Addr} {cap : Nat} {mn mx : Int} {tx : ByteArray} {ks : List T} (hT : T.In w0 B0 (.mk k u0 u1 u2 u3 p cap mn mx tx ks))
    {k' u0' u1' u2' u3' : Int} {p' : Option Addr} {cap' : Nat} {mn' mx' : Int} {tx' : ByteArray} {ks' : List T} (hT' : T.In w0 B0 (.mk k' u0' u1' u2' u3' p' cap' mn' mx' tx' ks')) (ih : ∀ a ∈ ks, ∀ b ∈ ks', EqOf w0 B0 a b) {r : Bool} (hr : r = true ↔ ks.map T.strip = ks'.map T.strip) :
    Calls Tryd.prog 60 #[.slice p ks.length cap, .slice p' ks'.length cap', .func (.func 35) #[] #[]] w fun e w' => e = .returned (.bool r) ∧ Below w.heap.size w w' := by
  have hks : ks.length ≤ 9223372036854775807 := by cases hT with | mk h1 h2 => unfold maxLen at h2; omega
  have hks' : ks'.length ≤ 9223372036854775807 := by cases hT' with | mk h1 h2 => unfold maxLen at h2; omega
  have hBn : B0 ≤ w.heap.size := Nat.le_trans hn0 hB0.size
  by_cases hlen : ks.length = ks'.length
  · have hend : Hid ((∀ i (h1 : i < ks.length) (h2 : i < ks'.length), eqT ks[i] ks'[i] = true) → r = true) := Lib.hid fun h => hr.2 (List.ext_getElem (by simp [hlen]) fun i h1 h2 => by
      rw [List.getElem_map, List.getElem_map]
      exact (eqT_iff _ _).1 (h i (by simpa using h1) (by simpa using h2)))
    have hno : Hid (∀ i (h1 : i < ks.length) (h2 : i < ks'.length), eqT ks[i] ks'[i] = false → r = false) := Lib.hid fun i h1 h2 h => by
      cases r with
      | false => rfl
      | true =>
        have h3 := hr.1 rfl
        have h4 : (ks.map T.strip)[i]? = (ks'.map T.strip)[i]? := by rw [h3]
        rw [List.getElem?_map, List.getElem?_map, List.getElem?_eq_getElem h1, List.getElem?_eq_getElem h2] at h4
        simp only [Option.map_some, Option.some.injEq] at h4
        rw [(eqT_iff _ _).2 h4] at h
        cases h
    obtain ⟨n, hn⟩ : ∃ n, ks.length = n := ⟨_, rfl⟩
    have hn' : ks'.length = n := by omega
    rw [hn] at hks ⊢
    rw [hn'] at ⊢
    have d0 : ((n : Int) != n) = false := by simp
    have h1n := Lib.hid hn
    have h2n := Lib.hid hn'
    replace hT := Lib.hid hT
    replace hT' := Lib.hid hT'
    replace ih := Lib.hid ih
    replace hB0 := Lib.hid hB0
    clear hr hlen hn hn' hks'
    go_enter Tryd.func60, Tryd.ntmps60
    go_wp2
    go_loopw [17] (fun i wr => ∃ j : Nat, j ≤ n ∧ i = .int .i64 j ∧ Hid (Below w.heap.size w wr) ∧ Hid (∀ i (h1 : i < ks.length) (h2 : i < ks'.length), i < j → eqT ks[i] ks'[i] = true)) (fun i _ => n - (intOf i).toNat)
    case atStart => exact ⟨0, Nat.zero_le _, rfl, Lib.hid (Below.refl _ _), Lib.hid fun i h1 h2 h => by omega⟩
    case round =>
      obtain ⟨j, hj, rfl, hB, hso⟩ := hrel
      by_cases hlt : j < n
      · have hj1 : j < ks.length := by have := h1n.out; omega
        have hj2 : j < ks'.length := by have := h2n.out; omega
        obtain ⟨b1, o1, hkid1, hp1, hb1, hc1⟩ := T.kid hT.out hj1
        obtain ⟨b2, o2, hkid2, hp2, hb2, hc2⟩ := T.kid hT'.out hj2
        have hww : Below B0 w0 wr := hB0.out.trans (hB.out.mono hBn)
        have hcl1 : ∀ q, q < 9 → wr.cell? ⟨b1, o1 + j * 9 + q, none⟩ = (ks[j].cells)[q]? := fun q hq => by
          rw [← hc1 q hq]
          exact hww.cell (p := ⟨b1, o1 + j * 9 + q, none⟩) hb1
        have hcl2 : ∀ q, q < 9 → wr.cell? ⟨b2, o2 + j * 9 + q, none⟩ = (ks'[j].cells)[q]? := fun q hq => by
          rw [← hc2 q hq]
          exact hww.cell (p := ⟨b2, o2 + j * 9 + q, none⟩) hb2
        have hi := ih.out _ (List.getElem_mem hj1) _ (List.getElem_mem hj2)
        unfold EqOf at hi
        have hno2 := Lib.hid (hno.out j hj1 hj2)
        have hso2 : Hid (eqT ks[j] ks'[j] = true → ∀ i (h1 : i < ks.length) (h2 : i < ks'.length), i < j + 1 → eqT ks[i] ks'[i] = true) := Lib.hid fun h i h1 h2 h3 => by
          by_cases e : i = j
          · subst e; exact h
          · exact hso.out i h1 h2 (by omega)
        have lt1 : b1 < wr.heap.size := Nat.lt_of_lt_of_le hb1 (Nat.le_trans hBn hB.out.size)
        have lt2 : b2 < wr.heap.size := Nat.lt_of_lt_of_le hb2 (Nat.le_trans hBn hB.out.size)
        clear hkid1 hkid2 hc1 hc2 hso
        generalize ks[j] = ka at *
        generalize ks'[j] = kb at *
        obtain ⟨E, hE⟩ : ∃ E, eqT ka kb = E := ⟨_, rfl⟩
        rw [hE] at hi hno2 hso2
        clear hE
        obtain ⟨ka, u0a, u1a, u2a, u3a, pa, capa, mna, mxa, txa, ksa⟩ := ka
        obtain ⟨kb, u0b, u1b, u2b, u3b, pb, capb, mnb, mxb, txb, ksb⟩ := kb
        simp only [T.cells] at *
        obtain ⟨c0, c1, c2, c3, c4, c5, c6, c7, c8⟩ := nine_of hcl1
        obtain ⟨d0, d1, d2, d3, d4, d5, d6, d7, d8⟩ := nine_of hcl2
        subst hp1 hp2
        clear hcl1 hcl2
        have hwsz := hB.out.size
        have hBx : Hid (Below w.heap.size w ((wr.alloc (.cells #[.int .i64 ka, .int .u64 u0a, .int .u64 u1a, .int .u64 u2a, .int .u64 u3a, .slice pa ksa.length capa, .int .i64 mna, .int .i64 mxa, .string txa] 28)).alloc (.cells #[.int .i64 kb, .int .u64 u0b, .int .u64 u1b, .int .u64 u2b, .int .u64 u3b, .slice pb ksb.length capb, .int .i64 mnb, .int .i64 mxb, .string txb] 28))) := Lib.hid ((hB.out.alloc hwsz _).alloc (by simp; omega) _)
        have cE := Lib.hid (hi _ (hB0.out.trans (hBx.out.mono hBn)))
        clear hi hww
        cases E with
        | true =>
          have hso3 := Lib.hid (hso2.out rfl)
          clear hso2 hno2
          go_wp2_with (go_at_call 35; (with_reducible refine cE.out.mono ?_); rintro e w2 ⟨rfl, hb⟩; replace hb := Lib.hid (hBx.out.trans (hb.mono hBx.out.size)))
          go_roundw
          case rel => exact ⟨j + 1, by omega, by go_num, hb, hso3⟩
          case measure => simp [intOf]; omega
        | false =>
          have hrf := Lib.hid (hno2.out rfl)
          clear hso2 hno2
          go_wp2_with (go_at_call 35; (with_reducible refine cE.out.mono ?_); rintro e w2 ⟨rfl, hb⟩; replace hb := Lib.hid (hBx.out.trans (hb.mono hBx.out.size)))
          go_ret
          exact ⟨by rw [hrf.out]; rfl, hb.out⟩
      · have hrt := Lib.hid (hend.out fun i h1 h2 => hso.out i h1 h2 (by have := h1n.out; omega))
        clear hso
        go_wp2
        go_ret
        exact ⟨by rw [hrt.out]; rfl, hB.out⟩
  · have hrf : r = false := by
      cases r with
      | false => rfl
      | true =>
        have := congrArg List.length (hr.1 rfl)
        simp at this
        exact absurd this hlen
    rw [hrf]
    have d0 : ((ks.length : Int) != ks'.length) = true := by rw [bne_iff_ne]; omega
    clear hr hT hT' ih hlen hrf
    go_enter Tryd.func60, Tryd.ntmps60
    go_wp2
    go_ret
    exact ⟨rfl, Below.refl _ _⟩
end Go.Proofs.YtjlmeegaiagfpaaDoor.S7

namespace Go.Proofs.YtjlmeegaiagfpaaDoor.S7
open Go.RowKit
open Go.Tree7
set_option maxRecDepth 10000 in
set_option maxHeartbeats 4000000 in
theorem equal_in {w0 : World} {B0 : Nat} (hn0 : B0 ≤ w0.heap.size) : ∀ a : T, T.In w0 B0 a → ∀ b : T, T.In w0 B0 b → EqOf w0 B0 a b := by
  refine T.ind fun k u0 u1 u2 u3 p cap mn mx tx ks ih => ?_
  intro hT b hT'
  cases b with
  | mk k' u0' u1' u2' u3' p' cap' mn' mx' tx' ks' =>
  unfold EqOf
  intro w hB0
  have hBB := Lib.hid (((Below.refl w.heap.size w).alloc (Nat.le_refl _) (.cells #[.int .i64 k, .int .u64 u0, .int .u64 u1, .int .u64 u2, .int .u64 u3, .slice p ks.length cap, .int .i64 mn, .int .i64 mx, .string tx] 28)).alloc (by simp) (.cells #[.int .i64 k', .int .u64 u0', .int .u64 u1', .int .u64 u2', .int .u64 u3', .slice p' ks'.length cap', .int .i64 mn', .int .i64 mx', .string tx'] 28))
  have ihT : ∀ a ∈ ks, ∀ b ∈ ks', EqOf w0 B0 a b := fun a ha b hb => ih a ha (by cases hT with | mk h1 h2 h3 h4 h5 => exact h5 a ha) b (by cases hT' with | mk h1 h2 h3 h4 h5 => exact h5 b hb)
  have hBn : B0 ≤ w.heap.size := Nat.le_trans hn0 hB0.size
  obtain ⟨E, hE⟩ : ∃ E, eqT (.mk k u0 u1 u2 u3 p cap mn mx tx ks) (.mk k' u0' u1' u2' u3' p' cap' mn' mx' tx' ks') = E := ⟨_, rfl⟩
  obtain ⟨R, hR⟩ : ∃ R : Bool, R = true ↔ ks.map T.strip = ks'.map T.strip := ⟨open Classical in decide (ks.map T.strip = ks'.map T.strip), by simp⟩
  have cF := Lib.hid (eqf_in hn0 (hB0.trans (hBB.out.mono hBn)) hT hT' ihT hR)
  have hno : (k = k' → u0 = u0' → u1 = u1' → u2 = u2' → u3 = u3' → mn = mn' → mx = mx' → tx = tx' → R = true → False) → E = false := fun h => by
    rw [← hE]
    refine eqT_no fun h2 => ?_
    obtain ⟨h3, h4, h5, h6, h7, h8, h9, h10, h11⟩ := strip_parts h2
    exact h h3 h4 h5 h6 h7 h8 h9 h10 (hR.2 h11)
  have hyes : k = k' → u0 = u0' → u1 = u1' → u2 = u2' → u3 = u3' → mn = mn' → mx = mx' → tx = tx' → R = true → E = true := fun h1 h2 h3 h4 h5 h6 h7 h8 h9 => by
    rw [← hE]
    refine (eqT_iff _ _).2 ?_
    rw [T.strip_mk, T.strip_mk, h1, h2, h3, h4, h5, h6, h7, h8, hR.1 h9]
  rw [hE]
  have he : ∀ w, (Op.equalIn 10000 25 (.agg #[.int .u64 u0, .int .u64 u1, .int .u64 u2, .int .u64 u3]) (.agg #[.int .u64 u0', .int .u64 u1', .int .u64 u2', .int .u64 u3'])).run Tryd.prog w = .ok ((u0 == u0') && (u1 == u1') && (u2 == u2') && (u3 == u3')) w := fun w => S1.eq28 _ _ _ _ _ _ _ _ w
  simp only [T.cells]
  clear hE ihT ih hT hT' hB0 hR
  by_cases q1 : k = k'
  · subst q1
    obtain ⟨SQ, hSQ⟩ : ∃ SQ, ((u0 == u0') && (u1 == u1') && (u2 == u2') && (u3 == u3')) = SQ := ⟨_, rfl⟩
    rw [hSQ] at he
    cases SQ with
    | false =>
      have hf := hno fun _ h1 h2 h3 h4 _ _ _ _ => by subst h1 h2 h3 h4; simp at hSQ
      subst hf
      clear hno hyes cF hSQ
      go_enter Tryd.func35, Tryd.ntmps35
      go_wp2
      go_ret
      exact ⟨ret_bool (by simp), hBB.out⟩
    | true =>
      simp only [Bool.and_eq_true, beq_iff_eq] at hSQ
      obtain ⟨⟨⟨s0, s1⟩, s2⟩, s3⟩ := hSQ
      by_cases q2 : mn = mn'
      · subst q2
        by_cases q3 : mx = mx'
        · subst q3
          by_cases q4 : tx = tx'
          · subst q4
            have hq : (tx.toList == tx.toList) = true := by simp
            cases R with
            | true =>
              have hf := hyes rfl s0 s1 s2 s3 rfl rfl rfl rfl
              subst hf
              clear hno hyes s0 s1 s2 s3
              go_enter Tryd.func35, Tryd.ntmps35
              go_wp2_with (go_at_call 60; (with_reducible refine cF.out.mono ?_); rintro e w2 ⟨rfl, hb⟩; replace hb := Lib.hid hb)
              go_ret
              exact ⟨ret_bool (by simp), hBB.out.trans (hb.out.mono hBB.out.size)⟩
            | false =>
              have hf := hno fun _ _ _ _ _ _ _ _ h => by cases h
              subst hf
              clear hno hyes s0 s1 s2 s3
              go_enter Tryd.func35, Tryd.ntmps35
              go_wp2_with (go_at_call 60; (with_reducible refine cF.out.mono ?_); rintro e w2 ⟨rfl, hb⟩; replace hb := Lib.hid hb)
              go_ret
              exact ⟨ret_bool (by simp), hBB.out.trans (hb.out.mono hBB.out.size)⟩
          · have hf := hno fun _ _ _ _ _ _ _ h _ => q4 h
            have hq : (tx.toList == tx'.toList) = false := by rw [beq_eq_false_iff_ne]; exact fun h => q4 (toList_inj2 h)
            subst hf
            clear hno hyes cF s0 s1 s2 s3 q4
            go_enter Tryd.func35, Tryd.ntmps35
            go_wp2
            go_ret
            exact ⟨ret_bool (by simp), hBB.out⟩
        · have hf := hno fun _ _ _ _ _ _ h _ _ => q3 h
          have hq : (mx == mx') = false := by rw [beq_eq_false_iff_ne]; exact q3
          subst hf
          clear hno hyes cF s0 s1 s2 s3 q3
          go_enter Tryd.func35, Tryd.ntmps35
          go_wp2
          go_ret
          exact ⟨ret_bool (by simp), hBB.out⟩
      · have hf := hno fun _ _ _ _ _ h _ _ _ => q2 h
        have hq : (mn == mn') = false := by rw [beq_eq_false_iff_ne]; exact q2
        subst hf
        clear hno hyes cF s0 s1 s2 s3 q2
        go_enter Tryd.func35, Tryd.ntmps35
        go_wp2
        go_ret
        exact ⟨ret_bool (by simp), hBB.out⟩
  · have hf := hno fun h _ _ _ _ _ _ _ _ => q1 h
    have hq : (k == k') = false := by rw [beq_eq_false_iff_ne]; exact q1
    subst hf
    clear hno hyes cF q1
    go_enter Tryd.func35, Tryd.ntmps35
    go_wp2
    go_ret
    exact ⟨ret_bool (by simp), hBB.out⟩
/-- Two trees, the first right. -/
noncomputable def sameT (a b : T) : Bool := rightB a && eqT a b
set_option maxRecDepth 10000 in
set_option maxHeartbeats 4000000 in
theorem same_in {w : World} {a b : T} (hT : T.In w w.heap.size a) (hT' : T.In w w.heap.size b) : Calls Tryd.prog 17 #[.agg a.cells.toArray, .agg b.cells.toArray] w fun e w' => e = .returned (.bool (sameT a b)) ∧ Below w.heap.size w w' := by
  have hB2 : Below w.heap.size w ((w.alloc (.cells a.cells.toArray 28)).alloc (.cells b.cells.toArray 28)) := ((Below.refl w.heap.size w).alloc (Nat.le_refl _) _).alloc (by simp) _
  have R := Lib.hid (right_in ((hT.keep hB2).mono hB2.size))
  have Q := Lib.hid (fun w' (h : Below w.heap.size w w') => equal_in (Nat.le_refl _) a hT b hT' w' h)
  have hb1 : ((w.alloc (.cells a.cells.toArray 28)).alloc (.cells b.cells.toArray 28)).heap[w.heap.size]? = some (.cells a.cells.toArray 28 (0, 0)) := (Below.heap_alloc _ _ _ (by simp)).trans (World.alloc_heap_new _ _)
  have hb2 : ((w.alloc (.cells a.cells.toArray 28)).alloc (.cells b.cells.toArray 28)).heap[w.heap.size + 1]? = some (.cells b.cells.toArray 28 (0, 0)) := by have := World.alloc_heap_new (w.alloc (.cells a.cells.toArray 28)) (.cells b.cells.toArray 28); rw [World.size_alloc] at this; exact this
  unfold sameT
  generalize rightB a = r at *
  generalize eqT a b = E at *
  replace hB2 := Lib.hid hB2
  clear hT hT'
  cases a with
  | mk k u0 u1 u2 u3 p cap mn mx tx ks =>
  cases b with
  | mk k' u0' u1' u2' u3' p' cap' mn' mx' tx' ks' =>
  simp only [T.cells] at *
  replace hb1 := Lib.hid hb1
  replace hb2 := Lib.hid hb2
  cases r with
  | true =>
    go_enter Tryd.func17, Tryd.ntmps17
    go_wp2_with (first | (go_at_call 12; (with_reducible refine R.out.mono ?_); rintro e w1 ⟨rfl, hb⟩; have hk := cells_of (kept_row hb1.out hb); have x0 := (hk 0 _ rfl).1; have x1 := (hk 1 _ rfl).1; have x2 := (hk 2 _ rfl).1; have x3 := (hk 3 _ rfl).1; have x4 := (hk 4 _ rfl).1; have x5 := (hk 5 _ rfl).1; have x6 := (hk 6 _ rfl).1; have x7 := (hk 7 _ rfl).1; have x8 := (hk 8 _ rfl).1; clear hk; have hk := cells_of (kept_row hb2.out hb); have y0 := (hk 0 _ rfl).1; have y1 := (hk 1 _ rfl).1; have y2 := (hk 2 _ rfl).1; have y3 := (hk 3 _ rfl).1; have y4 := (hk 4 _ rfl).1; have y5 := (hk 5 _ rfl).1; have y6 := (hk 6 _ rfl).1; have y7 := (hk 7 _ rfl).1; have y8 := (hk 8 _ rfl).1; clear hk; replace hb := Lib.hid (hB2.out.trans (hb.mono hB2.out.size))) | (go_at_call 35; (with_reducible refine (Q.out _ hb.out).mono ?_); rintro e w2 ⟨rfl, hc⟩; replace hc := Lib.hid hc))
    go_ret
    exact ⟨ret_bool (by simp), hb.out.trans (hc.out.mono hb.out.size)⟩
  | false =>
    go_enter Tryd.func17, Tryd.ntmps17
    go_wp2_with (go_at_call 12; (with_reducible refine R.out.mono ?_); rintro e w1 ⟨rfl, hb⟩; replace hb := Lib.hid (hB2.out.trans (hb.mono hB2.out.size)))
    go_ret
    exact ⟨ret_bool (by simp), hb.out⟩
end Go.Proofs.YtjlmeegaiagfpaaDoor.S7

namespace Go.Proofs.YtjlmeegaiagfpaaDoor.S7
open Go.RowKit
open Go.Tree7
theorem infoN9 : (Tryd.prog.info? 28).map (fun i => (i.zero, i.size, i.bytes)) = some (some (.agg #[.int .i64 0, .int .u64 0, .int .u64 0, .int .u64 0, .int .u64 0, .slice none 0 0, .int .i64 0, .int .i64 0, .string ⟨#[]⟩]), 9, 96) := by kernel_rfl
/-- A row of nodes, all of it known: block g. -/
def NRowAt (W : World) (g : Nat) (l : List T) : Prop := ∃ cur, W.heap[g]? = some (.cells cur 28 (0, 0)) ∧ ∀ i (hi : i < l.length), ∀ q, q < 9 → cur[i * 9 + q]? = (l[i].cells)[q]?
theorem NRowAt.bel {W W' : World} {g : Nat} {l : List T} (h : NRowAt W g l) (hb : Below W.heap.size W W') : NRowAt W' g l := by
  obtain ⟨cur, h1, h2⟩ := h
  exact ⟨cur, (hb.block _ (Array.getElem?_eq_some_iff.1 h1).1).trans h1, h2⟩
theorem NRowAt.lt {W : World} {g : Nat} {l : List T} (h : NRowAt W g l) : g < W.heap.size := by
  obtain ⟨cur, h1, -⟩ := h
  exact (Array.getElem?_eq_some_iff.1 h1).1
theorem NRowAt.cell {W : World} {g : Nat} {l : List T} (h : NRowAt W g l) {i : Nat} (hi : i < l.length) {q : Nat} (hq : q < 9) : W.cell? ⟨g, i * 9 + q, none⟩ = (l[i].cells)[q]? := by
  obtain ⟨cur, h1, h2⟩ := h
  rw [cell_of_row _ _ _ _ _ (0, 0) h1]
  exact h2 i hi q hq
theorem NRowAt.frozen {W : World} {g : Nat} {l : List T} (h : NRowAt W g l) (x : Nat) : W.frozen? ⟨g, x, none⟩ = false := by
  obtain ⟨cur, h1, -⟩ := h
  simp [World.frozen?, h1]
/-- The nine cells of a place set anew. -/
theorem NRowAt.set {W : World} {g : Nat} {l : List T} (h : NRowAt W g l) {j : Nat} (hj : j < l.length) (t : T) {d0 d1 d2 d3 d4 d5 d6 d7 d8 : Value} (ht : t.cells = [d0, d1, d2, d3, d4, d5, d6, d7, d8]) (W' : World)
    (hW : W' = (((((((((W.setCell ⟨g, j * 9, none⟩ d0).setCell ⟨g, j * 9 + 1, none⟩ d1).setCell ⟨g, j * 9 + 2, none⟩ d2).setCell ⟨g, j * 9 + 3, none⟩ d3).setCell ⟨g, j * 9 + 4, none⟩ d4).setCell ⟨g, j * 9 + 5, none⟩ d5).setCell ⟨g, j * 9 + 6, none⟩ d6).setCell ⟨g, j * 9 + 7, none⟩ d7).setCell ⟨g, j * 9 + 8, none⟩ d8)) :
    NRowAt W' g (l.set j t) ∧ W'.heap.size = W.heap.size ∧ (∀ k, k ≠ g → W'.heap[k]? = W.heap[k]?) ∧ ∀ n, n ≤ g → Below n W W' := by
  obtain ⟨cur, h1, h2⟩ := h
  have hsz : j * 9 + 9 ≤ cur.size := by
    have := h2 j hj 8 (by decide)
    rw [List.getElem?_eq_getElem (by rw [T.cells_length]; decide)] at this
    have := (Array.getElem?_eq_some_iff.1 this).1
    omega
  have a0 := box_set h1 (j * 9) d0
  have a1 := box_set a0 (j * 9 + 1) d1
  have a2 := box_set a1 (j * 9 + 2) d2
  have a3 := box_set a2 (j * 9 + 3) d3
  have a4 := box_set a3 (j * 9 + 4) d4
  have a5 := box_set a4 (j * 9 + 5) d5
  have a6 := box_set a5 (j * 9 + 6) d6
  have a7 := box_set a6 (j * 9 + 7) d7
  have a8 := box_set a7 (j * 9 + 8) d8
  rw [← hW] at a8
  refine ⟨⟨_, a8, fun i hi q hq => ?_⟩, by rw [hW]; simp only [size_set], fun k hk => ?_, fun n hn => ?_⟩
  · rw [List.length_set] at hi
    simp only [Array.getElem?_setIfInBounds]
    by_cases e : i = j
    · subst e
      rw [List.getElem_set_self, ht]
      have hc : q = 0 ∨ q = 1 ∨ q = 2 ∨ q = 3 ∨ q = 4 ∨ q = 5 ∨ q = 6 ∨ q = 7 ∨ q = 8 := by omega
      simp only [Array.size_setIfInBounds]
      rcases hc with rfl | rfl | rfl | rfl | rfl | rfl | rfl | rfl | rfl <;> simp <;> omega
    · rw [List.getElem_set_ne (Ne.symm e)]
      rw [if_neg (by omega), if_neg (by omega), if_neg (by omega), if_neg (by omega), if_neg (by omega), if_neg (by omega), if_neg (by omega), if_neg (by omega), if_neg (by omega)]
      exact h2 i hi q hq
  · rw [hW]
    iterate 9 rw [Below.heap_setCell _ _ _ _ hk]
  · rw [hW]
    have s0 := (Below.refl n W).setCell (p := ⟨g, j * 9, none⟩) hn d0
    have s1 := s0.setCell (p := ⟨g, j * 9 + 1, none⟩) hn d1
    have s2 := s1.setCell (p := ⟨g, j * 9 + 2, none⟩) hn d2
    have s3 := s2.setCell (p := ⟨g, j * 9 + 3, none⟩) hn d3
    have s4 := s3.setCell (p := ⟨g, j * 9 + 4, none⟩) hn d4
    have s5 := s4.setCell (p := ⟨g, j * 9 + 5, none⟩) hn d5
    have s6 := s5.setCell (p := ⟨g, j * 9 + 6, none⟩) hn d6
    have s7 := s6.setCell (p := ⟨g, j * 9 + 7, none⟩) hn d7
    exact s7.setCell (p := ⟨g, j * 9 + 8, none⟩) hn d8
theorem fits_cell {t : T} (c : Value) (h : c ∈ t.cells) : c.oneCell' = true := by
  cases t
  simp only [T.cells, List.mem_cons, List.not_mem_nil, or_false] at h
  rcases h with rfl | rfl | rfl | rfl | rfl | rfl | rfl | rfl | rfl <;> rfl
/-- What Clone gives back: a row of its own. -/
def GivesClone (w : World) (ks : List T) (e : Ending) (w' : World) : Prop := ∃ (p : Option Addr) (cap : Nat), e = .returned (.slice p ks.length cap) ∧ ks.length ≤ cap ∧ cap ≤ maxLen ∧ (0 < ks.length → ∃ g, p = some ⟨g, 0, none⟩ ∧ w.heap.size ≤ g ∧ NRowAt w' g ks) ∧ Below w.heap.size w w'
theorem own_none9 {w : World} {base g : Nat} (h : w.heap[g]? = some (.cells #[] 28 (0, 0))) (hb : base ≤ g) : w.ownsRow base 28 9 (.slice (some ⟨g, 0, none⟩) 0 0) 0 [] :=
  ⟨rfl, .inr ⟨g, 0, #[], rfl, hb, h, by simp, Nat.zero_le _, rfl, rfl⟩⟩
theorem clone_row {w : World} {base : Nat} {p : Option Addr} {cap : Nat} {ks : List T} (h : w.ownsRow base 28 9 (.slice p ks.length cap) ks.length (ks.flatMap T.cells)) : ks.length ≤ cap ∧ cap ≤ maxLen ∧ (0 < ks.length → ∃ g, p = some ⟨g, 0, none⟩ ∧ base ≤ g ∧ NRowAt w g ks) := by
  rcases h.2 with ⟨e, h0⟩ | ⟨g, cap', cur, e, hb, hg, h1, h2, h3, h4⟩
  · simp only [Value.slice.injEq] at e
    obtain ⟨-, -, rfl⟩ := e
    exact ⟨by omega, Nat.zero_le _, fun h => by omega⟩
  · simp only [Value.slice.injEq, true_and] at e
    obtain ⟨rfl, rfl⟩ := e
    refine ⟨h1, h2, fun _ => ⟨g, rfl, hb, cur, hg, fun i hi q hq => ?_⟩⟩
    have h5 := flat9 ks i q hi hq
    rw [← h4, List.getElem?_take] at h5
    rw [if_pos (by omega)] at h5
    rw [← h5]
    simp
set_option maxRecDepth 10000 in
set_option maxHeartbeats 4000000 in
theorem clone_in {w0 w : World} {B0 : Nat} (hB0 : Below B0 w0 w) {k u0 u1 u2 u3 : Int} {p : Option Addr} {cap : Nat} {mn mx : Int} {tx : ByteArray} {ks : List T} (hT : T.In w0 B0 (.mk k u0 u1 u2 u3 p cap mn mx tx ks)) (hlen : ks.length ≤ 1000) :
    Calls Tryd.prog 76 #[.slice p ks.length cap] w (GivesClone w ks) := by
  obtain ⟨i0, hi, hz0, hz1, hz2⟩ := info_parts infoN9
  replace hi := Lib.hid hi
  replace hz0 := Lib.hid hz0
  replace hz1 := Lib.hid hz1
  replace hz2 := Lib.hid hz2
  have hG : ∃ G, G = GivesClone w ks := ⟨_, rfl⟩
  obtain ⟨G, hG⟩ := hG
  rw [← hG]
  replace hG := Lib.hid hG
  have hq : ∀ w, (binOp .eql 26 (.slice p ks.length cap) (.slice none 0 0)).run Tryd.prog w = .ok (.bool p.isNone) w := fun w => Lib.run_eql_slice_nil w _ _ _ _ _ _ _ Tryd.underlying26
  cases p with
  | none =>
    have hk0 : Hid (ks.length = 0) := Lib.hid (by
      rcases Nat.eq_zero_or_pos ks.length with h | h
      · exact h
      · cases hT with
        | mk h1 h2 h3 h4 h5 =>
          obtain ⟨a, e, -⟩ := h4 0 h
          cases e)
    clear hT hB0
    go_enter Tryd.func76, Tryd.ntmps76
    go_wp2
    rw [hG.out]
    exact ⟨none, 0, by rw [hk0.out]; rfl, by rw [hk0.out]; exact Nat.le_refl _, Nat.zero_le _, fun h => by have := hk0.out; omega, Below.refl _ _⟩
  | some ad =>
    have hfl : Hid ((ks.flatMap T.cells).length = ks.length * 9) := Lib.hid (by
      have : ∀ l : List T, (l.flatMap T.cells).length = l.length * 9 := by
        intro l
        induction l with
        | nil => rfl
        | cons t l ih => rw [List.flatMap_cons, List.length_append, T.cells_length, ih, List.length_cons]; omega
      exact this ks)
    have hnews : Hid (∀ x u, (ks.flatMap T.cells)[x]? = some u → (w.alloc (.cells #[] 28)).cell? (ad.add x) = some u) := Lib.hid fun x u h => by
      have hx : x < ks.length * 9 := by have := (List.getElem?_eq_some_iff.1 h).1; have := hfl.out; omega
      cases hT with
      | mk h1 h2 h3 h4 h5 =>
        obtain ⟨a, e, hb, hc⟩ := h4 (x / 9) (by omega)
        cases e
        have h6 := hc (x % 9) (Nat.mod_lt _ (by decide))
        have h7 := flat9 ks (x / 9) (x % 9) (by omega) (Nat.mod_lt _ (by decide))
        rw [show x / 9 * 9 + x % 9 = x by omega] at h6 h7
        rw [h] at h7
        rw [← h7] at h6
        have e2 : (ad.add x).block = ad.block := by unfold Addr.add; split <;> rfl
        have h8 := (hB0.cell (p := ad.add x) (by rw [e2]; exact hb)).trans h6
        exact ((Below.refl w.heap.size w).alloc (Nat.le_refl _) _).cell (p := ad.add x) (World.block_lt_of_cell? _ _ h8) |>.trans h8
    have hone : Hid (∀ u ∈ ks.flatMap T.cells, u.oneCell' = true) := Lib.hid fun u hu => by
      obtain ⟨t, -, h⟩ := List.mem_flatMap.1 hu
      exact fits_cell u h
    have hrow0 : Hid ((w.alloc (.cells #[] 28)).ownsRow w.heap.size 28 9 (.slice (some ⟨w.heap.size, 0, none⟩) 0 0) 0 []) := Lib.hid (own_none9 (World.alloc_heap_new _ _) (Nat.le_refl _))
    clear hT hB0
    go_enter Tryd.func76, Tryd.ntmps76
    go_wp2_with (at_builtin; refine wpList_append_own _ rfl _ _ 26 rfl w.heap.size 28 i0 (.agg #[.int .i64 0, .int .u64 0, .int .u64 0, .int .u64 0, .int .u64 0, .slice none 0 0, .int .i64 0, .int .i64 0, .string ⟨#[]⟩]) 9 96 Tryd.underlying26 hi.out hz0.out hz1.out hz2.out rfl (by decide) _ _ _ rfl hrow0.out ad ks.length cap (ks.flatMap T.cells) rfl hfl.out hnews.out hone.out (by simp [maxLen]; omega) (by omega) (by simp) ?_; intro v' w9 hown' hgrow hnil; clear hnil; rw [Nat.zero_add, List.nil_append] at hown'; obtain ⟨pv2, cv2, rfl, -⟩ := row_form hown'; have hgr : World.grownBy (w.alloc (.cells #[] 28)) w9 (Value.slice (some ⟨w.heap.size, 0, none⟩) 0 0).ownBlock := hgrow; clear hgrow; replace hgr := Lib.hid hgr; replace hown' := Lib.hid hown')
    rw [hG.out]
    obtain ⟨r1, r2, r3⟩ := clone_row hown'.out
    exact ⟨pv2, cv2, rfl, r1, r2, r3, ((Below.refl w.heap.size w).alloc (Nat.le_refl _) _).grown hgr.out (by simp) (fun k hk => by simp only [Value.ownBlock, Option.some.injEq] at hk; omega)⟩
end Go.Proofs.YtjlmeegaiagfpaaDoor.S7
