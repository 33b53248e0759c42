/- What the condition on the table of halves gives the walks: its cells. Arguments: bytes, and slices of them, opened. CrcSum: the given card. -/
import Derived.Test.YtficnnlajpfkbaaDoorRows
import Derived.Test.YtficnnlajpfkbaaDoorTie
import Derived.Test.YtficnnlajpfkbaaDoorCards
import Derived.Test.YtficnnlajpfkbaaDoorW10
import Derived.ProofKit
import Derived.LaidMore
import Derived.OpenShut
import Derived.Stop.Joined
import Derived.Below
import Derived.ChangeOld
import Derived.Laws.IdiomArrays
import Derived.Carry
import Derived.Deep.Slices
import Derived.SevenTiedAt
namespace Go.Proofs.YtficnnlajpfkbaaDoor
open Go.ChangeShapes Go.WideShapes Go.ChangeAt Go.WideMaps Go.WideElems Go.RowKit

theorem own : ownKnob Tryd.prog.godebug = none := by kernel_rfl
theorem laidOut : laidOutB Tryd.prog = true := by kernel_rfl
theorem gTab : Tryd.prog.globalNamed "doffer/crc.halves" = some 0 := by kernel_rfl
theorem tTab : (Tryd.prog.globals[0]?).map (·.type) = some 41 := by kernel_rfl
theorem u41 : Tryd.prog.underlying 41 = some (.array 16 27) := by kernel_rfl
theorem c27 : Tryd.prog.cellsOf 27 = 1 := by kernel_rfl
theorem u27 : Tryd.prog.underlying 27 = some (.int .u32) := by kernel_rfl

/-- The door's own heap meets the condition. -/
theorem door_met (os : Os) (args : Array Value) : laidMetH Tryd.prog Rows.crcSumRow.laid ((World.doorLaid Tryd.prog 400 os).forCall (fun _ _ => 0) ⟨#[], args, []⟩).memory :=
  laidMetH_of_parts3 (fuel := 8) (laidMet_of_run' 8 (by kernel_rfl) (by kernel_rfl)) (by kernel_rfl) (by kernel_rfl)

/-- The table's datum, read, gives its cells. -/
theorem tab_of_read {H : Type} {enc : TypeId × Value → H} {W : World} {held : Bool} {cs0 : Array Value} {f0 : Nat} {p0 : List MemPlace} (hv0 : W.var? Tryd.prog "doffer/crc.halves" = some cs0)
    (hd0 : DataW.trod enc Tryd.prog W 0 (fun _ => true) held f0 41 cs0.toList = some (Rows.laid_doffer_crc_halves, p0)) : Tab W := by
  obtain ⟨xs, m1, rfl, hx1, hlen, hn, hel⟩ := DataW.trod_array u41 hd0
  simp only [Prod.mk.injEq] at hx1
  have hd : (xs.map (·.1)) = halves.map fun n : Nat => (DataW.lit (.int .u32 (n : Int)) : DataW _) := by
    have := hx1.1
    simp only [Rows.laid_doffer_crc_halves, DataW.agg.injEq] at this
    rw [← this]
    rfl
  have cells : ∀ i : Nat, i < 16 → ∀ n : Nat, halves[i]? = some n → W.cell? ⟨0, i, none⟩ = some (.int .u32 (n : Int)) := by
    intro i hi n hin
    have h1 := hel i hi
    have hxi : (xs.map (·.1))[i]? = some (.lit (.int .u32 (n : Int))) := by rw [hd]; simp [hin]
    rw [List.getElem?_map] at hxi
    cases hx : xs[i]? with
    | none => rw [hx] at hxi; cases hxi
    | some y =>
      rw [hx] at h1 hxi
      simp only [Option.map_some, Option.some.injEq] at hxi
      obtain ⟨k, e1, e2, _⟩ := DataW.trod_int u27 h1
      rw [e2] at hxi
      have hk : k = (n : Int) := by simpa using hxi
      subst hk
      rw [World.var?_cell gTab hv0 i]
      rw [c27] at e1
      have e3 : ((cs0.toList.drop (i * 1)).take 1)[0]? = some (.int .u32 (n : Int)) := by rw [e1]; rfl
      rw [List.getElem?_take, List.getElem?_drop] at e3
      simpa using e3
  exact ⟨World.block_lt_of_cell? _ _ (cells 0 (by decide) 0 (by decide)), fun t ht => cells _ ht _ (halves_at t ht)⟩
theorem tab_of_laid {W : World} (h : laidMetH Tryd.prog Rows.crcSumRow.laid W) : Tab W := by
  rw [MakeChecks.laidMetH_plain _ _ _ (by kernel_rfl)] at h
  obtain ⟨ps, ⟨g0, t0, cs0, f0, p0, q0, hg0, ht0, hv0, hd0, _, _⟩, _⟩ := h
  obtain rfl := Option.some.inj (gTab.symm.trans hg0)
  obtain rfl := Option.some.inj (tTab.symm.trans ht0)
  exact tab_of_read hv0 hd0

/-- Bytes that are read: a slice that lies in memory. -/
theorem src_of_trod {H : Type} {enc : TypeId × Value → H} {W : World} {fuel : Nat} {v : Value} {x : DataW H × List MemPlace} (hf : DataW.trod enc Tryd.prog W 0 (fun _ => true) true fuel 24 [v] = some x) :
    ∃ (a : Option Addr) (cap : Nat) (l : List Nat), v = .slice a l.length cap ∧ Src W a l.length cap l ∧ l.length ≤ 9223372036854775807 := by
  rcases open_ints Tryd.underlying24 Tryd.underlying5 (by kernel_rfl) hf with ⟨hcs, _⟩ | ⟨x, len, cap, zs, hcs, _, hl, hm, hz, _, hcell, hwz⟩
  · simp only [List.cons.injEq, and_true] at hcs
    exact ⟨none, 0, [], hcs, ⟨rfl, by simp, fun _ => ⟨rfl, rfl⟩, fun ad e => (by cases e), Nat.le_refl _⟩, by simp⟩
  · simp only [List.cons.injEq, and_true] at hcs
    have hz' : zs.length = cap := by simpa using hz
    have hlen : ((zs.take len).map Int.toNat).length = len := by simp; omega
    refine ⟨some x, cap, (zs.take len).map Int.toNat, by rw [hlen]; exact hcs, ⟨rfl, ?_, fun e => (by cases e), ?_, by rw [hlen]; exact hl⟩, by rw [hlen]; unfold maxLen at hm; omega⟩
    · intro y hy
      obtain ⟨z, hzm, rfl⟩ := List.mem_map.1 hy
      have := bounds_u8 (hwz z (List.mem_of_mem_take hzm))
      omega
    · intro ad e j u hu
      obtain rfl : x = ad := by simpa using e
      rw [List.getElem?_map, List.getElem?_map] at hu
      have hj : j < len := by
        rcases Nat.lt_or_ge j len with h | h
        · exact h
        · rw [List.getElem?_eq_none (by simp; omega)] at hu; cases hu
      have hjz : j < zs.length := by omega
      rw [List.getElem?_take, if_pos hj, List.getElem?_eq_getElem hjz] at hu
      simp only [Option.map_some, Option.some.injEq] at hu
      subst hu
      rw [hcell j hjz]
      have hb := bounds_u8 (hwz zs[j] (List.getElem_mem hjz))
      have e1 : zs.getD j 0 = zs[j] := by simp [List.getD, hjz]
      rw [e1]
      unfold encN
      rw [Int.toNat_of_nonneg hb.1]
theorem open_bytes {H : Type} {enc : TypeId × Value → H} {W : World} {r : Reach} {b0 : Nat} {v : Value} {d : DataW H} {p : List MemPlace} (hv : Value.okWide Tryd.prog W r b0 24 v)
    (h : DataW.Trod enc Tryd.prog W 0 (fun _ => true) true 24 v d p) : ∃ (a : Option Addr) (cap : Nat) (l : List Nat), v = .slice a l.length cap ∧ Src W a l.length cap l ∧ l.length ≤ 9223372036854775807 := by
  obtain ⟨a, len, cap, rfl⟩ := okWide_slice Tryd.underlying24 hv
  obtain ⟨fuel, hf⟩ := h
  exact src_of_trod hf
theorem open_parts {H : Type} {enc : TypeId × Value → H} {W : World} {r : Reach} {b0 : Nat} {v : Value} {d : DataW H} {p : List MemPlace} (hv : Value.okWide Tryd.prog W r b0 22 v)
    (h : DataW.Trod enc Tryd.prog W 0 (fun _ => true) true 22 v d p) : ∃ (a : Option Addr) (cap : Nat) (ls : List (List Nat)), v = .slice a ls.length cap ∧ Parts W a ls.length cap ls ∧ ls.length ≤ 9223372036854775807 ∧ ∀ l ∈ ls, l.length ≤ 9223372036854775807 := by
  obtain ⟨a, len, cap, rfl⟩ := okWide_slice Tryd.underlying22 hv
  obtain ⟨fuel, hf⟩ := h
  rcases Go.Deep.open_slice1 Tryd.underlying22 (by kernel_rfl) hf with ⟨hcs, _⟩ | ⟨x, l, c, m, n, V, D, Pl, hcs, _, hl, hm, hmm, _, hx⟩
  · simp [Value.cells] at hcs
    obtain ⟨rfl, rfl, rfl⟩ := hcs
    exact ⟨none, 0, [], rfl, ⟨rfl, fun i hi => by simp at hi, Nat.le_refl _⟩, by simp, by simp⟩
  · simp [Value.cells] at hcs
    obtain ⟨rfl, rfl, rfl⟩ := hcs
    have hmc : m = cap := by simpa using hmm
    have each : ∀ i, i < len → ∃ l : List Nat, ∃ a k, W.cell? (x.add i) = some (.slice a l.length k) ∧ Src W a l.length k l ∧ l.length ≤ 9223372036854775807 := by
      intro i hi
      obtain ⟨hc, ht⟩ := hx i (by omega)
      obtain ⟨a, k, l, hv, hs, hb⟩ := src_of_trod ht
      rw [hv] at hc
      exact ⟨l, a, k, hc, hs, hb⟩
    obtain ⟨F, hF⟩ := Go.Deep.choose_lt each
    have hlen : ((List.range len).map F).length = len := by simp
    refine ⟨some x, cap, (List.range len).map F, by rw [hlen], ⟨rfl, ?_, by rw [hlen]; exact hl⟩, by rw [hlen]; unfold maxLen at hm; omega, ?_⟩
    · intro i hi
      have hi' : i < len := by rw [hlen] at hi; exact hi
      obtain ⟨a, k, hc, hs, _⟩ := hF i hi'
      obtain ⟨b, o, spot⟩ := x
      have hspot : spot = none := by
        obtain ⟨_, _, hc0, _⟩ := hF 0 (by omega)
        simpa [Addr.add] using World.cell?_spot hc0
      subst hspot
      have e : (⟨b, o, none⟩ : Addr).add i = ⟨b, o + i, none⟩ := by unfold Addr.add; split <;> simp_all
      rw [e] at hc
      have eF : ((List.range len).map F)[i] = F i := by simp
      rw [eF]
      exact ⟨b, o, a, k, rfl, hc, hs⟩
    · intro l hl'
      obtain ⟨i, hi, rfl⟩ := List.mem_map.1 hl'
      obtain ⟨a, k, _, _, hb⟩ := hF i (List.mem_range.1 hi)
      exact hb

set_option maxRecDepth 100000 in
theorem liftedS (os : Os) (started : os.Started) (H : Type) (enc : TypeId × Value → H) :
    ReturnsInHanded {} Tryd.checked os 3 .any (fun w args => (Rows.crcSumSpec.pre enc Tryd.prog Tryd.f3 [] false w args ∧ laidMetH Tryd.prog Rows.crcSumRow.laid w) ∧ sizedMet enc Tryd.prog Tryd.f3 (OpenSpec.ofChange Rows.crcSumSpec) false w args)
      (Rows.crcSumSpec.post enc Tryd.prog Tryd.f3 false true false false) := by
  refine returnsInHanded_of_change_and (C := Tryd.checked) (X := fun w _ => laidMetH Tryd.prog Rows.crcSumRow.laid w) (fun _ _ _ hh h => h.of_heap hh) own started (by kernel_rfl) Tryd.func3
    (ChangeSpec.witness_shaped (enc := enc) (C := Tryd.checked) (os := os) (X := fun w _ => laidMetH Tryd.prog Rows.crcSumRow.laid w) false (World.doorLaid Tryd.prog 400 os) #[.slice none 0 0, .int .i64 0] 8 rfl (World.shaped_of_RefB (by kernel_rfl) (by kernel_rfl)) (by kernel_rfl) (by kernel_rfl) (by kernel_rfl) (door_met os _)) ?_
  intro W base args ds gs before hval0 hW _ _ hL _
  have hval : ∀ (j : Nat) t v, Tryd.f3.params[j]? = some t → args[j]? = some v → Value.okWide Tryd.prog W .any base t v := hval0
  have hW' := hW
  obtain ⟨p, q, hA0, hV, rfl, hfz, hnd⟩ := hW
  have hA : DataW.TrodAll enc Tryd.prog W 0 (fun _ => true) true Tryd.f3.params.toList args.toList ds p := hA0
  rw [Tryd.params3] at hA hval
  obtain ⟨v0, v1, d0, d1, p0, p1, rfl, rfl, rfl, h0, h1⟩ := trodAll_two hA
  obtain ⟨rfl, rfl⟩ := trodVars_none hV
  have k0 := h0
  have lt0 : ∀ x ∈ p0, x.block < W.heap.size := by obtain ⟨m, hm⟩ := k0; exact DataW.trod_lt m _ _ _ hm
  obtain ⟨a0, c0, ls, rfl, hP, hn, hm⟩ := open_parts (hval 0 22 v0 rfl rfl) h0
  obtain ⟨sum, rfl, rfl, rfl, ws⟩ := open_int Tryd.underlying3 (hval 1 3 v1 rfl rfl) h1
  have hT := tab_of_laid hL
  clear hA0 hval0
  refine (sumlaw_in a0 ls.length c0 ls sum W hP hT hn hm).mono fun e W' ⟨he, bel⟩ => ?_
  subst he
  exact ⟨_, rfl, _, _, _, [], _, [], hW', trodAll_mk1 (shut_bool Tryd.underlying4 _),
    (trodAll_cons_mk (Below.trod laidOut (by kernel_rfl) (of_decide_eq_true (by kernel_rfl)) k0 bel lt0) (trodAll_cons_mk (shut_int Tryd.underlying3 ws) trodAll_mk0)), rfl, bel.frame _, fun h => by cases h⟩

theorem crcSum_row : Rows.CrcSumSaid :=
  OpenClaim.holds_of_wide 3 Tryd.f3 rfl rfl rfl rfl rfl rfl rfl ⟨rfl, rfl, rfl, rfl, rfl⟩ rfl rfl rfl rfl rfl (by kernel_rfl) Tryd.func3 (by kernel_rfl)
    (of_decide_eq_true (by kernel_rfl)) (by unfold Func.isWrapper; first | (rw [if_pos (by decide +kernel)]; kernel_rfl) | (rw [if_neg (by decide +kernel)]; exact ⟨rfl, rfl⟩))
    (fun os started H enc _ => liftedS os started H enc)

theorem crcSum_holds : Rows.CrcSumCardSaid :=
  Claim7.holds_tied_plain_at .later [] [.data] true (true, "57a9c34ff22a6dc419a158f8b3cdcd9bf01582189b9efb03110c09ba3772cf10") true
    crcSum_row (fun _ h => by cases h) (by kernel_rfl) (fun _ h => by cases h) crcSum_row_tie rfl ⟨rfl, rfl⟩ (by kernel_rfl) rfl
    (fun f fn hf hfn => by
      obtain rfl : f = 3 := Option.some.inj ((show Tryd.prog.funcNamed "doffer/dofferlaw03.CrcSum" = some 3 by kernel_rfl).symm.trans hf) |>.symm
      obtain rfl : fn = Tryd.f3 := (Option.some.inj (Tryd.func3.symm.trans hfn)).symm
      exact ⟨by kernel_rfl, fun j t ht => by
        rw [Tryd.params3] at ht
        have hm : t ∈ [22, 3] := by simpa using Array.mem_of_getElem? ht
        have hall : ([22, 3].all fun u => !Tryd.prog.wantsStandIn u) = true := by kernel_rfl
        exact (show Tryd.prog.wantsStandIn t = false by simpa using List.all_eq_true.1 hall t hm)⟩)
    (by kernel_rfl)
#print axioms crcSum_holds
end Go.Proofs.YtficnnlajpfkbaaDoor
