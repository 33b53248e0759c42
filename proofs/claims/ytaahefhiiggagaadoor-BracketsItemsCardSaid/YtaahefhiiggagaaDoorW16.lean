/- inner. -/
import Derived.Test.YtaahefhiiggagaaDoorW15
import Derived.Test.YtaahefhiiggagaaDoorS1W8
namespace Go.Proofs.YtaahefhiiggagaaDoor
open Go.RowKit
open S5 (nl nl_length nl_small at_nl nl_at Rd Sp Gives Two errV nl_strN nl_inj nl_append sp_small Bld)
open S1 (Blk4 SetBox wd noS oneS spanS orS notS minusS listS spU eqB el spAll spCells)
theorem el_one (c : Nat) : ∀ p, el (oneS c) p = if c < p then [c] else [] := by
  intro p
  induction p with
  | zero => rfl
  | succ p ih =>
    by_cases h : p = c
    · subst h
      rw [S1.el_snoc_hit (by simp [oneS]), ih, if_neg (by omega), if_pos (by omega)]
      rfl
    · rw [S1.el_snoc_miss (by simpa [oneS] using h), ih]
      by_cases h2 : c < p
      · rw [if_pos h2, if_pos (by omega)]
      · rw [if_neg h2, if_neg (by omega)]
theorem txtB_one {c : Nat} (hc : c ≤ 255) : txtB (oneS c) = 91 :: (pi c ++ [93]) := by
  have he : el (oneS c) 256 = [c] := by rw [el_one, if_pos (by omega)]
  have hn : neg (oneS c) = false := by unfold neg; rw [he]; rfl
  have hr : rng (oneS c) = [(c, c)] := by
    unfold rng
    rw [hn]
    simp only [Bool.false_eq_true, if_false]
    rw [he]
    have := S1.spAll_snoc [] c
    simp only [List.nil_append] at this
    rw [this, show spAll [] = [] from rfl, S1.spA_nil, Nat.mod_eq_of_lt (by omega)]
  unfold txtB
  rw [hn, hr]
  simp [itms, itm]
/-- The items of single bytes. -/
def cati (l : List Nat) : List Nat := l.flatMap pi
theorem cati_take {l : List Nat} {k : Nat} (h : k < l.length) : cati (l.take (k + 1)) = cati (l.take k) ++ pi l[k] := by
  rw [List.take_succ_eq_append_getElem h]
  unfold cati
  rw [List.flatMap_append, List.flatMap_cons, List.flatMap_nil, List.append_nil]
theorem cut_txt {c : Nat} (hc : c ≤ 255) : (strN (txtB (oneS c))).extract 1 ((pi c).length + 1) = strN (pi c) := by
  rw [txtB_one hc]
  apply ByteArray.ext
  apply Array.toList_inj.1
  unfold strN
  simp [strOfNums_data]
/-- A row of bytes in memory. -/
def BRow (w : World) (g : Nat) (l : List Nat) : Prop := ∃ cs, w.heap[g]? = some (.cells cs 5 (0, 0)) ∧ ∀ k (h : k < l.length), cs[k]? = some (.int .u8 (l[k] : Nat))
theorem BRow.bel {w w' : World} {g : Nat} {l : List Nat} (h : BRow w g l) (hb : Bel w w') : BRow w' g l := by
  obtain ⟨cs, h1, h2⟩ := h
  exact ⟨cs, (Below.block hb g (lt_of_block h1)).trans h1, h2⟩
theorem BRow.cell {w : World} {g : Nat} {l : List Nat} (h : BRow w g l) {k : Nat} (hk : k < l.length) : w.cell? ⟨g, k, none⟩ = some (.int .u8 (l[k] : Nat)) := by
  obtain ⟨cs, h1, h2⟩ := h
  rw [cell_of_row w g _ _ _ (0, 0) h1]
  simpa using h2 k hk
/-- What List gives back. -/
def GivesBRow (w : World) (l : List Nat) (e : Ending) (w' : World) : Prop := ∃ g cap, e = .returned (.slice (some ⟨g, 0, none⟩) l.length cap) ∧ l.length ≤ cap ∧ BRow w' g l ∧ Below w.heap.size w w'
theorem list_row (f : Nat → Bool) (hne : el f 256 ≠ []) (w : World) (hT : S1.Tab w) : Calls Tryd.prog 35 #[(.agg #[.int .u64 (S1.wd (f) 0), .int .u64 (S1.wd (f) 1), .int .u64 (S1.wd (f) 2), .int .u64 (S1.wd (f) 3)])] w (GivesBRow w (el f 256)) := by
  refine (S1.list_in f w hT).mono ?_
  rintro e w' ⟨v, rfl, hrow, hb⟩
  generalize el f 256 = l at *
  have hpos : l.length ≠ 0 := by simpa using hne
  rcases hrow.2 with ⟨_, h0⟩ | ⟨g, cap, cur, hv, _, hg, hcap, r⟩
  · exact absurd h0 hpos
  · subst hv
    refine ⟨g, cap, rfl, hcap, ⟨cur, hg, fun k hk => ?_⟩, hb⟩
    have h1 := hrow.cellAt k (by omega)
    rw [cell_of_row w' g _ _ _ (0, 0) hg] at h1
    simpa [List.getElem?_eq_getElem hk] using h1
theorem cati_len {m : List Nat} (hm : ∀ x ∈ m, x ≤ 255) : (cati m).length ≤ 4 * m.length := by
  induction m with
  | nil => simp [cati]
  | cons c m ih =>
    have h1 := pi_len (hm c (by simp))
    have h2 := ih fun x hx => hm x (by simp [hx])
    have e : cati (c :: m) = pi c ++ cati m := by simp [cati]
    rw [e, List.length_append, List.length_cons]
    omega
theorem cati_small {m : List Nat} (hm : ∀ x ∈ m, x ≤ 255) : ∀ x ∈ cati m, x ≤ 255 := by
  intro x hx
  obtain ⟨c, hc, hx⟩ := List.mem_flatMap.1 hx
  exact pi_small (hm c hc) x hx
set_option maxRecDepth 10000 in
set_option maxHeartbeats 4000000 in
theorem inner_aux (f : Nat → Bool) {l : List Nat} (hl : el f 256 = l) (hne : l ≠ []) (w : World) (hTab : S1.Tab w) :
    Calls Tryd.prog 18 #[(.agg #[.int .u64 (S1.wd (f) 0), .int .u64 (S1.wd (f) 1), .int .u64 (S1.wd (f) 2), .int .u64 (S1.wd (f) 3)])] w fun e w' => e = .returned (.string (strN (cati l))) ∧ Below w.heap.size w w' := by
  have cL : ∀ w', Below w.heap.size w w' → Calls Tryd.prog 35 #[(.agg #[.int .u64 (S1.wd (f) 0), .int .u64 (S1.wd (f) 1), .int .u64 (S1.wd (f) 2), .int .u64 (S1.wd (f) 3)])] w' (GivesBRow w' l) := fun w' hb => by
    rw [← hl] at hne ⊢
    exact list_row f hne w' (hTab.below hb hTab.1)
  have hln := S1.el_len f 256
  have hsm : ∀ x ∈ el f 256, x ≤ 255 := fun x hx => by have := (S1.el_mem.1 hx).1; omega
  rw [hl] at hln hsm
  replace cL := Lib.hid cL
  replace hsm := Lib.hid hsm
  replace hTab := Lib.hid hTab
  clear hne hl
  go_enter Tryd.func18, Tryd.ntmps18
  go_wp2_with fail
  obtain ⟨W, hW, bx, hB⟩ := S1.boxes1 w 24 (.int .u64 (S1.wd (f) 0)) (.int .u64 (S1.wd (f) 1)) (.int .u64 (S1.wd (f) 2)) (.int .u64 (S1.wd (f) 3))
  rw [hW]
  clear hW
  obtain ⟨⟨g0, g1, g2, g3⟩, -⟩ := bx.facts
  go_wp2_with (go_at_call 35; (with_reducible refine (cL.out _ hB).mono ?_); rintro e w1 ⟨gs, cap, rfl, hcap, hrow, h1⟩; replace bx := bx.bel h1; replace hB := hB.trans (h1.mono hB.size); replace hrow := Lib.hid hrow; clear h1)
  clear g0 g1 g2 g3 cL bx
  replace hB := Lib.hid hB
  have h0 : (⟨#[]⟩ : ByteArray) = strN (cati (l.take 0)) := by simp [cati]; decide
  rw [h0]
  clear h0
  go_loopw [3, 10] (fun v i wr => ∃ k : Nat, k ≤ l.length ∧ i = .int .i64 k ∧ v = .string (strN (cati (l.take k))) ∧ Hid (Below w.heap.size w wr) ∧ Hid (BRow wr gs l)) (fun _ i _ => l.length - (intOf i).toNat)
  case atStart => exact ⟨0, Nat.zero_le _, rfl, rfl, hB, hrow⟩
  case round =>
    clear hB hrow
    obtain ⟨k, hk, rfl, rfl, hB, hrow⟩ := hrel
    by_cases hlt : k < l.length
    · have hc8 := hsm.out l[k] (List.getElem_mem hlt)
      have hcell := hrow.out.cell hlt
      have hval : strN (cati (l.take (k + 1))) = strN (cati (l.take k)) ++ strN (pi l[k]) := by rw [cati_take hlt, strN_app]
      replace hval := Lib.hid hval
      generalize l[k] = c at *
      have cO := Lib.hid (fun w => S1.one_in c hc8 w)
      have cT := Lib.hid (fun w' (hb : Below w.heap.size w w') => text_in (oneS c) w' (hTab.out.below hb hTab.out.1))
      have hps : (strN (txtB (oneS c))).size = (pi c).length + 2 := by rw [strN_size, txtB_one hc8]; simp
      have hpl := pi_len hc8
      have hcut := cut_txt hc8
      generalize strN (txtB (oneS c)) = P at *
      have szq := pi_sz hc8
      generalize strN (pi c) = Q at *
      generalize (pi c).length = q at *
      have hsl : ∀ w, (Instr.slice 9 (.string P) (some (.int .i64 1)) (some (.int .i64 ((P.size : Int) - 1))) none).run Tryd.prog w = .ok (.string Q) w := fun w => by
        have := run_slice_string (P := Tryd.prog) (w := w) 9 P .i64 .i64 1 ((P.size : Int) - 1) Tryd.underlying9 (by omega) (by omega) (by omega)
        rw [this, show ((1 : Int)).toNat = 1 from rfl, show ((P.size : Int) - 1).toNat = q + 1 by omega, hcut]
      have hp2 : 2 ≤ P.size := by omega
      have hp6 : P.size ≤ 100 := by omega
      clear hcut hps hpl
      have sz0 : (strN (cati (l.take k))).size ≤ 1024 := by rw [strN_size]; have := cati_len (m := l.take k) (fun x hx => hsm.out x (List.mem_of_mem_take hx)); simp at this; omega
      generalize strN (cati (l.take k)) = S0 at *
      go_wp2_with (first | (go_at_call 15; (with_reducible refine (cO.out _).mono ?_); rintro e w2 ⟨rfl, h1⟩; replace hB := Lib.hid (hB.out.trans (h1.mono hB.out.size)); replace hrow := Lib.hid (hrow.out.bel h1); clear h1) | (go_at_call 7; (with_reducible refine (cT.out _ hB.out).mono ?_); rintro e w3 ⟨rfl, h1⟩; replace hB := Lib.hid (hB.out.trans (h1.mono hB.out.size)); replace hrow := Lib.hid (hrow.out.bel h1); clear h1))
      go_roundw
      case rel => exact ⟨k + 1, by omega, by go_num, by rw [hval.out], hB, hrow⟩
      case measure => simp [intOf]; omega
    · obtain rfl : k = l.length := by omega
      have hall : l.take l.length = l := List.take_of_length_le (Nat.le_refl _)
      rw [hall]
      clear hall
      go_wp2
      go_ret
      exact ⟨rfl, hB.out⟩
theorem inner_in (f : Nat → Bool) (hne : el f 256 ≠ []) (w : World) (hTab : S1.Tab w) :
    Calls Tryd.prog 18 #[(.agg #[.int .u64 (S1.wd (f) 0), .int .u64 (S1.wd (f) 1), .int .u64 (S1.wd (f) 2), .int .u64 (S1.wd (f) 3)])] w fun e w' => e = .returned (.string (strN (cati (el f 256)))) ∧ Below w.heap.size w w' := inner_aux f rfl hne w hTab
end Go.Proofs.YtaahefhiiggagaaDoor
