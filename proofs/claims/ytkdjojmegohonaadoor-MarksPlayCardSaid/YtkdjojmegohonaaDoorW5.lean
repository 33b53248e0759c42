/- Contracts of Key and List of the document's marks. -/
import Derived.Test.YtkdjojmegohonaaDoorW4
import Derived.OwnWalk
import Derived.Laws.BytesArg
import Derived.Maps.AppendAt
namespace Go.Proofs.YtkdjojmegohonaaDoor
open Go.RowKit
theorem row_form {w : World} {base : Nat} {e : TypeId} {size : Nat} {v : Value} {n : Nat} {xs : List Value} (h : w.ownsRow base e size v n xs) :
    ∃ (p : Option Addr) (cap : Nat), v = .slice p n cap ∧ (0 < n → ∃ g, p = some ⟨g, 0, none⟩ ∧ base ≤ g ∧ g < w.heap.size ∧ n ≤ cap ∧ ∀ j, j < n * size → w.cell? ⟨g, j, none⟩ = xs[j]?) := by
  rcases h.2 with ⟨h1, h2⟩ | ⟨g, cap, cur, hv2, hg, hh, hcap, r⟩
  · exact ⟨none, 0, by rw [h1, h2], fun h => by omega⟩
  · subst hv2
    exact ⟨some ⟨g, 0, none⟩, cap, rfl, fun _ => ⟨g, rfl, hg, (Array.getElem?_eq_some_iff.1 hh).1, hcap, fun j hj => h.cellAt j hj⟩⟩
def encN (c : Nat) : Value := .int .u8 (c : Int)
def encI (c : Nat) : Value := .int .i64 (c : Int)
def strN (ys : List Nat) : ByteArray := strOfNums (ys.map fun c : Nat => (c : Int))
theorem strN_size (ys : List Nat) : (strN ys).size = ys.length := by simp [strN, strOfNums_size]
theorem strN_inj {a b : List Nat} (ha : ∀ x ∈ a, x < 256) (hb : ∀ x ∈ b, x < 256) (h : strN a = strN b) : a = b := by
  have h1 : (strN a).data.toList = (strN b).data.toList := by rw [h]
  unfold strN at h1
  rw [strOfNums_data, strOfNums_data, List.map_map, List.map_map] at h1
  have hl : a.length = b.length := by simpa using congrArg List.length h1
  apply List.ext_getElem hl
  intro i hi hj
  have := congrArg (fun l => l[i]?) h1
  simp only [List.getElem?_map, List.getElem?_eq_getElem hi, List.getElem?_eq_getElem hj, Option.map_some, Function.comp_apply, Int.toNat_natCast, Option.some.injEq] at this
  have h3 := congrArg UInt8.toNat this
  rw [UInt8.toNat_ofNat', UInt8.toNat_ofNat'] at h3
  have := ha _ (List.getElem_mem hi)
  have := hb _ (List.getElem_mem hj)
  omega
theorem u52 : Tryd.prog.underlying 52 = some (.slice 5) := by kernel_rfl
theorem u37 : Tryd.prog.underlying 37 = some (.slice 3) := by kernel_rfl
theorem u9 : Tryd.prog.underlying 9 = some .string := by kernel_rfl
theorem u5' : Tryd.prog.underlying 5 = some (.int .u8) := by kernel_rfl
theorem info5 : (Tryd.prog.info? 5).map (fun i => (i.zero, i.size, i.bytes)) = some (some (.int .u8 0), 1, 1) := by kernel_rfl
theorem info3 : (Tryd.prog.info? 3).map (fun i => (i.zero, i.size, i.bytes)) = some (some (.int .i64 0), 1, 8) := by kernel_rfl
theorem conv_bytes {w : World} {base : Nat} {v : Value} {n : Nat} {ys : List Nat} (hn : ys.length = n) (h : w.ownsRow base 5 1 v n (ys.map encN)) :
    (convert 52 9 v).run Tryd.prog w = .ok (.string (strN ys)) w := by
  subst hn
  obtain ⟨p, cap, rfl, hc⟩ := row_form h
  rcases Nat.eq_zero_or_pos ys.length with h0 | h0
  · obtain rfl : ys = [] := List.length_eq_zero_iff.1 h0
    cases p with
    | none => rw [run_convert_bytes_nil w 52 5 u52 u5' _ _ 9 u9]; rfl
    | some a =>
      rw [run_convert_bytes_string w 52 9 5 (some a) _ cap u52 u5' u9]
      have := run_bytesToString (P := Tryd.prog) w a 0 cap [] (by simp [loadCells, loadCellsFrom])
      exact this
  · obtain ⟨g, rfl, _, _, hcap, hcell⟩ := hc h0
    refine run_convert_bytes_arg w 52 5 u52 u5' g 0 ys.length cap _ (by simp) (fun i hi => ?_) 9 u9
    rw [Nat.zero_add, hcell i (by omega)]
    simp [hi, encN]
theorem ownsRow_bel {w w' : World} {base : Nat} {e : TypeId} {size : Nat} {v : Value} {n : Nat} {xs : List Value} (h : w.ownsRow base e size v n xs) (hb : Below w.heap.size w w') : w'.ownsRow base e size v n xs := by
  refine ⟨h.1, ?_⟩
  rcases h.2 with h1 | ⟨g, cap, cur, hv, hg, hh, r⟩
  · exact .inl h1
  · exact .inr ⟨g, cap, cur, hv, hg, (hb.block g (Array.getElem?_eq_some_iff.1 hh).1).trans hh, r⟩
theorem below_grown {a w w1 : World} {B : Nat} {e : TypeId} {size : Nat} {v : Value} {n : Nat} {xs : List Value} {tmp : Obj} (h : Below B a w) (hB : B ≤ w.heap.size)
    (hrow : w.ownsRow B e size v n xs) (hg : (w.alloc tmp).grownBy w1 v.ownBlock) : Below B a w1 :=
  (h.alloc hB tmp).grown hg (by simp; omega) fun k ek => (hrow.lt k ek).1
theorem cell_four_new (w : World) (x0 x1 x2 x3 : Value) (t : TypeId) : ∀ j u, [x0, x1, x2, x3][j]? = some u → (w.alloc (.cells #[x0, x1, x2, x3] t)).cell? ((⟨w.heap.size, 0, none⟩ : Addr).add j) = some u := by
  intro j u hj
  match j, hj with
  | 0, hj => simp at hj; subst hj; simp [Addr.add]
  | 1, hj => simp at hj; subst hj; simp [Addr.add]
  | 2, hj => simp at hj; subst hj; simp [Addr.add]
  | 3, hj => simp at hj; subst hj; simp [Addr.add]
  | n + 4, hj => simp at hj

/-- The next member, behind those of l. -/
def NextIs (f : Nat → Bool) (n : Nat) (l : List Nat) (r : Int) : Prop := (∃ j : Nat, r = j ∧ j < n ∧ f j = true ∧ l = mem f j) ∨ (r = -1 ∧ l = mem f n)
theorem next_of {f : Nat → Bool} {n s : Nat} {r : Int} (h : AfterIs f n s r) (hs : s ≤ n) : NextIs f n (mem f s) r := by
  rcases h with ⟨j, e, h1, h2, h3, h4⟩ | ⟨e, h1⟩
  · exact .inl ⟨j, e, h2, h3, (mem_skip j h1 h4).symm⟩
  · exact .inr ⟨e, (mem_skip n hs fun x a _ => h1 x a).symm⟩
theorem next_step {f : Nat → Bool} {n j : Nat} {r : Int} (hf : f j = true) (hj : j < n) (h : AfterIs f n (j + 1) r) : NextIs f n (mem f j ++ [j]) r := by
  rw [← mem_hit hf]; exact next_of h hj
theorem sOf_nat (j : Nat) : sOf j = j + 1 := by unfold sOf; omega
theorem sOf_m1 : sOf (-1) = 0 := rfl
theorem u8_b (x : Nat) : IntKind.u8.wrap (x : Int) = ((x % 256 : Nat) : Int) := by rw [IntKind.wrap_u8]; omega

/-- How far the loop over the members still has to go. -/
def togo (n : Nat) (v : Value) : Nat := if intOf v < 0 then 0 else n + 1 - (intOf v).toNat
theorem four_eq {j : Nat} (hj : j < 65536) : (b4 j).map encN = [.int .u8 ((j : Int) / 16777216), .int .u8 ((j : Int) / 65536), .int .u8 ((j : Int) / 256), .int .u8 ((j : Int) % 256)] := by
  simp only [b4, List.map_cons, List.map_nil, encN, List.cons.injEq, Value.int.injEq, true_and, and_true]
  omega
theorem togo_lt {n j : Nat} {r : Int} (hj : j < n) (hr : r < 0 ∨ (j : Int) < r) : togo n (.int .i64 r) < togo n (.int .i64 j) := by
  have e1 : intOf (.int .i64 r) = r := rfl
  have e2 : intOf (.int .i64 j) = j := rfl
  unfold togo
  rw [e1, e2, if_neg (by omega : ¬ (j : Int) < 0)]
  split <;> omega
section
variable {w : World} {b g n : Nat} {f : Nat → Bool}
set_option maxHeartbeats 1000000 in
theorem key_in (h : Mk w b g n f) (hT : Tab w) : Calls Tryd.prog 19 #[.pointer (some ⟨b, 0, none⟩)] w fun e w' => e = .returned (.string (strN (keyN (mem f n)))) ∧ Below w.heap.size w w' := by
  obtain ⟨i0, hi, hz0, hz1, hz2⟩ := info_parts info5
  obtain ⟨r0, hr0⟩ := after_ex h.top 0
  have A0 := fun w' (hb : Below w.heap.size w w') => after_in (h.bel hb (Nat.le_refl _)) (hT.below hb hT.1) (-1) (r := r0) (by rw [sOf_m1]; exact hr0)
  have L := len_in h
  have hcn := cnt_le f n
  have hle := h.le
  replace hr0 := Lib.hid (next_of hr0 (Nat.zero_le _))
  replace A0 := Lib.hid A0
  replace hT := Lib.hid hT
  replace h := Lib.hid h
  generalize hcc : cnt f n = c at *
  replace hcc := Lib.hid hcc
  go_enter Tryd.func19, Tryd.ntmps19
  go_wp2_with (first
    | (go_at_call 20; refine L.mono ?_; rintro e w' ⟨rfl, rfl⟩)
    | (at_make; go_loud (refine wpList_make_own _ rfl _ _ 52 rfl w.heap.size 5 i0 (.int .u8 0) 1 u52 hi hz0 hz1 .i64 .i64 _ (4 * c) rfl rfl (by omega) (by rw [hz2]; omega) (by simp [maxLen]; omega) (Nat.le_refl _) ?_); intro w1 hown hg1; have hb1 := below_of_grown hg1; clear hg1; replace hb1 := Lib.hid hb1)
    | (go_at_call 25; refine (A0.out _ hb1.out).mono ?_; rintro e w' ⟨rfl, rfl⟩))
  go_loopw [3, 4] (fun v i wr => ∃ (l : List Nat) (r : Int), i = .int .i64 r ∧ Hid (NextIs f n l r) ∧ wr.ownsRow w.heap.size 5 1 v (4 * l.length) ((keyN l).map encN) ∧ Below w.heap.size w wr) (fun _ i _ => togo n i)
  case atStart => exact ⟨mem f 0, r0, rfl, hr0, hown, hb1.out⟩
  case round =>
    clear hown hb1 hr0 A0
    obtain ⟨l, r, rfl, hnx, hrow, hB⟩ := hrel
    rcases hnx.out with ⟨j, rfl, hj, hfj, rfl⟩ | ⟨rfl, rfl⟩
    · have hll := mem_le f j
      obtain ⟨r', hr'⟩ := after_ex h.out.top (j + 1)
      have A1 := fun w' (hb : Below w.heap.size w w') => after_in (h.out.bel hb (Nat.le_refl _)) (hT.out.below hb hT.out.1) j (r := r') (by rw [sOf_nat]; exact hr')
      have hn2 := Lib.hid (next_step hfj hj hr')
      have hk2 := Lib.hid (keyN_snoc (mem f j) j)
      have hl2 : Hid ((mem f j ++ [j]).length = (mem f j).length + 1) := Lib.hid (by simp)
      have hm : r' < 0 ∨ (j : Int) < r' := by
        rcases hr' with ⟨a, e, q, _⟩ | ⟨e, _⟩ <;> omega
      replace A1 := Lib.hid A1
      clear hr' hnx hfj
      generalize mem f j = l at *
      generalize hks : (keyN l).map encN = ks at *
      replace hks := Lib.hid hks
      go_wp2_with (first
        | (at_builtin; go_loud (refine wpList_append_own _ rfl _ _ 52 rfl w.heap.size 5 i0 (.int .u8 0) 1 1 u52 hi hz0 hz1 hz2 rfl (by decide) _ _ _ rfl (hrow.alloc _) ⟨_, 0, none⟩ 4 4 [_, _, _, _] rfl rfl (cell_four_new _ _ _ _ _ _) (by simp [Value.oneCell']) (by simp [maxLen]; omega) (by omega) (by have := hB.size; simp; omega) ?_); intro v' w1 hown' hgrow _; replace hB := Lib.hid (below_grown hB hB.size hrow hgrow); replace hrow := Lib.hid hown'; clear hown' hgrow)
        | (go_at_call 25; refine (A1.out _ hB.out).mono ?_; rintro e w' ⟨rfl, rfl⟩))
      go_roundw
      case rel =>
        refine ⟨l ++ [j], r', rfl, hn2, ?_, hB.out⟩
        rw [hl2.out, hk2.out, List.map_append, hks.out, four_eq (by omega : j < 65536)]
        exact hrow.out
      case measure => exact togo_lt hj hm
    · replace hB := Lib.hid hB
      have hcv := conv_bytes (by rw [keyN_len]) hrow
      generalize hkk : strN (keyN (mem f n)) = S at *
      clear hrow hnx
      go_wp2
      go_ret
      exact ⟨by rw [hkk]; rfl, hB.out⟩
/-- 'It hands back a slice of its own that holds l.' -/
def GivesList (w0 : World) (l : List Nat) (e : Ending) (w' : World) : Prop := ∃ v, e = .returned v ∧ w'.ownsRow w0.heap.size 3 1 v l.length (l.map encI) ∧ Below w0.heap.size w0 w'
set_option maxHeartbeats 1000000 in
theorem list_in (h : Mk w b g n f) (hT : Tab w) : Calls Tryd.prog 24 #[.pointer (some ⟨b, 0, none⟩)] w fun e w' => GivesList w (mem f n) e w' := by
  obtain ⟨i0, hi, hz0, hz1, hz2⟩ := info_parts info3
  obtain ⟨r0, hr0⟩ := after_ex h.top 0
  have A0 := fun w' (hb : Below w.heap.size w w') => after_in (h.bel hb (Nat.le_refl _)) (hT.below hb hT.1) (-1) (r := r0) (by rw [sOf_m1]; exact hr0)
  have L := len_in h
  have hcn := cnt_le f n
  have hle := h.le
  replace hr0 := Lib.hid (next_of hr0 (Nat.zero_le _))
  replace A0 := Lib.hid A0
  replace hT := Lib.hid hT
  replace h := Lib.hid h
  unfold GivesList
  generalize hcc : cnt f n = c at *
  replace hcc := Lib.hid hcc
  go_enter Tryd.func24, Tryd.ntmps24
  go_wp2_with (first
    | (go_at_call 20; refine L.mono ?_; rintro e w' ⟨rfl, rfl⟩)
    | (at_make; go_loud (refine wpList_make_own _ rfl _ _ 37 rfl w.heap.size 3 i0 (.int .i64 0) 1 u37 hi hz0 hz1 .i64 .i64 _ c rfl rfl (by omega) (by rw [hz2]; omega) (by simp [maxLen]; omega) (Nat.le_refl _) ?_); intro w1 hown hg1; have hb1 := below_of_grown hg1; clear hg1; replace hb1 := Lib.hid hb1)
    | (go_at_call 25; refine (A0.out _ hb1.out).mono ?_; rintro e w' ⟨rfl, rfl⟩))
  go_loopw [3, 4] (fun v i wr => ∃ (l : List Nat) (r : Int), i = .int .i64 r ∧ Hid (NextIs f n l r) ∧ wr.ownsRow w.heap.size 3 1 v l.length (l.map encI) ∧ Below w.heap.size w wr) (fun _ i _ => togo n i)
  case atStart => exact ⟨mem f 0, r0, rfl, hr0, hown, hb1.out⟩
  case round =>
    clear hown hb1 hr0 A0
    obtain ⟨l, r, rfl, hnx, hrow, hB⟩ := hrel
    rcases hnx.out with ⟨j, rfl, hj, hfj, rfl⟩ | ⟨rfl, rfl⟩
    · have hll := mem_le f j
      obtain ⟨r', hr'⟩ := after_ex h.out.top (j + 1)
      have A1 := fun w' (hb : Below w.heap.size w w') => after_in (h.out.bel hb (Nat.le_refl _)) (hT.out.below hb hT.out.1) j (r := r') (by rw [sOf_nat]; exact hr')
      have hn2 := Lib.hid (next_step hfj hj hr')
      have hl2 : Hid ((mem f j ++ [j]).length = (mem f j).length + 1) := Lib.hid (by simp)
      have hm : r' < 0 ∨ (j : Int) < r' := by
        rcases hr' with ⟨a, e, q, _⟩ | ⟨e, _⟩ <;> omega
      replace A1 := Lib.hid A1
      clear hr' hnx hfj
      generalize mem f j = l at *
      generalize hks : l.map encI = ks at *
      replace hks := Lib.hid hks
      go_wp2_with (first
        | (at_builtin; go_loud (refine wpList_append_own _ rfl _ _ 37 rfl w.heap.size 3 i0 (.int .i64 0) 1 8 u37 hi hz0 hz1 hz2 rfl (by decide) _ _ _ rfl (hrow.alloc _) ⟨_, 0, none⟩ 1 1 [_] rfl rfl (cell_one_new _ _ _) (by simp [Value.oneCell']) (by simp [maxLen]; omega) (by omega) (by have := hB.size; simp; omega) ?_); intro v' w1 hown' hgrow _; replace hB := Lib.hid (below_grown hB hB.size hrow hgrow); replace hrow := Lib.hid hown'; clear hown' hgrow)
        | (go_at_call 25; refine (A1.out _ hB.out).mono ?_; rintro e w' ⟨rfl, rfl⟩))
      go_roundw
      case rel =>
        refine ⟨l ++ [j], r', rfl, hn2, ?_, hB.out⟩
        rw [hl2.out, List.map_append, hks.out]
        exact hrow.out
      case measure => exact togo_lt hj hm
    · replace hB := Lib.hid hB
      replace hrow := Lib.hid hrow
      clear hnx
      go_wp2
      go_ret
      exact ⟨_, rfl, hrow.out, hB.out⟩
end
end Go.Proofs.YtkdjojmegohonaaDoor
