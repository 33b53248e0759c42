/- WriteString, String; Text. -/
import Derived.Test.YtgkjjcnopkiogaaDoorW9
namespace Go.Proofs.YtgkjjcnopkiogaaDoor
open Go.RowKit
theorem strCells_nl (s : ByteArray) : Lib.strCells s = (nl s).map encN := by
  unfold Lib.strCells nl encN
  rw [List.map_map]
  rfl
theorem Bld.lt {B b : Nat} {l : List Nat} {w : World} (h : Bld B b l w) : b < w.heap.size := by
  obtain ⟨p, _, h⟩ := h
  exact h.lt
theorem Bld.bel {B b : Nat} {l : List Nat} {w w' : World} (h : Bld B b l w) (hb : Below w.heap.size w w') : Bld B b l w' := by
  obtain ⟨p, hp, h1, v, h2, h3, h4⟩ := h
  exact ⟨p, hp, h1, v, (hb.block b (lt_of_block h2)).trans h2, ownsRow_bel h3 hb, h4⟩
theorem check_in {B b : Nat} {l : List Nat} (w : World) (h : Bld B b l w) :
    Calls Tryd.prog 33 #[.pointer (some ⟨b, 0, none⟩)] w fun e w' => e = .returned (.tuple #[]) ∧ Lib.BuilderAt 46 5 B b (.pointer (some ⟨b, 0, none⟩)) (l.map encN) w' ∧ Below B w w' := by
  obtain ⟨p, hp, h⟩ := h
  rcases hp with rfl | rfl
  · refine (check_fresh w h.cell0 h.shape h.frozen0).mono ?_
    rintro e w' ⟨rfl, rfl⟩
    exact ⟨rfl, h.used _, (Below.refl B w).setCell (p := ⟨b, 0, none⟩) h.1 _⟩
  · refine (check_used w h.cell0).mono ?_
    rintro e w' ⟨rfl, rfl⟩
    exact ⟨rfl, h, Below.refl B _⟩
theorem write_in {B b : Nat} {l m : List Nat} {s : ByteArray} (w : World) (h : Bld B b l w) (hm : nl s = m) (hl : l.length ≤ 100000) (hs : s.size ≤ 100000) (hB : B ≤ w.heap.size) :
    Calls Tryd.prog 24 #[.pointer (some ⟨b, 0, none⟩), .string s] w fun e w' => e = .returned (.tuple #[.int .i64 s.size, .nilIface]) ∧ Bld B b (l ++ m) w' ∧ Below B w w' := by
  obtain ⟨i0, hi, hz0, hz1, hz2⟩ := info_parts info5
  have C := Lib.hid (check_in w h)
  have hms := strCells_nl s
  rw [hm] at hms
  replace hms := Lib.hid hms
  replace hi := Lib.hid hi
  replace hz0 := Lib.hid hz0
  replace hz1 := Lib.hid hz1
  replace hz2 := Lib.hid hz2
  clear h hm
  go_enter Tryd.func24, Tryd.ntmps24
  go_wp2_with (go_at_call 33; (with_reducible refine C.out.mono ?_))
  rintro e w1 ⟨rfl, h1, hb1⟩
  obtain ⟨hB1, v, hbk, hown, hne⟩ := h1
  have c0 : w1.cell? ⟨b, 0, none⟩ = some (.pointer (some ⟨b, 0, none⟩)) := by rw [Lib.cell_of_heap hbk]; rfl
  have c1 : w1.cell? ⟨b, 1, none⟩ = some v := by rw [Lib.cell_of_heap hbk]; rfl
  have hlt := lt_of_block hbk
  replace hown := Lib.hid hown
  replace hbk := Lib.hid hbk
  replace hne := Lib.hid hne
  replace hb1 := Lib.hid hb1
  go_wp2_with (at_builtin; refine Lib.wpList_append_own_string _ rfl _ _ 34 9 rfl B 5 i0 Tryd.underlying34 Tryd.underlying9 hi.out hz0.out hz1.out hz2.out _ _ _ rfl hown.out s rfl ?c3 ?c4 ?c5 ?_)
  case c3 => unfold maxLen; simp; omega
  case c4 => simp; omega
  case c5 => have := hb1.out.size; omega
  intro v' w2 hown' hgrow _
  have hb2 : w2.heap[b]? = some (.cells #[.pointer (some ⟨b, 0, none⟩), v] 46 (0, 0)) := by
    rw [hgrow.block b hlt (fun e => hne.out e.symm)]
    exact hbk.out
  have d0 : w2.cell? ⟨b, 0, none⟩ = some (.pointer (some ⟨b, 0, none⟩)) := by rw [Lib.cell_of_heap hb2]; rfl
  have d1 : w2.cell? ⟨b, 1, none⟩ = some v := by rw [Lib.cell_of_heap hb2]; rfl
  have f1 : w2.frozen? ⟨b, 1, none⟩ = false := Lib.frozen_of_heap hb2 1
  obtain ⟨ao, n', cap, rfl⟩ : ∃ ao n' cap, v' = .slice ao n' cap := by
    rcases hown'.2 with ⟨hv, _⟩ | ⟨g, cap, cur, hv, _⟩
    · exact ⟨_, _, _, hv⟩
    · exact ⟨_, _, _, hv⟩
  replace hgrow := Lib.hid hgrow
  replace hb2 := Lib.hid hb2
  replace hown' := Lib.hid hown'
  clear c0 c1
  go_wp2
  go_ret2
  have hown2 := hown'.out
  rw [hms.out, ← List.map_append] at hown2
  refine ⟨rfl, ⟨_, .inr rfl, Lib.BuilderAt.put hB1 hb2.out ?_ (by decide)⟩, ?_⟩
  · have hz : l.length + s.size = ((l ++ m).map encN).length := by
      have := congrArg List.length hms.out
      rw [Lib.strCells_length] at this
      simp at this ⊢
      omega
    rw [← hz]
    exact hown2
  · exact (hb1.out.grown hgrow.out (by have := hb1.out.size; omega) (fun k hk => (hown.out.lt k hk).1)).setCell (p := ⟨b, 1, none⟩) hB1 _
theorem string_in {B b : Nat} {l : List Nat} (w : World) (h : Bld B b l w) (hne0 : l ≠ []) (hs : ∀ x ∈ l, x ≤ 255) :
    Calls Tryd.prog 25 #[.pointer (some ⟨b, 0, none⟩)] w fun e w' => e = .returned (.string (strN l)) ∧ Below B w w' := by
  obtain ⟨p, hp, hB, v, hbk, hown, hne⟩ := h
  have hl0 : l.length ≠ 0 := by simpa using hne0
  obtain ⟨g, cap, cur, rfl, hbg, hg, hnc, hcm, hcs, htake⟩ : ∃ g cap cur, v = .slice (some ⟨g, 0, none⟩) l.length cap ∧ B ≤ g ∧ w.heap[g]? = some (.cells cur 5 (0, 0)) ∧ l.length ≤ cap ∧ cap ≤ maxLen ∧ cur.size = cap * 1 ∧ cur.toList.take (l.length * 1) = l.map encN := by
    rcases hown.2 with ⟨_, hz⟩ | ⟨g, cap, cur, hv, r⟩
    · exact absurd hz (by simpa using hl0)
    · exact ⟨g, cap, cur, by simpa using hv, by simpa using r⟩
  have c1 : w.drew.cell? ⟨b, 1, none⟩ = some (.slice (some ⟨g, 0, none⟩) l.length cap) := by
    have : w.drew.heap[b]? = some (.cells #[p, .slice (some ⟨g, 0, none⟩) l.length cap] 46 (0, 0)) := hbk
    rw [Lib.cell_of_heap this]; rfl
  have hSD : (Builtin.unsafeSliceData_ #[34] 55 #[.slice (some ⟨g, 0, none⟩) l.length cap]).run Tryd.prog w.drew = .ok (.pointer (some ⟨g, 0, none⟩)) w.drew :=
    Lib.run_unsafeSliceData_row _ _ _ _ _ _ (by omega)
  have hst : (⟨(l.map fun c => UInt8.ofNat c).toArray⟩ : ByteArray) = strN l := by
    apply ByteArray.ext
    apply Array.toList_inj.1
    unfold strN
    rw [strOfNums_data]
    simp
  have hUS : (Builtin.unsafeString_ #[55, 3] 9 #[.pointer (some ⟨g, 0, none⟩), .int .i64 l.length]).run Tryd.prog w.drew = .ok (.string (strN l)) (w.drew.freeze ⟨g, 0, none⟩ l.length) := by
    rw [← hst]
    have hsh : w.drew.shape? g = some (5, cur.size) := by
      have hg' : w.drew.heap[g]? = some (.cells cur 5 (0, 0)) := hg
      simp [World.shape?, hg']
    have := Lib.run_unsafeString_row (P := Tryd.prog) w.drew 55 3 9 5 Tryd.underlying55 (by kernel_rfl) g cur.size hsh (l.map fun c => UInt8.ofNat c) (by simpa using hne0) (by simp; omega) (by simp; unfold maxLen at hcm; omega) ?_
    · simpa using this
    · intro j x hx
      rw [List.getElem?_map] at hx
      cases hj : l[j]? with
      | none => rw [hj] at hx; simp at hx
      | some y =>
        rw [hj] at hx
        simp at hx
        subst hx
        have hy := hs y (List.mem_of_getElem? hj)
        have h2 := hown.cells (g := g) rfl j (encN y) (by rw [List.getElem?_map, hj]; rfl)
        have e : (((UInt8.ofNat y).toNat : Nat) : Int) = (y : Int) := by rw [UInt8.toNat_ofNat']; omega
        rw [e]
        exact h2
  clear hst hp hs hne0
  replace hown := Lib.hid hown
  replace hne := Lib.hid hne
  replace htake := Lib.hid htake
  replace hcs := Lib.hid hcs
  replace hl0 := Lib.hid hl0
  go_enter Tryd.func25, Tryd.ntmps25
  go_wp2
  go_region
  all_goals (go_wp2; go_ret; exact ⟨rfl, Lib.below_freeze (Below.drew (Below.refl B w)) (p := ⟨g, 0, none⟩) hbg _⟩)
theorem string_nil {b : Nat} {p : Value} (w : World) (hbk : w.heap[b]? = some (.cells #[p, .slice none 0 0] 46 (0, 0))) :
    Calls Tryd.prog 25 #[.pointer (some ⟨b, 0, none⟩)] w fun e w' => e = .returned (.string (strN [])) ∧ Below w.heap.size w w' := by
  have c1 : w.drew.cell? ⟨b, 1, none⟩ = some (.slice none 0 0) := by
    have : w.drew.heap[b]? = some (.cells #[p, .slice none 0 0] 46 (0, 0)) := hbk
    rw [Lib.cell_of_heap this]; rfl
  have hSD : (Builtin.unsafeSliceData_ #[34] 55 #[.slice none 0 0]).run Tryd.prog w.drew = .ok (.pointer none) w.drew := rfl
  have hUS : (Builtin.unsafeString_ #[55, 3] 9 #[.pointer none, .int .i64 0]).run Tryd.prog w.drew = .ok (.string (strN [])) w.drew := Lib.run_unsafeString_none w.drew _ _ _ none
  go_enter Tryd.func25, Tryd.ntmps25
  go_wp2
  go_region
  all_goals (go_wp2; go_ret; exact ⟨rfl, Below.drew (Below.refl _ _)⟩)
/-! ### Text -/
/-- How a byte is written outside brackets. -/
def pl (c : Nat) : List Nat :=
  if c = 10 then [92, 110] else if c = 9 then [92, 116] else if c = 13 then [92, 114] else if c = 32 then [92, 115]
  else if c ∈ out then [92, c] else if 33 ≤ c ∧ c ≤ 126 then [c] else [92, 120, hx (c / 16), hx (c % 16)]
theorem pl_sp {c : Nat} (hc : c ≤ 255) : Sp out c (pl c) := by
  unfold pl
  split
  · rename_i h; subst h; exact .blank _ _ (by decide)
  split
  · rename_i h; subst h; exact .blank _ _ (by decide)
  split
  · rename_i h; subst h; exact .blank _ _ (by decide)
  split
  · rename_i h; subst h; exact .blank _ _ (by decide)
  split
  · rename_i h
    have := ex_mid (.inl rfl) c h
    exact .esc c h this.1 this.2.1
  split
  · rename_i h1 h2; exact .self c h1 h2.1 h2.2
  · exact .hex c (by assumption) (by assumption) (by assumption) (by assumption) (by assumption) (by omega) hc
def txt (l : List Nat) : List Nat := l.flatMap pl
theorem txt_snoc (l : List Nat) (c : Nat) : txt (l ++ [c]) = txt l ++ pl c := by simp [txt]
theorem txt_small {l : List Nat} (h : ∀ x ∈ l, x ≤ 255) : ∀ x ∈ txt l, x ≤ 255 := by
  intro x hx
  obtain ⟨c, hc, hx⟩ := List.mem_flatMap.1 hx
  exact sp_small (pl_sp (h c hc)) x hx
theorem txt_len {l : List Nat} (h : ∀ x ∈ l, x ≤ 255) : l.length ≤ (txt l).length ∧ (txt l).length ≤ 4 * l.length := by
  induction l with
  | nil => simp [txt]
  | cons c l ih =>
    have h1 := sp_length (pl_sp (h c (by simp)))
    have h2 := ih fun x hx => h x (by simp [hx])
    have e : txt (c :: l) = pl c ++ txt l := by simp [txt]
    rw [e]
    simp
    omega
set_option maxRecDepth 10000 in
theorem text_in {w : World} {a : Option Addr} {n c : Nat} {l : List Nat} (h : Src w a n c l) (hn : n ≤ 1000) :
    Calls Tryd.prog 15 #[.slice a n c] w fun e w' => e = .returned (.string (strN (txt l))) ∧ Below w.heap.size w w' := by
  have hl := h.len
  have hsm := h.small
  obtain ⟨b, hb⟩ : ∃ b, w.heap.size = b := ⟨_, rfl⟩
  have hstart : Bld b b [] (w.alloc (.cells #[.pointer none, .slice none 0 0] 46)) := by
    rcases Lib.fresh_isBuilder 46 5 w with h1 | h1
    · rw [hb] at h1; exact ⟨_, .inl rfl, h1⟩
    · rw [hb] at h1; exact ⟨_, .inr rfl, h1⟩
  have hbel0 : Bel w (w.alloc (.cells #[.pointer none, .slice none 0 0] 46)) := Bel.new w _
  have hblk : (w.alloc (.cells #[.pointer none, .slice none 0 0] 46)).heap[b]? = some (.cells #[.pointer none, .slice none 0 0] 46 (0, 0)) := by rw [← hb]; exact World.alloc_heap_new w _
  by_cases h0 : n = 0
  · subst h0
    obtain rfl : l = [] := List.length_eq_zero_iff.1 hl
    have cS := Lib.hid (string_nil _ hblk)
    replace hbel0 := Lib.hid hbel0
    clear hl hsm hstart hblk h hn
    go_enter Tryd.func15, Tryd.ntmps15
    rw [← hb] at cS
    clear hb
    go_wp2
    refine wp_loop_rounds 1 ?_
    rw [rounds_succ]
    go_wp2_with (go_at_call 25; (with_reducible refine cS.out.mono ?_); rintro e w2 ⟨rfl, hb⟩)
    go_ret
    exact ⟨rfl, hbel0.out.step hb⟩
  have hn0 : 0 < n := by omega
  obtain ⟨bk, off, rfl, hcell⟩ := h.at hn0
  have hcell2 := Lib.hid (fun w' (hq : Bel w w') j (hj : j < l.length) => hq.cell (World.block_lt_of_cell? _ _ (hcell j hj)) (hcell j hj))
  have cP := Lib.hid (fun j (hj : j < l.length) w' => plain_in (pl_sp (hsm l[j] (List.getElem_mem hj))) w')
  have cW := Lib.hid (fun j (hj : j < l.length) w' (hq : Bel w w') (hB : Bld b b (txt (l.take j)) w') =>
    write_in w' hB (nl_strN (sp_small (pl_sp (hsm l[j] (List.getElem_mem hj)))))
      (by have := (txt_len (l := l.take j) fun x hx => hsm x (List.mem_of_mem_take hx)).2; rw [List.length_take] at this; omega)
      (by rw [strN_size]; have := (sp_length (pl_sp (hsm l[j] (List.getElem_mem hj)))).2; omega) (by have := Below.size hq; rw [hb] at this; exact this))
  have hsn : ∀ j (hj : j < l.length), txt (l.take (j + 1)) = txt (l.take j) ++ pl l[j] := fun j hj => by
    rw [List.take_succ_eq_append_getElem hj, txt_snoc]
  replace hsn := Lib.hid hsn
  have cS := Lib.hid (fun w' (hB : Bld b b (txt l) w') => string_in w' hB (fun e => by have := (txt_len hsm).1; rw [e, List.length_nil] at this; omega) (txt_small hsm))
  have hall : l.take n = l := by rw [List.take_of_length_le (by omega)]
  replace hall := Lib.hid hall
  have h00 : txt (l.take 0) = [] := rfl
  rw [← h00] at hstart
  replace hstart := Lib.hid hstart
  replace hbel0 := Lib.hid hbel0
  replace hl := Lib.hid hl
  have hb2 := Lib.hid hb
  clear hb hblk h00 h0 h hcell hsm
  go_enter Tryd.func15, Tryd.ntmps15
  go_wp2
  rw [hb2.out]
  go_loopw [8] (fun i w' => ∃ k : Nat, k ≤ n ∧ i = .int .i64 k ∧ Hid (Bel w w') ∧ Hid (Bld b b (txt (l.take k)) w')) (fun i _ => n - (intOf i).toNat)
  case atStart => exact ⟨0, Nat.zero_le _, rfl, hbel0, hstart⟩
  case round =>
    clear hbel0 hstart
    obtain ⟨k, hk, rfl, hq, hB⟩ := hrel
    by_cases hlt : k < n
    · have hkl : k < l.length := by have := hl.out; omega
      have hcl := hcell2.out _ hq.out k hkl
      have p1 := Lib.hid (cP.out k hkl)
      have p2 := Lib.hid (cW.out k hkl)
      have hsk := Lib.hid (hsn.out k hkl)
      generalize l[k] = y at *
      go_wp2_with (first
        | (go_at_call 7; (with_reducible refine (p1.out _).mono ?_); rintro e w1 ⟨rfl, hb⟩; replace hB := Lib.hid (hB.out.bel hb); replace hq := Lib.hid (hq.out.step hb); clear hb)
        | (go_at_call 24; (with_reducible refine (p2.out _ hq.out hB.out).mono ?_); rintro e w1 ⟨rfl, hB2, hb⟩; replace hB2 := Lib.hid hB2; replace hb := Lib.hid hb))
      go_roundw
      case rel => exact ⟨k + 1, by omega, by go_num, Lib.hid (hq.out.trans (by rw [hb2.out]; exact hb.out)), Lib.hid (by rw [hsk.out]; exact hB2.out)⟩
      case measure => simp [intOf]; omega
    · obtain rfl : k = n := by omega
      rw [hall.out] at hB
      have p3 := Lib.hid (cS.out _ hB.out)
      go_wp2_with (go_at_call 25; (with_reducible refine p3.out.mono ?_); rintro e w1 ⟨rfl, hb⟩; replace hb := Lib.hid hb)
      go_ret
      exact ⟨rfl, Below.trans hq.out (by rw [hb2.out]; exact hb.out)⟩
end Go.Proofs.YtgkjjcnopkiogaaDoor
