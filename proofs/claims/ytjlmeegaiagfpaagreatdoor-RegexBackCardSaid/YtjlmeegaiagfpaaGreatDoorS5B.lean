/- Texts of earlier layers, merged: S5W9, S5W10. -/
import Derived.Test.YtjlmeegaiagfpaaGreatDoorS5A
import Derived.Lib.Builder
import Derived.Lib.AppendStr
import Derived.Lib.UnsafeStr
namespace Go.Proofs.YtjlmeegaiagfpaaGreatDoor.S5
open Go.RowKit
theorem bldSize : (Tryz.prog.info? 84).map (·.size) = some 2 := by kernel_rfl
/-- A builder of one's own in block b, what it holds. -/
def Bld (B b : Nat) (l : List Nat) (w : World) : Prop := ∃ p, (p = .pointer none ∨ p = .pointer (some ⟨b, 0, none⟩)) ∧ Lib.BuilderAt 84 5 B b p (l.map encN) w
theorem check_fresh {b : Nat} (w : World) (h0 : w.cell? ⟨b, 0, none⟩ = some (.pointer none)) (hsh : w.shape? b = some (84, 2)) (hfz : w.frozen? ⟨b, 0, none⟩ = false) :
    Calls Tryz.prog 69 #[.pointer (some ⟨b, 0, none⟩)] w fun e w' => e = .returned (.tuple #[]) ∧ w' = w.setCell ⟨b, 0, none⟩ (.pointer (some ⟨b, 0, none⟩)) := by
  obtain ⟨j, hj, hjs⟩ := Option.map_eq_some_iff.1 bldSize
  have hto := Lib.run_to_unsafe (P := Tryz.prog) w ⟨b, 0, none⟩ Tryz.underlying81 Tryz.underlying115 hj (by rw [hjs]; decide) hsh (Nat.zero_lt_succ 1)
  have hfrom := Lib.run_from_unsafe (P := Tryz.prog) w ⟨b, 0, none⟩ Tryz.underlying115 Tryz.underlying81 hj hsh (by kernel_rfl)
  have hne := @run_callFunc_extern Tryz.prog 80 _ Extern.AbiNoEscape.same Tryz.func80 (by kernel_rfl) (by kernel_rfl) (by kernel_rfl) (by kernel_rfl)
  have hno := fun x w => Lib.run_noEscape (P := Tryz.prog) (w := w) x
  clear hj hjs
  go_enter Tryz.func69, Tryz.ntmps69
  go_wp2
  go_end0
  exact ⟨rfl, rfl⟩
theorem check_used {b : Nat} (w : World) (h0 : w.cell? ⟨b, 0, none⟩ = some (.pointer (some ⟨b, 0, none⟩))) :
    Calls Tryz.prog 69 #[.pointer (some ⟨b, 0, none⟩)] w fun e w' => e = .returned (.tuple #[]) ∧ w' = w := by
  obtain ⟨j, hj, hjs⟩ := Option.map_eq_some_iff.1 bldSize
  have hneq := Lib.run_neq_ptr_same (P := Tryz.prog) w ⟨b, 0, none⟩ Tryz.underlying81 hj
  clear hj hjs
  go_enter Tryz.func69, Tryz.ntmps69
  go_wp2
  go_end0
  exact ⟨rfl, rfl⟩
end Go.Proofs.YtjlmeegaiagfpaaGreatDoor.S5

namespace Go.Proofs.YtjlmeegaiagfpaaGreatDoor.S5
open Go.RowKit
theorem strCells_nl (s : ByteArray) : Lib.strCells s = (nl s).map encN := by
  unfold Lib.strCells nl encN
  rw [List.map_map]
  rfl
theorem Bld.lt {B b : Nat} {l : List Nat} {w : World} (h : Bld B b l w) : b < w.heap.size := by
  obtain ⟨p, _, h⟩ := h
  exact h.lt
theorem Bld.bel {B b : Nat} {l : List Nat} {w w' : World} (h : Bld B b l w) (hb : Below w.heap.size w w') : Bld B b l w' := by
  obtain ⟨p, hp, h1, v, h2, h3, h4⟩ := h
  exact ⟨p, hp, h1, v, (hb.block b (lt_of_block h2)).trans h2, ownsRow_bel h3 hb, h4⟩
theorem check_in {B b : Nat} {l : List Nat} (w : World) (h : Bld B b l w) :
    Calls Tryz.prog 69 #[.pointer (some ⟨b, 0, none⟩)] w fun e w' => e = .returned (.tuple #[]) ∧ Lib.BuilderAt 84 5 B b (.pointer (some ⟨b, 0, none⟩)) (l.map encN) w' ∧ Below B w w' := by
  obtain ⟨p, hp, h⟩ := h
  rcases hp with rfl | rfl
  · refine (check_fresh w h.cell0 h.shape h.frozen0).mono ?_
    rintro e w' ⟨rfl, rfl⟩
    exact ⟨rfl, h.used _, (Below.refl B w).setCell (p := ⟨b, 0, none⟩) h.1 _⟩
  · refine (check_used w h.cell0).mono ?_
    rintro e w' ⟨rfl, rfl⟩
    exact ⟨rfl, h, Below.refl B _⟩
theorem write_in {B b : Nat} {l m : List Nat} {s : ByteArray} (w : World) (h : Bld B b l w) (hm : nl s = m) (hl : l.length ≤ 100000000) (hs : s.size ≤ 100000000) (hB : B ≤ w.heap.size) :
    Calls Tryz.prog 51 #[.pointer (some ⟨b, 0, none⟩), .string s] w fun e w' => e = .returned (.tuple #[.int .i64 s.size, .nilIface]) ∧ Bld B b (l ++ m) w' ∧ Below B w w' := by
  obtain ⟨i0, hi, hz0, hz1, hz2⟩ := info_parts info5
  have C := Lib.hid (check_in w h)
  have hms := strCells_nl s
  rw [hm] at hms
  replace hms := Lib.hid hms
  replace hi := Lib.hid hi
  replace hz0 := Lib.hid hz0
  replace hz1 := Lib.hid hz1
  replace hz2 := Lib.hid hz2
  clear h hm
  go_enter Tryz.func51, Tryz.ntmps51
  go_wp2_with (go_at_call 69; (with_reducible refine C.out.mono ?_))
  rintro e w1 ⟨rfl, h1, hb1⟩
  obtain ⟨hB1, v, hbk, hown, hne⟩ := h1
  have c0 : w1.cell? ⟨b, 0, none⟩ = some (.pointer (some ⟨b, 0, none⟩)) := by rw [Lib.cell_of_heap hbk]; rfl
  have c1 : w1.cell? ⟨b, 1, none⟩ = some v := by rw [Lib.cell_of_heap hbk]; rfl
  have hlt := lt_of_block hbk
  replace hown := Lib.hid hown
  replace hbk := Lib.hid hbk
  replace hne := Lib.hid hne
  replace hb1 := Lib.hid hb1
  go_wp2_with (at_builtin; refine Lib.wpList_append_own_string _ rfl _ _ 82 9 rfl B 5 i0 Tryz.underlying82 Tryz.underlying9 hi.out hz0.out hz1.out hz2.out _ _ _ rfl hown.out s rfl ?c3 ?c4 ?c5 ?_)
  case c3 => unfold maxLen; simp; omega
  case c4 => simp; omega
  case c5 => have := hb1.out.size; omega
  intro v' w2 hown' hgrow _
  have hb2 : w2.heap[b]? = some (.cells #[.pointer (some ⟨b, 0, none⟩), v] 84 (0, 0)) := by
    rw [hgrow.block b hlt (fun e => hne.out e.symm)]
    exact hbk.out
  have d0 : w2.cell? ⟨b, 0, none⟩ = some (.pointer (some ⟨b, 0, none⟩)) := by rw [Lib.cell_of_heap hb2]; rfl
  have d1 : w2.cell? ⟨b, 1, none⟩ = some v := by rw [Lib.cell_of_heap hb2]; rfl
  have f1 : w2.frozen? ⟨b, 1, none⟩ = false := Lib.frozen_of_heap hb2 1
  obtain ⟨ao, n', cap, rfl⟩ : ∃ ao n' cap, v' = .slice ao n' cap := by
    rcases hown'.2 with ⟨hv, _⟩ | ⟨g, cap, cur, hv, _⟩
    · exact ⟨_, _, _, hv⟩
    · exact ⟨_, _, _, hv⟩
  replace hgrow := Lib.hid hgrow
  replace hb2 := Lib.hid hb2
  replace hown' := Lib.hid hown'
  clear c0 c1
  go_wp2
  go_ret2
  have hown2 := hown'.out
  rw [hms.out, ← List.map_append] at hown2
  refine ⟨rfl, ⟨_, .inr rfl, Lib.BuilderAt.put hB1 hb2.out ?_ (by decide)⟩, ?_⟩
  · have hz : l.length + s.size = ((l ++ m).map encN).length := by
      have := congrArg List.length hms.out
      rw [Lib.strCells_length] at this
      simp at this ⊢
      omega
    rw [← hz]
    exact hown2
  · exact (hb1.out.grown hgrow.out (by have := hb1.out.size; omega) (fun k hk => (hown.out.lt k hk).1)).setCell (p := ⟨b, 1, none⟩) hB1 _
theorem string_in {B b : Nat} {l : List Nat} (w : World) (h : Bld B b l w) (hne0 : l ≠ []) (hs : ∀ x ∈ l, x ≤ 255) :
    Calls Tryz.prog 53 #[.pointer (some ⟨b, 0, none⟩)] w fun e w' => e = .returned (.string (strN l)) ∧ Below B w w' := by
  obtain ⟨p, hp, hB, v, hbk, hown, hne⟩ := h
  have hl0 : l.length ≠ 0 := by simpa using hne0
  obtain ⟨g, cap, cur, rfl, hbg, hg, hnc, hcm, hcs, htake⟩ : ∃ g cap cur, v = .slice (some ⟨g, 0, none⟩) l.length cap ∧ B ≤ g ∧ w.heap[g]? = some (.cells cur 5 (0, 0)) ∧ l.length ≤ cap ∧ cap ≤ maxLen ∧ cur.size = cap * 1 ∧ cur.toList.take (l.length * 1) = l.map encN := by
    rcases hown.2 with ⟨_, hz⟩ | ⟨g, cap, cur, hv, r⟩
    · exact absurd hz (by simpa using hl0)
    · exact ⟨g, cap, cur, by simpa using hv, by simpa using r⟩
  have c1 : w.drew.cell? ⟨b, 1, none⟩ = some (.slice (some ⟨g, 0, none⟩) l.length cap) := by
    have : w.drew.heap[b]? = some (.cells #[p, .slice (some ⟨g, 0, none⟩) l.length cap] 84 (0, 0)) := hbk
    rw [Lib.cell_of_heap this]; rfl
  have hSD : (Builtin.unsafeSliceData_ #[82] 106 #[.slice (some ⟨g, 0, none⟩) l.length cap]).run Tryz.prog w.drew = .ok (.pointer (some ⟨g, 0, none⟩)) w.drew :=
    Lib.run_unsafeSliceData_row _ _ _ _ _ _ (by omega)
  have hst : (⟨(l.map fun c => UInt8.ofNat c).toArray⟩ : ByteArray) = strN l := by
    apply ByteArray.ext
    apply Array.toList_inj.1
    unfold strN
    rw [strOfNums_data]
    simp
  have hUS : (Builtin.unsafeString_ #[106, 3] 9 #[.pointer (some ⟨g, 0, none⟩), .int .i64 l.length]).run Tryz.prog w.drew = .ok (.string (strN l)) (w.drew.freeze ⟨g, 0, none⟩ l.length) := by
    rw [← hst]
    have hsh : w.drew.shape? g = some (5, cur.size) := by
      have hg' : w.drew.heap[g]? = some (.cells cur 5 (0, 0)) := hg
      simp [World.shape?, hg']
    have := Lib.run_unsafeString_row (P := Tryz.prog) w.drew 106 3 9 5 Tryz.underlying106 (by kernel_rfl) g cur.size hsh (l.map fun c => UInt8.ofNat c) (by simpa using hne0) (by simp; omega) (by simp; unfold maxLen at hcm; omega) ?_
    · simpa using this
    · intro j x hx
      rw [List.getElem?_map] at hx
      cases hj : l[j]? with
      | none => rw [hj] at hx; simp at hx
      | some y =>
        rw [hj] at hx
        simp at hx
        subst hx
        have hy := hs y (List.mem_of_getElem? hj)
        have h2 := hown.cells (g := g) rfl j (encN y) (by rw [List.getElem?_map, hj]; rfl)
        have e : (((UInt8.ofNat y).toNat : Nat) : Int) = (y : Int) := by rw [UInt8.toNat_ofNat']; omega
        rw [e]
        exact h2
  clear hst hp hs hne0
  replace hown := Lib.hid hown
  replace hne := Lib.hid hne
  replace htake := Lib.hid htake
  replace hcs := Lib.hid hcs
  replace hl0 := Lib.hid hl0
  go_enter Tryz.func53, Tryz.ntmps53
  go_wp2
  go_region
  all_goals (go_wp2; go_ret; exact ⟨rfl, Lib.below_freeze (Below.drew (Below.refl B w)) (p := ⟨g, 0, none⟩) hbg _⟩)
theorem string_nil {b : Nat} {p : Value} (w : World) (hbk : w.heap[b]? = some (.cells #[p, .slice none 0 0] 84 (0, 0))) :
    Calls Tryz.prog 53 #[.pointer (some ⟨b, 0, none⟩)] w fun e w' => e = .returned (.string (strN [])) ∧ Below w.heap.size w w' := by
  have c1 : w.drew.cell? ⟨b, 1, none⟩ = some (.slice none 0 0) := by
    have : w.drew.heap[b]? = some (.cells #[p, .slice none 0 0] 84 (0, 0)) := hbk
    rw [Lib.cell_of_heap this]; rfl
  have hSD : (Builtin.unsafeSliceData_ #[82] 106 #[.slice none 0 0]).run Tryz.prog w.drew = .ok (.pointer none) w.drew := rfl
  have hUS : (Builtin.unsafeString_ #[106, 3] 9 #[.pointer none, .int .i64 0]).run Tryz.prog w.drew = .ok (.string (strN [])) w.drew := Lib.run_unsafeString_none w.drew _ _ _ none
  go_enter Tryz.func53, Tryz.ntmps53
  go_wp2
  go_region
  all_goals (go_wp2; go_ret; exact ⟨rfl, Below.drew (Below.refl _ _)⟩)
/-! ### Text -/
/-- How a byte is written outside brackets. -/
def pl (c : Nat) : List Nat :=
  if c = 10 then [92, 110] else if c = 9 then [92, 116] else if c = 13 then [92, 114] else if c = 32 then [92, 115]
  else if c ∈ out then [92, c] else if 33 ≤ c ∧ c ≤ 126 then [c] else [92, 120, hx (c / 16), hx (c % 16)]
theorem pl_sp {c : Nat} (hc : c ≤ 255) : Sp out c (pl c) := by
  unfold pl
  split
  · rename_i h; subst h; exact .blank _ _ (by decide)
  split
  · rename_i h; subst h; exact .blank _ _ (by decide)
  split
  · rename_i h; subst h; exact .blank _ _ (by decide)
  split
  · rename_i h; subst h; exact .blank _ _ (by decide)
  split
  · rename_i h
    have := ex_mid (.inl rfl) c h
    exact .esc c h this.1 this.2.1
  split
  · rename_i h1 h2; exact .self c h1 h2.1 h2.2
  · exact .hex c (by assumption) (by assumption) (by assumption) (by assumption) (by assumption) (by omega) hc
def txt (l : List Nat) : List Nat := l.flatMap pl
theorem txt_snoc (l : List Nat) (c : Nat) : txt (l ++ [c]) = txt l ++ pl c := by simp [txt]
theorem txt_small {l : List Nat} (h : ∀ x ∈ l, x ≤ 255) : ∀ x ∈ txt l, x ≤ 255 := by
  intro x hx
  obtain ⟨c, hc, hx⟩ := List.mem_flatMap.1 hx
  exact sp_small (pl_sp (h c hc)) x hx
theorem txt_len {l : List Nat} (h : ∀ x ∈ l, x ≤ 255) : l.length ≤ (txt l).length ∧ (txt l).length ≤ 4 * l.length := by
  induction l with
  | nil => simp [txt]
  | cons c l ih =>
    have h1 := sp_length (pl_sp (h c (by simp)))
    have h2 := ih fun x hx => h x (by simp [hx])
    have e : txt (c :: l) = pl c ++ txt l := by simp [txt]
    rw [e]
    simp
    omega
end Go.Proofs.YtjlmeegaiagfpaaGreatDoor.S5
