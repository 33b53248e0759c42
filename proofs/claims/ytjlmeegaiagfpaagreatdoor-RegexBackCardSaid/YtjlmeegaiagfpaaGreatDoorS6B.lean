/- Texts of earlier layers, merged: S6W11, S6W12. -/
import Derived.Test.YtjlmeegaiagfpaaGreatDoorS6W10a
import Derived.Test.YtjlmeegaiagfpaaGreatDoorS5B
import Derived.Test.YtjlmeegaiagfpaaGreatDoorS1D
import Derived.BigQuiet
import Derived.Deep.QuietTactic
namespace Go.Proofs.YtjlmeegaiagfpaaGreatDoor.S6
open Go.RowKit
open S5 (nl nl_length nl_small at_nl nl_at Rd Sp Gives Two errV nl_strN nl_inj nl_append sp_small Bld)
open S1 (Blk4 SetBox wd noS oneS spanS orS notS spU eqB el spAll spCells)
theorem pi_small {c : Nat} (hc : c ≤ 255) : ∀ x ∈ pi c, x ≤ 255 := sp_small (pi_sp hc)
theorem pi_sz {c : Nat} (hc : c ≤ 255) : (strN (pi c)).size ≤ 4 := by
  rw [strN_size]
  have := S5.sp_length (pi_sp hc)
  omega
theorem strN_app (x y : List Nat) : strN (x ++ y) = strN x ++ strN y := by
  apply ByteArray.ext
  apply Array.toList_inj.1
  unfold strN
  simp [strOfNums_data]
theorem dashB : strN [45] = ⟨#[45]⟩ := by decide
/-- A block of two bytes. -/
def Blk2 (w : World) (b : Nat) (x y : Value) : Prop := w.heap[b]? = some (.cells #[x, y] 103 (0, 0))
theorem Blk2.bel {w w' : World} {b : Nat} {x y : Value} (h : Blk2 w b x y) (hb : Bel w w') : w'.cell? ⟨b, 0, none⟩ = some x ∧ w'.cell? ⟨b, 1, none⟩ = some y := by
  have h2 : w'.heap[b]? = some (.cells #[x, y] 103 (0, 0)) := (Below.block hb b (lt_of_block h)).trans h
  constructor <;> simp [World.cell?, h2]
theorem box2 (w : World) (x y : Value) : ∃ W, w.alloc (.cells #[x, y] 103) = W ∧ Blk2 W w.heap.size x y ∧ Bel w W :=
  ⟨_, rfl, World.alloc_heap_new w _, (Below.refl _ _).alloc (Nat.le_refl _) _⟩
theorem u8_sub {a b : Nat} (h : a ≤ b) (hb : b ≤ 255) : IntKind.u8.wrap ((b : Int) - a) = ((b - a : Nat) : Int) := by rw [IntKind.wrap_u8]; omega
set_option maxRecDepth 10000 in
set_option maxHeartbeats 2000000 in
theorem span_one {a b : Nat} (hb : b ≤ 255) (h : b = a) (w : World) :
    Calls Tryz.prog 68 #[.agg #[.int .u8 a, .int .u8 b]] w fun e w' => e = .returned (.string (strN (itm (a, b)))) ∧ Below w.heap.size w w' := by
  have hab : a ≤ b := by omega
  have ca := Lib.hid (fun w => S5.inner_in (pi_sp (c := a) (by omega)) w)
  have cb := Lib.hid (fun w => S5.inner_in (pi_sp (c := b) hb) w)
  have hres : strN (itm (a, b)) = strN (pi a) := by
    unfold itm
    rw [if_neg (by simp only; omega), if_neg (by simp only; omega), List.append_nil, List.append_nil]
  replace hres := Lib.hid hres
  have hd : IntKind.u8.wrap ((b : Int) - a) = 0 := by rw [u8_sub hab hb]; omega
  clear h
  have sza := pi_sz (c := a) (by omega)
  have szb := pi_sz hb
  generalize strN (pi a) = SA at *
  generalize strN (pi b) = SB at *
  obtain ⟨W, hW, bx, hB⟩ := box2 w (.int .u8 a) (.int .u8 b)
  have x0 : ∀ w', Bel W w' → w'.cell? ⟨w.heap.size, 0, none⟩ = some (.int .u8 a) := fun w' h => (bx.bel h).1
  have x1 : ∀ w', Bel W w' → w'.cell? ⟨w.heap.size, 1, none⟩ = some (.int .u8 b) := fun w' h => (bx.bel h).2
  replace bx := Lib.hid bx
  replace hB := Lib.hid hB
  replace hW := Lib.hid hW
  go_enter Tryz.func68, Tryz.ntmps68
  go_wp2
  rw [hW.out]
  refine wp_region_bel (by kernel_rfl) (by kernel_rfl) ?_
  repeat (first
    | go_big_quiet_skip
    | (go_big_quiet_want
       first
         | (refine BigFrame.quiet_move _ rfl ?_
            simp only [Act.put, Act.eval, List.setIfInBounds_toArray, List.set_cons_zero, List.set_cons_succ, List.getD_toArray, List.getD_cons_zero, List.getD_cons_succ]
            go_big_quiet_on)
         | (refine BigFrame.quiet_assign _ rfl ?_
            simp only [Act.put, Act.eval, List.setIfInBounds_toArray, List.set_cons_zero, List.set_cons_succ, List.getD_toArray, List.getD_cons_zero, List.getD_cons_succ]
            go_big_quiet_on)
         | (refine quiet_call 79 ?_
            apply Exists.intro
            refine ⟨fun w' hC => ?_, ?_⟩
            · go_simp
              with_reducible rfl
            refine ⟨_, fun w' hC => Calls.bel hC (by first | with_reducible exact ca.out _ | with_reducible exact cb.out _), ?_⟩
            simp only [Act.put, List.setIfInBounds_toArray, List.set_cons_zero, List.set_cons_succ]
            go_big_quiet_on)
         | (refine quiet_val ?_
            apply Exists.intro
            refine ⟨fun w' hC => ?_, ?_⟩
            · go_simp
              with_reducible rfl
            simp only [Act.put, List.setIfInBounds_toArray, List.set_cons_zero, List.set_cons_succ]
            go_big_quiet_on)))
  refine wpQuiet_nil ?_
  intro wq hq
  obtain ⟨y0, y1⟩ := bx.out.bel hq
  clear x0 x1
  go_wp2
  go_ret
  exact ⟨by rw [hres.out] <;> rfl, hB.out.step hq⟩
set_option maxRecDepth 10000 in
set_option maxHeartbeats 2000000 in
theorem span_two {a b : Nat} (hb : b ≤ 255) (h : b = a + 1) (w : World) :
    Calls Tryz.prog 68 #[.agg #[.int .u8 a, .int .u8 b]] w fun e w' => e = .returned (.string (strN (itm (a, b)))) ∧ Below w.heap.size w w' := by
  have hab : a ≤ b := by omega
  have ca := Lib.hid (fun w => S5.inner_in (pi_sp (c := a) (by omega)) w)
  have cb := Lib.hid (fun w => S5.inner_in (pi_sp (c := b) hb) w)
  have hres : strN (itm (a, b)) = strN (pi a) ++ strN (pi b) := by
    unfold itm
    rw [if_neg (by simp only; omega), if_pos (by simp only; omega), List.append_nil, strN_app]
  replace hres := Lib.hid hres
  have hd : IntKind.u8.wrap ((b : Int) - a) = 1 := by rw [u8_sub hab hb]; omega
  clear h
  have sza := pi_sz (c := a) (by omega)
  have szb := pi_sz hb
  generalize strN (pi a) = SA at *
  generalize strN (pi b) = SB at *
  obtain ⟨W, hW, bx, hB⟩ := box2 w (.int .u8 a) (.int .u8 b)
  have x0 : ∀ w', Bel W w' → w'.cell? ⟨w.heap.size, 0, none⟩ = some (.int .u8 a) := fun w' h => (bx.bel h).1
  have x1 : ∀ w', Bel W w' → w'.cell? ⟨w.heap.size, 1, none⟩ = some (.int .u8 b) := fun w' h => (bx.bel h).2
  replace bx := Lib.hid bx
  replace hB := Lib.hid hB
  replace hW := Lib.hid hW
  go_enter Tryz.func68, Tryz.ntmps68
  go_wp2
  rw [hW.out]
  refine wp_region_bel (by kernel_rfl) (by kernel_rfl) ?_
  repeat (first
    | go_big_quiet_skip
    | (go_big_quiet_want
       first
         | (refine BigFrame.quiet_move _ rfl ?_
            simp only [Act.put, Act.eval, List.setIfInBounds_toArray, List.set_cons_zero, List.set_cons_succ, List.getD_toArray, List.getD_cons_zero, List.getD_cons_succ]
            go_big_quiet_on)
         | (refine BigFrame.quiet_assign _ rfl ?_
            simp only [Act.put, Act.eval, List.setIfInBounds_toArray, List.set_cons_zero, List.set_cons_succ, List.getD_toArray, List.getD_cons_zero, List.getD_cons_succ]
            go_big_quiet_on)
         | (refine quiet_call 79 ?_
            apply Exists.intro
            refine ⟨fun w' hC => ?_, ?_⟩
            · go_simp
              with_reducible rfl
            refine ⟨_, fun w' hC => Calls.bel hC (by first | with_reducible exact ca.out _ | with_reducible exact cb.out _), ?_⟩
            simp only [Act.put, List.setIfInBounds_toArray, List.set_cons_zero, List.set_cons_succ]
            go_big_quiet_on)
         | (refine quiet_val ?_
            apply Exists.intro
            refine ⟨fun w' hC => ?_, ?_⟩
            · go_simp
              with_reducible rfl
            simp only [Act.put, List.setIfInBounds_toArray, List.set_cons_zero, List.set_cons_succ]
            go_big_quiet_on)))
  refine wpQuiet_nil ?_
  intro wq hq
  obtain ⟨y0, y1⟩ := bx.out.bel hq
  clear x0 x1
  go_wp2
  go_ret
  exact ⟨by rw [hres.out] <;> rfl, hB.out.step hq⟩
set_option maxRecDepth 10000 in
set_option maxHeartbeats 2000000 in
theorem span_more {a b : Nat} (hb : b ≤ 255) (h : a + 1 < b) (w : World) :
    Calls Tryz.prog 68 #[.agg #[.int .u8 a, .int .u8 b]] w fun e w' => e = .returned (.string (strN (itm (a, b)))) ∧ Below w.heap.size w w' := by
  have hab : a ≤ b := by omega
  have ca := Lib.hid (fun w => S5.inner_in (pi_sp (c := a) (by omega)) w)
  have cb := Lib.hid (fun w => S5.inner_in (pi_sp (c := b) hb) w)
  have hres : strN (itm (a, b)) = strN (pi a) ++ ⟨#[45]⟩ ++ strN (pi b) := by
    unfold itm
    rw [if_pos (by simp only; omega), if_pos (by simp only; omega), strN_app, strN_app, dashB]
  replace hres := Lib.hid hres
  obtain ⟨d, hd9⟩ : ∃ d : Nat, b - a = d := ⟨_, rfl⟩
  have hd : IntKind.u8.wrap ((b : Int) - a) = d := by rw [u8_sub hab hb, hd9]
  have hd0 : ((d : Int) == 0) = false := by simp; omega
  have hd1 : ((d : Int) == 1) = false := by simp; omega
  replace hd9 := Lib.hid hd9
  clear h
  have sza := pi_sz (c := a) (by omega)
  have szb := pi_sz hb
  generalize strN (pi a) = SA at *
  generalize strN (pi b) = SB at *
  obtain ⟨W, hW, bx, hB⟩ := box2 w (.int .u8 a) (.int .u8 b)
  have x0 : ∀ w', Bel W w' → w'.cell? ⟨w.heap.size, 0, none⟩ = some (.int .u8 a) := fun w' h => (bx.bel h).1
  have x1 : ∀ w', Bel W w' → w'.cell? ⟨w.heap.size, 1, none⟩ = some (.int .u8 b) := fun w' h => (bx.bel h).2
  replace bx := Lib.hid bx
  replace hB := Lib.hid hB
  replace hW := Lib.hid hW
  go_enter Tryz.func68, Tryz.ntmps68
  go_wp2
  rw [hW.out]
  refine wp_region_bel (by kernel_rfl) (by kernel_rfl) ?_
  repeat (first
    | go_big_quiet_skip
    | (go_big_quiet_want
       first
         | (refine BigFrame.quiet_move _ rfl ?_
            simp only [Act.put, Act.eval, List.setIfInBounds_toArray, List.set_cons_zero, List.set_cons_succ, List.getD_toArray, List.getD_cons_zero, List.getD_cons_succ]
            go_big_quiet_on)
         | (refine BigFrame.quiet_assign _ rfl ?_
            simp only [Act.put, Act.eval, List.setIfInBounds_toArray, List.set_cons_zero, List.set_cons_succ, List.getD_toArray, List.getD_cons_zero, List.getD_cons_succ]
            go_big_quiet_on)
         | (refine quiet_call 79 ?_
            apply Exists.intro
            refine ⟨fun w' hC => ?_, ?_⟩
            · go_simp
              with_reducible rfl
            refine ⟨_, fun w' hC => Calls.bel hC (by first | with_reducible exact ca.out _ | with_reducible exact cb.out _), ?_⟩
            simp only [Act.put, List.setIfInBounds_toArray, List.set_cons_zero, List.set_cons_succ]
            go_big_quiet_on)
         | (refine quiet_val ?_
            apply Exists.intro
            refine ⟨fun w' hC => ?_, ?_⟩
            · go_simp
              with_reducible rfl
            simp only [Act.put, List.setIfInBounds_toArray, List.set_cons_zero, List.set_cons_succ]
            go_big_quiet_on)))
  refine wpQuiet_nil ?_
  intro wq hq
  obtain ⟨y0, y1⟩ := bx.out.bel hq
  clear x0 x1
  go_wp2
  go_ret
  exact ⟨by rw [hres.out] <;> rfl, hB.out.step hq⟩
theorem span_in {p : Nat × Nat} (h : p.1 ≤ p.2 ∧ p.2 ≤ 255) (w : World) :
    Calls Tryz.prog 68 #[.agg #[.int .u8 p.1, .int .u8 p.2]] w fun e w' => e = .returned (.string (strN (itm p))) ∧ Below w.heap.size w w' := by
  obtain ⟨a, b⟩ := p
  simp only at h ⊢
  rcases Nat.lt_or_ge (a + 1) b with h1 | h1
  · exact span_more h.2 h1 w
  · by_cases h2 : b = a
    · exact span_one h.2 h2 w
    · exact span_two h.2 (by omega) w
/-! ### A builder leaves what is not its own -/
/-- What lay in cells of another type than a byte's, apart from block b, lies as it lay. -/
def Keeps (b : Nat) (w w' : World) : Prop := ∀ (K : Nat) (cs : Array Value) (t : TypeId), t ≠ 5 → K ≠ b → w.heap[K]? = some (.cells cs t (0, 0)) → w'.heap[K]? = some (.cells cs t (0, 0))
theorem check_keep {B b : Nat} {l : List Nat} (w : World) (h : Bld B b l w) :
    Calls Tryz.prog 69 #[.pointer (some ⟨b, 0, none⟩)] w fun e w' => e = .returned (.tuple #[]) ∧ Lib.BuilderAt 84 5 B b (.pointer (some ⟨b, 0, none⟩)) (l.map encN) w' ∧ Below B w w' ∧ Keeps b w w' := by
  obtain ⟨p, hp, h⟩ := h
  rcases hp with rfl | rfl
  · refine (S5.check_fresh w h.cell0 h.shape h.frozen0).mono ?_
    rintro e w' ⟨rfl, rfl⟩
    exact ⟨rfl, h.used _, (Below.refl B w).setCell (p := ⟨b, 0, none⟩) h.1 _, fun K cs t _ hk hK => (Below.heap_setCell w ⟨b, 0, none⟩ _ K hk).trans hK⟩
  · refine (S5.check_used w h.cell0).mono ?_
    rintro e w' ⟨rfl, rfl⟩
    exact ⟨rfl, h, Below.refl B _, fun K cs t _ _ hK => hK⟩
theorem write_keep {B b : Nat} {l m : List Nat} {s : ByteArray} (w : World) (h : Bld B b l w) (hm : nl s = m) (hl : l.length ≤ 100000000) (hs : s.size ≤ 100000000) (hB : B ≤ w.heap.size) :
    Calls Tryz.prog 51 #[.pointer (some ⟨b, 0, none⟩), .string s] w fun e w' => e = .returned (.tuple #[.int .i64 s.size, .nilIface]) ∧ Bld B b (l ++ m) w' ∧ Below B w w' ∧ Keeps b w w' := by
  obtain ⟨i0, hi, hz0, hz1, hz2⟩ := info_parts info5
  have C := Lib.hid (check_keep w h)
  have hms := S5.strCells_nl s
  rw [hm] at hms
  replace hms := Lib.hid hms
  replace hi := Lib.hid hi
  replace hz0 := Lib.hid hz0
  replace hz1 := Lib.hid hz1
  replace hz2 := Lib.hid hz2
  clear h hm
  go_enter Tryz.func51, Tryz.ntmps51
  go_wp2_with (go_at_call 69; (with_reducible refine C.out.mono ?_))
  rintro e w1 ⟨rfl, h1, hb1, hk1⟩
  obtain ⟨hB1, v, hbk, hown, hne⟩ := h1
  have c0 : w1.cell? ⟨b, 0, none⟩ = some (.pointer (some ⟨b, 0, none⟩)) := by rw [Lib.cell_of_heap hbk]; rfl
  have c1 : w1.cell? ⟨b, 1, none⟩ = some v := by rw [Lib.cell_of_heap hbk]; rfl
  have hlt := lt_of_block hbk
  replace hk1 := Lib.hid hk1
  replace hown := Lib.hid hown
  replace hbk := Lib.hid hbk
  replace hne := Lib.hid hne
  replace hb1 := Lib.hid hb1
  go_wp2_with (at_builtin; refine Lib.wpList_append_own_string _ rfl _ _ 82 9 rfl B 5 i0 Tryz.underlying82 Tryz.underlying9 hi.out hz0.out hz1.out hz2.out _ _ _ rfl hown.out s rfl ?c3 ?c4 ?c5 ?_)
  case c3 => unfold maxLen; simp; omega
  case c4 => simp; omega
  case c5 => have := hb1.out.size; omega
  intro v' w2 hown' hgrow _
  have hb2 : w2.heap[b]? = some (.cells #[.pointer (some ⟨b, 0, none⟩), v] 84 (0, 0)) := by
    rw [hgrow.block b hlt (fun e => hne.out e.symm)]
    exact hbk.out
  have hk2 : Keeps b w1 w2 := fun K cs t ht hk hK => by
    rw [hgrow.block K (lt_of_block hK) ?_]
    · exact hK
    · intro e
      rcases hown.out.2 with ⟨hv, _⟩ | ⟨g, cap, cur, hv, _, hg, _⟩
      · rw [hv] at e; simp [Value.ownBlock] at e
      · rw [hv] at e
        simp [Value.ownBlock] at e
        subst e
        rw [hK] at hg
        simp at hg
        exact ht hg.2
  replace hk2 := Lib.hid hk2
  have d0 : w2.cell? ⟨b, 0, none⟩ = some (.pointer (some ⟨b, 0, none⟩)) := by rw [Lib.cell_of_heap hb2]; rfl
  have d1 : w2.cell? ⟨b, 1, none⟩ = some v := by rw [Lib.cell_of_heap hb2]; rfl
  have f1 : w2.frozen? ⟨b, 1, none⟩ = false := Lib.frozen_of_heap hb2 1
  obtain ⟨ao, n', cap, rfl⟩ : ∃ ao n' cap, v' = .slice ao n' cap := by
    rcases hown'.2 with ⟨hv, _⟩ | ⟨g, cap, cur, hv, _⟩
    · exact ⟨_, _, _, hv⟩
    · exact ⟨_, _, _, hv⟩
  replace hgrow := Lib.hid hgrow
  replace hb2 := Lib.hid hb2
  replace hown' := Lib.hid hown'
  clear c0 c1
  go_wp2
  go_ret2
  have hown2 := hown'.out
  rw [hms.out, ← List.map_append] at hown2
  refine ⟨rfl, ⟨_, .inr rfl, Lib.BuilderAt.put hB1 hb2.out ?_ (by decide)⟩, ?_, fun K cs t ht hk hK => (Below.heap_setCell w2 ⟨b, 1, none⟩ _ K hk).trans (hk2.out K cs t ht hk (hk1.out K cs t ht hk hK))⟩
  · have hz : l.length + s.size = ((l ++ m).map encN).length := by
      have := congrArg List.length hms.out
      rw [Lib.strCells_length] at this
      simp at this ⊢
      omega
    rw [← hz]
    exact hown2
  · exact (hb1.out.grown hgrow.out (by have := hb1.out.size; omega) (fun k hk => (hown.out.lt k hk).1)).setCell (p := ⟨b, 1, none⟩) hB1 _
end Go.Proofs.YtjlmeegaiagfpaaGreatDoor.S6

namespace Go.Proofs.YtjlmeegaiagfpaaGreatDoor.S6
open Go.RowKit
open S5 (nl nl_length nl_small at_nl nl_at Rd Sp Gives Two errV nl_strN nl_inj nl_append sp_small Bld)
open S1 (Blk4 SetBox wd noS oneS spanS orS notS spU eqB el spAll spCells)
/-! ### Lengths -/
theorem pi_len {c : Nat} (hc : c ≤ 255) : 1 ≤ (pi c).length ∧ (pi c).length ≤ 4 := by
  have := S5.sp_length (pi_sp hc)
  omega
theorem itm_len {p : Nat × Nat} (h : p.1 ≤ p.2 ∧ p.2 ≤ 255) : (itm p).length ≤ 9 := by
  have h1 := pi_len (c := p.1) (by omega)
  have h2 := pi_len (c := p.2) (by omega)
  unfold itm
  split <;> split <;> simp <;> omega
theorem itm_small {p : Nat × Nat} (h : p.1 ≤ p.2 ∧ p.2 ≤ 255) : ∀ x ∈ itm p, x ≤ 255 := by
  have h1 := pi_small (c := p.1) (by omega)
  have h2 := pi_small (c := p.2) (by omega)
  intro x hx
  unfold itm at hx
  rcases List.mem_append.1 hx with hx | hx
  · rcases List.mem_append.1 hx with hx | hx
    · exact h1 x hx
    · split at hx
      · obtain rfl : x = 45 := by simpa using hx
        omega
      · simp at hx
  · split at hx
    · exact h2 x hx
    · simp at hx
theorem itms_len {ps : List (Nat × Nat)} (h : ∀ p ∈ ps, p.1 ≤ p.2 ∧ p.2 ≤ 255) : (itms ps).length ≤ 9 * ps.length := by
  induction ps with
  | nil => simp [itms]
  | cons p ps ih =>
    have h1 := itm_len (h p (by simp))
    have h2 := ih fun q hq => h q (by simp [hq])
    have e : itms (p :: ps) = itm p ++ itms ps := by simp [itms]
    rw [e, List.length_append, List.length_cons]
    omega
theorem itms_small {ps : List (Nat × Nat)} (h : ∀ p ∈ ps, p.1 ≤ p.2 ∧ p.2 ≤ 255) : ∀ x ∈ itms ps, x ≤ 255 := by
  intro x hx
  obtain ⟨p, hp, hx⟩ := List.mem_flatMap.1 hx
  exact itm_small (h p hp) x hx
theorem itms_bound {ps : List (Nat × Nat)} (h : ∀ p ∈ ps, p.1 ≤ p.2 ∧ p.2 ≤ 255) {k : Nat} (hk : k ≤ ps.length) (hl : ps.length ≤ 256) : (itms (ps.take k)).length ≤ 2304 := by
  have := itms_len (ps := ps.take k) fun p hp => h p (List.mem_of_mem_take hp)
  simp at this
  omega
theorem itms_take {ps : List (Nat × Nat)} {k : Nat} (h : k < ps.length) : itms (ps.take (k + 1)) = itms (ps.take k) ++ itm ps[k] := by
  rw [List.take_succ_eq_append_getElem h]
  unfold itms
  rw [List.flatMap_append]
  congr 1
  simp
theorem txt_small {pre : List Nat} {ps : List (Nat × Nat)} (h : ∀ p ∈ ps, p.1 ≤ p.2 ∧ p.2 ≤ 255) (hp : ∀ x ∈ pre, x ≤ 255 := by decide) : ∀ x ∈ pre ++ itms ps ++ [93], x ≤ 255 := by
  intro x hx
  rcases List.mem_append.1 hx with hx | hx
  · rcases List.mem_append.1 hx with hx | hx
    · exact hp x hx
    · exact itms_small h x hx
  · obtain rfl : x = 93 := by simpa using hx
    omega
theorem spAll_256 (f : Nat → Bool) : (spAll (el f 256)).length ≤ 256 := by
  have h1 := S1.spAll_len (el f 256)
  have h2 := S1.el_len f 256
  omega
theorem rng_ok' (f : Nat → Bool) : ∀ p ∈ spAll (el f 256), p.1 ≤ p.2 ∧ p.2 ≤ 255 := fun p hp => by
  have := (S1.spAll_el f 256 (Nat.le_refl _)).1 p hp
  omega
theorem el_cnt (f : Nat → Bool) (k : Nat) : ∀ n, n ≤ 64 → (el f (64 * k + n)).length = (el f (64 * k)).length + S1.cnt (wd f k).testBit n := by
  intro n
  induction n with
  | zero => intro _; simp [S1.cnt]
  | succ n ih =>
    intro hn
    have := ih (by omega)
    rw [show 64 * k + (n + 1) = (64 * k + n) + 1 by omega, el, List.length_append, this, S1.cnt, S1.testBit_wd]
    have hlt : n < 64 := by omega
    cases f (64 * k + n) <;> simp [hlt]
    omega
theorem szS_el (f : Nat → Bool) : S1.szS f = (el f 256).length := by
  have h0 := el_cnt f 0 64 (by omega)
  have h1 := el_cnt f 1 64 (by omega)
  have h2 := el_cnt f 2 64 (by omega)
  have h3 := el_cnt f 3 64 (by omega)
  simp only [Nat.mul_zero, Nat.zero_add, Nat.reduceMul, Nat.reduceAdd] at h0 h1 h2 h3
  have e0 : (el f 0).length = 0 := rfl
  unfold S1.szS
  omega
theorem wd_same {f g : Nat → Bool} (h : ∀ c, c < 256 → f c = g c) : wd f 0 = wd g 0 ∧ wd f 1 = wd g 1 ∧ wd f 2 = wd g 2 ∧ wd f 3 = wd g 3 :=
  ⟨S1.wd_congr fun i hi => h _ (by omega), S1.wd_congr fun i hi => h _ (by omega), S1.wd_congr fun i hi => h _ (by omega), S1.wd_congr fun i hi => h _ (by omega)⟩
theorem outV_ok (E1 E2 E4 : Value) {f g : Nat → Bool} (h : ∀ c, c < 256 → f c = g c) (t : Int) : outV E1 E2 E4 f t 0 = .tuple #[(.agg #[.int .u64 (S1.wd (g) 0), .int .u64 (S1.wd (g) 1), .int .u64 (S1.wd (g) 2), .int .u64 (S1.wd (g) 3)]), .int .i64 t, .nilIface] := by
  obtain ⟨h0, h1, h2, h3⟩ := wd_same h
  unfold outV
  rw [if_pos rfl, h0, h1, h2, h3]
theorem txtB_len (f : Nat → Bool) : (txtB f).length ≤ 2400 := by
  have h1 := itms_bound (ps := rng f) (rng_ok f) (Nat.le_refl _) (by unfold rng; exact spAll_256 _)
  rw [List.take_of_length_le (Nat.le_refl _)] at h1
  unfold txtB
  split <;> simp <;> omega
theorem txtB_small (f : Nat → Bool) : ∀ x ∈ txtB f, x ≤ 255 := by
  unfold txtB
  refine txt_small (pre := [91] ++ (if neg f then [94] else [])) (rng_ok f) ?_
  intro x hx
  cases hn : neg f <;> rw [hn] at hx <;> simp at hx <;> omega
/-! ### What lies in memory -/
/-- The text so far in a builder of its own; the set in its box; all that lay lies as it lay. -/
structure TB (w : World) (b : Nat) (f : Nat → Bool) (l : List Nat) (wr : World) : Prop where
  bel : Below w.heap.size w wr
  bld : Bld w.heap.size b l wr
  box : SetBox wr w.heap.size 24 f
  lt : w.heap.size < b
theorem TB.step {w wr w' : World} {b : Nat} {f : Nat → Bool} {l : List Nat} (h : TB w b f l wr) (hb : Below wr.heap.size wr w') : TB w b f l w' :=
  ⟨h.bel.trans (hb.mono h.bel.size), h.bld.bel hb, S1.Blk4.bel h.box hb, h.lt⟩
theorem TB.alloc {w wr : World} {b : Nat} {f : Nat → Bool} {l : List Nat} (h : TB w b f l wr) (o : Obj) : TB w b f l (wr.alloc o) := h.step ((Below.refl _ _).alloc (Nat.le_refl _) o)
theorem TB.write {w wr : World} {b : Nat} {f : Nat → Bool} {l m : List Nat} (h : TB w b f l wr) {s : ByteArray} (hm : nl s = m) (hl : l.length ≤ 100000000) (hs : s.size ≤ 100000000) :
    Calls Tryz.prog 51 #[.pointer (some ⟨b, 0, none⟩), .string s] wr fun e w' => e = .returned (.tuple #[.int .i64 s.size, .nilIface]) ∧ TB w b f (l ++ m) w' ∧ Keeps b wr w' :=
  (write_keep wr h.bld hm hl hs h.bel.size).mono fun _ _ ⟨h1, h2, h3, h4⟩ => ⟨h1, ⟨h.bel.trans h3, h2, h4 _ _ _ (by decide) (Nat.ne_of_lt h.lt) h.box, h.lt⟩, h4⟩
theorem TB.string {w wr : World} {b : Nat} {f : Nat → Bool} {l : List Nat} (h : TB w b f l wr) (hne : l ≠ []) (hs : ∀ x ∈ l, x ≤ 255) :
    Calls Tryz.prog 53 #[.pointer (some ⟨b, 0, none⟩)] wr fun e w' => e = .returned (.string (strN l)) ∧ Below w.heap.size w w' :=
  (S5.string_in wr h.bld hne hs).mono fun _ _ ⟨h1, h2⟩ => ⟨h1, h.bel.trans h2⟩
theorem bld_new {B : Nat} (w : World) (h : B ≤ w.heap.size) : Bld B w.heap.size [] (w.alloc (.cells #[.pointer none, .slice none 0 0] 84)) :=
  ⟨.pointer none, .inl rfl, h, .slice none 0 0, World.alloc_heap_new w _, World.ownsRow_nil _ _ _ _, by simp [Value.ownBlock]⟩
theorem tb_pos {w w1 : World} {f : Nat → Bool} (bx : Blk4 w1 w.heap.size 24 (.int .u64 (S1.wd (f) 0)) (.int .u64 (S1.wd (f) 1)) (.int .u64 (S1.wd (f) 2)) (.int .u64 (S1.wd (f) 3))) (hB : Below w.heap.size w w1) :
    TB w w1.heap.size f [] (w1.alloc (.cells #[.pointer none, .slice none 0 0] 84)) :=
  ⟨hB.alloc hB.size _, bld_new w1 hB.size, bx.alloc _, bx.lt⟩
theorem tb_not {w w2 : World} {v0 v1 v2 v3 : Value} (bx : Blk4 w2 w.heap.size 24 v0 v1 v2 v3) (hB : Below w.heap.size w w2) (g : Nat → Bool) :
    TB w w2.heap.size g [] (((((w2.setCell ⟨w.heap.size, 0, none⟩ (.int .u64 (wd g 0))).setCell ⟨w.heap.size, 1, none⟩ (.int .u64 (wd g 1))).setCell ⟨w.heap.size, 2, none⟩ (.int .u64 (wd g 2))).setCell ⟨w.heap.size, 3, none⟩ (.int .u64 (wd g 3))).alloc (.cells #[.pointer none, .slice none 0 0] 84)) := by
  obtain ⟨W3, hW3, hb3, hB3⟩ := stored bx hB (Nat.le_refl _) (.int .u64 (S1.wd (g) 0)) (.int .u64 (S1.wd (g) 1)) (.int .u64 (S1.wd (g) 2)) (.int .u64 (S1.wd (g) 3))
  have hz : W3.heap.size = w2.heap.size := by rw [← hW3]; simp
  rw [hW3, ← hz]
  exact tb_pos hb3 hB3
/-- A row of ranges in memory. -/
def SpRow (w : World) (g : Nat) (ps : List (Nat × Nat)) : Prop := ∃ cs, w.heap[g]? = some (.cells cs 103 (0, 0)) ∧ ∀ k (h : k < ps.length), cs[k * 2]? = some (.int .u8 (ps[k].1 : Nat)) ∧ cs[k * 2 + 1]? = some (.int .u8 (ps[k].2 : Nat))
theorem SpRow.bel {w w' : World} {g : Nat} {ps : List (Nat × Nat)} (h : SpRow w g ps) (hb : Bel w w') : SpRow w' g ps := by
  obtain ⟨cs, h1, h2⟩ := h
  exact ⟨cs, (Below.block hb g (lt_of_block h1)).trans h1, h2⟩
theorem SpRow.alloc {w : World} {g : Nat} {ps : List (Nat × Nat)} (h : SpRow w g ps) (o : Obj) : SpRow (w.alloc o) g ps := h.bel ((Below.refl _ _).alloc (Nat.le_refl _) o)
theorem SpRow.keep {w w' : World} {g b : Nat} {ps : List (Nat × Nat)} (h : SpRow w g ps) (hk : Keeps b w w') (hb : w.heap[b]? = none ∨ ∃ cs, w.heap[b]? = some (.cells cs 84 (0, 0))) : SpRow w' g ps := by
  obtain ⟨cs, h1, h2⟩ := h
  refine ⟨cs, hk g cs _ (by decide) ?_ h1, h2⟩
  rintro rfl
  rcases hb with hb | ⟨ds, hb⟩
  · rw [hb] at h1; cases h1
  · rw [hb] at h1
    have := Option.some.inj h1
    simp at this
theorem TB.blk {w wr : World} {b : Nat} {f : Nat → Bool} {l : List Nat} (h : TB w b f l wr) : wr.heap[b]? = none ∨ ∃ cs, wr.heap[b]? = some (.cells cs 84 (0, 0)) := by
  obtain ⟨p, _, _, v, h1, _⟩ := h.bld
  exact .inr ⟨_, h1⟩
theorem SpRow.cells {w : World} {g : Nat} {ps : List (Nat × Nat)} (h : SpRow w g ps) {k : Nat} (hk : k < ps.length) :
    w.cell? ⟨g, k * 2, none⟩ = some (.int .u8 (ps[k].1 : Nat)) ∧ w.cell? ⟨g, k * 2 + 1, none⟩ = some (.int .u8 (ps[k].2 : Nat)) := by
  obtain ⟨cs, h1, h2⟩ := h
  have := h2 k hk
  constructor
  · rw [cell_of_row w g _ _ _ (0, 0) h1]; simpa using this.1
  · rw [cell_of_row w g _ _ _ (0, 0) h1]; simpa using this.2
/-- What Spans gives back. -/
def GivesRow (w : World) (ps : List (Nat × Nat)) (e : Ending) (w' : World) : Prop := ∃ g cap, e = .returned (.slice (some ⟨g, 0, none⟩) ps.length cap) ∧ ps.length ≤ cap ∧ SpRow w' g ps ∧ Below w.heap.size w w'
theorem spans_row (f : Nat → Bool) (hne : spAll (el f 256) ≠ []) (w : World) (hT : S1.Tab w) : Calls Tryz.prog 67 #[(.agg #[.int .u64 (S1.wd (f) 0), .int .u64 (S1.wd (f) 1), .int .u64 (S1.wd (f) 2), .int .u64 (S1.wd (f) 3)])] w (GivesRow w (spAll (el f 256))) := by
  refine (S1.spans_in f w hT).mono ?_
  rintro e w' ⟨v, rfl, hrow, hb⟩
  generalize spAll (el f 256) = ps at *
  have hpos : ps.length ≠ 0 := by simpa using hne
  rcases hrow.2 with ⟨_, h0⟩ | ⟨g, cap, cur, hv, _, hg, hcap, r⟩
  · exact absurd (by simpa using h0) hne
  · subst hv
    refine ⟨g, cap, rfl, hcap, ⟨cur, hg, fun k hk => ?_⟩, hb⟩
    have h1 := hrow.cellAt (k * 2) (by omega)
    have h2 := hrow.cellAt (k * 2 + 1) (by omega)
    rw [cell_of_row w' g _ _ _ (0, 0) hg] at h1 h2
    have := S1.spCells_at ps hk
    rw [this.1] at h1
    rw [this.2] at h2
    exact ⟨by simpa using h1, by simpa using h2⟩
set_option maxRecDepth 10000 in
set_option maxHeartbeats 4000000 in
theorem text_neg0 (f : Nat → Bool) {n : Nat} (hn : (el f 256).length = n) (hc : n = 0) (w : World) (hT : S1.Tab w) :
    Calls Tryz.prog 50 #[(.agg #[.int .u64 (S1.wd (f) 0), .int .u64 (S1.wd (f) 1), .int .u64 (S1.wd (f) 2), .int .u64 (S1.wd (f) 3)])] w fun e w' => e = .returned (.string (strN (txtB f))) ∧ Below w.heap.size w w' := by
  have hneg : neg f = true := by
    unfold neg
    rw [hn]
    simp
    omega
  have hres : strN ([91, 94] ++ itms (spAll (el (S1.notS f) 256)) ++ [93]) = strN (txtB f) := by
    unfold txtB rng
    rw [hneg]
    simp
  have hne : spAll (el (S1.notS f) 256) ≠ [] := by
    have := rng_ne f
    unfold rng at this
    rw [hneg] at this
    simpa using this
  have hok := Lib.hid (rng_ok' (S1.notS f))
  have hln : (spAll (el (S1.notS f) 256)).length ≤ 256 := spAll_256 _
  have cL := fun w => S1.len_in f w
  rw [szS_el, hn] at cL
  replace cL := Lib.hid cL
  have cN := Lib.hid (fun w => S1.not_in f w)
  have cS := Lib.hid (fun w' (hb : Below w.heap.size w w') => spans_row (S1.notS f) hne w' (hT.below hb hT.1))
  have cO := Lib.hid (fun b wr (h : TB w b (S1.notS f) [] wr) => h.write (s := ⟨#[91, 94]⟩) (m := [91, 94]) (by decide) (by simp) (by decide))
  replace hres := Lib.hid hres
  subst hc
  clear hT
  clear hneg hn hne
  try clear hc
  go_enter Tryz.func50, Tryz.ntmps50
  go_wp2_with fail
  obtain ⟨W, hW, bx, hB⟩ := S1.boxes1 w 24 (.int .u64 (S1.wd (f) 0)) (.int .u64 (S1.wd (f) 1)) (.int .u64 (S1.wd (f) 2)) (.int .u64 (S1.wd (f) 3))
  rw [hW]
  clear hW
  obtain ⟨⟨g0, g1, g2, g3⟩, y0, y1, y2, y3⟩ := bx.facts
  go_wp2_with (first | (go_at_call 46; (with_reducible refine (cL.out _).mono ?_); rintro e w1 ⟨rfl, h1⟩; replace bx := bx.bel h1; replace hB := hB.trans (h1.mono hB.size); clear h1; obtain ⟨⟨g0, g1, g2, g3⟩, y0, y1, y2, y3⟩ := bx.facts) | (go_at_call 66; (with_reducible refine (cN.out _).mono ?_); rintro e w2 ⟨rfl, h1⟩; replace bx := bx.bel h1; replace hB := hB.trans (h1.mono hB.size); clear h1; clear g0 g1 g2 g3 y0 y1 y2 y3; obtain ⟨⟨g0, g1, g2, g3⟩, y0, y1, y2, y3⟩ := bx.facts; have hTB := tb_not bx hB (S1.notS f); replace hTB := Lib.hid hTB) | (go_at_call 51; (with_reducible refine (cO.out _ _ hTB.out).mono ?_); rintro e w3 ⟨rfl, h1, -⟩; replace hTB := Lib.hid h1; have bx3 := h1.box.blk.facts.1; clear h1; obtain ⟨k0, k1, k2, k3⟩ := bx3) | (go_at_call 67; (with_reducible refine (cS.out _ hTB.out.bel).mono ?_); rintro e w4 ⟨gs, cap, rfl, hcap, hSp, hb⟩; replace hTB := Lib.hid (hTB.out.step hb); replace hSp := Lib.hid hSp; replace hb := Lib.hid hb))
  have hTB2 : Hid (TB w _ (S1.notS f) ([91, 94] ++ itms ((spAll (el (S1.notS f) 256)).take 0)) w4) := Lib.hid (by simpa [itms] using hTB.out)
  generalize spAll (el (S1.notS f) 256) = ps at *
  clear hTB
  go_loopw [27] (fun i wr => ∃ k : Nat, k ≤ ps.length ∧ i = .int .i64 k ∧ Hid (TB w w2.heap.size (S1.notS f) ([91, 94] ++ itms (ps.take k)) wr) ∧ Hid (SpRow wr gs ps)) (fun i _ => ps.length - (intOf i).toNat)
  case atStart => exact ⟨0, Nat.zero_le _, rfl, hTB2, hSp⟩
  case round =>
    clear hTB2 hSp
    obtain ⟨k, hk, rfl, hTB, hSp⟩ := hrel
    by_cases hlt : k < ps.length
    · have hp := Lib.hid (hok.out ps[k] (List.getElem_mem hlt))
      have hsk := Lib.hid (itms_take hlt)
      obtain ⟨c0, c1⟩ := hSp.out.cells hlt
      have hbl := Lib.hid (itms_bound hok.out hk (by omega))
      generalize ps[k] = p at *
      have cP := Lib.hid (fun w => span_in hp.out w)
      have cW := Lib.hid (fun wr (h : TB w w2.heap.size (S1.notS f) ([91, 94] ++ itms (ps.take k)) wr) => h.write (nl_strN (itm_small hp.out)) (by have := hbl.out; simp; omega) (by rw [strN_size]; have := itm_len hp.out; omega))
      go_wp2_with (first
        | (go_at_call 68; (with_reducible refine (cP.out _).mono ?_); rintro e w5 ⟨rfl, h1⟩; replace hTB := Lib.hid ((hTB.out.alloc _).step h1); replace hSp := Lib.hid ((hSp.out.alloc _).bel h1); clear h1)
        | (go_at_call 51; (with_reducible refine (cW.out _ hTB.out).mono ?_); rintro e w6 ⟨rfl, h1, h2⟩; have hTB9 := hTB; replace hTB := Lib.hid h1; replace hSp := Lib.hid (hSp.out.keep h2 hTB9.out.blk); clear h1 h2))
      go_roundw
      case rel => exact ⟨k + 1, by omega, by go_num, Lib.hid (by rw [hsk.out, ← List.append_assoc]; exact hTB.out), hSp⟩
      case measure => simp [intOf]; omega
    · obtain rfl : k = ps.length := by omega
      have hbl := Lib.hid (itms_bound hok.out hk (by omega))
      have hall : ps.take ps.length = ps := List.take_of_length_le (Nat.le_refl _)
      rw [hall] at hTB hbl
      clear hall
      have cW := Lib.hid (fun wr (h : TB w w2.heap.size (S1.notS f) ([91, 94] ++ itms ps) wr) => h.write (s := ⟨#[93]⟩) (m := [93]) (by decide) (by have := hbl.out; simp; omega) (by decide))
      have cG := Lib.hid (fun wr (h : TB w w2.heap.size (S1.notS f) ([91, 94] ++ itms ps ++ [93]) wr) => h.string (by simp) (txt_small hok.out))
      go_wp2_with (first
        | (go_at_call 51; (with_reducible refine (cW.out _ hTB.out).mono ?_); rintro e w6 ⟨rfl, h1, -⟩; replace hTB := Lib.hid h1; clear h1)
        | (go_at_call 53; (with_reducible refine (cG.out _ hTB.out).mono ?_); rintro e w7 ⟨rfl, h1⟩; replace h1 := Lib.hid h1))
      go_ret
      exact ⟨congrArg (fun x => Ending.returned (.string x)) hres.out, h1.out⟩
set_option maxRecDepth 10000 in
set_option maxHeartbeats 4000000 in
theorem text_neg1 (f : Nat → Bool) {n : Nat} (hn : (el f 256).length = n) (hc : 128 < n ∧ n < 256) (w : World) (hT : S1.Tab w) :
    Calls Tryz.prog 50 #[(.agg #[.int .u64 (S1.wd (f) 0), .int .u64 (S1.wd (f) 1), .int .u64 (S1.wd (f) 2), .int .u64 (S1.wd (f) 3)])] w fun e w' => e = .returned (.string (strN (txtB f))) ∧ Below w.heap.size w w' := by
  have hneg : neg f = true := by
    unfold neg
    rw [hn]
    simp
    omega
  have hres : strN ([91, 94] ++ itms (spAll (el (S1.notS f) 256)) ++ [93]) = strN (txtB f) := by
    unfold txtB rng
    rw [hneg]
    simp
  have hne : spAll (el (S1.notS f) 256) ≠ [] := by
    have := rng_ne f
    unfold rng at this
    rw [hneg] at this
    simpa using this
  have hok := Lib.hid (rng_ok' (S1.notS f))
  have hln : (spAll (el (S1.notS f) 256)).length ≤ 256 := spAll_256 _
  have cL := fun w => S1.len_in f w
  rw [szS_el, hn] at cL
  replace cL := Lib.hid cL
  have cN := Lib.hid (fun w => S1.not_in f w)
  have cS := Lib.hid (fun w' (hb : Below w.heap.size w w') => spans_row (S1.notS f) hne w' (hT.below hb hT.1))
  have cO := Lib.hid (fun b wr (h : TB w b (S1.notS f) [] wr) => h.write (s := ⟨#[91, 94]⟩) (m := [91, 94]) (by decide) (by simp) (by decide))
  replace hres := Lib.hid hres
  have e0 : ((n : Int) == 0) = false := by simp; omega
  have e1 : decide ((128 : Int) < n) = true := by simp; omega
  have e2 : decide ((n : Int) < 256) = true := by simp; omega
  clear hT
  clear hneg hn hne
  try clear hc
  go_enter Tryz.func50, Tryz.ntmps50
  go_wp2_with fail
  obtain ⟨W, hW, bx, hB⟩ := S1.boxes1 w 24 (.int .u64 (S1.wd (f) 0)) (.int .u64 (S1.wd (f) 1)) (.int .u64 (S1.wd (f) 2)) (.int .u64 (S1.wd (f) 3))
  rw [hW]
  clear hW
  obtain ⟨⟨g0, g1, g2, g3⟩, y0, y1, y2, y3⟩ := bx.facts
  go_wp2_with (first | (go_at_call 46; (with_reducible refine (cL.out _).mono ?_); rintro e w1 ⟨rfl, h1⟩; replace bx := bx.bel h1; replace hB := hB.trans (h1.mono hB.size); clear h1; obtain ⟨⟨g0, g1, g2, g3⟩, y0, y1, y2, y3⟩ := bx.facts) | (go_at_call 66; (with_reducible refine (cN.out _).mono ?_); rintro e w2 ⟨rfl, h1⟩; replace bx := bx.bel h1; replace hB := hB.trans (h1.mono hB.size); clear h1; clear g0 g1 g2 g3 y0 y1 y2 y3; obtain ⟨⟨g0, g1, g2, g3⟩, y0, y1, y2, y3⟩ := bx.facts; have hTB := tb_not bx hB (S1.notS f); replace hTB := Lib.hid hTB) | (go_at_call 51; (with_reducible refine (cO.out _ _ hTB.out).mono ?_); rintro e w3 ⟨rfl, h1, -⟩; replace hTB := Lib.hid h1; have bx3 := h1.box.blk.facts.1; clear h1; obtain ⟨k0, k1, k2, k3⟩ := bx3) | (go_at_call 67; (with_reducible refine (cS.out _ hTB.out.bel).mono ?_); rintro e w4 ⟨gs, cap, rfl, hcap, hSp, hb⟩; replace hTB := Lib.hid (hTB.out.step hb); replace hSp := Lib.hid hSp; replace hb := Lib.hid hb))
  have hTB2 : Hid (TB w _ (S1.notS f) ([91, 94] ++ itms ((spAll (el (S1.notS f) 256)).take 0)) w4) := Lib.hid (by simpa [itms] using hTB.out)
  generalize spAll (el (S1.notS f) 256) = ps at *
  clear hTB
  go_loopw [27] (fun i wr => ∃ k : Nat, k ≤ ps.length ∧ i = .int .i64 k ∧ Hid (TB w w2.heap.size (S1.notS f) ([91, 94] ++ itms (ps.take k)) wr) ∧ Hid (SpRow wr gs ps)) (fun i _ => ps.length - (intOf i).toNat)
  case atStart => exact ⟨0, Nat.zero_le _, rfl, hTB2, hSp⟩
  case round =>
    clear hTB2 hSp
    obtain ⟨k, hk, rfl, hTB, hSp⟩ := hrel
    by_cases hlt : k < ps.length
    · have hp := Lib.hid (hok.out ps[k] (List.getElem_mem hlt))
      have hsk := Lib.hid (itms_take hlt)
      obtain ⟨c0, c1⟩ := hSp.out.cells hlt
      have hbl := Lib.hid (itms_bound hok.out hk (by omega))
      generalize ps[k] = p at *
      have cP := Lib.hid (fun w => span_in hp.out w)
      have cW := Lib.hid (fun wr (h : TB w w2.heap.size (S1.notS f) ([91, 94] ++ itms (ps.take k)) wr) => h.write (nl_strN (itm_small hp.out)) (by have := hbl.out; simp; omega) (by rw [strN_size]; have := itm_len hp.out; omega))
      go_wp2_with (first
        | (go_at_call 68; (with_reducible refine (cP.out _).mono ?_); rintro e w5 ⟨rfl, h1⟩; replace hTB := Lib.hid ((hTB.out.alloc _).step h1); replace hSp := Lib.hid ((hSp.out.alloc _).bel h1); clear h1)
        | (go_at_call 51; (with_reducible refine (cW.out _ hTB.out).mono ?_); rintro e w6 ⟨rfl, h1, h2⟩; have hTB9 := hTB; replace hTB := Lib.hid h1; replace hSp := Lib.hid (hSp.out.keep h2 hTB9.out.blk); clear h1 h2))
      go_roundw
      case rel => exact ⟨k + 1, by omega, by go_num, Lib.hid (by rw [hsk.out, ← List.append_assoc]; exact hTB.out), hSp⟩
      case measure => simp [intOf]; omega
    · obtain rfl : k = ps.length := by omega
      have hbl := Lib.hid (itms_bound hok.out hk (by omega))
      have hall : ps.take ps.length = ps := List.take_of_length_le (Nat.le_refl _)
      rw [hall] at hTB hbl
      clear hall
      have cW := Lib.hid (fun wr (h : TB w w2.heap.size (S1.notS f) ([91, 94] ++ itms ps) wr) => h.write (s := ⟨#[93]⟩) (m := [93]) (by decide) (by have := hbl.out; simp; omega) (by decide))
      have cG := Lib.hid (fun wr (h : TB w w2.heap.size (S1.notS f) ([91, 94] ++ itms ps ++ [93]) wr) => h.string (by simp) (txt_small hok.out))
      go_wp2_with (first
        | (go_at_call 51; (with_reducible refine (cW.out _ hTB.out).mono ?_); rintro e w6 ⟨rfl, h1, -⟩; replace hTB := Lib.hid h1; clear h1)
        | (go_at_call 53; (with_reducible refine (cG.out _ hTB.out).mono ?_); rintro e w7 ⟨rfl, h1⟩; replace h1 := Lib.hid h1))
      go_ret
      exact ⟨congrArg (fun x => Ending.returned (.string x)) hres.out, h1.out⟩
set_option maxRecDepth 10000 in
set_option maxHeartbeats 4000000 in
theorem text_pos0 (f : Nat → Bool) {n : Nat} (hn : (el f 256).length = n) (hc : 0 < n ∧ n ≤ 128) (w : World) (hT : S1.Tab w) :
    Calls Tryz.prog 50 #[(.agg #[.int .u64 (S1.wd (f) 0), .int .u64 (S1.wd (f) 1), .int .u64 (S1.wd (f) 2), .int .u64 (S1.wd (f) 3)])] w fun e w' => e = .returned (.string (strN (txtB f))) ∧ Below w.heap.size w w' := by
  have hneg : neg f = false := by
    unfold neg
    rw [hn]
    simp
    omega
  have hres : strN ([91] ++ itms (spAll (el (f) 256)) ++ [93]) = strN (txtB f) := by
    unfold txtB rng
    rw [hneg]
    simp
  have hne : spAll (el (f) 256) ≠ [] := by
    have := rng_ne f
    unfold rng at this
    rw [hneg] at this
    simpa using this
  have hok := Lib.hid (rng_ok' (f))
  have hln : (spAll (el (f) 256)).length ≤ 256 := spAll_256 _
  have cL := fun w => S1.len_in f w
  rw [szS_el, hn] at cL
  replace cL := Lib.hid cL
  have cN := Lib.hid (fun w => S1.not_in f w)
  have cS := Lib.hid (fun w' (hb : Below w.heap.size w w') => spans_row (f) hne w' (hT.below hb hT.1))
  have cO := Lib.hid (fun b wr (h : TB w b (f) [] wr) => h.write (s := ⟨#[91]⟩) (m := [91]) (by decide) (by simp) (by decide))
  replace hres := Lib.hid hres
  have e0 : ((n : Int) == 0) = false := by simp; omega
  have e1 : decide ((128 : Int) < n) = false := by simp; omega
  clear hT
  clear hneg hn hne
  try clear hc
  go_enter Tryz.func50, Tryz.ntmps50
  go_wp2_with fail
  obtain ⟨W, hW, bx, hB⟩ := S1.boxes1 w 24 (.int .u64 (S1.wd (f) 0)) (.int .u64 (S1.wd (f) 1)) (.int .u64 (S1.wd (f) 2)) (.int .u64 (S1.wd (f) 3))
  rw [hW]
  clear hW
  obtain ⟨⟨g0, g1, g2, g3⟩, y0, y1, y2, y3⟩ := bx.facts
  go_wp2_with (first | (go_at_call 46; (with_reducible refine (cL.out _).mono ?_); rintro e w1 ⟨rfl, h1⟩; replace bx := bx.bel h1; replace hB := hB.trans (h1.mono hB.size); clear h1; obtain ⟨⟨g0, g1, g2, g3⟩, y0, y1, y2, y3⟩ := bx.facts; have hTB := tb_pos bx hB (f := f); replace hTB := Lib.hid hTB) | (go_at_call 51; (with_reducible refine (cO.out _ _ hTB.out).mono ?_); rintro e w3 ⟨rfl, h1, -⟩; replace hTB := Lib.hid h1; have bx3 := h1.box.blk.facts.1; clear h1; obtain ⟨k0, k1, k2, k3⟩ := bx3) | (go_at_call 67; (with_reducible refine (cS.out _ hTB.out.bel).mono ?_); rintro e w4 ⟨gs, cap, rfl, hcap, hSp, hb⟩; replace hTB := Lib.hid (hTB.out.step hb); replace hSp := Lib.hid hSp; replace hb := Lib.hid hb))
  have hTB2 : Hid (TB w _ (f) ([91] ++ itms ((spAll (el (f) 256)).take 0)) w4) := Lib.hid (by simpa [itms] using hTB.out)
  generalize spAll (el (f) 256) = ps at *
  clear hTB
  go_loopw [27] (fun i wr => ∃ k : Nat, k ≤ ps.length ∧ i = .int .i64 k ∧ Hid (TB w w1.heap.size (f) ([91] ++ itms (ps.take k)) wr) ∧ Hid (SpRow wr gs ps)) (fun i _ => ps.length - (intOf i).toNat)
  case atStart => exact ⟨0, Nat.zero_le _, rfl, hTB2, hSp⟩
  case round =>
    clear hTB2 hSp
    obtain ⟨k, hk, rfl, hTB, hSp⟩ := hrel
    by_cases hlt : k < ps.length
    · have hp := Lib.hid (hok.out ps[k] (List.getElem_mem hlt))
      have hsk := Lib.hid (itms_take hlt)
      obtain ⟨c0, c1⟩ := hSp.out.cells hlt
      have hbl := Lib.hid (itms_bound hok.out hk (by omega))
      generalize ps[k] = p at *
      have cP := Lib.hid (fun w => span_in hp.out w)
      have cW := Lib.hid (fun wr (h : TB w w1.heap.size (f) ([91] ++ itms (ps.take k)) wr) => h.write (nl_strN (itm_small hp.out)) (by have := hbl.out; simp; omega) (by rw [strN_size]; have := itm_len hp.out; omega))
      go_wp2_with (first
        | (go_at_call 68; (with_reducible refine (cP.out _).mono ?_); rintro e w5 ⟨rfl, h1⟩; replace hTB := Lib.hid ((hTB.out.alloc _).step h1); replace hSp := Lib.hid ((hSp.out.alloc _).bel h1); clear h1)
        | (go_at_call 51; (with_reducible refine (cW.out _ hTB.out).mono ?_); rintro e w6 ⟨rfl, h1, h2⟩; have hTB9 := hTB; replace hTB := Lib.hid h1; replace hSp := Lib.hid (hSp.out.keep h2 hTB9.out.blk); clear h1 h2))
      go_roundw
      case rel => exact ⟨k + 1, by omega, by go_num, Lib.hid (by rw [hsk.out, ← List.append_assoc]; exact hTB.out), hSp⟩
      case measure => simp [intOf]; omega
    · obtain rfl : k = ps.length := by omega
      have hbl := Lib.hid (itms_bound hok.out hk (by omega))
      have hall : ps.take ps.length = ps := List.take_of_length_le (Nat.le_refl _)
      rw [hall] at hTB hbl
      clear hall
      have cW := Lib.hid (fun wr (h : TB w w1.heap.size (f) ([91] ++ itms ps) wr) => h.write (s := ⟨#[93]⟩) (m := [93]) (by decide) (by have := hbl.out; simp; omega) (by decide))
      have cG := Lib.hid (fun wr (h : TB w w1.heap.size (f) ([91] ++ itms ps ++ [93]) wr) => h.string (by simp) (txt_small hok.out))
      go_wp2_with (first
        | (go_at_call 51; (with_reducible refine (cW.out _ hTB.out).mono ?_); rintro e w6 ⟨rfl, h1, -⟩; replace hTB := Lib.hid h1; clear h1)
        | (go_at_call 53; (with_reducible refine (cG.out _ hTB.out).mono ?_); rintro e w7 ⟨rfl, h1⟩; replace h1 := Lib.hid h1))
      go_ret
      exact ⟨congrArg (fun x => Ending.returned (.string x)) hres.out, h1.out⟩
set_option maxRecDepth 10000 in
set_option maxHeartbeats 4000000 in
theorem text_pos1 (f : Nat → Bool) {n : Nat} (hn : (el f 256).length = n) (hc : 256 ≤ n) (w : World) (hT : S1.Tab w) :
    Calls Tryz.prog 50 #[(.agg #[.int .u64 (S1.wd (f) 0), .int .u64 (S1.wd (f) 1), .int .u64 (S1.wd (f) 2), .int .u64 (S1.wd (f) 3)])] w fun e w' => e = .returned (.string (strN (txtB f))) ∧ Below w.heap.size w w' := by
  have hneg : neg f = false := by
    unfold neg
    rw [hn]
    simp
    omega
  have hres : strN ([91] ++ itms (spAll (el (f) 256)) ++ [93]) = strN (txtB f) := by
    unfold txtB rng
    rw [hneg]
    simp
  have hne : spAll (el (f) 256) ≠ [] := by
    have := rng_ne f
    unfold rng at this
    rw [hneg] at this
    simpa using this
  have hok := Lib.hid (rng_ok' (f))
  have hln : (spAll (el (f) 256)).length ≤ 256 := spAll_256 _
  have cL := fun w => S1.len_in f w
  rw [szS_el, hn] at cL
  replace cL := Lib.hid cL
  have cN := Lib.hid (fun w => S1.not_in f w)
  have cS := Lib.hid (fun w' (hb : Below w.heap.size w w') => spans_row (f) hne w' (hT.below hb hT.1))
  have cO := Lib.hid (fun b wr (h : TB w b (f) [] wr) => h.write (s := ⟨#[91]⟩) (m := [91]) (by decide) (by simp) (by decide))
  replace hres := Lib.hid hres
  have e0 : ((n : Int) == 0) = false := by simp; omega
  have e1 : decide ((128 : Int) < n) = true := by simp; omega
  have e2 : decide ((n : Int) < 256) = false := by simp; omega
  clear hT
  clear hneg hn hne
  try clear hc
  go_enter Tryz.func50, Tryz.ntmps50
  go_wp2_with fail
  obtain ⟨W, hW, bx, hB⟩ := S1.boxes1 w 24 (.int .u64 (S1.wd (f) 0)) (.int .u64 (S1.wd (f) 1)) (.int .u64 (S1.wd (f) 2)) (.int .u64 (S1.wd (f) 3))
  rw [hW]
  clear hW
  obtain ⟨⟨g0, g1, g2, g3⟩, y0, y1, y2, y3⟩ := bx.facts
  go_wp2_with (first | (go_at_call 46; (with_reducible refine (cL.out _).mono ?_); rintro e w1 ⟨rfl, h1⟩; replace bx := bx.bel h1; replace hB := hB.trans (h1.mono hB.size); clear h1; obtain ⟨⟨g0, g1, g2, g3⟩, y0, y1, y2, y3⟩ := bx.facts; have hTB := tb_pos bx hB (f := f); replace hTB := Lib.hid hTB) | (go_at_call 51; (with_reducible refine (cO.out _ _ hTB.out).mono ?_); rintro e w3 ⟨rfl, h1, -⟩; replace hTB := Lib.hid h1; have bx3 := h1.box.blk.facts.1; clear h1; obtain ⟨k0, k1, k2, k3⟩ := bx3) | (go_at_call 67; (with_reducible refine (cS.out _ hTB.out.bel).mono ?_); rintro e w4 ⟨gs, cap, rfl, hcap, hSp, hb⟩; replace hTB := Lib.hid (hTB.out.step hb); replace hSp := Lib.hid hSp; replace hb := Lib.hid hb))
  have hTB2 : Hid (TB w _ (f) ([91] ++ itms ((spAll (el (f) 256)).take 0)) w4) := Lib.hid (by simpa [itms] using hTB.out)
  generalize spAll (el (f) 256) = ps at *
  clear hTB
  go_loopw [27] (fun i wr => ∃ k : Nat, k ≤ ps.length ∧ i = .int .i64 k ∧ Hid (TB w w1.heap.size (f) ([91] ++ itms (ps.take k)) wr) ∧ Hid (SpRow wr gs ps)) (fun i _ => ps.length - (intOf i).toNat)
  case atStart => exact ⟨0, Nat.zero_le _, rfl, hTB2, hSp⟩
  case round =>
    clear hTB2 hSp
    obtain ⟨k, hk, rfl, hTB, hSp⟩ := hrel
    by_cases hlt : k < ps.length
    · have hp := Lib.hid (hok.out ps[k] (List.getElem_mem hlt))
      have hsk := Lib.hid (itms_take hlt)
      obtain ⟨c0, c1⟩ := hSp.out.cells hlt
      have hbl := Lib.hid (itms_bound hok.out hk (by omega))
      generalize ps[k] = p at *
      have cP := Lib.hid (fun w => span_in hp.out w)
      have cW := Lib.hid (fun wr (h : TB w w1.heap.size (f) ([91] ++ itms (ps.take k)) wr) => h.write (nl_strN (itm_small hp.out)) (by have := hbl.out; simp; omega) (by rw [strN_size]; have := itm_len hp.out; omega))
      go_wp2_with (first
        | (go_at_call 68; (with_reducible refine (cP.out _).mono ?_); rintro e w5 ⟨rfl, h1⟩; replace hTB := Lib.hid ((hTB.out.alloc _).step h1); replace hSp := Lib.hid ((hSp.out.alloc _).bel h1); clear h1)
        | (go_at_call 51; (with_reducible refine (cW.out _ hTB.out).mono ?_); rintro e w6 ⟨rfl, h1, h2⟩; have hTB9 := hTB; replace hTB := Lib.hid h1; replace hSp := Lib.hid (hSp.out.keep h2 hTB9.out.blk); clear h1 h2))
      go_roundw
      case rel => exact ⟨k + 1, by omega, by go_num, Lib.hid (by rw [hsk.out, ← List.append_assoc]; exact hTB.out), hSp⟩
      case measure => simp [intOf]; omega
    · obtain rfl : k = ps.length := by omega
      have hbl := Lib.hid (itms_bound hok.out hk (by omega))
      have hall : ps.take ps.length = ps := List.take_of_length_le (Nat.le_refl _)
      rw [hall] at hTB hbl
      clear hall
      have cW := Lib.hid (fun wr (h : TB w w1.heap.size (f) ([91] ++ itms ps) wr) => h.write (s := ⟨#[93]⟩) (m := [93]) (by decide) (by have := hbl.out; simp; omega) (by decide))
      have cG := Lib.hid (fun wr (h : TB w w1.heap.size (f) ([91] ++ itms ps ++ [93]) wr) => h.string (by simp) (txt_small hok.out))
      go_wp2_with (first
        | (go_at_call 51; (with_reducible refine (cW.out _ hTB.out).mono ?_); rintro e w6 ⟨rfl, h1, -⟩; replace hTB := Lib.hid h1; clear h1)
        | (go_at_call 53; (with_reducible refine (cG.out _ hTB.out).mono ?_); rintro e w7 ⟨rfl, h1⟩; replace h1 := Lib.hid h1))
      go_ret
      exact ⟨congrArg (fun x => Ending.returned (.string x)) hres.out, h1.out⟩

theorem text_in (f : Nat → Bool) (w : World) (hT : S1.Tab w) :
    Calls Tryz.prog 50 #[(.agg #[.int .u64 (S1.wd (f) 0), .int .u64 (S1.wd (f) 1), .int .u64 (S1.wd (f) 2), .int .u64 (S1.wd (f) 3)])] w fun e w' => e = .returned (.string (strN (txtB f))) ∧ Below w.heap.size w w' := by
  generalize hn : (el f 256).length = n
  rcases Nat.eq_zero_or_pos n with h | h
  · exact text_neg0 f hn h w hT
  · rcases Nat.lt_or_ge 128 n with h1 | h1
    · rcases Nat.lt_or_ge n 256 with h2 | h2
      · exact text_neg1 f hn ⟨h1, h2⟩ w hT
      · exact text_pos1 f hn h2 w hT
    · exact text_pos0 f hn ⟨h, h1⟩ w hT
end Go.Proofs.YtjlmeegaiagfpaaGreatDoor.S6
