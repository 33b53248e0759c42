/- A range is written: span. A builder that leaves what is not its own. -/
import Derived.Test.YtaahefhiiggagaaDoorW10a
import Derived.Test.YtaahefhiiggagaaDoorS5W10
import Derived.Test.YtaahefhiiggagaaDoorS1W10
import Derived.BigQuiet
import Derived.Deep.QuietTactic
namespace Go.Proofs.YtaahefhiiggagaaDoor
open Go.RowKit
open S5 (nl nl_length nl_small at_nl nl_at Rd Sp Gives Two errV nl_strN nl_inj nl_append sp_small Bld)
open S1 (Blk4 SetBox wd noS oneS spanS orS notS spU eqB el spAll spCells)
theorem pi_small {c : Nat} (hc : c ≤ 255) : ∀ x ∈ pi c, x ≤ 255 := sp_small (pi_sp hc)
theorem pi_sz {c : Nat} (hc : c ≤ 255) : (strN (pi c)).size ≤ 4 := by
  rw [strN_size]
  have := S5.sp_length (pi_sp hc)
  omega
theorem strN_app (x y : List Nat) : strN (x ++ y) = strN x ++ strN y := by
  apply ByteArray.ext
  apply Array.toList_inj.1
  unfold strN
  simp [strOfNums_data]
theorem dashB : strN [45] = ⟨#[45]⟩ := by decide
/-- A block of two bytes. -/
def Blk2 (w : World) (b : Nat) (x y : Value) : Prop := w.heap[b]? = some (.cells #[x, y] 56 (0, 0))
theorem Blk2.bel {w w' : World} {b : Nat} {x y : Value} (h : Blk2 w b x y) (hb : Bel w w') : w'.cell? ⟨b, 0, none⟩ = some x ∧ w'.cell? ⟨b, 1, none⟩ = some y := by
  have h2 : w'.heap[b]? = some (.cells #[x, y] 56 (0, 0)) := (Below.block hb b (lt_of_block h)).trans h
  constructor <;> simp [World.cell?, h2]
theorem box2 (w : World) (x y : Value) : ∃ W, w.alloc (.cells #[x, y] 56) = W ∧ Blk2 W w.heap.size x y ∧ Bel w W :=
  ⟨_, rfl, World.alloc_heap_new w _, (Below.refl _ _).alloc (Nat.le_refl _) _⟩
theorem u8_sub {a b : Nat} (h : a ≤ b) (hb : b ≤ 255) : IntKind.u8.wrap ((b : Int) - a) = ((b - a : Nat) : Int) := by rw [IntKind.wrap_u8]; omega
set_option maxRecDepth 10000 in
set_option maxHeartbeats 2000000 in
theorem span_one {a b : Nat} (hb : b ≤ 255) (h : b = a) (w : World) :
    Calls Tryd.prog 23 #[.agg #[.int .u8 a, .int .u8 b]] w fun e w' => e = .returned (.string (strN (itm (a, b)))) ∧ Below w.heap.size w w' := by
  have hab : a ≤ b := by omega
  have ca := Lib.hid (fun w => S5.inner_in (pi_sp (c := a) (by omega)) w)
  have cb := Lib.hid (fun w => S5.inner_in (pi_sp (c := b) hb) w)
  have hres : strN (itm (a, b)) = strN (pi a) := by
    unfold itm
    rw [if_neg (by simp only; omega), if_neg (by simp only; omega), List.append_nil, List.append_nil]
  replace hres := Lib.hid hres
  have hd : IntKind.u8.wrap ((b : Int) - a) = 0 := by rw [u8_sub hab hb]; omega
  clear h
  have sza := pi_sz (c := a) (by omega)
  have szb := pi_sz hb
  generalize strN (pi a) = SA at *
  generalize strN (pi b) = SB at *
  obtain ⟨W, hW, bx, hB⟩ := box2 w (.int .u8 a) (.int .u8 b)
  have x0 : ∀ w', Bel W w' → w'.cell? ⟨w.heap.size, 0, none⟩ = some (.int .u8 a) := fun w' h => (bx.bel h).1
  have x1 : ∀ w', Bel W w' → w'.cell? ⟨w.heap.size, 1, none⟩ = some (.int .u8 b) := fun w' h => (bx.bel h).2
  replace bx := Lib.hid bx
  replace hB := Lib.hid hB
  replace hW := Lib.hid hW
  go_enter Tryd.func23, Tryd.ntmps23
  go_wp2
  rw [hW.out]
  refine wp_region_bel (by kernel_rfl) (by kernel_rfl) ?_
  repeat (first
    | go_big_quiet_skip
    | (go_big_quiet_want
       first
         | (refine BigFrame.quiet_move _ rfl ?_
            simp only [Act.put, Act.eval, List.setIfInBounds_toArray, List.set_cons_zero, List.set_cons_succ, List.getD_toArray, List.getD_cons_zero, List.getD_cons_succ]
            go_big_quiet_on)
         | (refine BigFrame.quiet_assign _ rfl ?_
            simp only [Act.put, Act.eval, List.setIfInBounds_toArray, List.set_cons_zero, List.set_cons_succ, List.getD_toArray, List.getD_cons_zero, List.getD_cons_succ]
            go_big_quiet_on)
         | (refine quiet_call 39 ?_
            apply Exists.intro
            refine ⟨fun w' hC => ?_, ?_⟩
            · go_simp
              with_reducible rfl
            refine ⟨_, fun w' hC => Calls.bel hC (by first | with_reducible exact ca.out _ | with_reducible exact cb.out _), ?_⟩
            simp only [Act.put, List.setIfInBounds_toArray, List.set_cons_zero, List.set_cons_succ]
            go_big_quiet_on)
         | (refine quiet_val ?_
            apply Exists.intro
            refine ⟨fun w' hC => ?_, ?_⟩
            · go_simp
              with_reducible rfl
            simp only [Act.put, List.setIfInBounds_toArray, List.set_cons_zero, List.set_cons_succ]
            go_big_quiet_on)))
  refine wpQuiet_nil ?_
  intro wq hq
  obtain ⟨y0, y1⟩ := bx.out.bel hq
  clear x0 x1
  go_wp2
  go_ret
  exact ⟨by rw [hres.out] <;> rfl, hB.out.step hq⟩
set_option maxRecDepth 10000 in
set_option maxHeartbeats 2000000 in
theorem span_two {a b : Nat} (hb : b ≤ 255) (h : b = a + 1) (w : World) :
    Calls Tryd.prog 23 #[.agg #[.int .u8 a, .int .u8 b]] w fun e w' => e = .returned (.string (strN (itm (a, b)))) ∧ Below w.heap.size w w' := by
  have hab : a ≤ b := by omega
  have ca := Lib.hid (fun w => S5.inner_in (pi_sp (c := a) (by omega)) w)
  have cb := Lib.hid (fun w => S5.inner_in (pi_sp (c := b) hb) w)
  have hres : strN (itm (a, b)) = strN (pi a) ++ strN (pi b) := by
    unfold itm
    rw [if_neg (by simp only; omega), if_pos (by simp only; omega), List.append_nil, strN_app]
  replace hres := Lib.hid hres
  have hd : IntKind.u8.wrap ((b : Int) - a) = 1 := by rw [u8_sub hab hb]; omega
  clear h
  have sza := pi_sz (c := a) (by omega)
  have szb := pi_sz hb
  generalize strN (pi a) = SA at *
  generalize strN (pi b) = SB at *
  obtain ⟨W, hW, bx, hB⟩ := box2 w (.int .u8 a) (.int .u8 b)
  have x0 : ∀ w', Bel W w' → w'.cell? ⟨w.heap.size, 0, none⟩ = some (.int .u8 a) := fun w' h => (bx.bel h).1
  have x1 : ∀ w', Bel W w' → w'.cell? ⟨w.heap.size, 1, none⟩ = some (.int .u8 b) := fun w' h => (bx.bel h).2
  replace bx := Lib.hid bx
  replace hB := Lib.hid hB
  replace hW := Lib.hid hW
  go_enter Tryd.func23, Tryd.ntmps23
  go_wp2
  rw [hW.out]
  refine wp_region_bel (by kernel_rfl) (by kernel_rfl) ?_
  repeat (first
    | go_big_quiet_skip
    | (go_big_quiet_want
       first
         | (refine BigFrame.quiet_move _ rfl ?_
            simp only [Act.put, Act.eval, List.setIfInBounds_toArray, List.set_cons_zero, List.set_cons_succ, List.getD_toArray, List.getD_cons_zero, List.getD_cons_succ]
            go_big_quiet_on)
         | (refine BigFrame.quiet_assign _ rfl ?_
            simp only [Act.put, Act.eval, List.setIfInBounds_toArray, List.set_cons_zero, List.set_cons_succ, List.getD_toArray, List.getD_cons_zero, List.getD_cons_succ]
            go_big_quiet_on)
         | (refine quiet_call 39 ?_
            apply Exists.intro
            refine ⟨fun w' hC => ?_, ?_⟩
            · go_simp
              with_reducible rfl
            refine ⟨_, fun w' hC => Calls.bel hC (by first | with_reducible exact ca.out _ | with_reducible exact cb.out _), ?_⟩
            simp only [Act.put, List.setIfInBounds_toArray, List.set_cons_zero, List.set_cons_succ]
            go_big_quiet_on)
         | (refine quiet_val ?_
            apply Exists.intro
            refine ⟨fun w' hC => ?_, ?_⟩
            · go_simp
              with_reducible rfl
            simp only [Act.put, List.setIfInBounds_toArray, List.set_cons_zero, List.set_cons_succ]
            go_big_quiet_on)))
  refine wpQuiet_nil ?_
  intro wq hq
  obtain ⟨y0, y1⟩ := bx.out.bel hq
  clear x0 x1
  go_wp2
  go_ret
  exact ⟨by rw [hres.out] <;> rfl, hB.out.step hq⟩
set_option maxRecDepth 10000 in
set_option maxHeartbeats 2000000 in
theorem span_more {a b : Nat} (hb : b ≤ 255) (h : a + 1 < b) (w : World) :
    Calls Tryd.prog 23 #[.agg #[.int .u8 a, .int .u8 b]] w fun e w' => e = .returned (.string (strN (itm (a, b)))) ∧ Below w.heap.size w w' := by
  have hab : a ≤ b := by omega
  have ca := Lib.hid (fun w => S5.inner_in (pi_sp (c := a) (by omega)) w)
  have cb := Lib.hid (fun w => S5.inner_in (pi_sp (c := b) hb) w)
  have hres : strN (itm (a, b)) = strN (pi a) ++ ⟨#[45]⟩ ++ strN (pi b) := by
    unfold itm
    rw [if_pos (by simp only; omega), if_pos (by simp only; omega), strN_app, strN_app, dashB]
  replace hres := Lib.hid hres
  obtain ⟨d, hd9⟩ : ∃ d : Nat, b - a = d := ⟨_, rfl⟩
  have hd : IntKind.u8.wrap ((b : Int) - a) = d := by rw [u8_sub hab hb, hd9]
  have hd0 : ((d : Int) == 0) = false := by simp; omega
  have hd1 : ((d : Int) == 1) = false := by simp; omega
  replace hd9 := Lib.hid hd9
  clear h
  have sza := pi_sz (c := a) (by omega)
  have szb := pi_sz hb
  generalize strN (pi a) = SA at *
  generalize strN (pi b) = SB at *
  obtain ⟨W, hW, bx, hB⟩ := box2 w (.int .u8 a) (.int .u8 b)
  have x0 : ∀ w', Bel W w' → w'.cell? ⟨w.heap.size, 0, none⟩ = some (.int .u8 a) := fun w' h => (bx.bel h).1
  have x1 : ∀ w', Bel W w' → w'.cell? ⟨w.heap.size, 1, none⟩ = some (.int .u8 b) := fun w' h => (bx.bel h).2
  replace bx := Lib.hid bx
  replace hB := Lib.hid hB
  replace hW := Lib.hid hW
  go_enter Tryd.func23, Tryd.ntmps23
  go_wp2
  rw [hW.out]
  refine wp_region_bel (by kernel_rfl) (by kernel_rfl) ?_
  repeat (first
    | go_big_quiet_skip
    | (go_big_quiet_want
       first
         | (refine BigFrame.quiet_move _ rfl ?_
            simp only [Act.put, Act.eval, List.setIfInBounds_toArray, List.set_cons_zero, List.set_cons_succ, List.getD_toArray, List.getD_cons_zero, List.getD_cons_succ]
            go_big_quiet_on)
         | (refine BigFrame.quiet_assign _ rfl ?_
            simp only [Act.put, Act.eval, List.setIfInBounds_toArray, List.set_cons_zero, List.set_cons_succ, List.getD_toArray, List.getD_cons_zero, List.getD_cons_succ]
            go_big_quiet_on)
         | (refine quiet_call 39 ?_
            apply Exists.intro
            refine ⟨fun w' hC => ?_, ?_⟩
            · go_simp
              with_reducible rfl
            refine ⟨_, fun w' hC => Calls.bel hC (by first | with_reducible exact ca.out _ | with_reducible exact cb.out _), ?_⟩
            simp only [Act.put, List.setIfInBounds_toArray, List.set_cons_zero, List.set_cons_succ]
            go_big_quiet_on)
         | (refine quiet_val ?_
            apply Exists.intro
            refine ⟨fun w' hC => ?_, ?_⟩
            · go_simp
              with_reducible rfl
            simp only [Act.put, List.setIfInBounds_toArray, List.set_cons_zero, List.set_cons_succ]
            go_big_quiet_on)))
  refine wpQuiet_nil ?_
  intro wq hq
  obtain ⟨y0, y1⟩ := bx.out.bel hq
  clear x0 x1
  go_wp2
  go_ret
  exact ⟨by rw [hres.out] <;> rfl, hB.out.step hq⟩
theorem span_in {p : Nat × Nat} (h : p.1 ≤ p.2 ∧ p.2 ≤ 255) (w : World) :
    Calls Tryd.prog 23 #[.agg #[.int .u8 p.1, .int .u8 p.2]] w fun e w' => e = .returned (.string (strN (itm p))) ∧ Below w.heap.size w w' := by
  obtain ⟨a, b⟩ := p
  simp only at h ⊢
  rcases Nat.lt_or_ge (a + 1) b with h1 | h1
  · exact span_more h.2 h1 w
  · by_cases h2 : b = a
    · exact span_one h.2 h2 w
    · exact span_two h.2 (by omega) w
/-! ### A builder leaves what is not its own -/
/-- What lay in cells of another type than a byte's, apart from block b, lies as it lay. -/
def Keeps (b : Nat) (w w' : World) : Prop := ∀ (K : Nat) (cs : Array Value) (t : TypeId), t ≠ 5 → K ≠ b → w.heap[K]? = some (.cells cs t (0, 0)) → w'.heap[K]? = some (.cells cs t (0, 0))
theorem check_keep {B b : Nat} {l : List Nat} (w : World) (h : Bld B b l w) :
    Calls Tryd.prog 37 #[.pointer (some ⟨b, 0, none⟩)] w fun e w' => e = .returned (.tuple #[]) ∧ Lib.BuilderAt 50 5 B b (.pointer (some ⟨b, 0, none⟩)) (l.map encN) w' ∧ Below B w w' ∧ Keeps b w w' := by
  obtain ⟨p, hp, h⟩ := h
  rcases hp with rfl | rfl
  · refine (S5.check_fresh w h.cell0 h.shape h.frozen0).mono ?_
    rintro e w' ⟨rfl, rfl⟩
    exact ⟨rfl, h.used _, (Below.refl B w).setCell (p := ⟨b, 0, none⟩) h.1 _, fun K cs t _ hk hK => (Below.heap_setCell w ⟨b, 0, none⟩ _ K hk).trans hK⟩
  · refine (S5.check_used w h.cell0).mono ?_
    rintro e w' ⟨rfl, rfl⟩
    exact ⟨rfl, h, Below.refl B _, fun K cs t _ _ hK => hK⟩
theorem write_keep {B b : Nat} {l m : List Nat} {s : ByteArray} (w : World) (h : Bld B b l w) (hm : nl s = m) (hl : l.length ≤ 100000) (hs : s.size ≤ 100000) (hB : B ≤ w.heap.size) :
    Calls Tryd.prog 21 #[.pointer (some ⟨b, 0, none⟩), .string s] w fun e w' => e = .returned (.tuple #[.int .i64 s.size, .nilIface]) ∧ Bld B b (l ++ m) w' ∧ Below B w w' ∧ Keeps b w w' := by
  obtain ⟨i0, hi, hz0, hz1, hz2⟩ := info_parts info5
  have C := Lib.hid (check_keep w h)
  have hms := S5.strCells_nl s
  rw [hm] at hms
  replace hms := Lib.hid hms
  replace hi := Lib.hid hi
  replace hz0 := Lib.hid hz0
  replace hz1 := Lib.hid hz1
  replace hz2 := Lib.hid hz2
  clear h hm
  go_enter Tryd.func21, Tryd.ntmps21
  go_wp2_with (go_at_call 37; (with_reducible refine C.out.mono ?_))
  rintro e w1 ⟨rfl, h1, hb1, hk1⟩
  obtain ⟨hB1, v, hbk, hown, hne⟩ := h1
  have c0 : w1.cell? ⟨b, 0, none⟩ = some (.pointer (some ⟨b, 0, none⟩)) := by rw [Lib.cell_of_heap hbk]; rfl
  have c1 : w1.cell? ⟨b, 1, none⟩ = some v := by rw [Lib.cell_of_heap hbk]; rfl
  have hlt := lt_of_block hbk
  replace hk1 := Lib.hid hk1
  replace hown := Lib.hid hown
  replace hbk := Lib.hid hbk
  replace hne := Lib.hid hne
  replace hb1 := Lib.hid hb1
  go_wp2_with (at_builtin; refine Lib.wpList_append_own_string _ rfl _ _ 40 9 rfl B 5 i0 Tryd.underlying40 Tryd.underlying9 hi.out hz0.out hz1.out hz2.out _ _ _ rfl hown.out s rfl ?c3 ?c4 ?c5 ?_)
  case c3 => unfold maxLen; simp; omega
  case c4 => simp; omega
  case c5 => have := hb1.out.size; omega
  intro v' w2 hown' hgrow _
  have hb2 : w2.heap[b]? = some (.cells #[.pointer (some ⟨b, 0, none⟩), v] 50 (0, 0)) := by
    rw [hgrow.block b hlt (fun e => hne.out e.symm)]
    exact hbk.out
  have hk2 : Keeps b w1 w2 := fun K cs t ht hk hK => by
    rw [hgrow.block K (lt_of_block hK) ?_]
    · exact hK
    · intro e
      rcases hown.out.2 with ⟨hv, _⟩ | ⟨g, cap, cur, hv, _, hg, _⟩
      · rw [hv] at e; simp [Value.ownBlock] at e
      · rw [hv] at e
        simp [Value.ownBlock] at e
        subst e
        rw [hK] at hg
        simp at hg
        exact ht hg.2
  replace hk2 := Lib.hid hk2
  have d0 : w2.cell? ⟨b, 0, none⟩ = some (.pointer (some ⟨b, 0, none⟩)) := by rw [Lib.cell_of_heap hb2]; rfl
  have d1 : w2.cell? ⟨b, 1, none⟩ = some v := by rw [Lib.cell_of_heap hb2]; rfl
  have f1 : w2.frozen? ⟨b, 1, none⟩ = false := Lib.frozen_of_heap hb2 1
  obtain ⟨ao, n', cap, rfl⟩ : ∃ ao n' cap, v' = .slice ao n' cap := by
    rcases hown'.2 with ⟨hv, _⟩ | ⟨g, cap, cur, hv, _⟩
    · exact ⟨_, _, _, hv⟩
    · exact ⟨_, _, _, hv⟩
  replace hgrow := Lib.hid hgrow
  replace hb2 := Lib.hid hb2
  replace hown' := Lib.hid hown'
  clear c0 c1
  go_wp2
  go_ret2
  have hown2 := hown'.out
  rw [hms.out, ← List.map_append] at hown2
  refine ⟨rfl, ⟨_, .inr rfl, Lib.BuilderAt.put hB1 hb2.out ?_ (by decide)⟩, ?_, fun K cs t ht hk hK => (Below.heap_setCell w2 ⟨b, 1, none⟩ _ K hk).trans (hk2.out K cs t ht hk (hk1.out K cs t ht hk hK))⟩
  · have hz : l.length + s.size = ((l ++ m).map encN).length := by
      have := congrArg List.length hms.out
      rw [Lib.strCells_length] at this
      simp at this ⊢
      omega
    rw [← hz]
    exact hown2
  · exact (hb1.out.grown hgrow.out (by have := hb1.out.size; omega) (fun k hk => (hown.out.lt k hk).1)).setCell (p := ⟨b, 1, none⟩) hB1 _
end Go.Proofs.YtaahefhiiggagaaDoor
