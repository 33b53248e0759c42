/- Texts merged: S7M, LQ, LB, S7W1, S7W3, S7W2, S1M, S1W2, S1Q, S1B, S1W7, S1W8, S1M2, S1W5, S1W6, S1W13, M9c, M9d, S7W26, S7W8a, S7W8, S7W27. -/
import Derived.Below
import Derived.Deep.Quiet
import Derived.BigQuiet
import Derived.StillTail
import Derived.WalkKit
import Derived.WalkLawsBesides
import Derived.WalkSpells
import Derived.Laws.BitsAllLaws
import Derived.Laws.BytesArg
import Derived.Laws.Rows
import Derived.Laws.AppendOwnNone
import Derived.Lib.Hide
import Derived.Lib.SlBytesConst
import Derived.OneCell
import Derived.OwnWalk
import Derived.RangeFuncRecord
import Derived.Maps.AppendAt
import Derived.Deep.RegionHeld3
import Derived.Test.YtaebhbcamhmhoaaDoorProg
import Derived.OwnWalkIn
import Derived.TacticsInMore
import Derived.LoopNIn
import Derived.LoopIn
import Derived.Shelf.RegionOpen
import Derived.Stop.RegionWithIn
import Derived.Laws.BitsLemmas
import Derived.IntWalk
import Derived.RangeFuncNested
import Derived.RangeFuncBound
import Derived.RangeFuncCalls
import Derived.RangeFuncLeaves
import Derived.RangeFuncBox
import Derived.Shelf.Abstract
import Derived.Outline
import Derived.Laws.MakeOwn
import Derived.WalkSmall
import Derived.Test.YtaebhbcamhmhoaaDoorS7K
import Derived.Test.YtaebhbcamhmhoaaDoorLB
import Derived.Test.YtaebhbcamhmhoaaDoorS7W3
import Derived.Test.YtaebhbcamhmhoaaDoorS5A
import Derived.Test.YtaebhbcamhmhoaaDoorS1A
import Derived.Test.YtaebhbcamhmhoaaDoorS1C
import Derived.Test.YtaebhbcamhmhoaaDoorS1D
import Derived.Test.YtaebhbcamhmhoaaDoorMB
import Derived.Test.YtaebhbcamhmhoaaDoorS7W25
import Derived.Test.YtaebhbcamhmhoaaDoorS7B
namespace Go.Tree7
open Go.RowKit

theorem take_take_app {α : Type} (n : Nat) (x y : List α) : (x.take n ++ y).take n = (x ++ y).take n := by
  rcases Nat.lt_or_ge x.length n with h | h
  · rw [List.take_of_length_le (Nat.le_of_lt h)]
  · have h1 : (x.take n).length = n := by simp; omega
    rw [List.take_append_of_le_length (by omega), List.take_append_of_le_length h, List.take_take, Nat.min_self]
theorem walk_pre : ∀ (d lv : Nat) (l : List Step) (t : T), l.length ≤ 601 → walk d lv l t = (l ++ pre d lv t).take 601 := by
  intro d
  induction d with
  | zero =>
    intro lv l t hl
    unfold walk pre
    split
    · have : l.length = 601 := by omega
      rw [List.take_append_of_le_length (by omega), List.take_of_length_le (by omega)]
    · rw [List.take_of_length_le (by simp; omega)]
  | succ d ih =>
    intro lv l t hl
    unfold walk pre
    split
    · rw [List.take_append_of_le_length (by omega), List.take_of_length_le (by omega)]
    · have key : ∀ (ks : List T) (l : List Step), l.length ≤ 601 → ks.foldl (walk d (lv + 1)) l = (l ++ ks.flatMap (pre d (lv + 1))).take 601 := by
        intro ks
        induction ks with
        | nil => intro l hl; simp [List.take_of_length_le hl]
        | cons k ks ihk =>
          intro l hl
          rw [List.foldl_cons, ih _ _ _ hl, ihk _ (by simp; omega), List.flatMap_cons, take_take_app, List.append_assoc]
      rw [key _ _ (by simp; omega)]
      congr 1
      simp
theorem walk_len (d lv : Nat) (l : List Step) (t : T) (hl : l.length ≤ 601) : (walk d lv l t).length ≤ 601 := by
  rw [walk_pre d lv l t hl]
  simp
  omega
end Go.Tree7
namespace Go.Proofs.YtaebhbcamhmhoaaDoor
open Go.RowKit

variable {P : Program} {ops : Array Oper} {C : World → Prop} {a : Act} {o : Oper} {K : Act → Prop}

theorem wp_region_bel {id : Nat} {Q : Exit → Act → World → Prop} {a : Act} {w : World} {l : List Oper} (hm : P.follows .mixedOrders = true) (hB : Region.lexB .any l.toArray = true)
    (h : wpQuiet P l.toArray (Bel w) (fun a' => ∀ w', Bel w w' → Q .normal a' w') l a) : (Code.region id l.toArray true).wp P Q a w :=
  wp_region_quiet (C := Bel w) hm hB (Below.drew (Below.refl _ _)) (by simpa using h)

/-! ### A head that is quiet in a class, then a tail in one forced order (a store, most often) -/
section Tail
variable {md : Region.Mode} {n : Nat}

end Tail
end Go.Proofs.YtaebhbcamhmhoaaDoor
namespace Go.Proofs.YtaebhbcamhmhoaaDoor
open Go.RowKit
theorem info5 : (Tryd.prog.info? 5).map (fun i => (i.zero, i.size, i.bytes)) = some (some (.int .u8 0), 1, 1) := by kernel_rfl
theorem u24 : Tryd.prog.underlying 53 = some (.slice 5) := by kernel_rfl
end Go.Proofs.YtaebhbcamhmhoaaDoor
namespace Go.Proofs.YtaebhbcamhmhoaaDoor.S7
open Go.RowKit
open Go.Tree7
theorem infoS : (Tryd.prog.info? 51).map (fun i => (i.zero, i.size, i.bytes)) = some (some (.agg #[.int .i64 0, .int .u64 0, .int .u64 0, .int .u64 0, .int .u64 0, .slice none 0 0, .int .i64 0, .int .i64 0, .string ⟨#[]⟩, .int .i64 0, .int .i64 0]), 11, 112) := by kernel_rfl
/-- A step's eleven cells. -/
def scells (s : Step) : List Value := [.int .i64 s.k, .int .u64 s.u.1, .int .u64 s.u.2.1, .int .u64 s.u.2.2.1, .int .u64 s.u.2.2.2, .slice none 0 0, .int .i64 s.mn, .int .i64 s.mx, .string s.tx, .int .i64 s.level, .int .i64 s.kids]
def rcells (l : List Step) : List Value := l.flatMap scells
theorem rcells_snoc (l : List Step) (s : Step) : rcells (l ++ [s]) = rcells l ++ scells s := by simp [rcells]
/-- What Walk gives back. -/
def GivesSteps (base : Nat) (w : World) (ls : List Step) (e : Ending) (w' : World) : Prop := ∃ v', e = .returned v' ∧ w'.ownsRow base 51 11 v' ls.length (rcells ls) ∧ Below base w w'
theorem fold_full (d lv : Nat) (ks : List T) (l : List Step) (h : 601 ≤ l.length) : ks.foldl (walk d lv) l = l := by
  induction ks with
  | nil => rfl
  | cons k ks ih =>
    rw [List.foldl_cons]
    have : walk d lv l k = l := by cases d <;> (unfold walk; rw [if_pos h])
    rw [this, ih]
set_option maxRecDepth 10000 in
set_option maxHeartbeats 2000000 in
theorem refWalk_in : ∀ (d : Nat) (t : T) (lv : Nat) (l : List Step) (v : Value) (base : Nat) (w : World), lv + d = 25 → T.In w base t → w.ownsRow base 51 11 v l.length (rcells l) → l.length ≤ 601 → base ≤ w.heap.size →
    Calls Tryd.prog 24 #[.agg t.cells.toArray, .int .i64 lv, v] w (GivesSteps base w (walk d lv l t)) := by
  intro d
  induction d with
  | zero =>
    intro t lv l v base w hd hT hrow hl hbase
    obtain ⟨i0, hi, hz0, hz1, hz2⟩ := info_parts infoS
    cases t with
    | mk k u0 u1 u2 u3 p cap mn mx tx ks =>
      obtain ⟨pv, cv, rfl, -⟩ := row_form hrow
      unfold walk GivesSteps T.cells
      by_cases hfull : 601 ≤ l.length
      · rw [if_pos hfull]
        have hr := Lib.hid hrow
        clear hrow hT
        go_enter Tryd.func24, Tryd.ntmps24
        go_wp2
        go_ret
        exact ⟨_, rfl, hr.out.alloc _, (Below.refl _ _).alloc hbase _⟩
      · rw [if_neg hfull]
        have hr := Lib.hid hrow
        replace hi := Lib.hid hi
        replace hz0 := Lib.hid hz0
        replace hz1 := Lib.hid hz1
        replace hz2 := Lib.hid hz2
        have hks : ks.length ≤ 9223372036854775807 := by cases hT with | mk h1 h2 => unfold maxLen at h2; omega
        have hll : decide ((l.length : Int) ≥ 601) = false := by simp; omega
        have hlv : decide ((24 : Int) < lv) = true := by simp; omega
        clear hrow hfull
        go_enter Tryd.func24, Tryd.ntmps24
        go_wp2_with (at_builtin; refine wpList_append_own _ rfl _ _ 48 rfl base 51 i0 (.agg #[.int .i64 0, .int .u64 0, .int .u64 0, .int .u64 0, .int .u64 0, .slice none 0 0, .int .i64 0, .int .i64 0, .string ⟨#[]⟩, .int .i64 0, .int .i64 0]) 11 112 Tryd.underlying48 hi.out hz0.out hz1.out hz2.out rfl (by decide) _ _ _ rfl ((hr.out.alloc _).alloc _) ⟨_, 0, none⟩ 1 1 [.int .i64 k, .int .u64 u0, .int .u64 u1, .int .u64 u2, .int .u64 u3, .slice none 0 0, .int .i64 mn, .int .i64 mx, .string tx, .int .i64 lv, .int .i64 ks.length] rfl rfl (cells_new (by simp)) (by simp [Value.oneCell']) (by simp [maxLen]; omega) (by omega) (by simp; omega) ?_; intro v' w1 hown' hgrow _; replace hown' := Lib.hid hown'; obtain ⟨pv2, cv2, rfl, -⟩ := row_form hown'.out; replace hgrow := Lib.hid hgrow)
        go_ret
        exact ⟨_, rfl, by rw [List.length_append, rcells_snoc]; exact hown'.out, (((Below.refl base w).alloc hbase _).alloc (by simp; omega) _).grown hgrow.out (by simp; omega) (fun k hk => (hr.out.lt k hk).1)⟩
  | succ d ih =>
    intro t lv l v base w hd hT hrow hl hbase
    obtain ⟨i0, hi, hz0, hz1, hz2⟩ := info_parts infoS
    cases t with
    | mk k u0 u1 u2 u3 p cap mn mx tx ks =>
      obtain ⟨pv, cv, rfl, -⟩ := row_form hrow
      unfold walk GivesSteps T.cells
      by_cases hfull : 601 ≤ l.length
      · rw [if_pos hfull]
        have hr := Lib.hid hrow
        clear hrow hT
        go_enter Tryd.func24, Tryd.ntmps24
        go_wp2
        go_ret
        exact ⟨_, rfl, hr.out.alloc _, (Below.refl _ _).alloc hbase _⟩
      · rw [if_neg hfull]
        have hr := Lib.hid hrow
        replace hi := Lib.hid hi
        replace hz0 := Lib.hid hz0
        replace hz1 := Lib.hid hz1
        replace hz2 := Lib.hid hz2
        have hks : ks.length ≤ 9223372036854775807 := by cases hT with | mk h1 h2 => unfold maxLen at h2; omega
        have hll : decide ((l.length : Int) ≥ 601) = false := by simp; omega
        have hlv : decide ((24 : Int) < lv) = false := by simp; omega
        obtain ⟨L, hL⟩ : ∃ L : Nat → List Step, ∀ j, L j = (ks.take j).foldl (walk d (lv + 1)) (l ++ [T.step lv (T.mk k u0 u1 u2 u3 p cap mn mx tx ks)]) := ⟨_, fun _ => rfl⟩
        have hL0 : L 0 = l ++ [T.step lv (T.mk k u0 u1 u2 u3 p cap mn mx tx ks)] := hL 0
        have hLs : ∀ j (hj : j < ks.length), L (j + 1) = walk d (lv + 1) (L j) ks[j] := fun j hj => by
          rw [hL, hL, List.take_succ_eq_append_getElem hj, List.foldl_append]
          rfl
        have hLe : (T.mk k u0 u1 u2 u3 p cap mn mx tx ks).kids.foldl (walk d (lv + 1)) (l ++ [T.step lv (T.mk k u0 u1 u2 u3 p cap mn mx tx ks)]) = L ks.length := by
          rw [hL, List.take_of_length_le (Nat.le_refl _)]
          rfl
        have hLf : ∀ j, j ≤ ks.length → 601 ≤ (L j).length → L ks.length = L j := fun j hj h => by
          have e : ks = ks.take j ++ ks.drop j := (List.take_append_drop _ _).symm
          have : L ks.length = (ks.drop j).foldl (walk d (lv + 1)) (L j) := by
            rw [hL ks.length, hL j, List.take_of_length_le (Nat.le_refl _), ← List.foldl_append, List.take_append_drop]
          rw [this, fold_full _ _ _ _ h]
        have hLl : ∀ j, j ≤ ks.length → (L j).length ≤ 601 := fun j => by
          induction j with
          | zero => intro _; rw [hL0]; simp; omega
          | succ j ihj => intro hj; rw [hLs j (by omega)]; exact walk_len _ _ _ _ (ihj (by omega))
        rw [hLe]
        replace hLs := Lib.hid hLs
        replace hLf := Lib.hid hLf
        replace hLl := Lib.hid hLl
        have hT' := Lib.hid hT
        have hln1 : (L 0).length = l.length + 1 := by rw [hL0]; simp
        replace hL0 := Lib.hid hL0
        replace hln1 := Lib.hid hln1
        clear hrow hfull hL hLe hT
        go_enter Tryd.func24, Tryd.ntmps24
        go_wp2_with (at_builtin; refine wpList_append_own _ rfl _ _ 48 rfl base 51 i0 (.agg #[.int .i64 0, .int .u64 0, .int .u64 0, .int .u64 0, .int .u64 0, .slice none 0 0, .int .i64 0, .int .i64 0, .string ⟨#[]⟩, .int .i64 0, .int .i64 0]) 11 112 Tryd.underlying48 hi.out hz0.out hz1.out hz2.out rfl (by decide) _ _ _ rfl ((hr.out.alloc _).alloc _) ⟨_, 0, none⟩ 1 1 [.int .i64 k, .int .u64 u0, .int .u64 u1, .int .u64 u2, .int .u64 u3, .slice none 0 0, .int .i64 mn, .int .i64 mx, .string tx, .int .i64 lv, .int .i64 ks.length] rfl rfl (cells_new (by simp)) (by simp [Value.oneCell']) (by simp [maxLen]; omega) (by omega) (by simp; omega) ?_; intro v' w1 hown' hgrow _; replace hown' := Lib.hid hown'; obtain ⟨pv2, cv2, rfl, -⟩ := row_form hown'.out; replace hgrow := Lib.hid hgrow; have hbk : w1.heap[w.heap.size]? = some (.cells #[.int .i64 k, .int .u64 u0, .int .u64 u1, .int .u64 u2, .int .u64 u3, .slice p ks.length cap, .int .i64 mn, .int .i64 mx, .string tx] 31 (0, 0)) := (hgrow.out.block _ (by simp; omega) (fun e => absurd (hr.out.lt _ e.symm).2 (by omega))).trans ((Below.heap_alloc _ _ _ (by simp)).trans (World.alloc_heap_new w _)); have hbx : w1.cell? ⟨w.heap.size, 5, none⟩ = some (.slice p ks.length cap) := (by rw [cell_of_row _ _ _ _ _ (0, 0) hbk]; rfl); clear hbk)
        have hr2 : Hid (w1.ownsRow base 51 11 (.slice pv2 (L 0).length cv2) (L 0).length (rcells (L 0))) := Lib.hid (by rw [hln1.out, hL0.out, rcells_snoc]; exact hown'.out)
        have hB := Lib.hid ((((Below.refl base w).alloc hbase _).alloc (by simp; omega) _).grown hgrow.out (by simp; omega) (fun k hk => (hr.out.lt k hk).1))
        go_loopw [2, 38] (fun v2 i wr => ∃ (j : Nat) (pv3 : Option Addr) (cv3 : Nat), j ≤ ks.length ∧ i = .int .i64 j ∧ v2 = .slice pv3 (L j).length cv3 ∧ Hid (wr.ownsRow base 51 11 (.slice pv3 (L j).length cv3) (L j).length (rcells (L j))) ∧ Hid (Below base w wr)) (fun _ i _ => ks.length - (intOf i).toNat)
        case atStart => exact ⟨0, pv2, cv2, Nat.zero_le _, rfl, by rw [hln1.out], hr2, hB⟩
        case round =>
          clear hr2 hB hown' hgrow hr
          obtain ⟨j, pv3, cv3, hj, rfl, rfl, hr, hB⟩ := hrel
          by_cases hlt : j < ks.length
          · obtain ⟨b, o, hkid, hp, hb, hc⟩ := T.kid hT'.out hlt
            have hLs2 := hLs.out j hlt
            have hLl2 := hLl.out j hj
            have hbs : base ≤ wr.heap.size := Nat.le_trans hbase hB.out.size
            have hkid2 := Lib.hid (hkid.keep hB.out)
            have hcl : ∀ q, q < 9 → wr.cell? ⟨b, o + j * 9 + q, none⟩ = (ks[j].cells)[q]? := fun q hq => by
              rw [← hc q hq]
              exact hB.out.cell (p := ⟨b, o + j * 9 + q, none⟩) hb
            have hfl := hLf.out j hj
            clear hkid hc
            generalize ks[j] = kd at *
            cases kd with
            | mk k' u0' u1' u2' u3' p' cap' mn' mx' tx' ks' =>
              simp only [T.cells] at hcl
              obtain ⟨c0, c1, c2, c3, c4, c5, c6, c7, c8⟩ := nine_of hcl
              subst hp
              clear hcl
              by_cases hfull : 601 ≤ (L j).length
              · have e := Lib.hid (hfl hfull)
                have hf9 : decide (((L j).length : Int) ≥ 601) = true := by simp; omega
                clear hfl hLs2 hkid2
                go_wp2
                go_ret
                exact ⟨_, rfl, by rw [e.out]; exact hr.out.alloc _, hB.out.alloc hbs _⟩
              · have hf9 : decide (((L j).length : Int) ≥ 601) = false := by simp; omega
                have cW : Calls Tryd.prog 24 #[.agg #[.int .i64 k', .int .u64 u0', .int .u64 u1', .int .u64 u2', .int .u64 u3', .slice p' ks'.length cap', .int .i64 mn', .int .i64 mx', .string tx'], .int .i64 ((lv : Int) + 1), .slice pv3 (L j).length cv3] (wr.alloc (.cells #[.int .i64 k', .int .u64 u0', .int .u64 u1', .int .u64 u2', .int .u64 u3', .slice p' ks'.length cap', .int .i64 mn', .int .i64 mx', .string tx'] 31)) (GivesSteps base (wr.alloc (.cells #[.int .i64 k', .int .u64 u0', .int .u64 u1', .int .u64 u2', .int .u64 u3', .slice p' ks'.length cap', .int .i64 mn', .int .i64 mx', .string tx'] 31)) (L (j + 1))) := by
                  have h9 := ih (T.mk k' u0' u1' u2' u3' p' cap' mn' mx' tx' ks') (lv + 1) (L j) (.slice pv3 (L j).length cv3) base (wr.alloc (.cells #[.int .i64 k', .int .u64 u0', .int .u64 u1', .int .u64 u2', .int .u64 u3', .slice p' ks'.length cap', .int .i64 mn', .int .i64 mx', .string tx'] 31)) (by omega) (hkid2.out.keep ((Below.refl base wr).alloc hbs _)) (hr.out.alloc _) hLl2 (by simp; have := hbs; omega)
                  rw [← hLs2, show ((lv + 1 : Nat) : Int) = (lv : Int) + 1 by omega] at h9
                  exact h9
                replace cW := Lib.hid cW
                clear hfl hLs2 hkid2
                go_wp2_with (go_at_call 24; (with_reducible refine cW.out.mono ?_); rintro e w2 ⟨v4, rfl, hr4, hb4⟩; obtain ⟨pv4, cv4, rfl, -⟩ := row_form hr4; replace hr4 := Lib.hid hr4; replace hb4 := Lib.hid hb4)
                go_roundw
                case rel => exact ⟨j + 1, pv4, cv4, by omega, by go_num, rfl, hr4, Lib.hid ((hB.out.alloc hbs _).trans hb4.out)⟩
                case measure => simp [intOf]; omega
          · obtain rfl : j = ks.length := by omega
            go_wp2
            go_ret
            exact ⟨_, rfl, hr.out, hB.out⟩
end Go.Proofs.YtaebhbcamhmhoaaDoor.S7
namespace Go.Proofs.YtaebhbcamhmhoaaDoor.S7
open Go.RowKit
open Go.Tree7
attribute [local go_sem] Oper.semAt_some
theorem preT_map : ∀ (d lv : Nat) (t : T), (preT d lv t).map (fun x => x.2.step x.1) = pre d lv t := by
  intro d
  induction d with
  | zero => intro lv t; rfl
  | succ d ih =>
    intro lv t
    simp only [preT, pre, List.map_cons, List.map_flatMap]
    congr 1
    congr 1
    funext k
    exact ih _ _
section
variable {w0 : World} {n₀ Bv l : Nat} {J Jx : List (Nat × T) → World → Prop}
end
end Go.Proofs.YtaebhbcamhmhoaaDoor.S7
namespace Go.Proofs.YtaebhbcamhmhoaaDoor.S7
open Go.RowKit
open S5 (nl nl_length nl_small at_nl nl_at)
set_option maxRecDepth 10000 in
set_option maxHeartbeats 2000000 in
theorem risName_in {s : ByteArray} (hs : s.size ≤ 9223372036854775807) {r : Bool} (hr : r = true ↔ NameOk (nl s)) (w : World) :
    Calls Tryd.prog 39 #[.string s] w fun e w' => e = .returned (.bool r) ∧ w = w' := by
  have hn := nl_length s
  have no : ¬ NameOk (nl s) → r = false := fun h => by cases r; rfl; exact absurd (hr.1 rfl) h
  by_cases h0 : s.size < 1
  · have hno := Lib.hid (no fun h => by have := h.1; omega)
    clear hr no hn
    go_enter Tryd.func39, Tryd.ntmps39
    go_wp2
    go_ret
    exact ⟨ret_bool hno.out.symm, rfl⟩
  by_cases h1 : 12 < s.size
  · have hno := Lib.hid (no fun h => by have := h.2.1; omega)
    clear hr no hn
    go_enter Tryd.func39, Tryd.ntmps39
    go_wp2
    go_ret
    exact ⟨ret_bool hno.out.symm, rfl⟩
  have hk0 : 0 < s.size := by omega
  have hat0 := nl_at s 0 hk0
  obtain ⟨c, hc⟩ : ∃ c, (s[0]).toNat = c := ⟨_, rfl⟩
  rw [hc] at hat0
  by_cases h2 : c < 97
  · have hno := Lib.hid (no fun h => by have := h.2.2.1 c hat0; omega)
    have d1 : decide ((c : Int) < 97) = true := by simp; omega
    clear hr no hn hat0
    go_enter Tryd.func39, Tryd.ntmps39
    go_wp2
    go_ret
    exact ⟨ret_bool hno.out.symm, rfl⟩
  by_cases h3 : 122 < c
  · have hno := Lib.hid (no fun h => by have := h.2.2.1 c hat0; omega)
    have d1 : decide ((c : Int) < 97) = false := by simp; omega
    have d2 : decide ((122 : Int) < c) = true := by simp; omega
    clear hr no hn hat0
    go_enter Tryd.func39, Tryd.ntmps39
    go_wp2
    go_ret
    exact ⟨ret_bool hno.out.symm, rfl⟩
  have e1 : decide ((c : Int) < 97) = false := by simp; omega
  have e2 : decide ((122 : Int) < c) = false := by simp; omega
  have yes : (∀ j, j < s.size → ∀ x : Nat, (nl s)[j]? = some x → NameChar x) → r = true := fun h => hr.2 ⟨by omega, by omega, fun c' h' => by rw [hat0] at h'; cases h'; omega, fun j x hx => h j (by rw [← hn]; exact (List.getElem?_eq_some_iff.1 hx).1) x hx⟩
  have no2 : ∀ (k x : Nat), (nl s)[k]? = some x → ¬ NameChar x → r = false := fun k x hx hc => no fun h => hc (h.2.2.2 k x hx)
  replace yes := Lib.hid yes
  replace no2 := Lib.hid no2
  have hat := Lib.hid (fun k (hk : k < s.size) => nl_at s k hk)
  clear hr no hn hat0
  go_enter Tryd.func39, Tryd.ntmps39
  go_wp2
  go_loop [3] (fun i => ∃ k : Nat, k ≤ s.size ∧ i = .int .i64 k ∧ Hid (∀ j, j < k → ∀ x : Nat, (nl s)[j]? = some x → NameChar x)) (fun i => s.size - (intOf i).toNat)
  case atStart => exact ⟨0, Nat.zero_le _, rfl, Lib.hid fun j hj => by omega⟩
  case round =>
    clear e1 e2
    obtain ⟨k, hk, rfl, hok⟩ := hrel
    by_cases hlt : k < s.size
    · have hx0 := hat.out k hlt
      obtain ⟨x, hx⟩ : ∃ x, (s[k]).toNat = x := ⟨_, rfl⟩
      rw [hx] at hx0
      by_cases hch : NameChar x
      · have hok2 : Hid (∀ j, j < k + 1 → ∀ x : Nat, (nl s)[j]? = some x → NameChar x) := Lib.hid fun j hj y hy => by
          by_cases e : j = k
          · subst e; rw [hx0] at hy; cases hy; exact hch
          · exact hok.out j (by omega) y hy
        clear hx0 hok
        rcases hch with ⟨q1, q2⟩ | ⟨q1, q2⟩
        · have d1 : decide ((x : Int) < 97) = false := by simp; omega
          have d2 : decide ((122 : Int) < x) = false := by simp; omega
          go_wp2
          go_round
          case rel => exact ⟨k + 1, by omega, by go_num, hok2⟩
          case measure => simp [intOf]; omega
        · have d1 : decide ((x : Int) < 97) = true := by simp; omega
          have d2 : decide ((x : Int) < 48) = false := by simp; omega
          have d3 : decide ((57 : Int) < x) = false := by simp; omega
          go_wp2
          go_round
          case rel => exact ⟨k + 1, by omega, by go_num, hok2⟩
          case measure => simp [intOf]; omega
      · have hno := Lib.hid (no2.out k x hx0 hch)
        unfold NameChar at hch
        clear hx0 hok
        by_cases q1 : 122 < x
        · have d1 : decide ((x : Int) < 97) = false := by simp; omega
          have d2 : decide ((122 : Int) < x) = true := by simp; omega
          have d3 : decide ((x : Int) < 48) = false := by simp; omega
          have d4 : decide ((57 : Int) < x) = true := by simp; omega
          clear hch
          go_wp2
          go_ret
          exact ⟨ret_bool hno.out.symm, rfl⟩
        · have d1 : decide ((x : Int) < 97) = true := by simp; omega
          by_cases q2 : x < 48
          · have d2 : decide ((x : Int) < 48) = true := by simp; omega
            clear hch
            go_wp2
            go_ret
            exact ⟨ret_bool hno.out.symm, rfl⟩
          · have d2 : decide ((x : Int) < 48) = false := by simp; omega
            have d3 : decide ((57 : Int) < x) = true := by simp; omega
            clear hch
            go_wp2
            go_ret
            exact ⟨ret_bool hno.out.symm, rfl⟩
    · have hyes := Lib.hid (yes.out fun j hj => hok.out j (by omega))
      clear hok
      go_wp2
      go_ret
      exact ⟨ret_bool hyes.out.symm, rfl⟩
end Go.Proofs.YtaebhbcamhmhoaaDoor.S7
namespace Go.Proofs.YtaebhbcamhmhoaaDoor.S1
open Go

theorem wrap_nat {n : Nat} (h : n < 18446744073709551616) : IntKind.u64.wrap (n : Int) = n := by rw [wrap_u64]; omega
/-! ### The number of bits -/

/-! ### Trailing zeros -/

end Go.Proofs.YtaebhbcamhmhoaaDoor.S1
namespace Go.Proofs.YtaebhbcamhmhoaaDoor.S1
open Go.RowKit

/-! ### Equality of two sets -/
theorem eqB_iff (f g : Nat → Bool) : eqB f g = true ↔ ∀ c, c < 256 → f c = g c := ⟨eqB_spec, eqB_true⟩

theorem bit_div (a i : Nat) : ((((a / 2 ^ i : Nat) : Int) % 2) == 1) = a.testBit i := by
  rw [Bool.eq_iff_iff, beq_iff_eq, Nat.testBit_eq_decide_div_mod_eq, decide_eq_true_eq]
  omega

set_option maxHeartbeats 400000 in
theorem has_ref (f : Nat → Bool) (c : Nat) (hc : c ≤ 255) (w : World) :
    Calls Tryd.prog 40 #[(.agg #[.int .u64 (wd f 0), .int .u64 (wd f 1), .int .u64 (wd f 2), .int .u64 (wd f 3)]), .int .i64 c] w fun e w' => e = .returned (.bool (f c)) ∧ Below w.heap.size w w' := by
  have hk : c / 64 = 0 ∨ c / 64 = 1 ∨ c / 64 = 2 ∨ c / 64 = 3 := by omega
  have h0 : (0 : Int) ≤ c := by omega
  have h1 : (c : Int) ≤ 255 := by omega
  have hpl : (2 : Nat) ^ (c % 64) < 18446744073709551616 := Nat.pow_lt_pow_right (a := 2) (by decide) (Nat.mod_lt c (by decide : 0 < 64))
  have hw : IntKind.u64.wrap (2 ^ ((c : Int) % 64).toNat) = ((2 ^ (c % 64) : Nat) : Int) := by
    have e : ((c : Int) % 64).toNat = c % 64 := by omega
    have this : (2 : Int) ^ (c % 64) = ((2 ^ (c % 64) : Nat) : Int) := by simp
    rw [e, this]; exact wrap_nat hpl
  have hp := Nat.two_pow_pos (c % 64)
  rcases hk with hk | hk | hk | hk
  · have hz : (c : Int) / 64 = 0 := div_nat hk
    have ha := wd_lt f 0
    have e := bit_div (wd f 0) (c % 64)
    rw [testBit_wd] at e
    have e2 : 64 * 0 + c % 64 = c := by omega
    have e3 : c % 64 < 64 := by omega
    rw [e2] at e
    simp only [e3, decide_true, Bool.true_and] at e
    have Q : IntKind.u64.wrap ((wd f 0 : Int) / ((2 ^ (c % 64) : Nat) : Int)) = ((wd f 0 / 2 ^ (c % 64) : Nat) : Int) := by
      rw [← Int.natCast_ediv]
      exact wrap_nat (Nat.lt_of_le_of_lt (Nat.div_le_self (wd f 0) (2 ^ (c % 64))) ha)
    generalize (2 ^ (c % 64) : Nat) = p at *
    generalize wd f 0 / p = d at *
    generalize f c = b at *
    have P1 : (1 : Int) ≤ p := by omega
    clear hk e2 e3 ha hpl hp
    go_enter Tryd.func40, Tryd.ntmps40
    go_wp2
    go_ret
    exact ⟨rfl, (Below.refl _ _).alloc (Nat.le_refl _) _⟩
  · have hz : (c : Int) / 64 = 1 := div_nat hk
    have ha := wd_lt f 1
    have e := bit_div (wd f 1) (c % 64)
    rw [testBit_wd] at e
    have e2 : 64 * 1 + c % 64 = c := by omega
    have e3 : c % 64 < 64 := by omega
    rw [e2] at e
    simp only [e3, decide_true, Bool.true_and] at e
    have Q : IntKind.u64.wrap ((wd f 1 : Int) / ((2 ^ (c % 64) : Nat) : Int)) = ((wd f 1 / 2 ^ (c % 64) : Nat) : Int) := by
      rw [← Int.natCast_ediv]
      exact wrap_nat (Nat.lt_of_le_of_lt (Nat.div_le_self (wd f 1) (2 ^ (c % 64))) ha)
    generalize (2 ^ (c % 64) : Nat) = p at *
    generalize wd f 1 / p = d at *
    generalize f c = b at *
    have P1 : (1 : Int) ≤ p := by omega
    clear hk e2 e3 ha hpl hp
    go_enter Tryd.func40, Tryd.ntmps40
    go_wp2
    go_ret
    exact ⟨rfl, (Below.refl _ _).alloc (Nat.le_refl _) _⟩
  · have hz : (c : Int) / 64 = 2 := div_nat hk
    have ha := wd_lt f 2
    have e := bit_div (wd f 2) (c % 64)
    rw [testBit_wd] at e
    have e2 : 64 * 2 + c % 64 = c := by omega
    have e3 : c % 64 < 64 := by omega
    rw [e2] at e
    simp only [e3, decide_true, Bool.true_and] at e
    have Q : IntKind.u64.wrap ((wd f 2 : Int) / ((2 ^ (c % 64) : Nat) : Int)) = ((wd f 2 / 2 ^ (c % 64) : Nat) : Int) := by
      rw [← Int.natCast_ediv]
      exact wrap_nat (Nat.lt_of_le_of_lt (Nat.div_le_self (wd f 2) (2 ^ (c % 64))) ha)
    generalize (2 ^ (c % 64) : Nat) = p at *
    generalize wd f 2 / p = d at *
    generalize f c = b at *
    have P1 : (1 : Int) ≤ p := by omega
    clear hk e2 e3 ha hpl hp
    go_enter Tryd.func40, Tryd.ntmps40
    go_wp2
    go_ret
    exact ⟨rfl, (Below.refl _ _).alloc (Nat.le_refl _) _⟩
  · have hz : (c : Int) / 64 = 3 := div_nat hk
    have ha := wd_lt f 3
    have e := bit_div (wd f 3) (c % 64)
    rw [testBit_wd] at e
    have e2 : 64 * 3 + c % 64 = c := by omega
    have e3 : c % 64 < 64 := by omega
    rw [e2] at e
    simp only [e3, decide_true, Bool.true_and] at e
    have Q : IntKind.u64.wrap ((wd f 3 : Int) / ((2 ^ (c % 64) : Nat) : Int)) = ((wd f 3 / 2 ^ (c % 64) : Nat) : Int) := by
      rw [← Int.natCast_ediv]
      exact wrap_nat (Nat.lt_of_le_of_lt (Nat.div_le_self (wd f 3) (2 ^ (c % 64))) ha)
    generalize (2 ^ (c % 64) : Nat) = p at *
    generalize wd f 3 / p = d at *
    generalize f c = b at *
    have P1 : (1 : Int) ≤ p := by omega
    clear hk e2 e3 ha hpl hp
    go_enter Tryd.func40, Tryd.ntmps40
    go_wp2
    go_ret
    exact ⟨rfl, (Below.refl _ _).alloc (Nat.le_refl _) _⟩


end Go.Proofs.YtaebhbcamhmhoaaDoor.S1
namespace Go.Proofs.YtaebhbcamhmhoaaDoor.S1
open Go.RowKit

variable {P : Program} {ops : Array Oper} {C : World → Prop} {a : Act} {o : Oper} {K : Act → Prop}

theorem wp_region_bel {id : Nat} {Q : Exit → Act → World → Prop} {a : Act} {w : World} {l : List Oper} (hm : P.follows .mixedOrders = true) (hB : Region.lexB .any l.toArray = true)
    (h : wpQuiet P l.toArray (Bel w) (fun a' => ∀ w', Bel w w' → Q .normal a' w') l a) : (Code.region id l.toArray true).wp P Q a w :=
  wp_region_quiet (C := Bel w) hm hB (Below.drew (Below.refl _ _)) (by simpa using h)

/-! ### A head that is quiet in a class, then a tail in one forced order (a store, most often) -/
section Tail
variable {md : Region.Mode} {n : Nat}

end Tail
end Go.Proofs.YtaebhbcamhmhoaaDoor.S1
namespace Go.Proofs.YtaebhbcamhmhoaaDoor.S1
open Go.RowKit

theorem boxes3 (w : World) (t u v : TypeId) (a0 a1 a2 a3 b0 b1 b2 b3 c0 c1 c2 c3 : Value) : ∃ W, ((w.alloc (.cells #[a0, a1, a2, a3] t)).alloc (.cells #[b0, b1, b2, b3] u)).alloc (.cells #[c0, c1, c2, c3] v) = W ∧
    Blk4 W w.heap.size t a0 a1 a2 a3 ∧ Blk4 W (w.heap.size + 1) u b0 b1 b2 b3 ∧ Blk4 W (w.heap.size + 1 + 1) v c0 c1 c2 c3 ∧ Below w.heap.size w W := by
  obtain ⟨W, hW, h1, h2, hB⟩ := boxes2 w t u a0 a1 a2 a3 b0 b1 b2 b3
  have hs : W.heap.size = w.heap.size + 1 + 1 := by rw [← hW]; simp
  rw [hW]
  refine ⟨_, rfl, h1.alloc _, h2.alloc _, ?_, hB.alloc hB.size _⟩
  have := Blk4.new W v c0 c1 c2 c3
  rwa [hs] at this
end Go.Proofs.YtaebhbcamhmhoaaDoor.S1
namespace Go.Proofs.YtaebhbcamhmhoaaDoor.S1
open Go.RowKit Go.Shelf

attribute [local go_sem] Oper.semAt_some

theorem el_mem {f : Nat → Bool} {p x : Nat} : x ∈ el f p ↔ x < p ∧ f x = true := by
  induction p with
  | zero => simp [el]
  | succ p ih =>
    rw [el, List.mem_append, ih]
    by_cases hp : f p = true
    · simp only [hp, if_true, List.mem_singleton]
      constructor
      · rintro (h | h)
        · exact ⟨by omega, h.2⟩
        · subst h; exact ⟨by omega, hp⟩
      · rintro ⟨h1, h2⟩
        by_cases e : x = p
        · exact .inr e
        · exact .inl ⟨by omega, h2⟩
    · simp only [hp]
      constructor
      · rintro (h | h)
        · exact ⟨by omega, h.2⟩
        · simp at h
      · rintro ⟨h1, h2⟩
        refine .inl ⟨?_, h2⟩
        have : x ≠ p := fun e => hp (e ▸ h2)
        omega
theorem el_len (f : Nat → Bool) (p : Nat) : (el f p).length ≤ p := by
  induction p with
  | zero => simp [el]
  | succ p ih => rw [el, List.length_append]; split <;> simp <;> omega

end Go.Proofs.YtaebhbcamhmhoaaDoor.S1
namespace Go.Proofs.YtaebhbcamhmhoaaDoor.S1
open Go.RowKit Go.Shelf

attribute [local go_sem] Oper.semAt_some

theorem info5 : (Tryd.prog.info? 5).map (fun i => (i.zero, i.size, i.bytes)) = some (some (.int .u8 0), 1, 1) := by kernel_rfl
/-- 'It hands back a slice of its own that holds l.' -/
def GivesBytes (w0 : World) (l : List Nat) (e : Ending) (w' : World) : Prop := ∃ v, e = .returned v ∧ w'.ownsRow w0.heap.size 5 1 v l.length (l.map fun c : Nat => Value.int .u8 (c : Int)) ∧ Below w0.heap.size w0 w'

end Go.Proofs.YtaebhbcamhmhoaaDoor.S1
namespace Go.Proofs.YtaebhbcamhmhoaaDoor.S1
open Go.RowKit

theorem el_snoc_hit {f : Nat → Bool} {p : Nat} (h : f p = true) : el f (p + 1) = el f p ++ [p] := by simp [el, h]
theorem el_snoc_miss {f : Nat → Bool} {p : Nat} (h : f p = false) : el f (p + 1) = el f p := by simp [el, h]

end Go.Proofs.YtaebhbcamhmhoaaDoor.S1
namespace Go.Proofs.YtaebhbcamhmhoaaDoor.S1
open Go.RowKit

theorem Blk4.setOther {w : World} {b : Nat} {t : TypeId} {v0 v1 v2 v3 : Value} (h : Blk4 w b t v0 v1 v2 v3) {a : Addr} (hne : b ≠ a.block) (u : Value) : Blk4 (w.setCell a u) b t v0 v1 v2 v3 :=
  (Below.heap_setCell w a u b hne).trans h
theorem BoolRow.setOther {w : World} {b : Nat} {g : Nat → Bool} (h : BoolRow w b g) {a : Addr} (hne : b ≠ a.block) (u : Value) : BoolRow (w.setCell a u) b g :=
  (Below.heap_setCell w a u b hne).trans h

def cutS (g : Nat → Bool) (k : Nat) : Nat → Bool := fun x => g x && decide (x < k)
theorem cut_add {g : Nat → Bool} {k q : Nat} (hk : k / 64 = q) (hg : g k = true) : IntKind.u64.wrap ((wd (cutS g k) q : Int) + ((2 ^ (k % 64) : Nat) : Int)) = (wd (cutS g (k + 1)) q : Int) := by
  have hm := Nat.mod_lt k (by decide : 0 < 64)
  have hlt : wd (cutS g k) q < 2 ^ (k % 64) := by
    apply Nat.lt_pow_two_of_testBit
    intro i hi
    rw [testBit_wd]
    by_cases h64 : i < 64
    · have : ¬ 64 * q + i < k := by omega
      simp [cutS, this]
    · simp [h64]
  have e : wd (cutS g k) q + 2 ^ (k % 64) = wd (cutS g (k + 1)) q := by
    have hp : (2 : Nat) ^ (k % 64) * 2 ≤ 2 ^ 64 := by
      rw [← Nat.pow_succ]; exact Nat.pow_le_pow_right (by decide) (by omega)
    refine eq_wd (by have : (2 : Nat) ^ 64 = 18446744073709551616 := by decide
                     omega) fun i hi => ?_
    have e1 : wd (cutS g k) q + 2 ^ (k % 64) = 2 ^ (k % 64) * 1 + wd (cutS g k) q := by omega
    rw [e1, Nat.testBit_two_pow_mul_add _ hlt, testBit_wd]
    by_cases h1 : i < k % 64
    · have a1 : 64 * q + i < k := by omega
      have a2 : 64 * q + i < k + 1 := by omega
      simp [h1, hi, cutS, a1, a2]
    · by_cases h2 : i = k % 64
      · have a1 : 64 * q + i = k := by omega
        simp [h2, cutS]
        have a3 : 64 * q + k % 64 = k := by omega
        rw [a3, hg]; simp
      · have a1 : ¬ 64 * q + i < k + 1 := by omega
        obtain ⟨j, hj⟩ : ∃ j, i - k % 64 = j + 1 := ⟨i - k % 64 - 1, by omega⟩
        simp [h1, cutS, a1, hj, Nat.testBit_succ]
  rw [← Int.natCast_add, e]
  exact wrap_nat (wd_lt _ _)
theorem cut_off {g : Nat → Bool} {k j : Nat} (hk : k / 64 ≠ j) : wd (cutS g (k + 1)) j = wd (cutS g k) j :=
  wd_congr fun i hi => by
    unfold cutS
    have : (64 * j + i < k + 1) ↔ (64 * j + i < k) := by omega
    rw [Bool.eq_iff_iff]; simp [this]
theorem cut_miss {g : Nat → Bool} {k : Nat} (hg : g k = false) : ∀ c, c < 256 → cutS g k c = cutS g (k + 1) c := fun c _ => by
  unfold cutS
  by_cases e : c = k
  · subst e; simp [hg]
  · have : (c < k + 1) ↔ (c < k) := by omega
    rw [Bool.eq_iff_iff]; simp [this]
theorem pow_wrap (k : Nat) : IntKind.u64.wrap (2 ^ ((k : Int) % 64).toNat) = ((2 ^ (k % 64) : Nat) : Int) := by
  have e : ((k : Int) % 64).toNat = k % 64 := by omega
  have this : (2 : Int) ^ (k % 64) = ((2 ^ (k % 64) : Nat) : Int) := by simp
  rw [e, this]
  exact wrap_nat (Nat.pow_lt_pow_right (a := 2) (by decide) (Nat.mod_lt k (by decide : 0 < 64)))

set_option maxRecDepth 10000 in
set_option maxHeartbeats 2000000 in
theorem refof_in (g : Nat → Bool) (b : Nat) (w : World) (hrow : BoolRow w b g) :
    Calls Tryd.prog 41 #[.slice (some ⟨b, 0, none⟩) 256 256] w fun e w' => e = .returned (.agg #[.int .u64 (wd g 0), .int .u64 (wd g 1), .int .u64 (wd g 2), .int .u64 (wd g 3)]) ∧ Below w.heap.size w w' := by
  have hbl := hrow.lt
  go_enter Tryd.func41, Tryd.ntmps41
  go_wp2
  obtain ⟨W, hW, br, bs, hB⟩ := boxes2 w 23 23 (.int .u64 0) (.int .u64 0) (.int .u64 0) (.int .u64 0) (.int .u64 0) (.int .u64 0) (.int .u64 0) (.int .u64 0)
  rw [hW]
  clear hW
  have bs0 : SetBox W (w.heap.size + 1) 23 (cutS g 0) := by
    have : SetBox W (w.heap.size + 1) 23 noS := by unfold SetBox; simp only [no_wd]; exact bs
    exact this.congr fun c _ => by simp [noS, cutS]
  go_loopw [4] (fun i wr => ∃ k : Nat, k ≤ 256 ∧ i = .int .i64 k ∧ Blk4 wr w.heap.size 23 (.int .u64 0) (.int .u64 0) (.int .u64 0) (.int .u64 0) ∧ SetBox wr (w.heap.size + 1) 23 (cutS g k) ∧ Below w.heap.size w wr) (fun i _ => 256 - (intOf i).toNat)
  case atStart => exact ⟨0, Nat.zero_le _, rfl, br, bs0, hB⟩
  case round =>
    clear br bs bs0 hB
    obtain ⟨k, hk, rfl, br, bs, hB⟩ := hrel
    by_cases hlt : k < 256
    · have hcell := (hrow.below hB hbl).cell hlt
      cases hg : g k
      · rw [hg] at hcell
        have h1 := Lib.hid hB
        have h2 := Lib.hid (bs.congr (cut_miss hg))
        have h3 := Lib.hid br
        clear hB bs br hg hrow
        go_wp2
        go_roundw
        case rel => exact ⟨k + 1, by omega, by go_num, h3.out, h2.out, h1.out⟩
        case measure => simp [intOf]; omega
      · rw [hg] at hcell
        have hw := pow_wrap k
        have hq : k / 64 = 0 ∨ k / 64 = 1 ∨ k / 64 = 2 ∨ k / 64 = 3 := by omega
        obtain ⟨⟨f0, f1, f2, f3⟩, z0, z1, z2, z3⟩ := bs.blk.facts
        rcases hq with hq | hq | hq | hq
        · have hz : (k : Int) / 64 = 0 := div_nat hq
          have ha := cut_add hq hg
          have o1 := cut_off (g := g) (k := k) (j := 1) (by omega)
          have o2 := cut_off (g := g) (k := k) (j := 2) (by omega)
          have o3 := cut_off (g := g) (k := k) (j := 3) (by omega)
          have hbx : SetBox (wr.setCell ⟨w.heap.size + 1, 0, none⟩ (.int .u64 (wd (cutS g (k + 1)) 0))) (w.heap.size + 1) 23 (cutS g (k + 1)) := by
            unfold SetBox
            rw [o1, o2, o3]
            exact (bs.blk.setCell _).1
          have h1 := Lib.hid (hB.setCell (p := ⟨w.heap.size + 1, 0, none⟩) (Nat.le_succ _) (.int .u64 (wd (cutS g (k + 1)) 0)))
          have h2 := Lib.hid hbx
          have h3 := Lib.hid (br.setOther (a := ⟨w.heap.size + 1, 0, none⟩) (by simp <;> omega) (.int .u64 (wd (cutS g (k + 1)) 0)))
          clear hbx hB bs br hg hrow o1 o2 o3 hq
          generalize (2 ^ (k % 64) : Nat) = p at *
          go_wp2
          go_roundw
          case rel => exact ⟨k + 1, by omega, by go_num, h3.out, h2.out, h1.out⟩
          case measure => simp [intOf]; omega
        · have hz : (k : Int) / 64 = 1 := div_nat hq
          have ha := cut_add hq hg
          have o0 := cut_off (g := g) (k := k) (j := 0) (by omega)
          have o2 := cut_off (g := g) (k := k) (j := 2) (by omega)
          have o3 := cut_off (g := g) (k := k) (j := 3) (by omega)
          have hbx : SetBox (wr.setCell ⟨w.heap.size + 1, 1, none⟩ (.int .u64 (wd (cutS g (k + 1)) 1))) (w.heap.size + 1) 23 (cutS g (k + 1)) := by
            unfold SetBox
            rw [o0, o2, o3]
            exact (bs.blk.setCell _).2.1
          have h1 := Lib.hid (hB.setCell (p := ⟨w.heap.size + 1, 1, none⟩) (Nat.le_succ _) (.int .u64 (wd (cutS g (k + 1)) 1)))
          have h2 := Lib.hid hbx
          have h3 := Lib.hid (br.setOther (a := ⟨w.heap.size + 1, 1, none⟩) (by simp <;> omega) (.int .u64 (wd (cutS g (k + 1)) 1)))
          clear hbx hB bs br hg hrow o0 o2 o3 hq
          generalize (2 ^ (k % 64) : Nat) = p at *
          go_wp2
          go_roundw
          case rel => exact ⟨k + 1, by omega, by go_num, h3.out, h2.out, h1.out⟩
          case measure => simp [intOf]; omega
        · have hz : (k : Int) / 64 = 2 := div_nat hq
          have ha := cut_add hq hg
          have o0 := cut_off (g := g) (k := k) (j := 0) (by omega)
          have o1 := cut_off (g := g) (k := k) (j := 1) (by omega)
          have o3 := cut_off (g := g) (k := k) (j := 3) (by omega)
          have hbx : SetBox (wr.setCell ⟨w.heap.size + 1, 2, none⟩ (.int .u64 (wd (cutS g (k + 1)) 2))) (w.heap.size + 1) 23 (cutS g (k + 1)) := by
            unfold SetBox
            rw [o0, o1, o3]
            exact (bs.blk.setCell _).2.2.1
          have h1 := Lib.hid (hB.setCell (p := ⟨w.heap.size + 1, 2, none⟩) (Nat.le_succ _) (.int .u64 (wd (cutS g (k + 1)) 2)))
          have h2 := Lib.hid hbx
          have h3 := Lib.hid (br.setOther (a := ⟨w.heap.size + 1, 2, none⟩) (by simp <;> omega) (.int .u64 (wd (cutS g (k + 1)) 2)))
          clear hbx hB bs br hg hrow o0 o1 o3 hq
          generalize (2 ^ (k % 64) : Nat) = p at *
          go_wp2
          go_roundw
          case rel => exact ⟨k + 1, by omega, by go_num, h3.out, h2.out, h1.out⟩
          case measure => simp [intOf]; omega
        · have hz : (k : Int) / 64 = 3 := div_nat hq
          have ha := cut_add hq hg
          have o0 := cut_off (g := g) (k := k) (j := 0) (by omega)
          have o1 := cut_off (g := g) (k := k) (j := 1) (by omega)
          have o2 := cut_off (g := g) (k := k) (j := 2) (by omega)
          have hbx : SetBox (wr.setCell ⟨w.heap.size + 1, 3, none⟩ (.int .u64 (wd (cutS g (k + 1)) 3))) (w.heap.size + 1) 23 (cutS g (k + 1)) := by
            unfold SetBox
            rw [o0, o1, o2]
            exact (bs.blk.setCell _).2.2.2
          have h1 := Lib.hid (hB.setCell (p := ⟨w.heap.size + 1, 3, none⟩) (Nat.le_succ _) (.int .u64 (wd (cutS g (k + 1)) 3)))
          have h2 := Lib.hid hbx
          have h3 := Lib.hid (br.setOther (a := ⟨w.heap.size + 1, 3, none⟩) (by simp <;> omega) (.int .u64 (wd (cutS g (k + 1)) 3)))
          clear hbx hB bs br hg hrow o0 o1 o2 hq
          generalize (2 ^ (k % 64) : Nat) = p at *
          go_wp2
          go_roundw
          case rel => exact ⟨k + 1, by omega, by go_num, h3.out, h2.out, h1.out⟩
          case measure => simp [intOf]; omega

    · have e : k = 256 := by omega
      subst e
      have bs := bs.congr (g := g) fun c hc => by simp [cutS, hc]
      obtain ⟨⟨f0, f1, f2, f3⟩, z0, z1, z2, z3⟩ := bs.blk.facts
      obtain ⟨⟨r0, r1, r2, r3⟩, y0, y1, y2, y3⟩ := br.facts
      have hx := ((br.set (.int .u64 (wd g 0)) (.int .u64 (wd g 1)) (.int .u64 (wd g 2)) (.int .u64 (wd g 3)))).facts.1
      have h1 := Lib.hid hx
      have h2 := Lib.hid hB
      clear hx br bs hB hrow
      go_wp2
      exact bodyPost_ret (v := (.agg #[.int .u64 (wd g 0), .int .u64 (wd g 1), .int .u64 (wd g 2), .int .u64 (wd g 3)])) (by simp [results, Tryd.results41, go_sem, h1.out.1, h1.out.2.1, h1.out.2.2.1, h1.out.2.2.2]) rfl ⟨rfl, below_set4 h2.out (Nat.le_refl _) _ _ _ _⟩

theorem i4 : ∃ i, Tryd.prog.info? 4 = some i ∧ i.zero = some (.bool false) ∧ i.size = 1 ∧ i.bytes = 1 := by
  cases h : Tryd.prog.info? 4 with
  | none => have : (Tryd.prog.info? 4).isSome = true := by kernel_rfl
            rw [h] at this; cases this
  | some i =>
    have hh : (Tryd.prog.info? 4).map (fun i => (i.zero, i.size, i.bytes)) = some (some (.bool false), 1, 1) := by kernel_rfl
    rw [h] at hh
    simp at hh
    exact ⟨i, rfl, hh.1, hh.2.1, hh.2.2⟩
theorem u24 : Tryd.prog.underlying 72 = some (.slice 4) := by kernel_rfl
theorem make256 (w : World) : (Instr.makeSlice 72 (.int .i64 256) (.int .i64 256)).run Tryd.prog w = .ok (.slice (some ⟨w.heap.size, 0, none⟩) 256 256) (w.alloc (.cells (bl noS).toArray 4)) := by
  obtain ⟨i, hi, hz, hs, hb⟩ := i4
  have := run_make (P := Tryd.prog) w 72 4 i (.bool false) u24 hi hz .i64 .i64 256 256 (by decide) (by decide) (by rw [hb]; decide) (by decide)
  have e : madeCells (Value.bool false).cells ((256 : Int).toNat * i.size) = (bl noS).toArray := by
    rw [hs]
    apply Array.toList_inj.1
    rw [show (Value.bool false).cells = #[.bool false] from rfl, toList_madeCells_one]
    simp [bl, noS, List.map_const']
  rw [e] at this
  exact this
end Go.Proofs.YtaebhbcamhmhoaaDoor.S1
namespace Go.Proofs.YtaebhbcamhmhoaaDoor.S1
open Go.RowKit

set_option maxRecDepth 10000 in
set_option maxHeartbeats 2000000 in
theorem both0_in (f g : Nat → Bool) (w : World) :
    Calls Tryd.prog 27 #[(.agg #[.int .u64 (wd f 0), .int .u64 (wd f 1), .int .u64 (wd f 2), .int .u64 (wd f 3)]), (.agg #[.int .u64 (wd g 0), .int .u64 (wd g 1), .int .u64 (wd g 2), .int .u64 (wd g 3)]), .int .i64 0] w fun e w' => e = .returned (.agg #[.int .u64 (wd (orS f g) 0), .int .u64 (wd (orS f g) 1), .int .u64 (wd (orS f g) 2), .int .u64 (wd (orS f g) 3)]) ∧ Below w.heap.size w w' := by
  have hmk := make256
  go_enter Tryd.func27, Tryd.ntmps27
  go_wp2
  obtain ⟨W, hW, bf, bg, br, hB⟩ := boxes3 w 23 23 23 (.int .u64 (wd f 0)) (.int .u64 (wd f 1)) (.int .u64 (wd f 2)) (.int .u64 (wd f 3)) (.int .u64 (wd g 0)) (.int .u64 (wd g 1)) (.int .u64 (wd g 2)) (.int .u64 (wd g 3)) (.int .u64 0) (.int .u64 0) (.int .u64 0) (.int .u64 0)
  have hs : W.heap.size = w.heap.size + 1 + 1 + 1 := by rw [← hW]; simp
  rw [hW]
  clear hW hmk
  have hrow := BoolRow.new W noS
  rw [hs] at hrow
  have bf := bf.alloc (.cells (bl noS).toArray 4)
  have bg := bg.alloc (.cells (bl noS).toArray 4)
  have br := br.alloc (.cells (bl noS).toArray 4)
  have hB := hB.alloc hB.size (.cells (bl noS).toArray 4)
  revert bf bg br hB hrow
  generalize W.alloc (.cells (bl noS).toArray 4) = W2
  intro hrow bf bg br hB
  have hrow := hrow.congr (g := cutS (orS f g) 0) fun c _ => by simp [noS, cutS]
  go_loopw [8] (fun i wr => ∃ k : Nat, k ≤ 256 ∧ i = .int .i64 k ∧ SetBox wr w.heap.size 23 f ∧ SetBox wr (w.heap.size + 1) 23 g ∧ Blk4 wr (w.heap.size + 1 + 1) 23 (.int .u64 0) (.int .u64 0) (.int .u64 0) (.int .u64 0) ∧ BoolRow wr (w.heap.size + 1 + 1 + 1) (cutS (orS f g) k) ∧ Below w.heap.size w wr) (fun i _ => 256 - (intOf i).toNat)
  case atStart => exact ⟨0, Nat.zero_le _, rfl, bf, bg, br, hrow, hB⟩
  case round =>
    clear bf bg br hrow hB
    obtain ⟨k, hk, rfl, bf, bg, br, hrow, hB⟩ := hrel
    by_cases hlt : k < 256
    · obtain ⟨f0, f1, f2, f3⟩ := bf.blk.all
      obtain ⟨g0, g1, g2, g3⟩ := bg.blk.all
      have hk8 : k ≤ 255 := by omega
      have hset : ∀ wq, Bel wr wq → BoolRow (wq.setCell ⟨w.heap.size + 1 + 1 + 1, k, none⟩ (.bool (f k || g k))) (w.heap.size + 1 + 1 + 1) (cutS (orS f g) (k + 1)) := fun wq hq =>
        ((hrow.bel hq).set k (f k || g k)).congr fun c _ => by
          simp only [cutS]
          by_cases e : c = k
          · subst e; simp [orS]
          · have a : (c < k + 1) ↔ (c < k) := by omega
            rw [Bool.eq_iff_iff]; simp [e, a]
      have hset := Lib.hid hset
      generalize hx : f k = x at hset
      generalize hy : g k = y at hset
      cases x <;> cases y
      all_goals
        go_wp2_with fail
        refine wp_region_bel (by kernel_rfl) (by kernel_rfl) ?_
        repeat (first
          | go_big_quiet_skip
          | (go_big_quiet_want
             first
               | (refine BigFrame.quiet_move _ rfl ?_
                  simp only [Act.put, Act.eval, List.setIfInBounds_toArray, List.set_cons_zero, List.set_cons_succ, List.getD_toArray, List.getD_cons_zero, List.getD_cons_succ]
                  go_big_quiet_on)
               | (refine BigFrame.quiet_assign _ rfl ?_
                  simp only [Act.put, Act.eval, List.setIfInBounds_toArray, List.set_cons_zero, List.set_cons_succ, List.getD_toArray, List.getD_cons_zero, List.getD_cons_succ]
                  go_big_quiet_on)
               | (refine quiet_call 40 ?_
                  apply Exists.intro
                  refine ⟨fun w' hC => ?_, ?_⟩
                  · go_simp
                    with_reducible rfl
                  refine ⟨_, fun w' hC => Calls.bel hC (has_ref _ k hk8 _), ?_⟩
                  simp only [Act.put, List.setIfInBounds_toArray, List.set_cons_zero, List.set_cons_succ]
                  go_big_quiet_on)
               | (refine quiet_val ?_
                  apply Exists.intro
                  refine ⟨fun w' hC => ?_, ?_⟩
                  · go_simp
                    with_reducible rfl
                  simp only [Act.put, List.setIfInBounds_toArray, List.set_cons_zero, List.set_cons_succ]
                  go_big_quiet_on)))
        refine wpQuiet_nil ?_
        intro wq hq

        have hcell := (hrow.bel hq).cell hlt
        have hfz := (hrow.bel hq).frozen k
        have hB2 := hB.trans (hq.mono hB.size)
        have h1 := Lib.hid (hB2.setCell (p := ⟨w.heap.size + 1 + 1 + 1, k, none⟩) (by simp <;> omega))
        have h2 := Lib.hid (hset.out wq hq)
        have h3 := Lib.hid ((br.bel hq).setOther (a := ⟨w.heap.size + 1 + 1 + 1, k, none⟩) (by simp <;> omega))
        have h4 := Lib.hid ((bf.blk.bel hq).setOther (a := ⟨w.heap.size + 1 + 1 + 1, k, none⟩) (by simp <;> omega))
        have h5 := Lib.hid ((bg.blk.bel hq).setOther (a := ⟨w.heap.size + 1 + 1 + 1, k, none⟩) (by simp <;> omega))
        clear f0 f1 f2 f3 g0 g1 g2 g3 hrow bf bg br hB hB2
        go_wp2
        go_roundw
        case rel => exact ⟨k + 1, by omega, by go_num, h4.out _, h5.out _, h3.out _, h2.out, h1.out _⟩
        case measure => simp [intOf]; omega
    · have e : k = 256 := by omega
      subst e
      have hrow := hrow.congr (g := orS f g) fun c hc => by simp [cutS, hc]
      have hof := refof_in (orS f g) (w.heap.size + 1 + 1 + 1) wr hrow
      have h2 := Lib.hid hB
      have h3 := Lib.hid br
      clear hB hrow br bf bg
      go_wp2_with (go_at_call 41; refine hof.mono ?_; clear hof; rintro e w' ⟨rfl, hb⟩; have b1 := Lib.hid (h3.out.bel hb); obtain ⟨⟨r0, r1, r2, r3⟩, z0, z1, z2, z3⟩ := b1.out.facts; have hb := Lib.hid hb)
      have hx := (b1.out.set (.int .u64 (wd (orS f g) 0)) (.int .u64 (wd (orS f g) 1)) (.int .u64 (wd (orS f g) 2)) (.int .u64 (wd (orS f g) 3))).facts.1
      exact bodyPost_ret (v := (.agg #[.int .u64 (wd (orS f g) 0), .int .u64 (wd (orS f g) 1), .int .u64 (wd (orS f g) 2), .int .u64 (wd (orS f g) 3)])) (by simp [results, Tryd.results27, go_sem, hx.1, hx.2.1, hx.2.2.1, hx.2.2.2]) rfl ⟨rfl, below_set4 (h2.out.trans (hb.out.mono h2.out.size)) (by omega) _ _ _ _⟩

end Go.Proofs.YtaebhbcamhmhoaaDoor.S1
namespace Go.Proofs.YtaebhbcamhmhoaaDoor.S1
open Go.RowKit Go.Shelf

theorem below_grown {a w w1 : World} {B : Nat} {e : TypeId} {size : Nat} {v : Value} {n : Nat} {xs : List Value} {tmp : Obj} (h : Below B a w) (hB : B ≤ w.heap.size)
    (hrow : w.ownsRow B e size v n xs) (hg : (w.alloc tmp).grownBy w1 v.ownBlock) : Below B a w1 :=
  (h.alloc hB tmp).grown hg (by simp; omega) fun k ek => (hrow.lt k ek).1

set_option maxRecDepth 10000 in
set_option maxHeartbeats 2000000 in
theorem reflist_aux (N : Nat) (hN : Hid (N = 256)) (f : Nat → Bool) (w : World) : Calls Tryd.prog 26 #[(.agg #[.int .u64 (wd f 0), .int .u64 (wd f 1), .int .u64 (wd f 2), .int .u64 (wd f 3)])] w (GivesBytes w (el f N)) := by
  obtain ⟨i0, hi, hz0, hz1, hz2⟩ := info_parts info5
  unfold GivesBytes
  go_enter Tryd.func26, Tryd.ntmps26
  go_wp2
  obtain ⟨W, hW, bf, hB⟩ := boxes1 w 23 (.int .u64 (wd f 0)) (.int .u64 (wd f 1)) (.int .u64 (wd f 2)) (.int .u64 (wd f 3))
  have hs : W.heap.size = w.heap.size + 1 := by rw [← hW]; simp
  rw [hW]
  clear hW
  have hrow : (W.alloc (.cells #[] 5)).ownsRow w.heap.size 5 1 (.slice (some ⟨w.heap.size + 1, 0, none⟩) 0 0) (el f 0).length ((el f 0).map encN) := by
    have := World.ownsRow_lit (base := w.heap.size) (e := 5) (size := 1) W #[] 0 (by omega) (by decide) rfl
    rw [hs] at this
    simpa [el] using this
  have bf := bf.alloc (.cells #[] 5)
  have hB := hB.alloc hB.size (.cells #[] 5)
  revert bf hB hrow
  generalize W.alloc (.cells #[] 5) = W2
  intro hrow bf hB
  go_loopw [3, 4] (fun v i wr => ∃ k : Nat, k ≤ 256 ∧ i = .int .i64 k ∧ wr.ownsRow w.heap.size 5 1 v (el f k).length ((el f k).map encN) ∧ SetBox wr w.heap.size 23 f ∧ Below w.heap.size w wr) (fun _ i _ => 256 - (intOf i).toNat)
  case atStart => exact ⟨0, by omega, rfl, hrow, bf, hB⟩
  case round =>
    clear hrow bf hB
    obtain ⟨k, hk, rfl, hrow, bf, hB⟩ := hrel
    by_cases hlt : k < 256
    · have hlen := el_len f k
      have hk8 : k ≤ 255 := by omega
      have hc := has_ref f k hk8
      obtain ⟨⟨f0, f1, f2, f3⟩, -⟩ := bf.blk.facts
      cases hf : f k
      · rw [hf] at hc
        have he := el_snoc_miss hf
        replace hc := Lib.hid hc
        replace he := Lib.hid he
        clear hf
        go_wp2_with (go_at_call 40; refine (hc.out _).mono ?_; rintro e w' ⟨rfl, hb⟩; replace hrow := ownsRow_bel hrow hb; replace bf := bf.blk.bel hb; replace hB := hB.trans (hb.mono hB.size); clear hb f0 f1 f2 f3)
        go_roundw
        case rel => exact ⟨k + 1, by omega, by go_num, by rw [he.out]; exact hrow, bf, hB⟩
        case measure => simp [intOf]; omega
      · rw [hf] at hc
        have he := el_snoc_hit hf
        replace hc := Lib.hid hc
        replace he := Lib.hid he
        clear hf
        generalize hl : (el f k).length = m at *
        generalize hxs : (el f k).map encN = xs at *
        replace hl := Lib.hid hl
        replace hxs := Lib.hid hxs
        go_wp2_with (first
          | (go_at_call 40; refine (hc.out _).mono ?_; rintro e w' ⟨rfl, hb⟩; replace hrow := ownsRow_bel hrow hb; replace bf := bf.blk.bel hb; replace hB := hB.trans (hb.mono hB.size); clear hb f0 f1 f2 f3)
          | (at_builtin; refine wpList_append_own _ rfl _ _ 53 rfl w.heap.size 5 i0 (.int .u8 0) 1 1 Tryd.underlying53 hi hz0 hz1 hz2 rfl (by decide) _ _ _ rfl (hrow.alloc _) ⟨_, 0, none⟩ 1 1 [.int .u8 (k : Int)] rfl rfl (cell_one_new _ _ _) (by simp [Value.oneCell']) (by simp [maxLen]; omega) (by omega) (by have := hB.size; simp; omega) ?_; intro v' w1 hown' hgrow _; replace bf := Blk4.grown bf hrow (by decide) hgrow; replace hB := below_grown hB hB.size hrow hgrow; replace hrow := hown'; clear hgrow hown'))
        go_roundw
        case rel => exact ⟨k + 1, by omega, by go_num, by rw [he.out]; simp only [List.length_append, List.map_append, hl.out, hxs.out]; exact hrow, bf, hB⟩
        case measure => simp [intOf]; omega
    · have e : k = N := by have := hN.out; omega
      subst e
      clear bf
      replace hB := Lib.hid hB
      replace hrow := Lib.hid hrow
      go_wp2
      go_ret
      exact ⟨_, rfl, hrow.out, hB.out⟩
theorem reflist_in (f : Nat → Bool) (w : World) : Calls Tryd.prog 26 #[(.agg #[.int .u64 (wd f 0), .int .u64 (wd f 1), .int .u64 (wd f 2), .int .u64 (wd f 3)])] w (GivesBytes w (el f 256)) := reflist_aux 256 (Lib.hid rfl) f w
end Go.Proofs.YtaebhbcamhmhoaaDoor.S1
namespace Go.Proofs.YtaebhbcamhmhoaaDoor
open Go.Tree7
open S7
theorem alpha_strip (t : T) : alphaT t.strip = alphaT t := by
  refine T.ind (P := fun t => alphaT t.strip = alphaT t) (fun k u0 u1 u2 u3 p cap mn mx tx ks ih => ?_) t
  rw [T.strip_mk, alphaT_mk, alphaT_mk, map_alives ih]
end Go.Proofs.YtaebhbcamhmhoaaDoor
namespace Go.Proofs.YtaebhbcamhmhoaaDoor
open Go.Tree7
open S7
theorem el_zero (f : Nat → Bool) : decide ((S1.el f 256).length = 0) = S1.eqB f S1.noS := by
  rw [Bool.eq_iff_iff, decide_eq_true_eq, S1.eqB_iff, List.length_eq_zero_iff]
  constructor
  · intro h c hc
    cases hx : f c with
    | false => rfl
    | true =>
      have : c ∈ S1.el f 256 := S1.el_mem.2 ⟨hc, hx⟩
      rw [h] at this
      cases this
  · intro h
    refine List.eq_nil_iff_forall_not_mem.2 fun c hc => ?_
    obtain ⟨h1, h2⟩ := S1.el_mem.1 hc
    rw [h c h1] at h2
    cases h2
end Go.Proofs.YtaebhbcamhmhoaaDoor
namespace Go.Proofs.YtaebhbcamhmhoaaDoor.S7
open Go.RowKit
open Go.Tree7
theorem scells_length (s : Step) : (scells s).length = 11 := rfl
theorem flat11 : ∀ (l : List Step) (i j : Nat) (hi : i < l.length), j < 11 → (rcells l)[i * 11 + j]? = (scells l[i])[j]? := by
  intro l
  induction l with
  | nil => intro i j hi; simp at hi
  | cons t l ih =>
    intro i j hi hj
    unfold rcells at *
    rw [List.flatMap_cons]
    cases i with
    | zero => rw [List.getElem?_append_left (by rw [scells_length]; omega)]; simp
    | succ i =>
      rw [List.getElem?_append_right (by rw [scells_length]; omega), scells_length, show (i + 1) * 11 + j - 11 = i * 11 + j by omega]
      exact ih i j (by simpa using hi) hj
/-- The eleven cells of a step in a row of one's own. -/
theorem step_at {w : World} {base : Nat} {v : Value} {l : List Step} (h : w.ownsRow base 51 11 v l.length (rcells l)) : ∃ (p : Option Addr) (cap : Nat), v = .slice p l.length cap ∧ (0 < l.length → ∃ g, p = some ⟨g, 0, none⟩ ∧ base ≤ g ∧ g < w.heap.size) ∧ ∀ g, p = some ⟨g, 0, none⟩ → ∀ i (hi : i < l.length), ∀ q, q < 11 → w.cell? ⟨g, i * 11 + q, none⟩ = (scells l[i])[q]? := by
  obtain ⟨p, cap, rfl, hcap, hnil, hc⟩ := row_form h
  refine ⟨p, cap, rfl, fun hn => ?_, fun g hg i hi q hq => ?_⟩
  · obtain ⟨g, h1, h2, h3, -⟩ := hc hn
    exact ⟨g, h1, h2, h3⟩
  · obtain ⟨g', h1, -, -, h4⟩ := hc (by omega)
    rw [hg] at h1
    cases h1
    rw [h4 _ (by omega), flat11 l i q hi hq]
theorem eleven_of {w : World} {b o : Nat} {c0 c1 c2 c3 c4 c5 c6 c7 c8 c9 c10 : Value} (h : ∀ q, q < 11 → w.cell? ⟨b, o + q, none⟩ = [c0, c1, c2, c3, c4, c5, c6, c7, c8, c9, c10][q]?) :
    w.cell? ⟨b, o, none⟩ = some c0 ∧ w.cell? ⟨b, o + 1, none⟩ = some c1 ∧ w.cell? ⟨b, o + 2, none⟩ = some c2 ∧ w.cell? ⟨b, o + 3, none⟩ = some c3 ∧ w.cell? ⟨b, o + 4, none⟩ = some c4 ∧ w.cell? ⟨b, o + 5, none⟩ = some c5 ∧ w.cell? ⟨b, o + 6, none⟩ = some c6 ∧ w.cell? ⟨b, o + 7, none⟩ = some c7 ∧ w.cell? ⟨b, o + 8, none⟩ = some c8 ∧ w.cell? ⟨b, o + 9, none⟩ = some c9 ∧ w.cell? ⟨b, o + 10, none⟩ = some c10 :=
  ⟨h 0 (by decide), h 1 (by decide), h 2 (by decide), h 3 (by decide), h 4 (by decide), h 5 (by decide), h 6 (by decide), h 7 (by decide), h 8 (by decide), h 9 (by decide), h 10 (by decide)⟩
/-- What the document's walk comes to. -/
def allS (t : T) : List Step := (pre 24 1 t).take 601
theorem allS_len (t : T) : (allS t).length ≤ 601 := by unfold allS; simp; omega
theorem walk_all {t : T} {w : World} (hT : T.In w w.heap.size t) : Calls Tryd.prog 24 #[.agg t.cells.toArray, .int .i64 1, .slice none 0 0] w (GivesSteps w.heap.size w (allS t)) := by
  have := refWalk_in 24 t 1 [] (.slice none 0 0) w.heap.size w rfl hT (World.ownsRow_nil _ _ _ _) (by decide) (Nat.le_refl _)
  rw [walk_pre 24 1 [] t (by decide), List.nil_append] at this
  exact this
end Go.Proofs.YtaebhbcamhmhoaaDoor.S7
namespace Go.Proofs.YtaebhbcamhmhoaaDoor.S7
open Go.RowKit
open Go.Tree7
open S5 (nl nl_length nl_small at_nl nl_at)
theorem emptyStr : (⟨#[]⟩ : ByteArray).toList.isEmpty = true := by rw [ByteArray.toList_eq]; rfl
theorem uW4 : Tryd.prog.underlying 23 = some (.array 4 22) := by kernel_rfl
theorem eqW4 (a0 a1 a2 a3 b0 b1 b2 b3 : Int) (w : World) : (Op.equalIn 10000 23 (.agg #[.int .u64 a0, .int .u64 a1, .int .u64 a2, .int .u64 a3]) (.agg #[.int .u64 b0, .int .u64 b1, .int .u64 b2, .int .u64 b3])).run Tryd.prog w =
    .ok ((a0 == b0) && (a1 == b1) && (a2 == b2) && (a3 == b3)) w := by
  obtain ⟨i, hi⟩ := S1.i26
  rw [run_equalIn_array w 9999 _ _ uW4 hi, S1.c26]
  have hr : List.range 4 = [0, 1, 2, 3] := rfl
  rw [hr]
  simp only [Op.eqItems, Sem.run_bind]
  simp [go_sem]
  by_cases h0 : a0 = b0 <;> by_cases h1 : a1 = b1 <;> by_cases h2 : a2 = b2 <;> by_cases h3 : a3 = b3 <;> simp [*]
set_option maxRecDepth 10000 in
set_option maxHeartbeats 4000000 in
theorem rone4_in (f : Nat → Bool) (len : Nat) (mn mx lv : Int) (tx : ByteArray) (hlen : len ≤ 9223372036854775807) (_ : tx.size ≤ 9223372036854775807) (w : World) :
    Calls Tryd.prog 25 #[.agg #[.int .i64 4, .int .u64 (S1.wd f 0), .int .u64 (S1.wd f 1), .int .u64 (S1.wd f 2), .int .u64 (S1.wd f 3), .slice none 0 0, .int .i64 mn, .int .i64 mx, .string tx, .int .i64 lv, .int .i64 len]] w fun e w' => e = .returned (.bool (okB f 4 len mn mx tx)) ∧ Below w.heap.size w w' := by
  obtain ⟨E, hE⟩ : ∃ E : Bool, S1.eqB f S1.noS = E := ⟨_, rfl⟩
  have he : ∀ w, (Op.equalIn 10000 23 (.agg #[.int .u64 (S1.wd f 0), .int .u64 (S1.wd f 1), .int .u64 (S1.wd f 2), .int .u64 (S1.wd f 3)]) (.agg #[.int .u64 0, .int .u64 0, .int .u64 0, .int .u64 0])).run Tryd.prog w = .ok E w := fun w => by
    rw [eqW4, ← hE]
    simp [S1.eqB, S1.no_wd]
  obtain ⟨te, hte⟩ : ∃ te : Bool, tx.toList.isEmpty = te := ⟨_, rfl⟩
  have e : okB f 4 len mn mx tx = (decide (len = 1) && boundsB mn mx && plainB f 0 0 tx) := rfl
  rw [e]
  clear e
  unfold boundsB plainB
  rw [hE, hte]
  cases E with
  | false =>
    rw [show (decide (len = 1) && (decide (0 ≤ mn) && decide (mn ≤ 40) && (decide (mx = -1) || (decide (1 ≤ mx) && decide (mn ≤ mx) && decide (mx ≤ 40)))) && (false && decide ((0 : Int) = 0) && decide ((0 : Int) = 0) && te)) = false by simp]
    go_enter Tryd.func25, Tryd.ntmps25
    go_wp2
    go_ret
    exact ⟨ret_bool (by simp <;> omega), ((Below.refl w.heap.size w).alloc (Nat.le_refl _) _).alloc (by simp) _⟩
  | true =>
    cases te with
    | false =>
      rw [show (decide (len = 1) && (decide (0 ≤ mn) && decide (mn ≤ 40) && (decide (mx = -1) || (decide (1 ≤ mx) && decide (mn ≤ mx) && decide (mx ≤ 40)))) && (true && decide ((0 : Int) = 0) && decide ((0 : Int) = 0) && false)) = false by simp]
      go_enter Tryd.func25, Tryd.ntmps25
      go_wp2
      go_ret
      exact ⟨ret_bool (by simp <;> omega), ((Below.refl w.heap.size w).alloc (Nat.le_refl _) _).alloc (by simp) _⟩
    | true =>
      by_cases hl : len = 1
      · subst hl
        by_cases q0 : mn < 0
        · rw [show (decide (1 = 1) && (decide (0 ≤ mn) && decide (mn ≤ 40) && (decide (mx = -1) || (decide (1 ≤ mx) && decide (mn ≤ mx) && decide (mx ≤ 40)))) && (true && decide ((0 : Int) = 0) && decide ((0 : Int) = 0) && true)) = false by simp; omega]
          go_enter Tryd.func25, Tryd.ntmps25
          go_wp2
          go_ret
          exact ⟨ret_bool (by simp <;> omega), ((Below.refl w.heap.size w).alloc (Nat.le_refl _) _).alloc (by simp) _⟩
        by_cases q1 : 40 < mn
        · rw [show (decide (1 = 1) && (decide (0 ≤ mn) && decide (mn ≤ 40) && (decide (mx = -1) || (decide (1 ≤ mx) && decide (mn ≤ mx) && decide (mx ≤ 40)))) && (true && decide ((0 : Int) = 0) && decide ((0 : Int) = 0) && true)) = false by simp; omega]
          go_enter Tryd.func25, Tryd.ntmps25
          go_wp2
          go_ret
          exact ⟨ret_bool (by simp <;> omega), ((Below.refl w.heap.size w).alloc (Nat.le_refl _) _).alloc (by simp) _⟩
        by_cases q2 : mx = -1
        · have z1 : decide (0 ≤ mn) = true := by simp; omega
          have z2 : decide (mn ≤ 40) = true := by simp; omega
          subst q2
          rw [show (decide (1 = 1) && (decide (0 ≤ mn) && decide (mn ≤ 40) && (decide ((-1 : Int) = -1) || (decide (1 ≤ (-1 : Int)) && decide (mn ≤ (-1 : Int)) && decide ((-1 : Int) ≤ 40)))) && (true && decide ((0 : Int) = 0) && decide ((0 : Int) = 0) && true)) = true by simp; omega]
          go_enter Tryd.func25, Tryd.ntmps25
          go_wp2
          go_ret
          exact ⟨ret_bool (by simp <;> omega), ((Below.refl w.heap.size w).alloc (Nat.le_refl _) _).alloc (by simp) _⟩
        by_cases q3 : mx < mn
        · rw [show (decide (1 = 1) && (decide (0 ≤ mn) && decide (mn ≤ 40) && (decide (mx = -1) || (decide (1 ≤ mx) && decide (mn ≤ mx) && decide (mx ≤ 40)))) && (true && decide ((0 : Int) = 0) && decide ((0 : Int) = 0) && true)) = false by simp; omega]
          go_enter Tryd.func25, Tryd.ntmps25
          go_wp2
          go_ret
          exact ⟨ret_bool (by simp <;> omega), ((Below.refl w.heap.size w).alloc (Nat.le_refl _) _).alloc (by simp) _⟩
        by_cases q4 : mx < 1
        · rw [show (decide (1 = 1) && (decide (0 ≤ mn) && decide (mn ≤ 40) && (decide (mx = -1) || (decide (1 ≤ mx) && decide (mn ≤ mx) && decide (mx ≤ 40)))) && (true && decide ((0 : Int) = 0) && decide ((0 : Int) = 0) && true)) = false by simp; omega]
          go_enter Tryd.func25, Tryd.ntmps25
          go_wp2
          go_ret
          exact ⟨ret_bool (by simp <;> omega), ((Below.refl w.heap.size w).alloc (Nat.le_refl _) _).alloc (by simp) _⟩
        by_cases q5 : 40 < mx
        · rw [show (decide (1 = 1) && (decide (0 ≤ mn) && decide (mn ≤ 40) && (decide (mx = -1) || (decide (1 ≤ mx) && decide (mn ≤ mx) && decide (mx ≤ 40)))) && (true && decide ((0 : Int) = 0) && decide ((0 : Int) = 0) && true)) = false by simp; omega]
          go_enter Tryd.func25, Tryd.ntmps25
          go_wp2
          go_ret
          exact ⟨ret_bool (by simp <;> omega), ((Below.refl w.heap.size w).alloc (Nat.le_refl _) _).alloc (by simp) _⟩
        rw [show (decide (1 = 1) && (decide (0 ≤ mn) && decide (mn ≤ 40) && (decide (mx = -1) || (decide (1 ≤ mx) && decide (mn ≤ mx) && decide (mx ≤ 40)))) && (true && decide ((0 : Int) = 0) && decide ((0 : Int) = 0) && true)) = true by simp; omega]
        go_enter Tryd.func25, Tryd.ntmps25
        go_wp2
        go_ret
        exact ⟨ret_bool (by simp <;> omega), ((Below.refl w.heap.size w).alloc (Nat.le_refl _) _).alloc (by simp) _⟩
      · have hl1 : ((len : Int) == 1) = false := by simp; omega
        rw [show (decide (len = 1) && (decide (0 ≤ mn) && decide (mn ≤ 40) && (decide (mx = -1) || (decide (1 ≤ mx) && decide (mn ≤ mx) && decide (mx ≤ 40)))) && (true && decide ((0 : Int) = 0) && decide ((0 : Int) = 0) && true)) = false by simp; omega]
        go_enter Tryd.func25, Tryd.ntmps25
        go_wp2
        go_ret
        exact ⟨ret_bool (by simp <;> omega), ((Below.refl w.heap.size w).alloc (Nat.le_refl _) _).alloc (by simp) _⟩
end Go.Proofs.YtaebhbcamhmhoaaDoor.S7
namespace Go.Proofs.YtaebhbcamhmhoaaDoor.S7
open Go.RowKit
open Go.Tree7
open S5 (nl nl_length nl_small at_nl nl_at)
set_option maxRecDepth 10000 in
set_option maxHeartbeats 4000000 in
theorem rone_in (f : Nat → Bool) (k : Int) (len : Nat) (mn mx lv : Int) (tx : ByteArray) (hlen : len ≤ 9223372036854775807) (htx : tx.size ≤ 9223372036854775807) (w : World) :
    Calls Tryd.prog 25 #[.agg #[.int .i64 k, .int .u64 (S1.wd f 0), .int .u64 (S1.wd f 1), .int .u64 (S1.wd f 2), .int .u64 (S1.wd f 3), .slice none 0 0, .int .i64 mn, .int .i64 mx, .string tx, .int .i64 lv, .int .i64 len]] w fun e w' => e = .returned (.bool (okB f k len mn mx tx)) ∧ Below w.heap.size w w' := by
  obtain ⟨E, hE⟩ : ∃ E : Bool, S1.eqB f S1.noS = E := ⟨_, rfl⟩
  have he : ∀ w, (Op.equalIn 10000 23 (.agg #[.int .u64 (S1.wd f 0), .int .u64 (S1.wd f 1), .int .u64 (S1.wd f 2), .int .u64 (S1.wd f 3)]) (.agg #[.int .u64 0, .int .u64 0, .int .u64 0, .int .u64 0])).run Tryd.prog w = .ok E w := fun w => by
    rw [eqW4, ← hE]
    simp [S1.eqB, S1.no_wd]
  obtain ⟨te, hte⟩ : ∃ te : Bool, tx.toList.isEmpty = te := ⟨_, rfl⟩
  have D := Lib.hid (fun w => risName_in htx (nameB_iff tx) w)
  obtain ⟨nm, hnm⟩ : ∃ nm : Bool, nameB tx = nm := ⟨_, rfl⟩
  rw [hnm] at D
  by_cases k1 : k = 1
  · subst k1
    have e : okB f 1 len mn mx tx = (decide (len = 0) && plainB S1.noS mn mx tx) := rfl
    rw [e]
    unfold plainB
    clear e
    rw [empty_noS, hte]
    clear D
    by_cases hl : len = 0
    · subst hl
      go_enter Tryd.func25, Tryd.ntmps25
      go_wp2
      all_goals
        go_ret
        exact ⟨ret_bool (by simp_all <;> omega), ((Below.refl w.heap.size w).alloc (Nat.le_refl _) _).alloc (by simp) _⟩
    · have hl1 : ((len : Int) == 0) = false := by simp; omega
      go_enter Tryd.func25, Tryd.ntmps25
      go_wp2
      all_goals
        go_ret
        exact ⟨ret_bool (by simp_all <;> omega), ((Below.refl w.heap.size w).alloc (Nat.le_refl _) _).alloc (by simp) _⟩
  by_cases k2 : k = 2
  · subst k2
    have e : okB f 2 len mn mx tx = (plainB f mn mx tx) := rfl
    rw [e]
    unfold plainB
    clear e k1
    rw [hE, hte]
    clear D
    go_enter Tryd.func25, Tryd.ntmps25
    go_wp2
    all_goals
      go_ret
      exact ⟨ret_bool (by simp_all <;> omega), ((Below.refl w.heap.size w).alloc (Nat.le_refl _) _).alloc (by simp) _⟩
  by_cases k3 : k = 3
  · subst k3
    have e : okB f 3 len mn mx tx = (decide (2 ≤ len) && plainB f mn mx tx) := rfl
    rw [e]
    unfold plainB
    clear e k1 k2
    rw [hE, hte]
    clear D
    by_cases hl : 2 ≤ len
    · have d1 : decide ((1 : Int) < (len : Int)) = true := by simp; omega
      go_enter Tryd.func25, Tryd.ntmps25
      go_wp2
      all_goals
        go_ret
        exact ⟨ret_bool (by simp_all <;> omega), ((Below.refl w.heap.size w).alloc (Nat.le_refl _) _).alloc (by simp) _⟩
    · have d1 : decide ((1 : Int) < (len : Int)) = false := by simp; omega
      go_enter Tryd.func25, Tryd.ntmps25
      go_wp2
      all_goals
        go_ret
        exact ⟨ret_bool (by simp_all <;> omega), ((Below.refl w.heap.size w).alloc (Nat.le_refl _) _).alloc (by simp) _⟩
  by_cases k4 : k = 4
  · subst k4
    exact rone4_in f len mn mx lv tx hlen htx w
  by_cases k5 : k = 5
  · subst k5
    have e : okB f 5 len mn mx tx = (decide (len = 0) && nameB tx && plainB f mn mx ⟨#[]⟩) := rfl
    rw [e]
    unfold plainB
    clear e k1 k2 k3 k4
    rw [hE, hnm, emptyStr]
    by_cases hl : len = 0
    · subst hl
      go_enter Tryd.func25, Tryd.ntmps25
      go_wp2_with (go_at_call 39; (with_reducible refine (D.out _).mono ?_); rintro e w1 ⟨rfl, rfl⟩)
      all_goals
        go_ret
        exact ⟨ret_bool (by simp_all <;> omega), ((Below.refl w.heap.size w).alloc (Nat.le_refl _) _).alloc (by simp) _⟩
    · have hl1 : ((len : Int) == 0) = false := by simp; omega
      go_enter Tryd.func25, Tryd.ntmps25
      go_wp2_with (go_at_call 39; (with_reducible refine (D.out _).mono ?_); rintro e w1 ⟨rfl, rfl⟩)
      all_goals
        go_ret
        exact ⟨ret_bool (by simp_all <;> omega), ((Below.refl w.heap.size w).alloc (Nat.le_refl _) _).alloc (by simp) _⟩
  have e : okB f k len mn mx tx = false := by unfold okB; rw [if_neg k1, if_neg k2, if_neg k3, if_neg k4, if_neg k5]
  rw [e]
  clear e D
  go_enter Tryd.func25, Tryd.ntmps25
  go_wp2
  all_goals
    go_ret
    exact ⟨ret_bool (by simp_all <;> omega), ((Below.refl w.heap.size w).alloc (Nat.le_refl _) _).alloc (by simp) _⟩
end Go.Proofs.YtaebhbcamhmhoaaDoor.S7
namespace Go.Proofs.YtaebhbcamhmhoaaDoor.S7
open Go.RowKit
open Go.Tree7
/-- A step's fields fit their types. -/
def FitS (s : Step) : Prop := fits s.k s.u.1 s.u.2.1 s.u.2.2.1 s.u.2.2.2 s.mn s.mx s.tx ∧ s.kids ≤ maxLen
theorem step_fits {w : World} {B : Nat} {t : T} (h : T.In w B t) (lv : Nat) : FitS (t.step lv) := by
  cases h with
  | mk hb hm hf _ _ => exact ⟨hf, by simp only [T.step]; omega⟩
theorem pre_fits {w : World} {B : Nat} : ∀ (d lv : Nat) (t : T), T.In w B t → ∀ s ∈ pre d lv t, FitS s := by
  intro d
  induction d with
  | zero =>
    intro lv t h s hs
    simp only [pre, List.mem_cons, List.not_mem_nil, or_false] at hs
    subst hs
    exact step_fits h lv
  | succ d ih =>
    intro lv t h s hs
    simp only [pre, List.mem_cons, List.mem_flatMap] at hs
    rcases hs with rfl | ⟨t', ht', hs⟩
    · exact step_fits h lv
    · refine ih _ t' ?_ s hs
      cases h with
      | mk _ _ _ _ hk => exact hk t' ht'
theorem all_fits {w : World} {B : Nat} {t : T} (h : T.In w B t) : ∀ s ∈ allS t, FitS s := fun s hs => pre_fits 24 1 t h s (List.mem_of_mem_take hs)
/-- A step by itself is right. -/
noncomputable def okS (s : Step) : Bool := okB (S1.mem4 s.u.1.toNat s.u.2.1.toNat s.u.2.2.1.toNat s.u.2.2.2.toNat) s.k s.kids s.mn s.mx s.tx
theorem okS_step (t : T) (lv : Nat) : okS (t.step lv) = T.ok t := by cases t; rfl
theorem allS_map (t : T) : allS t = (allT t).map fun x => x.2.step x.1 := by
  unfold allS allT
  rw [← preT_map, List.map_take]
theorem right_iffS (t : T) : rightB t = true ↔ (∀ s ∈ allS t, s.level ≤ 24 ∧ okS s = true) ∧ (allS t).length ≤ 600 := by
  rw [rightB_iff, allS_map]
  unfold RightP
  simp only [List.length_map, List.mem_map]
  have hl : ∀ x : Nat × T, (x.2.step x.1).level = x.1 := fun x => by cases x.2; rfl
  constructor
  · rintro ⟨h1, h2⟩
    refine ⟨fun s ⟨x, hx, e⟩ => ?_, h2⟩
    subst e
    rw [hl, okS_step]
    exact h1 x hx
  · rintro ⟨h1, h2⟩
    refine ⟨fun x hx => ?_, h2⟩
    have := h1 _ ⟨x, hx, rfl⟩
    rwa [hl, okS_step] at this
theorem rone_step {s : Step} (h : FitS s) (w : World) : Calls Tryd.prog 25 #[.agg (scells s).toArray] w fun e w' => e = .returned (.bool (okS s)) ∧ Below w.heap.size w w' := by
  obtain ⟨hf, hk⟩ := h
  have := rone_in (S1.mem4 s.u.1.toNat s.u.2.1.toNat s.u.2.2.1.toNat s.u.2.2.2.toNat) s.k s.kids s.mn s.mx s.level s.tx (by unfold maxLen at hk; omega) (by have := hf.2.2.2.2; unfold maxLen at this; omega) w
  obtain ⟨e0, e1, e2, e3⟩ := wd_f hf.2.1
  rw [e0, e1, e2, e3] at this
  exact this
set_option maxRecDepth 10000 in
set_option maxHeartbeats 4000000 in
theorem rright_in {t : T} {w : World} (hT : T.In w w.heap.size t) : Calls Tryd.prog 8 #[.agg t.cells.toArray] w fun e w' => e = .returned (.bool (rightB t)) ∧ Below w.heap.size w w' := by
  have hB1 : Below w.heap.size w (w.alloc (.cells t.cells.toArray 31)) := (Below.refl w.heap.size w).alloc (Nat.le_refl _) _
  have cW := walk_all ((hT.keep hB1).mono hB1.size)
  have hfit := Lib.hid (all_fits hT)
  have hr := right_iffS t
  obtain ⟨S, hS⟩ : ∃ S, allS t = S := ⟨_, rfl⟩
  have hSl : S.length ≤ 601 := by rw [← hS]; exact allS_len t
  rw [hS] at cW hfit hr
  obtain ⟨R, hR⟩ : ∃ R, rightB t = R := ⟨_, rfl⟩
  rw [hR] at hr ⊢
  have hno : Hid (∀ i (hi : i < S.length), ¬ (S[i].level ≤ 24 ∧ okS S[i] = true) → R = false) := Lib.hid fun i hi h => by
    cases R with
    | false => rfl
    | true => exact absurd ((hr.1 rfl).1 _ (List.getElem_mem hi)) h
  have hend : Hid ((∀ i (hi : i < S.length), S[i].level ≤ 24 ∧ okS S[i] = true) → R = decide (S.length ≤ 600)) := Lib.hid fun h => by
    rw [Bool.eq_iff_iff, hr, decide_eq_true_eq]
    refine ⟨fun q => q.2, fun q => ⟨fun s hs => ?_, q⟩⟩
    obtain ⟨i, hi, rfl⟩ := List.getElem_of_mem hs
    exact h i hi
  replace cW := Lib.hid cW
  replace hB1 := Lib.hid hB1
  clear hS hR hr hT
  cases t with
  | mk k u0 u1 u2 u3 p cap mn mx tx ks =>
    simp only [T.cells] at *
    go_enter Tryd.func8, Tryd.ntmps8
    go_wp2_with (go_at_call 24; (with_reducible refine cW.out.mono ?_); rintro e w2 ⟨v, rfl, hrow, hb2⟩; obtain ⟨pv, cv, rfl, hpg, hpc⟩ := step_at hrow; clear hrow; replace hpg := Lib.hid hpg; replace hpc := Lib.hid hpc; replace hb2 := Lib.hid (hB1.out.trans (hb2.mono hB1.out.size)))
    go_loopw [10] (fun i wr => ∃ j : Nat, j ≤ S.length ∧ i = .int .i64 j ∧ Hid (Below w2.heap.size w2 wr) ∧ Hid (∀ i (hi : i < S.length), i < j → S[i].level ≤ 24 ∧ okS S[i] = true)) (fun i _ => S.length - (intOf i).toNat)
    case atStart => exact ⟨0, Nat.zero_le _, rfl, Lib.hid (Below.refl _ _), Lib.hid fun i hi h => by omega⟩
    case round =>
      obtain ⟨j, hj, rfl, hB, hso⟩ := hrel
      by_cases hlt : j < S.length
      · obtain ⟨g, hpv, hbase, hgl⟩ := hpg.out (by omega)
        have hc := hpc.out g hpv j hlt
        subst hpv
        have hcl : ∀ q, q < 11 → wr.cell? ⟨g, j * 11 + q, none⟩ = (scells S[j])[q]? := fun q hq => by
          rw [← hc q hq]
          exact hB.out.cell (p := ⟨g, j * 11 + q, none⟩) hgl
        have hx := hfit.out S[j] (List.getElem_mem hlt)
        have hy := Lib.hid (hno.out j hlt)
        have hso2 : (S[j].level ≤ 24 ∧ okS S[j] = true) → Hid (∀ i (hi : i < S.length), i < j + 1 → S[i].level ≤ 24 ∧ okS S[i] = true) := fun h => Lib.hid fun i hi h2 => by
          by_cases e : i = j
          · subst e; exact h
          · exact hso.out i hi (by omega)
        clear hc hso
        have hsw := hB.out.size
        generalize S[j] = s at *
        have cR := rone_step hx
        generalize okS s = R9 at *
        obtain ⟨sk, ⟨su0, su1, su2, su3⟩, smn, smx, stx, slv, skids⟩ := s
        simp only [scells] at hcl cR
        replace cR := Lib.hid cR
        replace hx := Lib.hid hx
        obtain ⟨c0, c1, c2, c3, c4, c5, c6, c7, c8, c9, c10⟩ := eleven_of hcl
        clear hcl
        simp only at hy hso2
        by_cases h24 : 24 < slv
        · have hA := Lib.hid (hy.out fun h => by omega)
          have d1 : decide ((slv : Int) > 24) = true := by simp; omega
          clear hy hso2
          go_wp2
          go_ret
          exact ⟨by rw [hA.out]; rfl, hb2.out.trans ((hB.out.alloc hsw _).mono hb2.out.size)⟩
        · have d1 : decide ((slv : Int) > 24) = false := by simp; omega
          cases R9 with
          | true =>
            have hso3 := hso2 ⟨by omega, rfl⟩
            clear hy hso2
            go_wp2_with (go_at_call 25; (with_reducible refine (cR.out _).mono ?_); rintro e w3 ⟨rfl, hb3⟩; replace hb3 := Lib.hid ((hB.out.alloc hsw _).trans (hb3.mono (by simp; omega))))
            go_roundw
            case rel => exact ⟨j + 1, by omega, by go_num, hb3, hso3⟩
            case measure => simp [intOf]; omega
          | false =>
            have hA := Lib.hid (hy.out fun h => by cases h.2)
            clear hy hso2
            go_wp2_with (go_at_call 25; (with_reducible refine (cR.out _).mono ?_); rintro e w3 ⟨rfl, hb3⟩; replace hb3 := Lib.hid ((hB.out.alloc hsw _).trans (hb3.mono (by simp; omega))))
            go_ret
            exact ⟨by rw [hA.out]; rfl, hb2.out.trans (hb3.out.mono hb2.out.size)⟩
      · have hA := Lib.hid (hend.out fun i hi => hso.out i hi (by omega))
        clear hso
        go_wp2
        go_ret
        exact ⟨ret_bool (by rw [hA.out]; simp; omega), hb2.out.trans (hB.out.mono hb2.out.size)⟩
end Go.Proofs.YtaebhbcamhmhoaaDoor.S7
