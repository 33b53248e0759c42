/- Texts of earlier layers, merged: S7W1, S7W2. -/
import Derived.Test.YtjlmeegaiagfpaaDoorS7K
import Derived.Test.YtjlmeegaiagfpaaDoorLB
import Derived.Test.YtjlmeegaiagfpaaDoorS5A
namespace Go.Proofs.YtjlmeegaiagfpaaDoor.S7
open Go.RowKit
open Go.Tree7
theorem infoS : (Tryd.prog.info? 69).map (fun i => (i.zero, i.size, i.bytes)) = some (some (.agg #[.int .i64 0, .int .u64 0, .int .u64 0, .int .u64 0, .int .u64 0, .slice none 0 0, .int .i64 0, .int .i64 0, .string ⟨#[]⟩, .int .i64 0, .int .i64 0]), 11, 112) := by kernel_rfl
/-- A step's eleven cells. -/
def scells (s : Step) : List Value := [.int .i64 s.k, .int .u64 s.u.1, .int .u64 s.u.2.1, .int .u64 s.u.2.2.1, .int .u64 s.u.2.2.2, .slice none 0 0, .int .i64 s.mn, .int .i64 s.mx, .string s.tx, .int .i64 s.level, .int .i64 s.kids]
def rcells (l : List Step) : List Value := l.flatMap scells
theorem rcells_snoc (l : List Step) (s : Step) : rcells (l ++ [s]) = rcells l ++ scells s := by simp [rcells]
theorem cells_new {w : World} {cs : Array Value} {t : TypeId} {b : Nat} (hb : w.heap.size = b) : ∀ j u, cs.toList[j]? = some u → (w.alloc (.cells cs t)).cell? ((⟨b, 0, none⟩ : Addr).add j) = some u := by
  subst hb
  intro j u h
  have e : (⟨w.heap.size, 0, none⟩ : Addr).add j = ⟨w.heap.size, j, none⟩ := by unfold Addr.add; split <;> simp_all
  rw [e, cell_of_row (w.alloc (.cells cs t)) w.heap.size j cs t (0, 0) (World.alloc_heap_new w _)]
  simpa using h
/-- A kid of a tree that lies in memory: where its nine cells lie. -/
theorem T.kid {w : World} {B : Nat} {k u0 u1 u2 u3 : Int} {p : Option Addr} {cap : Nat} {mn mx : Int} {tx : ByteArray} {ks : List T} (h : T.In w B (.mk k u0 u1 u2 u3 p cap mn mx tx ks)) {j : Nat} (hj : j < ks.length) :
    ∃ b o, T.In w B ks[j] ∧ p = some ⟨b, o, none⟩ ∧ b < B ∧ ∀ q, q < 9 → w.cell? ⟨b, o + j * 9 + q, none⟩ = (ks[j].cells)[q]? := by
  cases h with
  | mk hb hm hf h hk =>
    obtain ⟨⟨b, o, sp⟩, rfl, hB, hc⟩ := h j hj
    have hsp : sp = none := by
      obtain ⟨a0, e0, -, hc0⟩ := h 0 (by omega)
      obtain rfl := Option.some.inj e0
      have h0 := hc0 0 (by decide)
      rw [List.getElem?_eq_getElem (by rw [T.cells_length]; decide)] at h0
      simpa [Addr.add] using World.cell?_spot h0
    subst hsp
    refine ⟨b, o, hk _ (List.getElem_mem hj), rfl, hB, fun q hq => ?_⟩
    rw [← hc q hq]
    congr 1
    unfold Addr.add
    split <;> simp_all <;> omega
theorem nine_of {w : World} {b o : Nat} {c0 c1 c2 c3 c4 c5 c6 c7 c8 : Value} (h : ∀ q, q < 9 → w.cell? ⟨b, o + q, none⟩ = [c0, c1, c2, c3, c4, c5, c6, c7, c8][q]?) :
    w.cell? ⟨b, o, none⟩ = some c0 ∧ w.cell? ⟨b, o + 1, none⟩ = some c1 ∧ w.cell? ⟨b, o + 2, none⟩ = some c2 ∧ w.cell? ⟨b, o + 3, none⟩ = some c3 ∧ w.cell? ⟨b, o + 4, none⟩ = some c4 ∧ w.cell? ⟨b, o + 5, none⟩ = some c5 ∧ w.cell? ⟨b, o + 6, none⟩ = some c6 ∧ w.cell? ⟨b, o + 7, none⟩ = some c7 ∧ w.cell? ⟨b, o + 8, none⟩ = some c8 :=
  ⟨h 0 (by decide), h 1 (by decide), h 2 (by decide), h 3 (by decide), h 4 (by decide), h 5 (by decide), h 6 (by decide), h 7 (by decide), h 8 (by decide)⟩
/-- What Walk gives back. -/
def GivesSteps (base : Nat) (w : World) (ls : List Step) (e : Ending) (w' : World) : Prop := ∃ v', e = .returned v' ∧ w'.ownsRow base 69 11 v' ls.length (rcells ls) ∧ Below base w w'
theorem fold_full (d lv : Nat) (ks : List T) (l : List Step) (h : 601 ≤ l.length) : ks.foldl (walk d lv) l = l := by
  induction ks with
  | nil => rfl
  | cons k ks ih =>
    rw [List.foldl_cons]
    have : walk d lv l k = l := by cases d <;> (unfold walk; rw [if_pos h])
    rw [this, ih]
set_option maxRecDepth 10000 in
set_option maxHeartbeats 2000000 in
theorem refWalk_in : ∀ (d : Nat) (t : T) (lv : Nat) (l : List Step) (v : Value) (base : Nat) (w : World), lv + d = 25 → T.In w base t → w.ownsRow base 69 11 v l.length (rcells l) → l.length ≤ 601 → base ≤ w.heap.size →
    Calls Tryd.prog 27 #[.agg t.cells.toArray, .int .i64 lv, v] w (GivesSteps base w (walk d lv l t)) := by
  intro d
  induction d with
  | zero =>
    intro t lv l v base w hd hT hrow hl hbase
    obtain ⟨i0, hi, hz0, hz1, hz2⟩ := info_parts infoS
    cases t with
    | mk k u0 u1 u2 u3 p cap mn mx tx ks =>
      obtain ⟨pv, cv, rfl, -⟩ := row_form hrow
      unfold walk GivesSteps T.cells
      by_cases hfull : 601 ≤ l.length
      · rw [if_pos hfull]
        have hr := Lib.hid hrow
        clear hrow hT
        go_enter Tryd.func27, Tryd.ntmps27
        go_wp2
        go_ret
        exact ⟨_, rfl, hr.out.alloc _, (Below.refl _ _).alloc hbase _⟩
      · rw [if_neg hfull]
        have hr := Lib.hid hrow
        replace hi := Lib.hid hi
        replace hz0 := Lib.hid hz0
        replace hz1 := Lib.hid hz1
        replace hz2 := Lib.hid hz2
        have hks : ks.length ≤ 9223372036854775807 := by cases hT with | mk h1 h2 => unfold maxLen at h2; omega
        have hll : decide ((l.length : Int) ≥ 601) = false := by simp; omega
        have hlv : decide ((24 : Int) < lv) = true := by simp; omega
        clear hrow hfull
        go_enter Tryd.func27, Tryd.ntmps27
        go_wp2_with (at_builtin; refine wpList_append_own _ rfl _ _ 66 rfl base 69 i0 (.agg #[.int .i64 0, .int .u64 0, .int .u64 0, .int .u64 0, .int .u64 0, .slice none 0 0, .int .i64 0, .int .i64 0, .string ⟨#[]⟩, .int .i64 0, .int .i64 0]) 11 112 Tryd.underlying66 hi.out hz0.out hz1.out hz2.out rfl (by decide) _ _ _ rfl ((hr.out.alloc _).alloc _) ⟨_, 0, none⟩ 1 1 [.int .i64 k, .int .u64 u0, .int .u64 u1, .int .u64 u2, .int .u64 u3, .slice none 0 0, .int .i64 mn, .int .i64 mx, .string tx, .int .i64 lv, .int .i64 ks.length] rfl rfl (cells_new (by simp)) (by simp [Value.oneCell']) (by simp [maxLen]; omega) (by omega) (by simp; omega) ?_; intro v' w1 hown' hgrow _; replace hown' := Lib.hid hown'; obtain ⟨pv2, cv2, rfl, -⟩ := row_form hown'.out; replace hgrow := Lib.hid hgrow)
        go_ret
        exact ⟨_, rfl, by rw [List.length_append, rcells_snoc]; exact hown'.out, (((Below.refl base w).alloc hbase _).alloc (by simp; omega) _).grown hgrow.out (by simp; omega) (fun k hk => (hr.out.lt k hk).1)⟩
  | succ d ih =>
    intro t lv l v base w hd hT hrow hl hbase
    obtain ⟨i0, hi, hz0, hz1, hz2⟩ := info_parts infoS
    cases t with
    | mk k u0 u1 u2 u3 p cap mn mx tx ks =>
      obtain ⟨pv, cv, rfl, -⟩ := row_form hrow
      unfold walk GivesSteps T.cells
      by_cases hfull : 601 ≤ l.length
      · rw [if_pos hfull]
        have hr := Lib.hid hrow
        clear hrow hT
        go_enter Tryd.func27, Tryd.ntmps27
        go_wp2
        go_ret
        exact ⟨_, rfl, hr.out.alloc _, (Below.refl _ _).alloc hbase _⟩
      · rw [if_neg hfull]
        have hr := Lib.hid hrow
        replace hi := Lib.hid hi
        replace hz0 := Lib.hid hz0
        replace hz1 := Lib.hid hz1
        replace hz2 := Lib.hid hz2
        have hks : ks.length ≤ 9223372036854775807 := by cases hT with | mk h1 h2 => unfold maxLen at h2; omega
        have hll : decide ((l.length : Int) ≥ 601) = false := by simp; omega
        have hlv : decide ((24 : Int) < lv) = false := by simp; omega
        obtain ⟨L, hL⟩ : ∃ L : Nat → List Step, ∀ j, L j = (ks.take j).foldl (walk d (lv + 1)) (l ++ [T.step lv (T.mk k u0 u1 u2 u3 p cap mn mx tx ks)]) := ⟨_, fun _ => rfl⟩
        have hL0 : L 0 = l ++ [T.step lv (T.mk k u0 u1 u2 u3 p cap mn mx tx ks)] := hL 0
        have hLs : ∀ j (hj : j < ks.length), L (j + 1) = walk d (lv + 1) (L j) ks[j] := fun j hj => by
          rw [hL, hL, List.take_succ_eq_append_getElem hj, List.foldl_append]
          rfl
        have hLe : (T.mk k u0 u1 u2 u3 p cap mn mx tx ks).kids.foldl (walk d (lv + 1)) (l ++ [T.step lv (T.mk k u0 u1 u2 u3 p cap mn mx tx ks)]) = L ks.length := by
          rw [hL, List.take_of_length_le (Nat.le_refl _)]
          rfl
        have hLf : ∀ j, j ≤ ks.length → 601 ≤ (L j).length → L ks.length = L j := fun j hj h => by
          have e : ks = ks.take j ++ ks.drop j := (List.take_append_drop _ _).symm
          have : L ks.length = (ks.drop j).foldl (walk d (lv + 1)) (L j) := by
            rw [hL ks.length, hL j, List.take_of_length_le (Nat.le_refl _), ← List.foldl_append, List.take_append_drop]
          rw [this, fold_full _ _ _ _ h]
        have hLl : ∀ j, j ≤ ks.length → (L j).length ≤ 601 := fun j => by
          induction j with
          | zero => intro _; rw [hL0]; simp; omega
          | succ j ihj => intro hj; rw [hLs j (by omega)]; exact walk_len _ _ _ _ (ihj (by omega))
        rw [hLe]
        replace hLs := Lib.hid hLs
        replace hLf := Lib.hid hLf
        replace hLl := Lib.hid hLl
        have hT' := Lib.hid hT
        have hln1 : (L 0).length = l.length + 1 := by rw [hL0]; simp
        replace hL0 := Lib.hid hL0
        replace hln1 := Lib.hid hln1
        clear hrow hfull hL hLe hT
        go_enter Tryd.func27, Tryd.ntmps27
        go_wp2_with (at_builtin; refine wpList_append_own _ rfl _ _ 66 rfl base 69 i0 (.agg #[.int .i64 0, .int .u64 0, .int .u64 0, .int .u64 0, .int .u64 0, .slice none 0 0, .int .i64 0, .int .i64 0, .string ⟨#[]⟩, .int .i64 0, .int .i64 0]) 11 112 Tryd.underlying66 hi.out hz0.out hz1.out hz2.out rfl (by decide) _ _ _ rfl ((hr.out.alloc _).alloc _) ⟨_, 0, none⟩ 1 1 [.int .i64 k, .int .u64 u0, .int .u64 u1, .int .u64 u2, .int .u64 u3, .slice none 0 0, .int .i64 mn, .int .i64 mx, .string tx, .int .i64 lv, .int .i64 ks.length] rfl rfl (cells_new (by simp)) (by simp [Value.oneCell']) (by simp [maxLen]; omega) (by omega) (by simp; omega) ?_; intro v' w1 hown' hgrow _; replace hown' := Lib.hid hown'; obtain ⟨pv2, cv2, rfl, -⟩ := row_form hown'.out; replace hgrow := Lib.hid hgrow; have hbk : w1.heap[w.heap.size]? = some (.cells #[.int .i64 k, .int .u64 u0, .int .u64 u1, .int .u64 u2, .int .u64 u3, .slice p ks.length cap, .int .i64 mn, .int .i64 mx, .string tx] 35 (0, 0)) := (hgrow.out.block _ (by simp; omega) (fun e => absurd (hr.out.lt _ e.symm).2 (by omega))).trans ((Below.heap_alloc _ _ _ (by simp)).trans (World.alloc_heap_new w _)); have hbx : w1.cell? ⟨w.heap.size, 5, none⟩ = some (.slice p ks.length cap) := (by rw [cell_of_row _ _ _ _ _ (0, 0) hbk]; rfl); clear hbk)
        have hr2 : Hid (w1.ownsRow base 69 11 (.slice pv2 (L 0).length cv2) (L 0).length (rcells (L 0))) := Lib.hid (by rw [hln1.out, hL0.out, rcells_snoc]; exact hown'.out)
        have hB := Lib.hid ((((Below.refl base w).alloc hbase _).alloc (by simp; omega) _).grown hgrow.out (by simp; omega) (fun k hk => (hr.out.lt k hk).1))
        go_loopw [2, 38] (fun v2 i wr => ∃ (j : Nat) (pv3 : Option Addr) (cv3 : Nat), j ≤ ks.length ∧ i = .int .i64 j ∧ v2 = .slice pv3 (L j).length cv3 ∧ Hid (wr.ownsRow base 69 11 (.slice pv3 (L j).length cv3) (L j).length (rcells (L j))) ∧ Hid (Below base w wr)) (fun _ i _ => ks.length - (intOf i).toNat)
        case atStart => exact ⟨0, pv2, cv2, Nat.zero_le _, rfl, by rw [hln1.out], hr2, hB⟩
        case round =>
          clear hr2 hB hown' hgrow hr
          obtain ⟨j, pv3, cv3, hj, rfl, rfl, hr, hB⟩ := hrel
          by_cases hlt : j < ks.length
          · obtain ⟨b, o, hkid, hp, hb, hc⟩ := T.kid hT'.out hlt
            have hLs2 := hLs.out j hlt
            have hLl2 := hLl.out j hj
            have hbs : base ≤ wr.heap.size := Nat.le_trans hbase hB.out.size
            have hkid2 := Lib.hid (hkid.keep hB.out)
            have hcl : ∀ q, q < 9 → wr.cell? ⟨b, o + j * 9 + q, none⟩ = (ks[j].cells)[q]? := fun q hq => by
              rw [← hc q hq]
              exact hB.out.cell (p := ⟨b, o + j * 9 + q, none⟩) hb
            have hfl := hLf.out j hj
            clear hkid hc
            generalize ks[j] = kd at *
            cases kd with
            | mk k' u0' u1' u2' u3' p' cap' mn' mx' tx' ks' =>
              simp only [T.cells] at hcl
              obtain ⟨c0, c1, c2, c3, c4, c5, c6, c7, c8⟩ := nine_of hcl
              subst hp
              clear hcl
              by_cases hfull : 601 ≤ (L j).length
              · have e := Lib.hid (hfl hfull)
                have hf9 : decide (((L j).length : Int) ≥ 601) = true := by simp; omega
                clear hfl hLs2 hkid2
                go_wp2
                go_ret
                exact ⟨_, rfl, by rw [e.out]; exact hr.out.alloc _, hB.out.alloc hbs _⟩
              · have hf9 : decide (((L j).length : Int) ≥ 601) = false := by simp; omega
                have cW : Calls Tryd.prog 27 #[.agg #[.int .i64 k', .int .u64 u0', .int .u64 u1', .int .u64 u2', .int .u64 u3', .slice p' ks'.length cap', .int .i64 mn', .int .i64 mx', .string tx'], .int .i64 ((lv : Int) + 1), .slice pv3 (L j).length cv3] (wr.alloc (.cells #[.int .i64 k', .int .u64 u0', .int .u64 u1', .int .u64 u2', .int .u64 u3', .slice p' ks'.length cap', .int .i64 mn', .int .i64 mx', .string tx'] 35)) (GivesSteps base (wr.alloc (.cells #[.int .i64 k', .int .u64 u0', .int .u64 u1', .int .u64 u2', .int .u64 u3', .slice p' ks'.length cap', .int .i64 mn', .int .i64 mx', .string tx'] 35)) (L (j + 1))) := by
                  have h9 := ih (T.mk k' u0' u1' u2' u3' p' cap' mn' mx' tx' ks') (lv + 1) (L j) (.slice pv3 (L j).length cv3) base (wr.alloc (.cells #[.int .i64 k', .int .u64 u0', .int .u64 u1', .int .u64 u2', .int .u64 u3', .slice p' ks'.length cap', .int .i64 mn', .int .i64 mx', .string tx'] 35)) (by omega) (hkid2.out.keep ((Below.refl base wr).alloc hbs _)) (hr.out.alloc _) hLl2 (by simp; have := hbs; omega)
                  rw [← hLs2, show ((lv + 1 : Nat) : Int) = (lv : Int) + 1 by omega] at h9
                  exact h9
                replace cW := Lib.hid cW
                clear hfl hLs2 hkid2
                go_wp2_with (go_at_call 27; (with_reducible refine cW.out.mono ?_); rintro e w2 ⟨v4, rfl, hr4, hb4⟩; obtain ⟨pv4, cv4, rfl, -⟩ := row_form hr4; replace hr4 := Lib.hid hr4; replace hb4 := Lib.hid hb4)
                go_roundw
                case rel => exact ⟨j + 1, pv4, cv4, by omega, by go_num, rfl, hr4, Lib.hid ((hB.out.alloc hbs _).trans hb4.out)⟩
                case measure => simp [intOf]; omega
          · obtain rfl : j = ks.length := by omega
            go_wp2
            go_ret
            exact ⟨_, rfl, hr.out, hB.out⟩
end Go.Proofs.YtjlmeegaiagfpaaDoor.S7

namespace Go.Proofs.YtjlmeegaiagfpaaDoor.S7
open Go.RowKit
open S5 (nl nl_length nl_small at_nl nl_at)
def NameChar (x : Nat) : Prop := (97 ≤ x ∧ x ≤ 122) ∨ (48 ≤ x ∧ x ≤ 57)
/-- A name is right. -/
def NameOk (l : List Nat) : Prop := 1 ≤ l.length ∧ l.length ≤ 12 ∧ (∀ c, l[0]? = some c → 97 ≤ c ∧ c ≤ 122) ∧ ∀ (j x : Nat), l[j]? = some x → NameChar x
set_option maxRecDepth 10000 in
set_option maxHeartbeats 2000000 in
theorem risName_in {s : ByteArray} (hs : s.size ≤ 9223372036854775807) {r : Bool} (hr : r = true ↔ NameOk (nl s)) (w : World) :
    Calls Tryd.prog 48 #[.string s] w fun e w' => e = .returned (.bool r) ∧ w = w' := by
  have hn := nl_length s
  have no : ¬ NameOk (nl s) → r = false := fun h => by cases r; rfl; exact absurd (hr.1 rfl) h
  by_cases h0 : s.size < 1
  · have hno := Lib.hid (no fun h => by have := h.1; omega)
    clear hr no hn
    go_enter Tryd.func48, Tryd.ntmps48
    go_wp2
    go_ret
    exact ⟨ret_bool hno.out.symm, rfl⟩
  by_cases h1 : 12 < s.size
  · have hno := Lib.hid (no fun h => by have := h.2.1; omega)
    clear hr no hn
    go_enter Tryd.func48, Tryd.ntmps48
    go_wp2
    go_ret
    exact ⟨ret_bool hno.out.symm, rfl⟩
  have hk0 : 0 < s.size := by omega
  have hat0 := nl_at s 0 hk0
  obtain ⟨c, hc⟩ : ∃ c, (s[0]).toNat = c := ⟨_, rfl⟩
  rw [hc] at hat0
  by_cases h2 : c < 97
  · have hno := Lib.hid (no fun h => by have := h.2.2.1 c hat0; omega)
    have d1 : decide ((c : Int) < 97) = true := by simp; omega
    clear hr no hn hat0
    go_enter Tryd.func48, Tryd.ntmps48
    go_wp2
    go_ret
    exact ⟨ret_bool hno.out.symm, rfl⟩
  by_cases h3 : 122 < c
  · have hno := Lib.hid (no fun h => by have := h.2.2.1 c hat0; omega)
    have d1 : decide ((c : Int) < 97) = false := by simp; omega
    have d2 : decide ((122 : Int) < c) = true := by simp; omega
    clear hr no hn hat0
    go_enter Tryd.func48, Tryd.ntmps48
    go_wp2
    go_ret
    exact ⟨ret_bool hno.out.symm, rfl⟩
  have e1 : decide ((c : Int) < 97) = false := by simp; omega
  have e2 : decide ((122 : Int) < c) = false := by simp; omega
  have yes : (∀ j, j < s.size → ∀ x : Nat, (nl s)[j]? = some x → NameChar x) → r = true := fun h => hr.2 ⟨by omega, by omega, fun c' h' => by rw [hat0] at h'; cases h'; omega, fun j x hx => h j (by rw [← hn]; exact (List.getElem?_eq_some_iff.1 hx).1) x hx⟩
  have no2 : ∀ (k x : Nat), (nl s)[k]? = some x → ¬ NameChar x → r = false := fun k x hx hc => no fun h => hc (h.2.2.2 k x hx)
  replace yes := Lib.hid yes
  replace no2 := Lib.hid no2
  have hat := Lib.hid (fun k (hk : k < s.size) => nl_at s k hk)
  clear hr no hn hat0
  go_enter Tryd.func48, Tryd.ntmps48
  go_wp2
  go_loop [3] (fun i => ∃ k : Nat, k ≤ s.size ∧ i = .int .i64 k ∧ Hid (∀ j, j < k → ∀ x : Nat, (nl s)[j]? = some x → NameChar x)) (fun i => s.size - (intOf i).toNat)
  case atStart => exact ⟨0, Nat.zero_le _, rfl, Lib.hid fun j hj => by omega⟩
  case round =>
    clear e1 e2
    obtain ⟨k, hk, rfl, hok⟩ := hrel
    by_cases hlt : k < s.size
    · have hx0 := hat.out k hlt
      obtain ⟨x, hx⟩ : ∃ x, (s[k]).toNat = x := ⟨_, rfl⟩
      rw [hx] at hx0
      by_cases hch : NameChar x
      · have hok2 : Hid (∀ j, j < k + 1 → ∀ x : Nat, (nl s)[j]? = some x → NameChar x) := Lib.hid fun j hj y hy => by
          by_cases e : j = k
          · subst e; rw [hx0] at hy; cases hy; exact hch
          · exact hok.out j (by omega) y hy
        clear hx0 hok
        rcases hch with ⟨q1, q2⟩ | ⟨q1, q2⟩
        · have d1 : decide ((x : Int) < 97) = false := by simp; omega
          have d2 : decide ((122 : Int) < x) = false := by simp; omega
          go_wp2
          go_round
          case rel => exact ⟨k + 1, by omega, by go_num, hok2⟩
          case measure => simp [intOf]; omega
        · have d1 : decide ((x : Int) < 97) = true := by simp; omega
          have d2 : decide ((x : Int) < 48) = false := by simp; omega
          have d3 : decide ((57 : Int) < x) = false := by simp; omega
          go_wp2
          go_round
          case rel => exact ⟨k + 1, by omega, by go_num, hok2⟩
          case measure => simp [intOf]; omega
      · have hno := Lib.hid (no2.out k x hx0 hch)
        unfold NameChar at hch
        clear hx0 hok
        by_cases q1 : 122 < x
        · have d1 : decide ((x : Int) < 97) = false := by simp; omega
          have d2 : decide ((122 : Int) < x) = true := by simp; omega
          have d3 : decide ((x : Int) < 48) = false := by simp; omega
          have d4 : decide ((57 : Int) < x) = true := by simp; omega
          clear hch
          go_wp2
          go_ret
          exact ⟨ret_bool hno.out.symm, rfl⟩
        · have d1 : decide ((x : Int) < 97) = true := by simp; omega
          by_cases q2 : x < 48
          · have d2 : decide ((x : Int) < 48) = true := by simp; omega
            clear hch
            go_wp2
            go_ret
            exact ⟨ret_bool hno.out.symm, rfl⟩
          · have d2 : decide ((x : Int) < 48) = false := by simp; omega
            have d3 : decide ((57 : Int) < x) = true := by simp; omega
            clear hch
            go_wp2
            go_ret
            exact ⟨ret_bool hno.out.symm, rfl⟩
    · have hyes := Lib.hid (yes.out fun j hj => hok.out j (by omega))
      clear hok
      go_wp2
      go_ret
      exact ⟨ret_bool hyes.out.symm, rfl⟩
end Go.Proofs.YtjlmeegaiagfpaaDoor.S7
