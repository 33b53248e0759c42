/- The law's values in memory; bad, long. -/
import Derived.Test.YtdhejbmmdbjpoaaDoorW11
namespace Go.Proofs.YtdhejbmmdbjpoaaDoor
open Go.RowKit
structure Va where
  kind : Int
  num : Int
  ba : Option Addr
  bc : Nat
  bl : List Nat
  ra : Option Addr
  rc : Nat
  rl : List Int
def Va.cells (v : Va) : Array Value := #[.int .i64 v.kind, .int .i64 v.num, .slice v.ba v.bl.length v.bc, .slice v.ra v.rl.length v.rc]
structure VaIn (w : World) (v : Va) : Prop where
  bytes : Src w v.ba v.bl.length v.bc v.bl
  row : Ints w v.ra v.rl
  lo : -9223372036854775808 ≤ v.num
  hi : v.num ≤ 9223372036854775807
theorem VaIn.bel {w w' : World} {v : Va} (h : VaIn w v) (hb : Bel w w') : VaIn w' v := ⟨h.bytes.bel hb, h.row.bel hb, h.lo, h.hi⟩
/-- Values that lie in memory. -/
def Vals (w : World) (a : Option Addr) (l : List Va) : Prop := ∀ k v, l[k]? = some v → ∃ b o, a = some ⟨b, o, none⟩ ∧ b < w.heap.size ∧
  w.cell? ⟨b, o + k * 4, none⟩ = some (.int .i64 v.kind) ∧ w.cell? ⟨b, o + k * 4 + 1, none⟩ = some (.int .i64 v.num) ∧ w.cell? ⟨b, o + k * 4 + 2, none⟩ = some (.slice v.ba v.bl.length v.bc) ∧ w.cell? ⟨b, o + k * 4 + 3, none⟩ = some (.slice v.ra v.rl.length v.rc) ∧ VaIn w v
theorem Vals.bel {w w' : World} {a : Option Addr} {l : List Va} (h : Vals w a l) (hb : Bel w w') : Vals w' a l := fun k v hv => by
  obtain ⟨b, o, e, hl, h0, h1, h2, h3, hi⟩ := h k v hv
  exact ⟨b, o, e, Nat.lt_of_lt_of_le hl hb.size, hb.cell (p := ⟨b, _, none⟩) hl h0, hb.cell (p := ⟨b, _, none⟩) hl h1, hb.cell (p := ⟨b, _, none⟩) hl h2, hb.cell (p := ⟨b, _, none⟩) hl h3, hi.bel hb⟩
def badV (v : Va) : Bool := if v.kind = 0 then badN v.num else if 1 ≤ v.kind ∧ v.kind ≤ 3 then false else v.rl.any badR
set_option maxHeartbeats 1000000 in
set_option maxRecDepth 10000 in
theorem bad_in {w : World} {v : Va} (h : VaIn w v) (hn : v.rl.length ≤ 9223372036854775807) : Calls Tryd.prog 7 #[.agg v.cells] w fun e w' => e = .returned (.bool (badV v)) ∧ Bel w w' := by
  obtain ⟨kind, num, ba, bc, bl, ra, rc, rl⟩ := v
  have hrow := h.row
  unfold Va.cells badV
  dsimp only at hrow hn ⊢
  have hb0 := Lib.hid (Bel.new w (.cells #[.int .i64 kind, .int .i64 num, .slice ba bl.length bc, .slice ra rl.length rc] 33))
  by_cases h0 : kind = 0
  · subst h0
    rw [if_pos rfl]
    unfold badN
    clear hrow h
    by_cases h1 : num < 0
    · have e1 : (decide (num < 0) || decide (2147483647 < num)) = true := by simp [h1]
      rw [e1]
      clear e1
      go_enter Tryd.func7, Tryd.ntmps7
      go_wp2
      go_ret
      exact ⟨rfl, hb0.out⟩
    · have e1 : decide (num < 0) = false := by simp; omega
      rw [e1, Bool.false_or]
      clear e1
      go_enter Tryd.func7, Tryd.ntmps7
      go_wp2
      go_ret
      exact ⟨rfl, hb0.out⟩
  · rw [if_neg h0]
    have k0 : (kind == (0 : Int)) = false := by simp [h0]
    by_cases h1 : 1 ≤ kind ∧ kind ≤ 3
    · rw [if_pos h1]
      obtain ⟨h1, h3⟩ := h1
      clear hrow h
      go_enter Tryd.func7, Tryd.ntmps7
      go_wp2
      go_ret
      exact ⟨rfl, hb0.out⟩
    · rw [if_neg h1]
      have hc : ∀ k x, rl[k]? = some x → ∃ bb o, ra = some ⟨bb, o, none⟩ ∧ (w.alloc (.cells #[.int .i64 kind, .int .i64 num, .slice ba bl.length bc, .slice ra rl.length rc] 33)).cell? ⟨bb, o + k, none⟩ = some (.int .i64 x) := by
        intro k x hx
        obtain ⟨hk, rfl⟩ := List.getElem?_eq_some_iff.1 hx
        obtain ⟨bb, o, e, _, q, _⟩ := hrow.bel hb0.out k hk
        exact ⟨bb, o, e, q⟩
      have hn0 : ∀ k, k < rl.length → ∃ x, rl[k]? = some x := fun k hk => ⟨rl[k], List.getElem?_eq_getElem hk⟩
      have hT : ∀ k x, rl[k]? = some x → (rl.take k).any badR = false → badR x = false → (rl.take (k + 1)).any badR = false := by
        intro k x hx h1 h2
        obtain ⟨hk, rfl⟩ := List.getElem?_eq_some_iff.1 hx
        rw [List.take_succ_eq_append_getElem hk, List.any_append, h1]
        simp only [List.any_cons, List.any_nil, h2]; rfl
      have hB : ∀ k x, rl[k]? = some x → badR x = true → rl.any badR = true := fun k x hx h => List.any_eq_true.2 ⟨x, List.mem_of_getElem? hx, h⟩
      have hE : (rl.take rl.length).any badR = false → rl.any badR = false := fun h => by rwa [List.take_length] at h
      generalize rl.any badR = r at *
      generalize rl.length = n at *
      replace hc := Lib.hid hc
      replace hn0 := Lib.hid hn0
      replace hT := Lib.hid hT
      replace hB := Lib.hid hB
      replace hE := Lib.hid hE
      have hkk : (decide ((1 : Int) ≤ kind) = false) ∨ (1 ≤ kind ∧ ¬ kind ≤ 3) := by
        by_cases h : 1 ≤ kind
        · exact .inr ⟨h, fun h3 => h1 ⟨h, h3⟩⟩
        · exact .inl (by simp [h])
      clear h1 hrow h
      have key : ∀ (_ : Hid True), (decide ((1 : Int) ≤ kind) = false) ∨ (1 ≤ kind ∧ ¬ kind ≤ 3) := fun _ => hkk
      clear key
      rcases hkk with hk1 | ⟨hk1, hk3⟩
      · go_enter Tryd.func7, Tryd.ntmps7
        go_wp2
        go_loop [27] (fun s27 => ∃ k : Nat, k ≤ n ∧ s27 = .int .i64 k ∧ Hid ((rl.take k).any badR = false)) (fun s27 => n - (intOf s27).toNat)
        case atStart => exact ⟨0, by omega, rfl, Lib.hid (by simp)⟩
        case round =>
          obtain ⟨k, hk, rfl, hP⟩ := hrel
          by_cases hlt : k < n
          · obtain ⟨x, hxk⟩ := hn0.out k hlt
            obtain ⟨bb, o, rfl, hcell⟩ := hc.out k x hxk
            by_cases hx1 : x < -1
            · have hbx : badR x = true := by unfold badR; simp [hx1]
              have hr := Lib.hid (hB.out k x hxk hbx)
              replace hxk := Lib.hid hxk
              clear hbx
              go_wp2
              go_ret
              exact ⟨by rw [hr.out]; rfl, hb0.out⟩
            · by_cases hx2 : 2147483646 < x
              · have hbx : badR x = true := by unfold badR; simp [hx2]
                have hr := Lib.hid (hB.out k x hxk hbx)
                replace hxk := Lib.hid hxk
                clear hbx
                go_wp2
                go_ret
                exact ⟨by rw [hr.out]; rfl, hb0.out⟩
              · have hbx : badR x = false := by unfold badR; simp; omega
                have hr := Lib.hid (hT.out k x hxk hP.out hbx)
                replace hxk := Lib.hid hxk
                clear hbx
                go_wp2
                go_round
                case rel => exact ⟨k + 1, by omega, by go_num, hr⟩
                case measure => simp [intOf]; omega
          · obtain rfl : k = n := by omega
            have hr := Lib.hid (hE.out hP.out)
            go_wp2
            go_ret
            exact ⟨by rw [hr.out]; rfl, hb0.out⟩
      · go_enter Tryd.func7, Tryd.ntmps7
        go_wp2
        go_loop [27] (fun s27 => ∃ k : Nat, k ≤ n ∧ s27 = .int .i64 k ∧ Hid ((rl.take k).any badR = false)) (fun s27 => n - (intOf s27).toNat)
        case atStart => exact ⟨0, by omega, rfl, Lib.hid (by simp)⟩
        case round =>
          obtain ⟨k, hk, rfl, hP⟩ := hrel
          by_cases hlt : k < n
          · obtain ⟨x, hxk⟩ := hn0.out k hlt
            obtain ⟨bb, o, rfl, hcell⟩ := hc.out k x hxk
            by_cases hx1 : x < -1
            · have hbx : badR x = true := by unfold badR; simp [hx1]
              have hr := Lib.hid (hB.out k x hxk hbx)
              replace hxk := Lib.hid hxk
              clear hbx
              go_wp2
              go_ret
              exact ⟨by rw [hr.out]; rfl, hb0.out⟩
            · by_cases hx2 : 2147483646 < x
              · have hbx : badR x = true := by unfold badR; simp [hx2]
                have hr := Lib.hid (hB.out k x hxk hbx)
                replace hxk := Lib.hid hxk
                clear hbx
                go_wp2
                go_ret
                exact ⟨by rw [hr.out]; rfl, hb0.out⟩
              · have hbx : badR x = false := by unfold badR; simp; omega
                have hr := Lib.hid (hT.out k x hxk hP.out hbx)
                replace hxk := Lib.hid hxk
                clear hbx
                go_wp2
                go_round
                case rel => exact ⟨k + 1, by omega, by go_num, hr⟩
                case measure => simp [intOf]; omega
          · obtain rfl : k = n := by omega
            have hr := Lib.hid (hE.out hP.out)
            go_wp2
            go_ret
            exact ⟨by rw [hr.out]; rfl, hb0.out⟩

def longV (l : List Va) : Bool := decide (40 < l.length) || l.any fun v => decide (300 < v.bl.length) || decide (60 < v.rl.length)
set_option maxHeartbeats 1000000 in
set_option maxRecDepth 10000 in
theorem long_in {w : World} {a : Option Addr} {c : Nat} {l : List Va} (h : Vals w a l) (hl : l.length ≤ 9223372036854775807) :
    Calls Tryd.prog 6 #[.slice a l.length c] w fun e w' => e = .returned (.bool (longV l)) ∧ Bel w w' := by
  by_cases h40 : 40 < l.length
  · have e1 : longV l = true := by unfold longV; simp [h40]
    have h1 : 40 < (l.length : Int) := by omega
    rw [e1]
    clear e1 h
    go_enter Tryd.func6, Tryd.ntmps6
    go_wp2
    go_ret
    exact ⟨rfl, Bel.refl w⟩
  · have e1 : longV l = l.any fun v => decide (300 < v.bl.length) || decide (60 < v.rl.length) := by unfold longV; simp [h40]
    have h1 : ¬ 40 < (l.length : Int) := by omega
    rw [e1]
    generalize hf : (fun v : Va => decide (300 < v.bl.length) || decide (60 < v.rl.length)) = f at *
    have hfv : ∀ v, f v = (decide (300 < v.bl.length) || decide (60 < v.rl.length)) := fun v => by rw [← hf]
    have hn0 : ∀ k, k < l.length → ∃ x, l[k]? = some x := fun k hk => ⟨l[k], List.getElem?_eq_getElem hk⟩
    have hT : ∀ k x, l[k]? = some x → (l.take k).any f = false → f x = false → (l.take (k + 1)).any f = false := by
      intro k x hx h1 h2
      obtain ⟨hk, rfl⟩ := List.getElem?_eq_some_iff.1 hx
      rw [List.take_succ_eq_append_getElem hk, List.any_append, h1]
      simp only [List.any_cons, List.any_nil, h2]; rfl
    have hB : ∀ k x, l[k]? = some x → f x = true → l.any f = true := fun k x hx h => List.any_eq_true.2 ⟨x, List.mem_of_getElem? hx, h⟩
    have hE : (l.take l.length).any f = false → l.any f = false := fun h => by rwa [List.take_length] at h
    have hC : ∀ wr k v, l[k]? = some v → Bel w wr → ∃ b o, a = some ⟨b, o, none⟩ ∧ wr.cell? ⟨b, o + k * 4, none⟩ = some (.int .i64 v.kind) ∧ wr.cell? ⟨b, o + k * 4 + 1, none⟩ = some (.int .i64 v.num) ∧ wr.cell? ⟨b, o + k * 4 + 2, none⟩ = some (.slice v.ba v.bl.length v.bc) ∧ wr.cell? ⟨b, o + k * 4 + 3, none⟩ = some (.slice v.ra v.rl.length v.rc) ∧ b < wr.heap.size := by
      intro wr k v hv hb
      obtain ⟨b, o, e, hl, h0, h1, h2, h3, _⟩ := h.bel hb k v hv
      exact ⟨b, o, e, h0, h1, h2, h3, hl⟩
    generalize l.any f = r at *
    clear h e1 hf h40
    generalize l.length = n at *
    replace hn0 := Lib.hid hn0
    replace hT := Lib.hid hT
    replace hB := Lib.hid hB
    replace hE := Lib.hid hE
    replace hC := Lib.hid hC
    replace hfv := Lib.hid hfv
    have hst : Hid (Bel w w) := Lib.hid (Bel.refl w)
    go_enter Tryd.func6, Tryd.ntmps6
    go_wp2
    go_loopw [10] (fun s10 wr => ∃ k : Nat, k ≤ n ∧ s10 = .int .i64 k ∧ Hid ((l.take k).any f = false) ∧ Hid (Bel w wr)) (fun s10 _ => n - (intOf s10).toNat)
    case atStart => exact ⟨0, by omega, rfl, Lib.hid (by simp), hst⟩
    case round =>
      clear hst
      obtain ⟨k, hk, rfl, hP, hb⟩ := hrel
      by_cases hlt : k < n
      · obtain ⟨v, hvk⟩ := hn0.out k hlt
        obtain ⟨bb, o, rfl, c0, c1, c2, c3, hbb⟩ := hC.out wr k v hvk hb.out
        obtain ⟨kind, num, ba, bc, bl, ra, rc, rl⟩ := v
        dsimp only at c0 c1 c2 c3
        have hfx := hfv.out ⟨kind, num, ba, bc, bl, ra, rc, rl⟩
        dsimp only at hfx
        by_cases hx1 : 300 < bl.length
        · have hx1' : 300 < (bl.length : Int) := by omega
          have hr := Lib.hid (hB.out k _ hvk (by rw [hfx]; simp [hx1]))
          replace hvk := Lib.hid hvk
          clear hfx
          go_wp2
          go_ret
          exact ⟨by rw [hr.out]; rfl, hb.out.alloc _⟩
        · have hx1' : ¬ 300 < (bl.length : Int) := by omega
          by_cases hx2 : 60 < rl.length
          · have hx2' : 60 < (rl.length : Int) := by omega
            have hr := Lib.hid (hB.out k _ hvk (by rw [hfx]; simp [hx2]))
            replace hvk := Lib.hid hvk
            clear hfx
            go_wp2
            go_ret
            exact ⟨by rw [hr.out]; rfl, hb.out.alloc _⟩
          · have hx2' : ¬ 60 < (rl.length : Int) := by omega
            have hr := Lib.hid (hT.out k _ hvk hP.out (by rw [hfx]; simp [hx1, hx2]))
            replace hvk := Lib.hid hvk
            clear hfx
            go_wp2
            go_roundw
            case rel => exact ⟨k + 1, by omega, by go_num, hr, Lib.hid (hb.out.alloc _)⟩
            case measure => simp [intOf]; omega
      · obtain rfl : k = n := by omega
        have hr := Lib.hid (hE.out hP.out)
        go_wp2
        go_ret
        exact ⟨by rw [hr.out]; rfl, hb.out⟩
end Go.Proofs.YtdhejbmmdbjpoaaDoor
