/- Texts of earlier layers, merged: LL, W38, W39, W40, W41, W42. -/
import Derived.Deep.RegionHeld
import Derived.Test.YtjlmeegaiagfpaaDoorWA
import Derived.Test.YtjlmeegaiagfpaaDoorW37s
import Derived.Test.YtjlmeegaiagfpaaDoorS7A
import Derived.Test.YtjlmeegaiagfpaaDoorS6D
import Derived.Test.YtjlmeegaiagfpaaDoorWB
namespace Go.Last
open Go
section
variable {P : Program} {ops : Array Oper} {Q : Exit → Act → World → Prop} {md : Region.Mode} {S : World → Prop} {z : Nat}
/-- The condition, but behind operation z. -/
def Till (S : World → Prop) (z i : Nat) (w : World) : Prop := i = z ∨ S w
theorem Till.of {z i : Nat} {w : World} (h : S w) : Till S z i w := .inr h
theorem Till.last {z : Nat} {w : World} : Till S z z w := .inl rfl
/-- Whatever comes next, with so many left. -/
def Any (P : Program) (md : Region.Mode) (ops : Array Oper) (Q : Exit → Act → World → Prop) (S : World → Prop) (z : Nat) : Nat → Array Bool → Act → World → Prop
  | 0, l, a, w => Region.ready md ops l = [] ∧ Q .normal a w
  | n + 1, l, a, w => (Region.ready md ops l = [] → Q .normal a w) ∧ ∀ i ∈ Region.ready md ops l, wpOp P ops Q i (fun a' w' => Till S z i w' ∧ Any P md ops Q S z n (l.setIfInBounds i true) a' w') a w
theorem Any.plain : ∀ (n : Nat) (l : Array Bool) (a : Act) (w : World), Any P md ops Q S z n l a w → wpAny P md ops Q n l a w := by
  intro n
  induction n with
  | zero => exact fun _ _ _ h => h
  | succ n ih => exact fun l a w h => ⟨h.1, fun i hi => wpOp_mono (fun a' w' h' => ih _ a' w' h'.2) (h.2 i hi)⟩
/-- Does z wait for i? -/
def waits (md : Region.Mode) (ops : Array Oper) (z i : Nat) : Bool := match ops[z]? with
  | some o => o.after.any fun e => Region.binds md e && e.on == i
  | none => false
theorem waits_not {i : Nat} {l : Array Bool} (h : waits md ops z i = true) (hi : i ∈ Region.ready md ops l) : z ∉ Region.ready md ops l := fun hz => by
  obtain ⟨-, o, ho, hb⟩ := mem_ready.1 hz
  have hun := (mem_ready.1 hi).1
  unfold waits at h
  rw [ho] at h
  obtain ⟨q, hq, hx⟩ := Array.any_eq_true.1 h
  rw [Bool.and_eq_true, beq_iff_eq] at hx
  have hd := hb _ (Array.getElem_mem hq) hx.1
  rw [hx.2] at hd
  by_cases hs : i < l.size
  · simp only [Array.getD_eq_getD_getElem?, Array.getElem?_eq_getElem hs, Option.getD_some] at hun hd
    rw [hun] at hd
    cases hd
  · rw [Array.getD_eq_getD_getElem?, Array.getElem?_eq_none (Nat.le_of_not_lt hs)] at hd hun
    simp at hd hun
theorem first {i : Nat} {oi : Oper} {v : Value} (hi : ops[i]? = some oi) (hno : ∀ (j : Nat) (o : Oper) cs b, ops[j]? = some o → o.op ≠ .select cs b) (hQ : ∀ c a w, Q (.panic c) (a.put oi.dst v) w → Q (.panic c) a w) (hz : waits md ops z i = true) :
    ∀ (n : Nat) (l : Array Bool) (a : Act) (w : World), (∀ j oj, ops[j]? = some oj → j ≠ i → l.getD j true = false → (∀ e ∈ oj.after, Region.binds md e = true → e.on ≠ i) → oi.apart ops oj = true) →
      i ∈ Region.ready md ops l → YieldsIf P ops S oi v a → S w → Any P md ops Q S z n (l.setIfInBounds i true) (a.put oi.dst v) w → Any P md ops Q S z (n + 1) l a w := by
  intro n
  induction n with
  | zero =>
    rintro l a w - hr hy hS hA
    constructor
    · intro e
      rw [e] at hr
      exact absurd hr (List.not_mem_nil)
    · intro j hj
      by_cases e : j = i
      · exact e ▸ hy.wpOp hi hS ⟨.inr hS, hA⟩
      · exact absurd (ready_mono hj e) (by rw [hA.1]; exact List.not_mem_nil)
  | succ n ih =>
    intro l a w hap hr hy hS hA
    constructor
    · intro e
      rw [e] at hr
      exact absurd hr (List.not_mem_nil)
    · intro j hj
      by_cases e : j = i
      · exact e ▸ hy.wpOp hi hS ⟨.inr hS, hA⟩
      · obtain ⟨hju, oj, hoj, hbind⟩ := mem_ready.1 hj
        have hun := (mem_ready.1 hr).1
        have hnb : ∀ e ∈ oj.after, Region.binds md e = true → e.on ≠ i := by
          intro x hx hb hxi
          have hz := hbind x hx hb
          rw [hxi] at hz
          by_cases hs : i < l.size
          · simp only [Array.getD_eq_getD_getElem?, Array.getElem?_eq_getElem hs, Option.getD_some] at hun hz
            rw [hun] at hz
            cases hz
          · rw [Array.getD_eq_getD_getElem?, Array.getElem?_eq_none (Nat.le_of_not_lt hs)] at hz hun
            simp at hz hun
        refine wpOp_mono (fun a' w' h3 => ?_) (wpOp_putIf hoj (hap j oj hoj e hju hnb) (fun cs b => hno i oi cs b hi) (fun cs b => hno j oj cs b hoj) hQ hy (hA.2 j (ready_mono hj e)))
        have hS' : S w' := h3.2.1.resolve_left fun e' => waits_not hz hr (e' ▸ hj)
        refine ⟨.inr hS', ih _ a' w' (fun k ok hk hki hu hb => ?_) (ready_mono hr (fun e' => e e'.symm)) h3.1 hS' (by rw [Array.setIfInBounds_comm _ _ e]; exact h3.2.2)⟩
        refine hap k ok hk hki ?_ hb
        by_cases hjk : j = k
        · exact hjk ▸ hju
        · rw [getD_set_ne true hjk] at hu
          exact hu
theorem take {i : Nat} {oi : Oper} {v : Value} {n : Nat} {l : Array Bool} {a : Act} {w : World} (hi : ops[i]? = some oi) (hs : Region.noSelect ops = true) (hf : Region.free md ops l i = true) (hr : (Region.ready md ops l).contains i = true)
    (hQ : ∀ c a w, Q (.panic c) (a.put oi.dst v) w → Q (.panic c) a w) (hz : waits md ops z i = true) (hy : YieldsIf P ops S oi v a) (hS : S w) (h : Any P md ops Q S z n (l.setIfInBounds i true) (a.put oi.dst v) w) : Any P md ops Q S z (n + 1) l a w :=
  first hi (Region.noSelect_spec hs) hQ hz n l a w (Region.free_spec hi hf) (by simpa using hr) hy hS h
/-- Each of these may come next. -/
def Next (P : Program) (md : Region.Mode) (ops : Array Oper) (Q : Exit → Act → World → Prop) (S : World → Prop) (z n : Nat) (l : Array Bool) (a : Act) (w : World) (rs : List Nat) : Prop :=
  ∀ i ∈ rs, wpOp P ops Q i (fun a' w' => Till S z i w' ∧ Any P md ops Q S z n (l.setIfInBounds i true) a' w') a w
theorem Next.nil {n : Nat} {l : Array Bool} {a : Act} {w : World} : Next P md ops Q S z n l a w [] := fun _ h => absurd h List.not_mem_nil
theorem Next.cons {n : Nat} {l : Array Bool} {a : Act} {w : World} {i : Nat} {o : Oper} {rs : List Nat} (ho : ops[i]? = some o)
    (h : ∀ K : Act → World → Prop, Shut (∀ a w, Till S z i w → (Till S z i w → Any P md ops Q S z n (l.setIfInBounds i true) a w) → K a w) → if Region.wanted o (yielded ops a.tmps) = true then Oper.wp P o a w K Q else K (a.put o.dst undef) w)
    (hs : Next P md ops Q S z n l a w rs) : Next P md ops Q S z n l a w (i :: rs) := by
  intro j hj
  rcases List.mem_cons.1 hj with e | hj
  · exact e ▸ wpOp_step ho fun K hK => h K fun a w hS hW => hK a w ⟨hS, hW hS⟩
  · exact hs j hj
theorem ready {rs : List Nat} {n : Nat} {l : Array Bool} {a : Act} {w : World} (hr : Region.ready md ops l = rs) (hne : rs ≠ []) (h : Next P md ops Q S z n l a w rs) : Any P md ops Q S z (n + 1) l a w :=
  ⟨fun e => absurd (hr ▸ e) hne, hr ▸ h⟩
theorem done {l : Array Bool} {a : Act} {w : World} (hr : Region.ready md ops l = []) (h : Q .normal a w) (n : Nat) : Any P md ops Q S z n l a w := by
  cases n with
  | zero => exact ⟨hr, h⟩
  | succ n => exact ⟨fun _ => h, by rw [hr]; exact fun _ h => absurd h List.not_mem_nil⟩
theorem start {id : Nat} {a : Act} {w : World} (hm : P.follows .mixedOrders = true) (hS : S w.drew) (h : S w.drew → Any P .any ops Q S z ops.size (Array.replicate ops.size false) a w.drew) : (Code.region id ops true).wp P Q a w :=
  wp_region_any hm (Any.plain _ _ _ _ (h hS))
end
end Go.Last

namespace Go.Proofs.YtjlmeegaiagfpaaDoor
open Go.RowKit
open Go.Tree7
open S7
open S5 (nl nl_length nl_small at_nl nl_at Gives idx idx_at ix ix_no ix_yes)
theorem rdigit_in (s : ByteArray) (k : Nat) (_ : s.size ≤ 99990) (_ : k ≤ 100000) (w : World) : Calls Tryd.prog 22 #[.string s, .int .i64 k] w fun e w' => e = .returned (.bool (dgB (nl s) k)) ∧ w = w' := by
  cases h : (nl s)[k]? with
  | none =>
    have hd : dgB (nl s) k = false := by unfold dgB; rw [h]
    rw [hd]
    have g1 : s.size ≤ k := by have := List.getElem?_eq_none_iff.1 h; rwa [nl_length] at this
    have g2 : decide ((k : Int) < (s.size : Int)) = false := by simp; omega
    clear h hd
    go_enter Tryd.func22, Tryd.ntmps22
    go_wp2
    go_ret
    exact ⟨rfl, rfl⟩
  | some c =>
    obtain ⟨hlt, hat⟩ := at_nl h
    have hd : dgB (nl s) k = (decide (48 ≤ c) && decide (c ≤ 57)) := by unfold dgB; rw [h]
    rw [hd]
    clear h hd
    have hG : ∃ G, G = (decide (48 ≤ c) && decide (c ≤ 57)) := ⟨_, rfl⟩
    obtain ⟨G, hG⟩ := hG
    rw [← hG]
    replace hG := Lib.hid hG
    go_enter Tryd.func22, Tryd.ntmps22
    go_wp2
    all_goals (go_ret; refine ⟨ret_bool ?_, rfl⟩; rw [hG.out, Bool.eq_iff_iff]; simp; omega)
theorem rdig_yes {s : ByteArray} {k : Nat} (h : Dg (nl s) k) (hm : s.size ≤ 99990) (hk : k ≤ 100000) (w : World) : Calls Tryd.prog 22 #[.string s, .int .i64 k] w fun e w' => e = .returned (.bool true) ∧ w = w' := by
  have := rdigit_in s k hm hk w
  rwa [dgB_iff.2 h] at this
theorem rdig_no {s : ByteArray} {k : Nat} (h : ¬ Dg (nl s) k) (hm : s.size ≤ 99990) (hk : k ≤ 100000) (w : World) : Calls Tryd.prog 22 #[.string s, .int .i64 k] w fun e w' => e = .returned (.bool false) ∧ w = w' := by
  have := rdigit_in s k hm hk w
  rwa [dgB_no h] at this
theorem rdig_yes' {s : ByteArray} {k : Nat} {i : Int} (hi : i = (k : Int)) (h : Dg (nl s) k) (hm : s.size ≤ 99990) (hk : k ≤ 100000) (w : World) : Calls Tryd.prog 22 #[.string s, .int .i64 i] w fun e w' => e = .returned (.bool true) ∧ w = w' := by
  subst hi; exact rdig_yes h hm hk w
theorem rdig_no' {s : ByteArray} {k : Nat} {i : Int} (hi : i = (k : Int)) (h : ¬ Dg (nl s) k) (hm : s.size ≤ 99990) (hk : k ≤ 100000) (w : World) : Calls Tryd.prog 22 #[.string s, .int .i64 i] w fun e w' => e = .returned (.bool false) ∧ w = w' := by
  subst hi; exact rdig_no h hm hk w
def Returns (F : FuncId) (args : Array Value) (v : Value) (w : World) : Prop := Calls Tryd.prog F args w fun e w' => e = .returned v ∧ w = w'
set_option maxRecDepth 10000 in
set_option maxHeartbeats 4000000 in
theorem rnumber_one {s : ByteArray} {k c : Nat} (h1 : (nl s)[k]? = some c) (h2 : 48 ≤ c) (h3 : c ≤ 57) (h4 : ¬ Dg (nl s) (k + 1)) (hm : s.size ≤ 99990) (w : World) :
    Returns 44 #[.string s, .int .i64 k] (.tuple #[.int .i64 ((c : Int) - 48), .int .i64 ((k : Int) + 1), .bool true]) w := by
  obtain ⟨hlt, hat⟩ := at_nl h1
  have hkb : k ≤ 99990 := by omega
  have cA := Lib.hid (fun w => rdig_yes (dg_at h1 h2 h3) hm (by omega) w)
  have cB := Lib.hid (fun w => rdig_no' (i := (k : Int) + 1) (by omega) h4 hm (by omega) w)
  have g1 : decide ((c : Int) - 48 ≤ 40) = true := by rw [decide_eq_true_eq]; omega
  clear h1 h4 hm
  unfold Returns
  go_enter Tryd.func44, Tryd.ntmps44
  go_wp2
  go_loopw [7, 8] (fun i j wr => wr = w ∧ ((i = .int .i64 0 ∧ j = .int .i64 0) ∨ (i = .int .i64 ((c : Int) - 48) ∧ j = .int .i64 1))) (fun _ j _ => 4 - (intOf j).toNat)
  case atStart => exact ⟨rfl, .inl ⟨rfl, rfl⟩⟩
  case round =>
    obtain ⟨rfl, ⟨rfl, rfl⟩ | ⟨rfl, rfl⟩⟩ := hrel
    · go_wp2_with (go_at_call 22; (with_reducible refine (cA.out _).mono ?_); rintro e w' ⟨rfl, rfl⟩)
      go_roundw
      case rel => exact ⟨by first | trivial | rfl, .inr (⟨by go_num, by go_num⟩)⟩
      case measure => simp [intOf] <;> omega
    · go_wp2_with (go_at_call 22; (with_reducible refine (cB.out _).mono ?_); rintro e w' ⟨rfl, rfl⟩)
      refine bodyPost_ret (v := .tuple #[.int .i64 ((c : Int) - 48), .int .i64 ((k : Int) + 1), .bool true]) (by simp [results, Tryd.results44, go_sem]) rfl ?_
      exact ⟨rfl, rfl⟩
set_option maxRecDepth 10000 in
set_option maxHeartbeats 4000000 in
theorem rnumber_two {s : ByteArray} {k c d : Nat} (h1 : (nl s)[k]? = some c) (h2 : 48 ≤ c) (h3 : c ≤ 57) (h4 : (nl s)[k + 1]? = some d) (h5 : 48 ≤ d) (h6 : d ≤ 57) (h7 : ¬ Dg (nl s) (k + 2)) {B : Bool} (hB : decide ((((c : Int) - 48) * 10 + (d : Int) - 48) ≤ 40) = B) (hm : s.size ≤ 99990) (w : World) :
    Returns 44 #[.string s, .int .i64 k] (.tuple #[.int .i64 (((c : Int) - 48) * 10 + (d : Int) - 48), .int .i64 ((k : Int) + 2), .bool B]) w := by
  obtain ⟨hlt, hat⟩ := at_nl h1
  obtain ⟨hlt2, hat2⟩ := at_nl h4
  have hkb : k ≤ 99990 := by omega
  have cA := Lib.hid (fun w => rdig_yes (dg_at h1 h2 h3) hm (by omega) w)
  have cB := Lib.hid (fun w => rdig_yes' (i := (k : Int) + 1) (by omega) (dg_at h4 h5 h6) hm (by omega) w)
  have cC := Lib.hid (fun w => rdig_no' (i := (k : Int) + 2) (by omega) h7 hm (by omega) w)
  clear h1 h4 h7 hm
  unfold Returns
  go_enter Tryd.func44, Tryd.ntmps44
  go_wp2
  go_loopw [7, 8] (fun i j wr => wr = w ∧ ((i = .int .i64 0 ∧ j = .int .i64 0) ∨ (i = .int .i64 ((c : Int) - 48) ∧ j = .int .i64 1) ∨ (i = .int .i64 (((c : Int) - 48) * 10 + (d : Int) - 48) ∧ j = .int .i64 2))) (fun _ j _ => 4 - (intOf j).toNat)
  case atStart => exact ⟨rfl, .inl ⟨rfl, rfl⟩⟩
  case round =>
    obtain ⟨rfl, ⟨rfl, rfl⟩ | ⟨rfl, rfl⟩ | ⟨rfl, rfl⟩⟩ := hrel
    · go_wp2_with (go_at_call 22; (with_reducible refine (cA.out _).mono ?_); rintro e w' ⟨rfl, rfl⟩)
      go_roundw
      case rel => exact ⟨by first | trivial | rfl, .inr (.inl ⟨by go_num, by go_num⟩)⟩
      case measure => simp [intOf] <;> omega
    · go_wp2_with (go_at_call 22; (with_reducible refine (cB.out _).mono ?_); rintro e w' ⟨rfl, rfl⟩)
      go_roundw
      case rel => exact ⟨by first | trivial | rfl, .inr (.inr (⟨by go_num, by go_num⟩))⟩
      case measure => simp [intOf] <;> omega
    · go_wp2_with (go_at_call 22; (with_reducible refine (cC.out _).mono ?_); rintro e w' ⟨rfl, rfl⟩)
      refine bodyPost_ret (v := .tuple #[.int .i64 (((c : Int) - 48) * 10 + (d : Int) - 48), .int .i64 ((k : Int) + 2), .bool B]) (by simp [results, Tryd.results44, go_sem]) rfl ?_
      exact ⟨rfl, rfl⟩
set_option maxRecDepth 10000 in
set_option maxHeartbeats 4000000 in
theorem rnumber_long {s : ByteArray} {k c d b : Nat} (h1 : (nl s)[k]? = some c) (h2 : 48 ≤ c) (h3 : c ≤ 57) (h4 : (nl s)[k + 1]? = some d) (h5 : 48 ≤ d) (h6 : d ≤ 57) (h7 : (nl s)[k + 2]? = some b) (h10 : 48 ≤ b) (h11 : b ≤ 57) (hm : s.size ≤ 99990) (w : World) :
    Returns 44 #[.string s, .int .i64 k] (.tuple #[.int .i64 ((((c : Int) - 48) * 10 + (d : Int) - 48) * 10 + (b : Int) - 48), .int .i64 ((k : Int) + 3), .bool false]) w := by
  obtain ⟨hlt, hat⟩ := at_nl h1
  obtain ⟨hlt2, hat2⟩ := at_nl h4
  obtain ⟨hlt3, hat3⟩ := at_nl h7
  have hkb : k ≤ 99990 := by omega
  have cA := Lib.hid (fun w => rdig_yes (dg_at h1 h2 h3) hm (by omega) w)
  have cB := Lib.hid (fun w => rdig_yes' (i := (k : Int) + 1) (by omega) (dg_at h4 h5 h6) hm (by omega) w)
  have cC := Lib.hid (fun w => rdig_yes' (i := (k : Int) + 2) (by omega) (dg_at h7 h10 h11) hm (by omega) w)
  obtain ⟨B, hB⟩ : ∃ B, dgB (nl s) (k + 3) = B := ⟨_, rfl⟩
  have cD := fun w => rdigit_in s (k + 3) hm (by omega) w
  rw [hB, show ((k + 3 : Nat) : Int) = (k : Int) + 3 by omega] at cD
  replace cD := Lib.hid cD
  clear h1 h4 h7 hm hB
  cases B
  · unfold Returns
    go_enter Tryd.func44, Tryd.ntmps44
    go_wp2
    go_loopw [7, 8] (fun i j wr => wr = w ∧ ((i = .int .i64 0 ∧ j = .int .i64 0) ∨ (i = .int .i64 ((c : Int) - 48) ∧ j = .int .i64 1) ∨ (i = .int .i64 (((c : Int) - 48) * 10 + (d : Int) - 48) ∧ j = .int .i64 2) ∨ (i = .int .i64 ((((c : Int) - 48) * 10 + (d : Int) - 48) * 10 + (b : Int) - 48) ∧ j = .int .i64 3))) (fun _ j _ => 4 - (intOf j).toNat)
    case atStart => exact ⟨rfl, .inl ⟨rfl, rfl⟩⟩
    case round =>
      obtain ⟨rfl, ⟨rfl, rfl⟩ | ⟨rfl, rfl⟩ | ⟨rfl, rfl⟩ | ⟨rfl, rfl⟩⟩ := hrel
      · go_wp2_with (go_at_call 22; (with_reducible refine (cA.out _).mono ?_); rintro e w' ⟨rfl, rfl⟩)
        go_roundw
        case rel => exact ⟨by first | trivial | rfl, .inr (.inl ⟨by go_num, by go_num⟩)⟩
        case measure => simp [intOf] <;> omega
      · go_wp2_with (go_at_call 22; (with_reducible refine (cB.out _).mono ?_); rintro e w' ⟨rfl, rfl⟩)
        go_roundw
        case rel => exact ⟨by first | trivial | rfl, .inr (.inr (.inl ⟨by go_num, by go_num⟩))⟩
        case measure => simp [intOf] <;> omega
      · go_wp2_with (go_at_call 22; (with_reducible refine (cC.out _).mono ?_); rintro e w' ⟨rfl, rfl⟩)
        go_roundw
        case rel => exact ⟨by first | trivial | rfl, .inr (.inr (.inr (⟨by go_num, by go_num⟩)))⟩
        case measure => simp [intOf] <;> omega
      · go_wp2_with (go_at_call 22; (with_reducible refine (cD.out _).mono ?_); rintro e w' ⟨rfl, rfl⟩)
        refine bodyPost_ret (v := .tuple #[.int .i64 ((((c : Int) - 48) * 10 + (d : Int) - 48) * 10 + (b : Int) - 48), .int .i64 ((k : Int) + 3), .bool false]) (by simp [results, Tryd.results44, go_sem]) rfl ?_
        exact ⟨rfl, rfl⟩
  · unfold Returns
    go_enter Tryd.func44, Tryd.ntmps44
    go_wp2
    go_loopw [7, 8] (fun i j wr => wr = w ∧ ((i = .int .i64 0 ∧ j = .int .i64 0) ∨ (i = .int .i64 ((c : Int) - 48) ∧ j = .int .i64 1) ∨ (i = .int .i64 (((c : Int) - 48) * 10 + (d : Int) - 48) ∧ j = .int .i64 2) ∨ (i = .int .i64 ((((c : Int) - 48) * 10 + (d : Int) - 48) * 10 + (b : Int) - 48) ∧ j = .int .i64 3))) (fun _ j _ => 4 - (intOf j).toNat)
    case atStart => exact ⟨rfl, .inl ⟨rfl, rfl⟩⟩
    case round =>
      obtain ⟨rfl, ⟨rfl, rfl⟩ | ⟨rfl, rfl⟩ | ⟨rfl, rfl⟩ | ⟨rfl, rfl⟩⟩ := hrel
      · go_wp2_with (go_at_call 22; (with_reducible refine (cA.out _).mono ?_); rintro e w' ⟨rfl, rfl⟩)
        go_roundw
        case rel => exact ⟨by first | trivial | rfl, .inr (.inl ⟨by go_num, by go_num⟩)⟩
        case measure => simp [intOf] <;> omega
      · go_wp2_with (go_at_call 22; (with_reducible refine (cB.out _).mono ?_); rintro e w' ⟨rfl, rfl⟩)
        go_roundw
        case rel => exact ⟨by first | trivial | rfl, .inr (.inr (.inl ⟨by go_num, by go_num⟩))⟩
        case measure => simp [intOf] <;> omega
      · go_wp2_with (go_at_call 22; (with_reducible refine (cC.out _).mono ?_); rintro e w' ⟨rfl, rfl⟩)
        go_roundw
        case rel => exact ⟨by first | trivial | rfl, .inr (.inr (.inr (⟨by go_num, by go_num⟩)))⟩
        case measure => simp [intOf] <;> omega
      · go_wp2_with (go_at_call 22; (with_reducible refine (cD.out _).mono ?_); rintro e w' ⟨rfl, rfl⟩)
        refine bodyPost_ret (v := .tuple #[.int .i64 ((((c : Int) - 48) * 10 + (d : Int) - 48) * 10 + (b : Int) - 48), .int .i64 ((k : Int) + 3), .bool false]) (by simp [results, Tryd.results44, go_sem]) rfl ?_
        exact ⟨rfl, rfl⟩
theorem rnumber_in {s : ByteArray} {k a n : Nat} (h : Nm (nl s) k a n) (hm : s.size ≤ 99990) (w : World) :
    Returns 44 #[.string s, .int .i64 k] (.tuple #[.int .i64 a, .int .i64 n, .bool true]) w := by
  cases h with
  | one c h1 h2 h3 h4 =>
    have := rnumber_one h1 h2 h3 h4 hm w
    rwa [show (c : Int) - 48 = ((c - 48 : Nat) : Int) by omega] at this
  | two c d h1 h2 h3 h4 h5 h6 h7 h8 =>
    have := rnumber_two h1 h2 h3 h4 h5 h6 h7 (B := true) (by rw [decide_eq_true_eq]; omega) hm w
    rwa [show (((c : Int) - 48) * 10 + (d : Int) - 48) = ((10 * (c - 48) + (d - 48) : Nat) : Int) by omega] at this
/-- No bound. -/
theorem rnumber_bad {s : ByteArray} {k : Nat} (h : NmBad (nl s) k) (hm : s.size ≤ 99990) : ∃ x y : Int, ∀ w : World,
    Returns 44 #[.string s, .int .i64 k] (.tuple #[.int .i64 x, .int .i64 y, .bool false]) w := by
  cases h with
  | long h1 h2 h3 =>
    obtain ⟨c, a1, a2, a3⟩ := h1
    obtain ⟨d, b1, b2, b3⟩ := h2
    obtain ⟨b, c1, c2, c3⟩ := h3
    exact ⟨_, _, fun w => rnumber_long a1 a2 a3 b1 b2 b3 c1 c2 c3 hm w⟩
  | big c d h1 h2 h3 h4 h5 h6 h7 h8 => exact ⟨_, _, fun w => rnumber_two h1 h2 h3 h4 h5 h6 h7 (B := false) (by rw [decide_eq_false_iff_not]; omega) hm w⟩
end Go.Proofs.YtjlmeegaiagfpaaDoor

namespace Go.Proofs.YtjlmeegaiagfpaaDoor
open Go.RowKit
open Go.Tree7
open S7
open S5 (nl nl_length nl_small at_nl nl_at Gives idx idx_at ix ix_no ix_yes)
theorem rnumber_in' {s : ByteArray} {k a n : Nat} {i : Int} (hi : i = (k : Int)) (h : Nm (nl s) k a n) (hm : s.size ≤ 99990) (w : World) :
    Returns 44 #[.string s, .int .i64 i] (.tuple #[.int .i64 a, .int .i64 n, .bool true]) w := by
  subst hi; exact rnumber_in h hm w
theorem rnumber_at {s : ByteArray} {k : Nat} {i : Int} {v : Value} (hi : i = (k : Int)) (h : ∀ w, Returns 44 #[.string s, .int .i64 k] v w) (w : World) : Returns 44 #[.string s, .int .i64 i] v w := by
  subst hi; exact h w
set_option maxRecDepth 10000 in
set_option maxHeartbeats 8000000 in
theorem rbounds_in {s : ByteArray} {k n e : Nat} {a b : Int} (h : Bd (nl s) k a b n e) (hm : s.size ≤ 99990) (w : World) :
    Returns 23 #[.string s, .int .i64 k] (.tuple #[.int .i64 a, .int .i64 b, .int .i64 n, .int .i64 e]) w := by
  have hn0 := nl_length s
  have hkb : k ≤ 99990 := by
    have : Dg (nl s) (k + 1) ∨ NmBad (nl s) (k + 1) := by
      cases h <;> first | exact .inl (nm_dg ‹Nm (nl s) (k + 1) _ _›) | exact .inr ‹_›
    have h2 : Dg (nl s) (k + 1) := this.elim id nmbad_dg
    obtain ⟨c, h3, -⟩ := h2
    have := (List.getElem?_eq_some_iff.1 h3).1
    omega
  cases h with
  | m a j h1 h2 h3 =>
    have c1 := Lib.hid (fun w => rnumber_in' (i := (k : Int) + 1) (by omega) h1 hm w)
    have hj0 := (nm_le h1).2.2
    obtain ⟨hltj, hatj⟩ := at_nl h2
    have hjb : j ≤ 99990 := by omega
    have g1 : decide ((s.size : Int) ≤ (j : Int)) = false := by simp only [decide_eq_false_iff_not]; omega
    have g2 : decide (0 ≤ (a : Int)) = true := by rw [decide_eq_true_eq]; omega
    have g3 : decide ((a : Int) < (a : Int)) = false := by simp
    have g4 : ((a : Int) == 0) = false := by rw [beq_eq_false_iff_ne]; omega
    clear h1 h2 h3
    clear hm
    generalize (a : Int) = aI at *
    unfold Returns at *
    go_enter Tryd.func23, Tryd.ntmps23
    go_wp2_with (first | (go_at_call 44; (with_reducible refine (c1.out _).mono ?_); rintro e w' ⟨rfl, rfl⟩))
    refine bodyPost_ret (v := .tuple #[.int .i64 aI, .int .i64 aI, .int .i64 ((j : Int) + 1), .int .i64 0]) (by simp [results, Tryd.results23, go_sem]) rfl ?_
    exact ⟨tup_eq (by omega), rfl⟩
  | mopen a j h1 h2 h3 =>
    have c1 := Lib.hid (fun w => rnumber_in' (i := (k : Int) + 1) (by omega) h1 hm w)
    have hj0 := (nm_le h1).2.2
    obtain ⟨hltj, hatj⟩ := at_nl h2
    obtain ⟨hltj2, hatj2⟩ := at_nl h3
    have hjb : j ≤ 99990 := by omega
    have cD := Lib.hid (fun w => rdig_no' (k := j + 1) (i := (j : Int) + 1) (by omega) (nodg_at h3 (by decide)) hm (by omega) w)
    have g1 : decide ((s.size : Int) ≤ (j + 1 : Int)) = false := by simp only [decide_eq_false_iff_not]; omega
    clear h1 h2 h3
    clear hm
    generalize (a : Int) = aI at *
    unfold Returns at *
    go_enter Tryd.func23, Tryd.ntmps23
    go_wp2_with (first | (go_at_call 44; (with_reducible refine (c1.out _).mono ?_); rintro e w' ⟨rfl, rfl⟩) | (go_at_call 22; (with_reducible refine (cD.out _).mono ?_); rintro e w' ⟨rfl, rfl⟩))
    refine bodyPost_ret (v := .tuple #[.int .i64 aI, .int .i64 (-1), .int .i64 ((j : Int) + 1 + 1), .int .i64 0]) (by simp [results, Tryd.results23, go_sem]) rfl ?_
    exact ⟨tup_eq (by omega), rfl⟩
  | mn a j b i h1 h2 h3 h4 h5 h6 =>
    have c1 := Lib.hid (fun w => rnumber_in' (i := (k : Int) + 1) (by omega) h1 hm w)
    have hj0 := (nm_le h1).2.2
    have c2 := Lib.hid (fun w => rnumber_in' (i := (j : Int) + 1) (by omega) h3 hm w)
    have hi0 := (nm_le h3).2.2
    have hib : i ≤ 99990 := by omega
    obtain ⟨hltj, hatj⟩ := at_nl h2
    obtain ⟨hlti, hati⟩ := at_nl h4
    have hjb : j ≤ 99990 := by omega
    have cD := Lib.hid (fun w => rdig_yes' (k := j + 1) (i := (j : Int) + 1) (by omega) (nm_dg h3) hm (by omega) w)
    have g1 : decide ((s.size : Int) ≤ (i : Int)) = false := by simp only [decide_eq_false_iff_not]; omega
    have g2 : decide (0 ≤ (b : Int)) = true := by rw [decide_eq_true_eq]; omega
    have g3 : decide ((b : Int) < (a : Int)) = false := by simp only [decide_eq_false_iff_not]; omega
    have g4 : ((b : Int) == 0) = false := by rw [beq_eq_false_iff_ne]; omega
    clear h1 h2 h3 h4 h5 h6
    clear hm
    generalize (a : Int) = aI at *
    generalize (b : Int) = bI at *
    unfold Returns at *
    go_enter Tryd.func23, Tryd.ntmps23
    go_wp2_with (first | (go_at_call 44; (with_reducible refine (c1.out _).mono ?_); rintro e w' ⟨rfl, rfl⟩) | (go_at_call 22; (with_reducible refine (cD.out _).mono ?_); rintro e w' ⟨rfl, rfl⟩) | (go_at_call 44; (with_reducible refine (c2.out _).mono ?_); rintro e w' ⟨rfl, rfl⟩))
    refine bodyPost_ret (v := .tuple #[.int .i64 aI, .int .i64 bI, .int .i64 ((i : Int) + 1), .int .i64 0]) (by simp [results, Tryd.results23, go_sem]) rfl ?_
    exact ⟨tup_eq (by omega), rfl⟩
  | bad1 h1 =>
    obtain ⟨x1, y1, c1'⟩ := rnumber_bad h1 hm
    have c1 := Lib.hid (fun w => rnumber_at (i := (k : Int) + 1) (by omega) c1' w)
    clear c1'
    clear h1
    clear hm
    unfold Returns at *
    go_enter Tryd.func23, Tryd.ntmps23
    go_wp2_with (first | (go_at_call 44; (with_reducible refine (c1.out _).mono ?_); rintro e w' ⟨rfl, rfl⟩))
    refine bodyPost_ret (v := .tuple #[.int .i64 0, .int .i64 0, .int .i64 ((k : Int) + 1), .int .i64 1]) (by simp [results, Tryd.results23, go_sem]) rfl ?_
    exact ⟨tup_eq (by omega), rfl⟩
  | short1 a j h1 h2 =>
    have c1 := Lib.hid (fun w => rnumber_in' (i := (k : Int) + 1) (by omega) h1 hm w)
    have hj0 := (nm_le h1).2.2
    have hn := nl_length s
    rw [hn] at h2 hj0
    have hjb : j ≤ 99990 := by omega
    have g1 : decide ((s.size : Int) ≤ (j : Int)) = true := by rw [decide_eq_true_eq]; omega
    have g2 : decide ((j : Int) < (s.size : Int)) = false := by simp only [decide_eq_false_iff_not]; omega
    clear h1
    clear hm
    generalize (a : Int) = aI at *
    unfold Returns at *
    go_enter Tryd.func23, Tryd.ntmps23
    go_wp2_with (first | (go_at_call 44; (with_reducible refine (c1.out _).mono ?_); rintro e w' ⟨rfl, rfl⟩))
    refine bodyPost_ret (v := .tuple #[.int .i64 0, .int .i64 0, .int .i64 (s.size : Int), .int .i64 2]) (by simp [results, Tryd.results23, go_sem]) rfl ?_
    exact ⟨tup_eq (by omega), rfl⟩
  | form1 a j c h1 h2 h3 h4 =>
    have c1 := Lib.hid (fun w => rnumber_in' (i := (k : Int) + 1) (by omega) h1 hm w)
    have hj0 := (nm_le h1).2.2
    obtain ⟨hltj, hatj⟩ := at_nl h2
    have hjb : n ≤ 99990 := by omega
    have g1 : decide ((s.size : Int) ≤ (n : Int)) = false := by simp only [decide_eq_false_iff_not]; omega
    have g2 : ((c : Int) == 44) = false := by rw [beq_eq_false_iff_ne]; omega
    have g3 : ((c : Int) != 125) = true := by rw [bne_iff_ne]; omega
    clear h1 h2 h3 h4
    clear hm
    generalize (a : Int) = aI at *
    unfold Returns at *
    go_enter Tryd.func23, Tryd.ntmps23
    go_wp2_with (first | (go_at_call 44; (with_reducible refine (c1.out _).mono ?_); rintro e w' ⟨rfl, rfl⟩))
    refine bodyPost_ret (v := .tuple #[.int .i64 0, .int .i64 0, .int .i64 n, .int .i64 4]) (by simp [results, Tryd.results23, go_sem]) rfl ?_
    exact ⟨rfl, rfl⟩
  | low1 j h1 h2 =>
    have c1 := Lib.hid (fun w => rnumber_in' (i := (k : Int) + 1) (by omega) h1 hm w)
    have hj0 := (nm_le h1).2.2
    obtain ⟨hltj, hatj⟩ := at_nl h2
    have hjb : j ≤ 99990 := by omega
    have g1 : decide ((s.size : Int) ≤ (j : Int)) = false := by simp only [decide_eq_false_iff_not]; omega
    clear h1 h2
    clear hm
    unfold Returns at *
    go_enter Tryd.func23, Tryd.ntmps23
    go_wp2_with (first | (go_at_call 44; (with_reducible refine (c1.out _).mono ?_); rintro e w' ⟨rfl, rfl⟩))
    refine bodyPost_ret (v := .tuple #[.int .i64 0, .int .i64 0, .int .i64 ((k : Int) + 1), .int .i64 1]) (by simp [results, Tryd.results23, go_sem]) rfl ?_
    exact ⟨tup_eq (by omega), rfl⟩
  | short2 a j h1 h2 h3 =>
    have c1 := Lib.hid (fun w => rnumber_in' (i := (k : Int) + 1) (by omega) h1 hm w)
    have hj0 := (nm_le h1).2.2
    have hn := nl_length s
    obtain ⟨hltj, hatj⟩ := at_nl h2
    rw [hn] at h3
    have hjb : j ≤ 99990 := by omega
    have cD := Lib.hid (fun w => rdig_no' (k := j + 1) (i := (j : Int) + 1) (by omega) (nodg_end (by omega)) hm (by omega) w)
    have g1 : decide ((s.size : Int) ≤ (j : Int) + 1) = true := by rw [decide_eq_true_eq]; omega
    clear h1 h2
    clear hm
    generalize (a : Int) = aI at *
    unfold Returns at *
    go_enter Tryd.func23, Tryd.ntmps23
    go_wp2_with (first | (go_at_call 44; (with_reducible refine (c1.out _).mono ?_); rintro e w' ⟨rfl, rfl⟩) | (go_at_call 22; (with_reducible refine (cD.out _).mono ?_); rintro e w' ⟨rfl, rfl⟩))
    refine bodyPost_ret (v := .tuple #[.int .i64 0, .int .i64 0, .int .i64 (s.size : Int), .int .i64 2]) (by simp [results, Tryd.results23, go_sem]) rfl ?_
    exact ⟨tup_eq (by omega), rfl⟩
  | form2 a j c h1 h2 h3 h4 h5 =>
    have c1 := Lib.hid (fun w => rnumber_in' (i := (k : Int) + 1) (by omega) h1 hm w)
    have hj0 := (nm_le h1).2.2
    obtain ⟨hltj, hatj⟩ := at_nl h2
    obtain ⟨hltj2, hatj2⟩ := at_nl h3
    have hjb : j ≤ 99990 := by omega
    have cD := Lib.hid (fun w => rdig_no' (k := j + 1) (i := (j : Int) + 1) (by omega) h4 hm (by omega) w)
    have g1 : decide ((s.size : Int) ≤ (j + 1 : Int)) = false := by simp only [decide_eq_false_iff_not]; omega
    have g3 : ((c : Int) != 125) = true := by rw [bne_iff_ne]; omega
    clear h1 h2 h3 h4 h5
    clear hm
    generalize (a : Int) = aI at *
    unfold Returns at *
    go_enter Tryd.func23, Tryd.ntmps23
    go_wp2_with (first | (go_at_call 44; (with_reducible refine (c1.out _).mono ?_); rintro e w' ⟨rfl, rfl⟩) | (go_at_call 22; (with_reducible refine (cD.out _).mono ?_); rintro e w' ⟨rfl, rfl⟩))
    refine bodyPost_ret (v := .tuple #[.int .i64 0, .int .i64 0, .int .i64 ((j : Int) + 1), .int .i64 4]) (by simp [results, Tryd.results23, go_sem]) rfl ?_
    exact ⟨tup_eq (by omega), rfl⟩
  | bad2 a j h1 h2 h3 =>
    have c1 := Lib.hid (fun w => rnumber_in' (i := (k : Int) + 1) (by omega) h1 hm w)
    have hj0 := (nm_le h1).2.2
    obtain ⟨hltj, hatj⟩ := at_nl h2
    have hjb : j ≤ 99990 := by omega
    have cD := Lib.hid (fun w => rdig_yes' (k := j + 1) (i := (j : Int) + 1) (by omega) (nmbad_dg h3) hm (by omega) w)
    obtain ⟨x2, y2, c2'⟩ := rnumber_bad h3 hm
    have c2 := Lib.hid (fun w => rnumber_at (i := (j : Int) + 1) (by omega) c2' w)
    clear c2'
    clear h1 h2 h3
    clear hm
    generalize (a : Int) = aI at *
    unfold Returns at *
    go_enter Tryd.func23, Tryd.ntmps23
    go_wp2_with (first | (go_at_call 44; (with_reducible refine (c1.out _).mono ?_); rintro e w' ⟨rfl, rfl⟩) | (go_at_call 22; (with_reducible refine (cD.out _).mono ?_); rintro e w' ⟨rfl, rfl⟩) | (go_at_call 44; (with_reducible refine (c2.out _).mono ?_); rintro e w' ⟨rfl, rfl⟩))
    refine bodyPost_ret (v := .tuple #[.int .i64 0, .int .i64 0, .int .i64 ((j : Int) + 1), .int .i64 1]) (by simp [results, Tryd.results23, go_sem]) rfl ?_
    exact ⟨tup_eq (by omega), rfl⟩
  | short3 a j b i h1 h2 h3 h4 =>
    have c1 := Lib.hid (fun w => rnumber_in' (i := (k : Int) + 1) (by omega) h1 hm w)
    have hj0 := (nm_le h1).2.2
    have c2 := Lib.hid (fun w => rnumber_in' (i := (j : Int) + 1) (by omega) h3 hm w)
    have hi0 := (nm_le h3).2.2
    have hib : i ≤ 99990 := by omega
    have hn := nl_length s
    obtain ⟨hltj, hatj⟩ := at_nl h2
    rw [hn] at h4 hi0
    have hjb : j ≤ 99990 := by omega
    have cD := Lib.hid (fun w => rdig_yes' (k := j + 1) (i := (j : Int) + 1) (by omega) (nm_dg h3) hm (by omega) w)
    have g1 : decide ((s.size : Int) ≤ (i : Int)) = true := by rw [decide_eq_true_eq]; omega
    have g2 : decide ((i : Int) < (s.size : Int)) = false := by simp only [decide_eq_false_iff_not]; omega
    clear h1 h2 h3
    clear hm
    generalize (a : Int) = aI at *
    generalize (b : Int) = bI at *
    unfold Returns at *
    go_enter Tryd.func23, Tryd.ntmps23
    go_wp2_with (first | (go_at_call 44; (with_reducible refine (c1.out _).mono ?_); rintro e w' ⟨rfl, rfl⟩) | (go_at_call 22; (with_reducible refine (cD.out _).mono ?_); rintro e w' ⟨rfl, rfl⟩) | (go_at_call 44; (with_reducible refine (c2.out _).mono ?_); rintro e w' ⟨rfl, rfl⟩))
    refine bodyPost_ret (v := .tuple #[.int .i64 0, .int .i64 0, .int .i64 (s.size : Int), .int .i64 2]) (by simp [results, Tryd.results23, go_sem]) rfl ?_
    exact ⟨tup_eq (by omega), rfl⟩
  | form3 a j b i c h1 h2 h3 h4 h5 =>
    have c1 := Lib.hid (fun w => rnumber_in' (i := (k : Int) + 1) (by omega) h1 hm w)
    have hj0 := (nm_le h1).2.2
    have c2 := Lib.hid (fun w => rnumber_in' (i := (j : Int) + 1) (by omega) h3 hm w)
    have hi0 := (nm_le h3).2.2
    have hib : n ≤ 99990 := by omega
    obtain ⟨hltj, hatj⟩ := at_nl h2
    obtain ⟨hlti, hati⟩ := at_nl h4
    have hjb : j ≤ 99990 := by omega
    have cD := Lib.hid (fun w => rdig_yes' (k := j + 1) (i := (j : Int) + 1) (by omega) (nm_dg h3) hm (by omega) w)
    have g1 : decide ((s.size : Int) ≤ (n : Int)) = false := by simp only [decide_eq_false_iff_not]; omega
    have g2 : ((c : Int) != 125) = true := by rw [bne_iff_ne]; omega
    clear h1 h2 h3 h4 h5
    clear hm
    generalize (a : Int) = aI at *
    generalize (b : Int) = bI at *
    unfold Returns at *
    go_enter Tryd.func23, Tryd.ntmps23
    go_wp2_with (first | (go_at_call 44; (with_reducible refine (c1.out _).mono ?_); rintro e w' ⟨rfl, rfl⟩) | (go_at_call 22; (with_reducible refine (cD.out _).mono ?_); rintro e w' ⟨rfl, rfl⟩) | (go_at_call 44; (with_reducible refine (c2.out _).mono ?_); rintro e w' ⟨rfl, rfl⟩))
    refine bodyPost_ret (v := .tuple #[.int .i64 0, .int .i64 0, .int .i64 n, .int .i64 4]) (by simp [results, Tryd.results23, go_sem]) rfl ?_
    exact ⟨rfl, rfl⟩
  | low2 a j b i h1 h2 h3 h4 h5 =>
    have c1 := Lib.hid (fun w => rnumber_in' (i := (k : Int) + 1) (by omega) h1 hm w)
    have hj0 := (nm_le h1).2.2
    have c2 := Lib.hid (fun w => rnumber_in' (i := (j : Int) + 1) (by omega) h3 hm w)
    have hi0 := (nm_le h3).2.2
    have hib : i ≤ 99990 := by omega
    obtain ⟨hltj, hatj⟩ := at_nl h2
    obtain ⟨hlti, hati⟩ := at_nl h4
    have hjb : j ≤ 99990 := by omega
    have cD := Lib.hid (fun w => rdig_yes' (k := j + 1) (i := (j : Int) + 1) (by omega) (nm_dg h3) hm (by omega) w)
    have g1 : decide ((s.size : Int) ≤ (i : Int)) = false := by simp only [decide_eq_false_iff_not]; omega
    have g2 : decide (0 ≤ (b : Int)) = true := by rw [decide_eq_true_eq]; omega
    have g3 : (decide ((b : Int) < (a : Int)) = true) ∨ (decide ((b : Int) < (a : Int)) = false ∧ ((b : Int) == 0) = true) := by
      by_cases hba : b < a
      · exact .inl (by rw [decide_eq_true_eq]; omega)
      · exact .inr ⟨by simp only [decide_eq_false_iff_not]; omega, by rw [beq_iff_eq]; omega⟩
    clear h1 h2 h3 h4 h5
    clear hm
    generalize (a : Int) = aI at *
    generalize (b : Int) = bI at *
    unfold Returns at *
    rcases g3 with g3 | ⟨g3, g4⟩
    all_goals
      go_enter Tryd.func23, Tryd.ntmps23
      go_wp2_with (first | (go_at_call 44; (with_reducible refine (c1.out _).mono ?_); rintro e w' ⟨rfl, rfl⟩) | (go_at_call 22; (with_reducible refine (cD.out _).mono ?_); rintro e w' ⟨rfl, rfl⟩) | (go_at_call 44; (with_reducible refine (c2.out _).mono ?_); rintro e w' ⟨rfl, rfl⟩))
      refine bodyPost_ret (v := .tuple #[.int .i64 0, .int .i64 0, .int .i64 ((j : Int) + 1), .int .i64 1]) (by simp [results, Tryd.results23, go_sem]) rfl ?_
      exact ⟨tup_eq (by omega), rfl⟩
end Go.Proofs.YtjlmeegaiagfpaaDoor

namespace Go.Proofs.YtjlmeegaiagfpaaDoor
open Go.RowKit
open Go.Tree7
open S7
open S5 (nl nl_length nl_small at_nl nl_at Gives idx idx_at ix ix_no ix_yes)
theorem wd4 {f g : Nat → Bool} (h : ∀ c, c < 256 → f c = g c) : S1.wd f 0 = S1.wd g 0 ∧ S1.wd f 1 = S1.wd g 1 ∧ S1.wd f 2 = S1.wd g 2 ∧ S1.wd f 3 = S1.wd g 3 :=
  ⟨S1.wd_congr fun i hi => h _ (by omega), S1.wd_congr fun i hi => h _ (by omega), S1.wd_congr fun i hi => h _ (by omega), S1.wd_congr fun i hi => h _ (by omega)⟩
theorem rspan_at (lo hi : Nat) (h1 : lo ≤ 255) (h2 : hi ≤ 255) {a b : Int} (ha : a = (lo : Int)) (hb : b = (hi : Int)) (w : World) :
    Calls Tryd.prog 47 #[.int .i64 a, .int .i64 b] w fun e w' => e = .returned (.agg #[.int .u64 (S1.wd (S1.spanS lo hi) 0), .int .u64 (S1.wd (S1.spanS lo hi) 1), .int .u64 (S1.wd (S1.spanS lo hi) 2), .int .u64 (S1.wd (S1.spanS lo hi) 3)]) ∧ Below w.heap.size w w' := by
  subst ha hb
  exact S1.refspan_in lo hi h1 h2 w
set_option maxRecDepth 10000 in
set_option maxHeartbeats 4000000 in
theorem ratom_form {s : ByteArray} {k c : Nat} (h0 : (nl s)[k]? = some c) (hc : c ∈ [42, 43, 63, 93, 125, 47]) (hm : s.size ≤ 99990) (w : World) :
    Gives 26 #[.string s, .int .i64 k] (.tuple #[.agg #[.int .i64 0, .int .u64 0, .int .u64 0, .int .u64 0, .int .u64 0, .slice none 0 0, .int .i64 0, .int .i64 0, .string ⟨#[]⟩], .int .i64 k, .int .i64 4]) w := by
  obtain ⟨hlt, hat⟩ := at_nl h0
  have hkb : k ≤ 99990 := by omega
  simp only [List.mem_cons, List.not_mem_nil, or_false] at hc
  clear h0 hm
  unfold Gives
  rcases hc with rfl | rfl | rfl | rfl | rfl | rfl
  all_goals
    go_enter Tryd.func26, Tryd.ntmps26
    go_wp2
    refine bodyPost_ret (v := .tuple #[.agg #[.int .i64 0, .int .u64 0, .int .u64 0, .int .u64 0, .int .u64 0, .slice none 0 0, .int .i64 0, .int .i64 0, .string ⟨#[]⟩], .int .i64 k, .int .i64 4]) (by simp [results, Tryd.results26, go_sem]) rfl ?_
    exact ⟨rfl, Bel.alloc (Bel.new w _) _⟩
set_option maxRecDepth 10000 in
set_option maxHeartbeats 4000000 in
theorem ratom_br {s : ByteArray} {k : Nat} {a0 a1 a2 a3 t e : Int} (h0 : (nl s)[k]? = some 91) (hm : s.size ≤ 99990) (w : World)
    (C : ∀ w', Bel w w' → Gives 45 #[.string s, .int .i64 k] (.tuple #[.agg #[.int .u64 a0, .int .u64 a1, .int .u64 a2, .int .u64 a3], .int .i64 t, .int .i64 e]) w') :
    Gives 26 #[.string s, .int .i64 k] (.tuple #[.agg #[.int .i64 1, .int .u64 a0, .int .u64 a1, .int .u64 a2, .int .u64 a3, .slice none 0 0, .int .i64 0, .int .i64 0, .string ⟨#[]⟩], .int .i64 t, .int .i64 e]) w := by
  obtain ⟨hlt, hat⟩ := at_nl h0
  have hkb : k ≤ 99990 := by omega
  have hA : Hid (Bel w ((w.alloc (.cells #[.int .i64 0, .int .u64 0, .int .u64 0, .int .u64 0, .int .u64 0, .slice none 0 0, .int .i64 0, .int .i64 0, .string ⟨#[]⟩] 35)).alloc (.cells #[.int .i64 0, .int .u64 0, .int .u64 0, .int .u64 0, .int .u64 0, .slice none 0 0, .int .i64 0, .int .i64 0, .string ⟨#[]⟩] 35))) := Lib.hid (Bel.alloc (Bel.new w _) _)
  have hx0 : Hid (((w.alloc (.cells #[.int .i64 0, .int .u64 0, .int .u64 0, .int .u64 0, .int .u64 0, .slice none 0 0, .int .i64 0, .int .i64 0, .string ⟨#[]⟩] 35)).alloc (.cells #[.int .i64 0, .int .u64 0, .int .u64 0, .int .u64 0, .int .u64 0, .slice none 0 0, .int .i64 0, .int .i64 0, .string ⟨#[]⟩] 35)).heap[w.heap.size]? = some (.cells #[.int .i64 0, .int .u64 0, .int .u64 0, .int .u64 0, .int .u64 0, .slice none 0 0, .int .i64 0, .int .i64 0, .string ⟨#[]⟩] 35 (0, 0))) := Lib.hid (kept_alloc (World.alloc_heap_new w _) _)
  unfold Gives at C ⊢
  replace C := Lib.hid C
  clear h0 hm
  go_enter Tryd.func26, Tryd.ntmps26
  go_wp2_with (go_at_call 45; (with_reducible refine (C.out _ hA.out).mono ?_); rintro e w1 ⟨rfl, hb1⟩; have hx1 := Lib.hid (kept_row hx0.out hb1); have hz1 : w.heap.size < w1.heap.size := Nat.lt_of_lt_of_le (by simp; omega) hb1.size; have hB1 := Lib.hid (Bel.step hA.out hb1); have hk1 := cells_of hx1.out; obtain ⟨y0, f0⟩ := hk1 0 _ rfl; obtain ⟨y1, f1⟩ := hk1 1 _ rfl; obtain ⟨y2, f2⟩ := hk1 2 _ rfl; obtain ⟨y3, f3⟩ := hk1 3 _ rfl; obtain ⟨y4, f4⟩ := hk1 4 _ rfl; obtain ⟨y5, f5⟩ := hk1 5 _ rfl; obtain ⟨y6, f6⟩ := hk1 6 _ rfl; obtain ⟨y7, f7⟩ := hk1 7 _ rfl; obtain ⟨y8, f8⟩ := hk1 8 _ rfl; clear hk1 hb1)
  obtain ⟨q1, q2, q3, q4⟩ := set9 (b := w.heap.size) (d0 := .int .i64 1) (d1 := .int .u64 a0) (d2 := .int .u64 a1) (d3 := .int .u64 a2) (d4 := .int .u64 a3) (d5 := .slice none 0 0) (d6 := .int .i64 0) (d7 := .int .i64 0) (d8 := .string ⟨#[]⟩) hx1.out _ rfl
  generalize hW : World.setCell _ (⟨w.heap.size, 8, none⟩ : Addr) _ = W9 at *
  clear hW
  have q5 := kept_alloc q1 (.cells #[.int .u64 a0, .int .u64 a1, .int .u64 a2, .int .u64 a3] 24)
  have hk9 := cells_of q5
  obtain ⟨z0, -⟩ := hk9 0 _ rfl
  obtain ⟨z1, -⟩ := hk9 1 _ rfl
  obtain ⟨z2, -⟩ := hk9 2 _ rfl
  obtain ⟨z3, -⟩ := hk9 3 _ rfl
  obtain ⟨z4, -⟩ := hk9 4 _ rfl
  obtain ⟨z5, -⟩ := hk9 5 _ rfl
  obtain ⟨z6, -⟩ := hk9 6 _ rfl
  obtain ⟨z7, -⟩ := hk9 7 _ rfl
  obtain ⟨z8, -⟩ := hk9 8 _ rfl
  clear hk9
  refine bodyPost_ret (v := .tuple #[.agg #[.int .i64 1, .int .u64 a0, .int .u64 a1, .int .u64 a2, .int .u64 a3, .slice none 0 0, .int .i64 0, .int .i64 0, .string ⟨#[]⟩], .int .i64 t, .int .i64 e]) (by simp [results, Tryd.results26, go_sem, z0, z1, z2, z3, z4, z5, z6, z7, z8]) rfl ?_
  exact ⟨rfl, Bel.alloc (hB1.out.trans (q4 w.heap.size (Nat.le_refl _))) _⟩
set_option maxRecDepth 10000 in
set_option maxHeartbeats 4000000 in
theorem ratom_dot {s : ByteArray} {k : Nat} (h0 : (nl s)[k]? = some 46) (hm : s.size ≤ 99990) (w : World) :
    Gives 26 #[.string s, .int .i64 k] (.tuple #[.agg (leafT dotS).cells.toArray, .int .i64 ((k : Int) + 1), .int .i64 0]) w := by
  obtain ⟨hlt, hat⟩ := at_nl h0
  have hkb : k ≤ 99990 := by omega
  have hA : Hid (Bel w ((w.alloc (.cells #[.int .i64 0, .int .u64 0, .int .u64 0, .int .u64 0, .int .u64 0, .slice none 0 0, .int .i64 0, .int .i64 0, .string ⟨#[]⟩] 35)).alloc (.cells #[.int .i64 0, .int .u64 0, .int .u64 0, .int .u64 0, .int .u64 0, .slice none 0 0, .int .i64 0, .int .i64 0, .string ⟨#[]⟩] 35))) := Lib.hid (Bel.alloc (Bel.new w _) _)
  have hx0 : Hid (((w.alloc (.cells #[.int .i64 0, .int .u64 0, .int .u64 0, .int .u64 0, .int .u64 0, .slice none 0 0, .int .i64 0, .int .i64 0, .string ⟨#[]⟩] 35)).alloc (.cells #[.int .i64 0, .int .u64 0, .int .u64 0, .int .u64 0, .int .u64 0, .slice none 0 0, .int .i64 0, .int .i64 0, .string ⟨#[]⟩] 35)).heap[w.heap.size]? = some (.cells #[.int .i64 0, .int .u64 0, .int .u64 0, .int .u64 0, .int .u64 0, .slice none 0 0, .int .i64 0, .int .i64 0, .string ⟨#[]⟩] 35 (0, 0))) := Lib.hid (kept_alloc (World.alloc_heap_new w _) _)
  have C1 := Lib.hid (fun (w' : World) (_ : Bel w w') => show Calls Tryd.prog 47 #[.int .i64 0, .int .i64 255] w' _ from rspan_at 0 255 (by decide) (by decide) rfl rfl w')
  have C2 := Lib.hid (fun w => show Calls Tryd.prog 47 #[.int .i64 10, .int .i64 10] w _ from rspan_at 10 10 (by decide) (by decide) rfl rfl w)
  have C3 := fun w => S1.both2_in (S1.spanS 0 255) (S1.spanS 10 10) w
  obtain ⟨e0, e1, e2, e3⟩ := wd4 (f := S1.minusS (S1.spanS 0 255) (S1.spanS 10 10)) (g := dotS) fun c hc => by
    unfold S1.minusS S1.andS S1.notS S1.spanS dotS S1.notS S1.oneS
    rw [Bool.eq_iff_iff]
    simp
    omega
  rw [e0, e1, e2, e3] at C3
  show Gives 26 #[.string s, .int .i64 k] (.tuple #[.agg #[.int .i64 1, .int .u64 (S1.wd dotS 0 : Nat), .int .u64 (S1.wd dotS 1 : Nat), .int .u64 (S1.wd dotS 2 : Nat), .int .u64 (S1.wd dotS 3 : Nat), .slice none 0 0, .int .i64 0, .int .i64 0, .string ⟨#[]⟩], .int .i64 ((k : Int) + 1), .int .i64 0]) w
  replace C3 := Lib.hid C3
  clear e0 e1 e2 e3
  generalize S1.wd dotS 0 = b0 at *
  generalize S1.wd dotS 1 = b1 at *
  generalize S1.wd dotS 2 = b2 at *
  generalize S1.wd dotS 3 = b3 at *
  generalize S1.wd (S1.spanS 0 255) 0 = c0 at *
  generalize S1.wd (S1.spanS 0 255) 1 = c1 at *
  generalize S1.wd (S1.spanS 0 255) 2 = c2 at *
  generalize S1.wd (S1.spanS 0 255) 3 = c3 at *
  generalize S1.wd (S1.spanS 10 10) 0 = d0 at *
  generalize S1.wd (S1.spanS 10 10) 1 = d1 at *
  generalize S1.wd (S1.spanS 10 10) 2 = d2 at *
  generalize S1.wd (S1.spanS 10 10) 3 = d3 at *
  unfold Gives
  clear h0 hm
  go_enter Tryd.func26, Tryd.ntmps26
  go_wp2_with (first | (go_at_call 47; (with_reducible refine (C1.out _ hA.out).mono ?_); rintro e w1 ⟨rfl, hb1⟩; have hx1 := Lib.hid (kept_row hx0.out hb1); have hz1 : w.heap.size < w1.heap.size := Nat.lt_of_lt_of_le (by simp; omega) hb1.size; have hB1 := Lib.hid (Bel.step hA.out hb1); have hk1 := cells_of hx1.out; obtain ⟨y0, f0⟩ := hk1 0 _ rfl; obtain ⟨y1, f1⟩ := hk1 1 _ rfl; obtain ⟨y2, f2⟩ := hk1 2 _ rfl; obtain ⟨y3, f3⟩ := hk1 3 _ rfl; obtain ⟨y4, f4⟩ := hk1 4 _ rfl; obtain ⟨y5, f5⟩ := hk1 5 _ rfl; obtain ⟨y6, f6⟩ := hk1 6 _ rfl; obtain ⟨y7, f7⟩ := hk1 7 _ rfl; obtain ⟨y8, f8⟩ := hk1 8 _ rfl; clear hk1 hb1) | (go_at_call 47; (with_reducible refine (C2.out _).mono ?_); rintro e w2 ⟨rfl, hb2⟩; have hx2 := Lib.hid (kept_row (hx1.out) hb2); have hz2 : w.heap.size < w2.heap.size := (Array.getElem?_eq_some_iff.1 hx2.out).1; have hB2 := Lib.hid (Bel.step (hB1.out) hb2); clear y0 f0 y1 f1 y2 f2 y3 f3 y4 f4 y5 f5 y6 f6 y7 f7 y8 f8; have hk1 := cells_of hx2.out; obtain ⟨y0, f0⟩ := hk1 0 _ rfl; obtain ⟨y1, f1⟩ := hk1 1 _ rfl; obtain ⟨y2, f2⟩ := hk1 2 _ rfl; obtain ⟨y3, f3⟩ := hk1 3 _ rfl; obtain ⟨y4, f4⟩ := hk1 4 _ rfl; obtain ⟨y5, f5⟩ := hk1 5 _ rfl; obtain ⟨y6, f6⟩ := hk1 6 _ rfl; obtain ⟨y7, f7⟩ := hk1 7 _ rfl; obtain ⟨y8, f8⟩ := hk1 8 _ rfl; clear hk1 hb2) | (go_at_call 46; (with_reducible refine (C3.out _).mono ?_); rintro e w3 ⟨rfl, hb3⟩; have hx3 := Lib.hid (kept_row (hx2.out) hb3); have hz3 : w.heap.size < w3.heap.size := (Array.getElem?_eq_some_iff.1 hx3.out).1; have hB3 := Lib.hid (Bel.step (hB2.out) hb3); clear y0 f0 y1 f1 y2 f2 y3 f3 y4 f4 y5 f5 y6 f6 y7 f7 y8 f8; have hk1 := cells_of hx3.out; obtain ⟨y0, f0⟩ := hk1 0 _ rfl; obtain ⟨y1, f1⟩ := hk1 1 _ rfl; obtain ⟨y2, f2⟩ := hk1 2 _ rfl; obtain ⟨y3, f3⟩ := hk1 3 _ rfl; obtain ⟨y4, f4⟩ := hk1 4 _ rfl; obtain ⟨y5, f5⟩ := hk1 5 _ rfl; obtain ⟨y6, f6⟩ := hk1 6 _ rfl; obtain ⟨y7, f7⟩ := hk1 7 _ rfl; obtain ⟨y8, f8⟩ := hk1 8 _ rfl; clear hk1 hb3))
  obtain ⟨q1, q2, q3, q4⟩ := set9 (b := w.heap.size) (d0 := .int .i64 1) (d1 := .int .u64 b0) (d2 := .int .u64 b1) (d3 := .int .u64 b2) (d4 := .int .u64 b3) (d5 := .slice none 0 0) (d6 := .int .i64 0) (d7 := .int .i64 0) (d8 := .string ⟨#[]⟩) hx3.out _ rfl
  generalize hW : World.setCell _ (⟨w.heap.size, 8, none⟩ : Addr) _ = W9 at *
  clear hW
  have hk9 := cells_of q1
  obtain ⟨z0, -⟩ := hk9 0 _ rfl
  obtain ⟨z1, -⟩ := hk9 1 _ rfl
  obtain ⟨z2, -⟩ := hk9 2 _ rfl
  obtain ⟨z3, -⟩ := hk9 3 _ rfl
  obtain ⟨z4, -⟩ := hk9 4 _ rfl
  obtain ⟨z5, -⟩ := hk9 5 _ rfl
  obtain ⟨z6, -⟩ := hk9 6 _ rfl
  obtain ⟨z7, -⟩ := hk9 7 _ rfl
  obtain ⟨z8, -⟩ := hk9 8 _ rfl
  clear hk9
  refine bodyPost_ret (v := .tuple #[.agg #[.int .i64 1, .int .u64 b0, .int .u64 b1, .int .u64 b2, .int .u64 b3, .slice none 0 0, .int .i64 0, .int .i64 0, .string ⟨#[]⟩], .int .i64 ((k : Int) + 1), .int .i64 0]) (by simp [results, Tryd.results26, go_sem, z0, z1, z2, z3, z4, z5, z6, z7, z8]) rfl ?_
  exact ⟨rfl, hB3.out.trans (q4 w.heap.size (Nat.le_refl _))⟩
end Go.Proofs.YtjlmeegaiagfpaaDoor

namespace Go.Proofs.YtjlmeegaiagfpaaDoor
open Go.RowKit
open Go.Tree7
open S7
open S5 (nl nl_length nl_small at_nl nl_at Gives idx idx_at ix ix_no ix_yes)
set_option maxRecDepth 10000 in
set_option maxHeartbeats 4000000 in
theorem ratom_short {s : ByteArray} {k : Nat} (h0 : (nl s)[k]? = some 123) (h1 : ∀ j, k < j → (nl s)[j]? ≠ some 125) (hm : s.size ≤ 99990) (w : World) :
    Gives 26 #[.string s, .int .i64 k] (.tuple #[.agg #[.int .i64 0, .int .u64 0, .int .u64 0, .int .u64 0, .int .u64 0, .slice none 0 0, .int .i64 0, .int .i64 0, .string ⟨#[]⟩], .int .i64 s.size, .int .i64 2]) w := by
  obtain ⟨hlt, hat⟩ := at_nl h0
  have hkE : k + 1 ≤ s.size := by omega
  have hEb : s.size ≤ 99990 := by omega
  have hno : Hid (∀ j, k + 1 ≤ j → j < s.size → (nl s)[j]? ≠ some 125) := Lib.hid fun j a b => h1 j (by omega)
  clear h0 hm h1
  unfold Gives
  go_enter Tryd.func26, Tryd.ntmps26
  go_wp2
  go_loopw [12] (fun i wr => wr = ((w.alloc (.cells #[.int .i64 0, .int .u64 0, .int .u64 0, .int .u64 0, .int .u64 0, .slice none 0 0, .int .i64 0, .int .i64 0, .string ⟨#[]⟩] 35)).alloc (.cells #[.int .i64 0, .int .u64 0, .int .u64 0, .int .u64 0, .int .u64 0, .slice none 0 0, .int .i64 0, .int .i64 0, .string ⟨#[]⟩] 35)) ∧ ∃ j : Nat, i = .int .i64 j ∧ k + 1 ≤ j ∧ j ≤ s.size) (fun i _ => s.size - (intOf i).toNat)
  case atStart => exact ⟨rfl, k + 1, by go_num, Nat.le_refl _, hkE⟩
  case round =>
    obtain ⟨rfl, j, rfl, hj1, hj2⟩ := hrel
    by_cases hlt2 : j < s.size
    · have hjs : j < s.size := by omega
      obtain ⟨c, hc⟩ : ∃ c, (nl s)[j]? = some c := ⟨_, nl_at s j hjs⟩
      have hcn : c ≠ 125 := fun e => hno.out j hj1 hlt2 (e ▸ hc)
      obtain ⟨hjs2, hatj⟩ := at_nl hc
      have g1 : ((c : Int) != 125) = true := by rw [bne_iff_ne]; omega
      clear hcn hc
      go_wp2
      go_roundw
      case rel => exact ⟨by first | trivial | rfl, j + 1, by go_num, by omega, by omega⟩
      case measure => simp [intOf] <;> omega
    · obtain rfl : j = s.size := by omega
      go_wp2
      refine bodyPost_ret (v := .tuple #[.agg #[.int .i64 0, .int .u64 0, .int .u64 0, .int .u64 0, .int .u64 0, .slice none 0 0, .int .i64 0, .int .i64 0, .string ⟨#[]⟩], .int .i64 s.size, .int .i64 2]) (by simp [results, Tryd.results26, go_sem]) rfl ?_
      exact ⟨rfl, Bel.alloc (Bel.new w _) _⟩
set_option maxRecDepth 10000 in
set_option maxHeartbeats 4000000 in
theorem ratom_bad {s : ByteArray} {k m : Nat} (h0 : (nl s)[k]? = some 123) (h1 : ∀ j, k < j → j < k + 1 + m → (nl s)[j]? ≠ some 125) (h2 : (nl s)[k + 1 + m]? = some 125) (h3 : ¬ NameOk (((nl s).drop (k + 1)).take m)) (hm : s.size ≤ 99990) (w : World) :
    Gives 26 #[.string s, .int .i64 k] (.tuple #[.agg #[.int .i64 0, .int .u64 0, .int .u64 0, .int .u64 0, .int .u64 0, .slice none 0 0, .int .i64 0, .int .i64 0, .string ⟨#[]⟩], .int .i64 ((k : Int) + 1), .int .i64 5]) w := by
  obtain ⟨hlt, hat⟩ := at_nl h0
  obtain ⟨E, hE⟩ : ∃ E, k + 1 + m = E := ⟨_, rfl⟩
  rw [hE] at h1 h2
  obtain ⟨hEs, hatE⟩ := at_nl h2
  have hkE : k + 1 ≤ E := by omega
  have hEb : E ≤ 99990 := by omega
  have hno : Hid (∀ j, k + 1 ≤ j → j < E → (nl s)[j]? ≠ some 125) := Lib.hid fun j a b => h1 j (by omega) b
  have hsz : (s.extract (k + 1) E).size ≤ 9223372036854775807 := by rw [ByteArray.size_extract]; omega
  have cN := Lib.hid (fun w => risName_in (s := s.extract (k + 1) E) hsz (r := false) ⟨fun h => (by cases h), fun h => (by rw [nl_extract (by omega) (by omega), show E - (k + 1) = m by omega] at h; exact absurd h h3)⟩ w)
  obtain ⟨q, hq⟩ : ∃ q, k + 1 = q := ⟨_, rfl⟩
  have hk1 : (k : Int) + 1 = (q : Int) := by omega
  rw [hq] at hkE hno cN
  rw [hk1]
  clear h0 hm h1 h2 h3 hsz hE hq
  unfold Gives
  go_enter Tryd.func26, Tryd.ntmps26
  go_wp2
  go_loopw [12] (fun i wr => wr = ((w.alloc (.cells #[.int .i64 0, .int .u64 0, .int .u64 0, .int .u64 0, .int .u64 0, .slice none 0 0, .int .i64 0, .int .i64 0, .string ⟨#[]⟩] 35)).alloc (.cells #[.int .i64 0, .int .u64 0, .int .u64 0, .int .u64 0, .int .u64 0, .slice none 0 0, .int .i64 0, .int .i64 0, .string ⟨#[]⟩] 35)) ∧ ∃ j : Nat, i = .int .i64 j ∧ q ≤ j ∧ j ≤ E) (fun i _ => E - (intOf i).toNat)
  case atStart => exact ⟨rfl, q, by go_num, Nat.le_refl _, hkE⟩
  case round =>
    obtain ⟨rfl, j, rfl, hj1, hj2⟩ := hrel
    by_cases hlt2 : j < E
    · have hjs : j < s.size := by omega
      obtain ⟨c, hc⟩ : ∃ c, (nl s)[j]? = some c := ⟨_, nl_at s j hjs⟩
      have hcn : c ≠ 125 := fun e => hno.out j hj1 hlt2 (e ▸ hc)
      obtain ⟨hjs2, hatj⟩ := at_nl hc
      have g1 : ((c : Int) != 125) = true := by rw [bne_iff_ne]; omega
      clear hcn hc
      go_wp2
      go_roundw
      case rel => exact ⟨by first | trivial | rfl, j + 1, by go_num, by omega, by omega⟩
      case measure => simp [intOf] <;> omega
    · obtain rfl : j = E := by omega
      have g1 : ((j : Int) == (s.size : Int)) = false := by rw [beq_eq_false_iff_ne]; omega
      have g2 : j ≠ s.size := by omega
      go_wp2_with (go_at_call 48; (with_reducible refine (cN.out _).mono ?_); rintro e w' ⟨rfl, rfl⟩)
      refine bodyPost_ret (v := .tuple #[.agg #[.int .i64 0, .int .u64 0, .int .u64 0, .int .u64 0, .int .u64 0, .slice none 0 0, .int .i64 0, .int .i64 0, .string ⟨#[]⟩], .int .i64 (q : Int), .int .i64 5]) (by simp [results, Tryd.results26, go_sem]) rfl ?_
      exact ⟨rfl, Bel.alloc (Bel.new w _) _⟩
set_option maxRecDepth 10000 in
set_option maxHeartbeats 4000000 in
theorem ratom_name {s tx : ByteArray} {k : Nat} (h0 : (nl s)[k]? = some 123) (h1 : ∀ j x, (nl tx)[j]? = some x → (nl s)[k + 1 + j]? = some x) (h2 : (nl s)[k + 1 + tx.size]? = some 125) (h3 : NameOk (nl tx)) (hm : s.size ≤ 99990) (w : World) :
    Gives 26 #[.string s, .int .i64 k] (.tuple #[.agg (tN tx).cells.toArray, .int .i64 ((k : Int) + 1 + tx.size + 1), .int .i64 0]) w := by
  obtain ⟨hlt, hat⟩ := at_nl h0
  obtain ⟨E, hE⟩ : ∃ E, k + 1 + tx.size = E := ⟨_, rfl⟩
  have hno : Hid (∀ j, k + 1 ≤ j → j < E → (nl s)[j]? ≠ some 125) := Lib.hid fun j a b e => by
    have hx := nl_at tx (j - (k + 1)) (by omega)
    have h4 := h1 _ _ hx
    rw [show k + 1 + (j - (k + 1)) = j by omega, e] at h4
    have := h3.2.2.2 _ _ hx
    unfold NameChar at this
    have := Option.some.inj h4
    omega
  rw [hE] at h2
  obtain ⟨hEs, hatE⟩ := at_nl h2
  have hkE : k + 1 ≤ E := by omega
  have hEb : E ≤ 99990 := by omega
  have hp : s.extract (k + 1) E = tx := by rw [← hE]; exact piece_of h1 (by omega)
  have cN := Lib.hid (fun w => risName_in (s := tx) (by omega) (r := true) ⟨fun _ => h3, fun _ => rfl⟩ w)
  obtain ⟨q, hq⟩ : ∃ q, k + 1 = q := ⟨_, rfl⟩
  have hk1 : (k : Int) + 1 = (q : Int) := by omega
  rw [hq] at hkE hno hp
  have hres : Hid ((k : Int) + 1 + tx.size + 1 = (E : Int) + 1) := Lib.hid (by omega)
  rw [hres.out]
  clear h0 hm h1 h2 h3 hE hres hq
  unfold Gives
  simp only [tN, T.cells, List.length_nil]
  go_enter Tryd.func26, Tryd.ntmps26
  go_wp2
  go_loopw [12] (fun i wr => wr = ((w.alloc (.cells #[.int .i64 0, .int .u64 0, .int .u64 0, .int .u64 0, .int .u64 0, .slice none 0 0, .int .i64 0, .int .i64 0, .string ⟨#[]⟩] 35)).alloc (.cells #[.int .i64 0, .int .u64 0, .int .u64 0, .int .u64 0, .int .u64 0, .slice none 0 0, .int .i64 0, .int .i64 0, .string ⟨#[]⟩] 35)) ∧ ∃ j : Nat, i = .int .i64 j ∧ q ≤ j ∧ j ≤ E) (fun i _ => E - (intOf i).toNat)
  case atStart => exact ⟨rfl, q, by go_num, Nat.le_refl _, hkE⟩
  case round =>
    obtain ⟨rfl, j, rfl, hj1, hj2⟩ := hrel
    by_cases hlt2 : j < E
    · have hjs : j < s.size := by omega
      obtain ⟨c, hc⟩ : ∃ c, (nl s)[j]? = some c := ⟨_, nl_at s j hjs⟩
      have hcn : c ≠ 125 := fun e => hno.out j hj1 hlt2 (e ▸ hc)
      obtain ⟨hjs2, hatj⟩ := at_nl hc
      have g1 : ((c : Int) != 125) = true := by rw [bne_iff_ne]; omega
      clear hcn hc
      go_wp2
      go_roundw
      case rel => exact ⟨by first | trivial | rfl, j + 1, by go_num, by omega, by omega⟩
      case measure => simp [intOf] <;> omega
    · obtain rfl : j = E := by omega
      have g1 : ((j : Int) == (s.size : Int)) = false := by rw [beq_eq_false_iff_ne]; omega
      have g2 : j ≠ s.size := by omega
      go_wp2_with (go_at_call 48; (with_reducible refine (cN.out _).mono ?_); rintro e w' ⟨rfl, rfl⟩)
      refine bodyPost_ret (v := .tuple #[.agg #[.int .i64 5, .int .u64 0, .int .u64 0, .int .u64 0, .int .u64 0, .slice none 0 0, .int .i64 0, .int .i64 0, .string tx], .int .i64 ((j : Int) + 1), .int .i64 0]) (by simp [results, Tryd.results26, go_sem]) rfl ?_
      exact ⟨rfl, Bel.alloc (Bel.new w _) _⟩
end Go.Proofs.YtjlmeegaiagfpaaDoor

namespace Go.Proofs.YtjlmeegaiagfpaaDoor
open Go.RowKit
open Go.Tree7
open S7
open S5 (nl nl_length nl_small at_nl nl_at Gives idx idx_at ix ix_no ix_yes)
open S6 (Its Br One)
set_option maxRecDepth 10000 in
set_option maxHeartbeats 4000000 in
theorem ratom_byte {s : ByteArray} {k c d : Nat} {t e : Int} (h0 : (nl s)[k]? = some c) (hc : c ∉ [42, 43, 63, 93, 125, 47, 91, 46, 123, 40, 41, 124]) (hd : d ≤ 255) (hm : s.size ≤ 99990) (w : World)
    (C : ∀ w', Bel w w' → Gives 49 #[.string s, .int .i64 k] (.tuple #[.int .u8 d, .int .i64 t, .int .i64 e]) w') :
    Gives 26 #[.string s, .int .i64 k] (.tuple #[.agg (leafT (S1.oneS d)).cells.toArray, .int .i64 t, .int .i64 e]) w := by
  obtain ⟨hlt, hat⟩ := at_nl h0
  have hkb : k ≤ 99990 := by omega
  have hA : Hid (Bel w ((w.alloc (.cells #[.int .i64 0, .int .u64 0, .int .u64 0, .int .u64 0, .int .u64 0, .slice none 0 0, .int .i64 0, .int .i64 0, .string ⟨#[]⟩] 35)).alloc (.cells #[.int .i64 0, .int .u64 0, .int .u64 0, .int .u64 0, .int .u64 0, .slice none 0 0, .int .i64 0, .int .i64 0, .string ⟨#[]⟩] 35))) := Lib.hid (Bel.alloc (Bel.new w _) _)
  have hx0 : Hid (((w.alloc (.cells #[.int .i64 0, .int .u64 0, .int .u64 0, .int .u64 0, .int .u64 0, .slice none 0 0, .int .i64 0, .int .i64 0, .string ⟨#[]⟩] 35)).alloc (.cells #[.int .i64 0, .int .u64 0, .int .u64 0, .int .u64 0, .int .u64 0, .slice none 0 0, .int .i64 0, .int .i64 0, .string ⟨#[]⟩] 35)).heap[w.heap.size]? = some (.cells #[.int .i64 0, .int .u64 0, .int .u64 0, .int .u64 0, .int .u64 0, .slice none 0 0, .int .i64 0, .int .i64 0, .string ⟨#[]⟩] 35 (0, 0))) := Lib.hid (kept_alloc (World.alloc_heap_new w _) _)
  simp only [List.mem_cons, List.not_mem_nil, or_false, not_or] at hc
  have g0 : ((c : Int) == 42) = false := (by rw [beq_eq_false_iff_ne]; omega); have g1 : ((c : Int) == 43) = false := (by rw [beq_eq_false_iff_ne]; omega); have g2 : ((c : Int) == 63) = false := (by rw [beq_eq_false_iff_ne]; omega); have g3 : ((c : Int) == 93) = false := (by rw [beq_eq_false_iff_ne]; omega); have g4 : ((c : Int) == 125) = false := (by rw [beq_eq_false_iff_ne]; omega); have g5 : ((c : Int) == 47) = false := (by rw [beq_eq_false_iff_ne]; omega); have g6 : ((c : Int) == 91) = false := (by rw [beq_eq_false_iff_ne]; omega); have g7 : ((c : Int) == 46) = false := (by rw [beq_eq_false_iff_ne]; omega); have g8 : ((c : Int) == 123) = false := (by rw [beq_eq_false_iff_ne]; omega)
  have C2 := fun w => rspan_at d d hd hd rfl rfl w
  obtain ⟨e0, e1, e2, e3⟩ := wd4 (f := S1.spanS d d) (g := S1.oneS d) fun c hc => by
    unfold S1.spanS S1.oneS
    rw [Bool.eq_iff_iff]
    simp
    omega
  rw [e0, e1, e2, e3] at C2
  show Gives 26 #[.string s, .int .i64 k] (.tuple #[.agg #[.int .i64 1, .int .u64 (S1.wd (S1.oneS d) 0 : Nat), .int .u64 (S1.wd (S1.oneS d) 1 : Nat), .int .u64 (S1.wd (S1.oneS d) 2 : Nat), .int .u64 (S1.wd (S1.oneS d) 3 : Nat), .slice none 0 0, .int .i64 0, .int .i64 0, .string ⟨#[]⟩], .int .i64 t, .int .i64 e]) w
  replace C2 := Lib.hid C2
  clear e0 e1 e2 e3
  generalize S1.wd (S1.oneS d) 0 = b0 at *
  generalize S1.wd (S1.oneS d) 1 = b1 at *
  generalize S1.wd (S1.oneS d) 2 = b2 at *
  generalize S1.wd (S1.oneS d) 3 = b3 at *
  unfold Gives at C ⊢
  replace C := Lib.hid C
  clear h0 hm hc
  go_enter Tryd.func26, Tryd.ntmps26
  go_wp2_with (first | (go_at_call 49; (with_reducible refine (C.out _ hA.out).mono ?_); rintro e w1 ⟨rfl, hb1⟩; have hx1 := Lib.hid (kept_row hx0.out hb1); have hz1 : w.heap.size < w1.heap.size := Nat.lt_of_lt_of_le (by simp; omega) hb1.size; have hB1 := Lib.hid (Bel.step hA.out hb1); have hk1 := cells_of hx1.out; obtain ⟨y0, f0⟩ := hk1 0 _ rfl; obtain ⟨y1, f1⟩ := hk1 1 _ rfl; obtain ⟨y2, f2⟩ := hk1 2 _ rfl; obtain ⟨y3, f3⟩ := hk1 3 _ rfl; obtain ⟨y4, f4⟩ := hk1 4 _ rfl; obtain ⟨y5, f5⟩ := hk1 5 _ rfl; obtain ⟨y6, f6⟩ := hk1 6 _ rfl; obtain ⟨y7, f7⟩ := hk1 7 _ rfl; obtain ⟨y8, f8⟩ := hk1 8 _ rfl; clear hk1 hb1) | (go_at_call 47; (with_reducible refine (C2.out _).mono ?_); rintro e w2 ⟨rfl, hb2⟩; have hx2 := Lib.hid (kept_row (hx1.out) hb2); have hz2 : w.heap.size < w2.heap.size := (Array.getElem?_eq_some_iff.1 hx2.out).1; have hB2 := Lib.hid (Bel.step (hB1.out) hb2); clear y0 f0 y1 f1 y2 f2 y3 f3 y4 f4 y5 f5 y6 f6 y7 f7 y8 f8; have hk1 := cells_of hx2.out; obtain ⟨y0, f0⟩ := hk1 0 _ rfl; obtain ⟨y1, f1⟩ := hk1 1 _ rfl; obtain ⟨y2, f2⟩ := hk1 2 _ rfl; obtain ⟨y3, f3⟩ := hk1 3 _ rfl; obtain ⟨y4, f4⟩ := hk1 4 _ rfl; obtain ⟨y5, f5⟩ := hk1 5 _ rfl; obtain ⟨y6, f6⟩ := hk1 6 _ rfl; obtain ⟨y7, f7⟩ := hk1 7 _ rfl; obtain ⟨y8, f8⟩ := hk1 8 _ rfl; clear hk1 hb2))
  obtain ⟨q1, q2, q3, q4⟩ := set9 (b := w.heap.size) (d0 := .int .i64 1) (d1 := .int .u64 b0) (d2 := .int .u64 b1) (d3 := .int .u64 b2) (d4 := .int .u64 b3) (d5 := .slice none 0 0) (d6 := .int .i64 0) (d7 := .int .i64 0) (d8 := .string ⟨#[]⟩) hx2.out _ rfl
  generalize hW : World.setCell _ (⟨w.heap.size, 8, none⟩ : Addr) _ = W9 at *
  clear hW
  have hk9 := cells_of q1
  obtain ⟨z0, -⟩ := hk9 0 _ rfl
  obtain ⟨z1, -⟩ := hk9 1 _ rfl
  obtain ⟨z2, -⟩ := hk9 2 _ rfl
  obtain ⟨z3, -⟩ := hk9 3 _ rfl
  obtain ⟨z4, -⟩ := hk9 4 _ rfl
  obtain ⟨z5, -⟩ := hk9 5 _ rfl
  obtain ⟨z6, -⟩ := hk9 6 _ rfl
  obtain ⟨z7, -⟩ := hk9 7 _ rfl
  obtain ⟨z8, -⟩ := hk9 8 _ rfl
  clear hk9
  refine bodyPost_ret (v := .tuple #[.agg #[.int .i64 1, .int .u64 b0, .int .u64 b1, .int .u64 b2, .int .u64 b3, .slice none 0 0, .int .i64 0, .int .i64 0, .string ⟨#[]⟩], .int .i64 t, .int .i64 e]) (by simp [results, Tryd.results26, go_sem, z0, z1, z2, z3, z4, z5, z6, z7, z8]) rfl ?_
  exact ⟨rfl, hB2.out.trans (q4 w.heap.size (Nat.le_refl _))⟩
/-- An atom is read. -/
theorem ratom_in {s : ByteArray} {k n : Nat} {t : T} (h : Atm (nl s) k t n) (hm : s.size ≤ 99990) (w : World) :
    Gives 26 #[.string s, .int .i64 k] (.tuple #[.agg t.cells.toArray, .int .i64 n, .int .i64 0]) w := by
  cases h with
  | br f _ h1 h2 => exact ratom_br h1 hm w fun w' _ => S6.rread_in hm h2 w'
  | dot h1 =>
    have := ratom_dot h1 hm w
    rw [show ((k + 1 : Nat) : Int) = (k : Int) + 1 by omega]
    exact this
  | name tx h1 h2 h3 h4 =>
    rw [show ((k + tx.size + 2 : Nat) : Int) = (k : Int) + 1 + tx.size + 1 by omega]
    exact ratom_name h1 h2 h3 h4 hm w
  | byte c d _ h1 h2 h3 => exact ratom_byte h1 h2 (S6.rd_small (nl_small s) h3) hm w fun w' _ => S5.rread_in h3 hm w'
/-- What is no atom: some node, the place, the error. -/
theorem ratom_not {s : ByteArray} {k : Nat} {n : Int} {e : Nat} (h : AtmBad (nl s) k n e) (hm : s.size ≤ 99990) (w : World) :
    ∃ t : T, Gives 26 #[.string s, .int .i64 k] (.tuple #[.agg t.cells.toArray, .int .i64 n, .int .i64 e]) w := by
  cases h with
  | form c h1 h2 => exact ⟨T.zero, ratom_form h1 h2 hm w⟩
  | br f _ _ h1 h2 h3 =>
    refine ⟨.mk 1 0 0 0 0 none 0 0 0 ⟨#[]⟩ [], ?_⟩
    refine ratom_br h1 hm w fun w' _ => ?_
    have := S6.rread_in hm h2 w'
    rw [S6.roV_err _ _ h3] at this
    exact this
  | short h1 h2 =>
    rw [nl_length]
    exact ⟨T.zero, ratom_short h1 (fun j hj => h2 j hj) hm w⟩
  | name m h1 h2 h3 h4 =>
    refine ⟨T.zero, ?_⟩
    rw [show ((k + 1 : Nat) : Int) = (k : Int) + 1 by omega]
    exact ratom_bad h1 h2 h3 h4 hm w
  | byte c d _ _ h1 h2 h3 h4 => exact ⟨leafT (S1.oneS d), ratom_byte h1 h2 (S6.rd_small (nl_small s) h3) hm w fun w' _ => S5.rread_in h3 hm w'⟩
end Go.Proofs.YtjlmeegaiagfpaaDoor
