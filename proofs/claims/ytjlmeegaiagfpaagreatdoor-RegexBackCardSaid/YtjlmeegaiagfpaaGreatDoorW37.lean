/- RegexSimple, walked. -/
import Derived.Test.YtjlmeegaiagfpaaGreatDoorW35
import Derived.Test.YtjlmeegaiagfpaaGreatDoorW30
import Derived.Test.YtjlmeegaiagfpaaGreatDoorS7E
import Derived.Test.YtjlmeegaiagfpaaGreatDoorS7W38
namespace Go.Proofs.YtjlmeegaiagfpaaGreatDoor
open Go.RowKit
open Go.Tree7
open S7
open S5 (nl nl_length nl_small at_nl nl_at Gives idx idx_at ix ix_no ix_yes)
theorem kept_alloc {W : World} {b : Nat} {o : Obj} (h : W.heap[b]? = some o) (p : Obj) : (W.alloc p).heap[b]? = some o := (Below.heap_alloc _ _ _ (Array.getElem?_eq_some_iff.1 h).1).trans h
theorem lt_of_box {W : World} {b : Nat} {o : Obj} (h : W.heap[b]? = some o) : b < W.heap.size := (Array.getElem?_eq_some_iff.1 h).1
theorem box_in {w : World} {c : Nat} {t : T} (h : T.InP w (fun b => c ≤ b ∧ b < w.heap.size) t) (o : Obj) : T.In (w.alloc o) (w.alloc o).heap.size t :=
  in_bel (h.toIn (B := w.heap.size) fun _ hb => hb.2) (Bel.new w o)
theorem in_wf4 {w : World} {B : Nat} : ∀ t : T, T.In w B t → T.All T.wf4 t := by
  refine T.ind fun k u0 u1 u2 u3 p cap mn mx tx ks ih h => ?_
  cases h with
  | mk h1 h2 h3 h4 h5 => exact .mk h3.2.1 fun t ht => ih t ht (h5 t ht)
theorem rightB_simp {w : World} {B : Nat} {t : T} (hT : T.In w B t) (h : rightB t = true) : rightB (T.simp t) = true ∧ (T.simp t).size ≤ t.size := by
  have hr := (rightB_iff t).1 h
  have hA := T.All.and (right_all hr).1 (in_wf4 t hT)
  obtain ⟨h1, h2, h3⟩ := simp_plain hA
  obtain ⟨h4, h5⟩ := small_of (deepOf_le.2 fun x hx => (hr.1 x hx).1) hr.2
  exact ⟨(rightB_iff _).2 (pl_right h1 (by omega) (by omega)), h3⟩
/-- What Of gives back of a small tree. -/
def GivesOf (st : T) (w : World) (e : Ending) (w' : World) : Prop :=
  ∃ (m : T) (d : Int), e = .returned (.tuple #[.agg m.cells.toArray, .int .i64 d]) ∧ Below w.heap.size w w' ∧ T.InP w' (fun b => w.heap.size ≤ b ∧ b < w'.heap.size) m ∧ m.strip = st
/-- What Of gives back, with what is left. -/
def GivesLeft (d : Int) (w : World) (e : Ending) (w' : World) : Prop :=
  ∃ m : T, e = .returned (.tuple #[.agg m.cells.toArray, .int .i64 d]) ∧ Below w.heap.size w w'
theorem of_left {w : World} {t : T} {n : Nat} {c : Int} (hT : T.In w w.heap.size t) (h1 : 1 ≤ n) (h2 : n ≤ 2000) (hc : c = (n : Int)) : ∀ w', Bel w w' → Calls Tryz.prog 5 #[.agg t.cells.toArray, .int .i64 c] w' (GivesLeft ((n - t.size : Nat) : Int) w') := fun w' hb => hc ▸
  (of_in (Nat.le_refl _) t n w' h1 h2 hT hb).mono fun e w'' h => by
    obtain ⟨m, h1, h2, -⟩ := h
    exact ⟨m, h1, h2⟩
theorem of_str {w : World} {t st : T} (hT : T.In w w.heap.size t) (hz : t.size < 2000) (hs : t.strip = st) : ∀ w', Bel w w' → Calls Tryz.prog 5 #[.agg t.cells.toArray, .int .i64 2000] w' (GivesOf st w') := fun w' hb =>
  (of_in (Nat.le_refl _) t 2000 w' (by decide) (by decide) hT hb).mono fun e w'' h => by
    obtain ⟨m, h1, h2, h3⟩ := h
    obtain ⟨h4, h5⟩ := h3 hz
    exact ⟨m, _, h1, h2, h4, h5.trans hs⟩
theorem rsame_yes {a b st : T} (ha : a.strip = st) (hb : b.strip = st) (h : rightB a = true) : rsameT a b = true := by
  rw [rsame_eq]
  unfold sameT
  rw [h, Bool.true_and, eqT_iff, ha, hb]
theorem rsame_plain {n st v m : T} (hn : T.simp n = st) (hr : rightB n = true) (hv : v.strip = st) (hm : m.strip = n.strip) (h : rightB v = true) : rsameT v m = plainT n := by
  rw [rsame_eq]
  unfold sameT plainT
  rw [h, hr, Bool.true_and, Bool.true_and, Bool.eq_iff_iff, eqT_iff, hv, hm, ← hn, simp_iff, ← padB_iff]
  simp
theorem rightB_of {a st : T} (ha : a.strip = st) (h : rightB st = true) : rightB a = true := by rw [← right_strip a, ha, h]
end Go.Proofs.YtjlmeegaiagfpaaGreatDoor
