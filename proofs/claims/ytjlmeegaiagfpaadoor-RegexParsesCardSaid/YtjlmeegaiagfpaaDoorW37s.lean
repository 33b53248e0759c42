/- What is the same of two readings: facts for RegexParses. -/
import Derived.Test.YtjlmeegaiagfpaaDoorW30
import Derived.Test.YtjlmeegaiagfpaaDoorW31
import Derived.Test.YtjlmeegaiagfpaaDoorS7E
import Derived.Test.YtjlmeegaiagfpaaDoorS7W25
import Derived.Test.YtjlmeegaiagfpaaDoorS7W38
import Derived.Deep.RegionLaw
namespace Go.Proofs.YtjlmeegaiagfpaaDoor
open Go.RowKit
open Go.Tree7
open S7
open S5 (nl nl_length nl_small at_nl nl_at Gives idx idx_at ix ix_no ix_yes)
theorem simp_strip (t : T) : T.simp t.strip = T.simp t := by
  refine T.ind (P := fun t => T.simp t.strip = T.simp t) (fun k u0 u1 u2 u3 p cap mn mx tx ks ih => ?_) t
  rw [T.strip_mk, simp_mk, simp_mk, List.length_map, List.map_map, show ks.map (T.simp ∘ T.strip) = ks.map T.simp from List.map_congr_left ih]
theorem simp_of_strip {a b : T} (h : a.strip = b.strip) : T.simp a = T.simp b := by rw [← simp_strip a, h, simp_strip]
/-- The zero node. -/
def T.zero : T := .mk 0 0 0 0 0 none 0 0 0 ⟨#[]⟩ []
theorem kept_alloc {W : World} {b : Nat} {o : Obj} (h : W.heap[b]? = some o) (p : Obj) : (W.alloc p).heap[b]? = some o := (Below.heap_alloc _ _ _ (Array.getElem?_eq_some_iff.1 h).1).trans h
theorem lt_of_box {W : World} {b : Nat} {o : Obj} (h : W.heap[b]? = some o) : b < W.heap.size := (Array.getElem?_eq_some_iff.1 h).1
theorem box_in {w : World} {c : Nat} {t : T} (h : T.InP w (fun b => c ≤ b ∧ b < w.heap.size) t) (o : Obj) : T.In (w.alloc o) (w.alloc o).heap.size t :=
  in_bel (h.toIn (B := w.heap.size) fun _ hb => hb.2) (Bel.new w o)
/-- What Of gives back of a small tree. -/
def GivesOf (st : T) (w : World) (e : Ending) (w' : World) : Prop :=
  ∃ (m : T) (d : Int), e = .returned (.tuple #[.agg m.cells.toArray, .int .i64 d]) ∧ Below w.heap.size w w' ∧ T.InP w' (fun b => w.heap.size ≤ b ∧ b < w'.heap.size) m ∧ m.strip = st
/-- What Of gives back, with what is left. -/
def GivesLeft (d : Int) (w : World) (e : Ending) (w' : World) : Prop :=
  ∃ m : T, e = .returned (.tuple #[.agg m.cells.toArray, .int .i64 d]) ∧ Below w.heap.size w w'
theorem of_left {w : World} {t : T} {n : Nat} {c : Int} (hT : T.In w w.heap.size t) (h1 : 1 ≤ n) (h2 : n ≤ 2000) (hc : c = (n : Int)) : ∀ w', Bel w w' → Calls Tryd.prog 10 #[.agg t.cells.toArray, .int .i64 c] w' (GivesLeft ((n - t.size : Nat) : Int) w') := fun w' hb => hc ▸
  (of_in (Nat.le_refl _) t n w' h1 h2 hT hb).mono fun e w'' h => by
    obtain ⟨m, h1, h2, -⟩ := h
    exact ⟨m, h1, h2⟩
theorem of_str {w : World} {t st : T} (hT : T.In w w.heap.size t) (hz : t.size < 2000) (hs : t.strip = st) : ∀ w', Bel w w' → Calls Tryd.prog 10 #[.agg t.cells.toArray, .int .i64 2000] w' (GivesOf st w') := fun w' hb =>
  (of_in (Nat.le_refl _) t 2000 w' (by decide) (by decide) hT hb).mono fun e w'' h => by
    obtain ⟨m, h1, h2, h3⟩ := h
    obtain ⟨h4, h5⟩ := h3 hz
    exact ⟨m, _, h1, h2, h4, h5.trans hs⟩
theorem rsame_str {w : World} {a b : T} {r : Bool} (hT : T.In w w.heap.size a) (hT' : T.In w w.heap.size b) (h : rsameT a b = r) : ∀ w', Bel w w' → Calls Tryd.prog 11 #[.agg a.cells.toArray, .agg b.cells.toArray] w' fun e w'' => e = .returned (.bool r) ∧ Below w'.heap.size w' w'' := fun w' hb => by
  have := rsame_in (in_bel hT hb) (in_bel hT' hb)
  rw [h] at this
  exact this
theorem rsame_yes {a b st : T} (ha : a.strip = st) (hb : b.strip = st) (h : rightB a = true) : rsameT a b = true := by
  rw [rsame_eq]
  unfold sameT
  rw [h, Bool.true_and, eqT_iff, ha, hb]
end Go.Proofs.YtjlmeegaiagfpaaDoor
