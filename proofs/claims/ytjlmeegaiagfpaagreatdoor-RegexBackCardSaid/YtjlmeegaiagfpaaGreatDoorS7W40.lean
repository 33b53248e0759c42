/- The program's copied: what it gives back; its loop's state. -/
import Derived.Test.YtjlmeegaiagfpaaGreatDoorS7D
namespace Go.Proofs.YtjlmeegaiagfpaaGreatDoor.S7
open Go.RowKit
open Go.Tree7
/-- A tree's kids lie in a row of their own, whole. -/
def RowOf (W : World) : T → Prop
  | .mk _ _ _ _ _ p _ _ _ _ ks => 0 < ks.length → ∃ g, p = some ⟨g, 0, none⟩ ∧ NRowAt W g ks
/-- What copied gives back. -/
def GivesCopy (w : World) (t : T) (e : Ending) (w' : World) : Prop :=
  ∃ m : T, e = .returned (.agg m.cells.toArray) ∧ Below w.heap.size w w' ∧ T.InP w' (fun b => w.heap.size ≤ b ∧ b < w'.heap.size) m ∧ m.strip = t.strip ∧ RowOf w' m
def CopyOf (w0 : World) (B0 : Nat) (t : T) : Prop := ∀ w', Below B0 w0 w' → Calls Tryz.prog 24 #[.agg t.cells.toArray] w' (GivesCopy w' t)
/-- All but block g as it was. -/
structure Sg (g : Nat) (wk W : World) : Prop where
  bel : Below g wk W
  oth : ∀ b, g < b → b < wk.heap.size → W.heap[b]? = wk.heap[b]?
theorem Sg.refl (g : Nat) (w : World) : Sg g w w := ⟨Below.refl _ _, fun _ _ _ => rfl⟩
theorem Sg.drew {g : Nat} {wk W : World} (h : Sg g wk W) : Sg g wk W.drew := ⟨h.bel.drew, fun b h1 h2 => h.oth b h1 h2⟩
theorem Sg.step {g : Nat} {wk W W' : World} (h : Sg g wk W) (hg : g < wk.heap.size) (hb : Below W.heap.size W W') : Sg g wk W' :=
  ⟨h.bel.trans (hb.mono (by have := h.bel.size; omega)), fun b h1 h2 => (hb.block b (by have := h.bel.size; omega)).trans (h.oth b h1 h2)⟩
theorem Sg.set {g : Nat} {wk W W' : World} (h : Sg g wk W) (h1 : ∀ k, k ≠ g → W'.heap[k]? = W.heap[k]?) (h2 : ∀ n, n ≤ g → Below n W W') : Sg g wk W' :=
  ⟨h.bel.trans (h2 g (Nat.le_refl _)), fun b hb hl => (h1 b (by omega)).trans (h.oth b hb hl)⟩
theorem Sg.block {g : Nat} {wk W : World} (h : Sg g wk W) {b : Nat} {o : Obj} (hb : b ≠ g) (ho : wk.heap[b]? = some o) : W.heap[b]? = some o := by
  have hl := (Array.getElem?_eq_some_iff.1 ho).1
  rcases Nat.lt_or_ge b g with h1 | h1
  · exact (h.bel.block b h1).trans ho
  · exact (h.oth b (by omega) hl).trans ho
theorem Kept.other {w w' : World} {b0 : Nat} {v : Value} {ms : List T} (h : Kept w b0 v ms) (hk : ∀ b, v.ownBlock ≠ some b → w'.heap[b]? = w.heap[b]?) (hs : w.heap.size ≤ w'.heap.size) : Kept w' b0 v ms := fun t ht =>
  ((h t ht).keep (fun b hS => hk b hS.2.2)).imp fun _ hS => ⟨hS.1, Nat.lt_of_lt_of_le hS.2.1 hs, hS.2.2⟩
theorem set_drop {ms ks : List T} {j : Nat} (hm : ms.length = j) (hj : j < ks.length) (m : T) : (ms ++ ks.drop j).set j m = (ms ++ [m]) ++ ks.drop (j + 1) := by
  subst hm
  rw [List.set_append_right _ _ (Nat.le_refl _), Nat.sub_self, List.drop_eq_getElem_cons hj, List.set_cons_zero, List.append_assoc]
  rfl
/-- The loop's state. -/
structure CSt (w0 wr : World) (b1 : Nat) (k u0 u1 u2 u3 mn mx : Int) (tx : ByteArray) (ks : List T) (pc : Option Addr) (capc : Nat) (ms : List T) (j : Nat) : Prop where
  len : ms.length = j
  box : wr.heap[b1]? = some (.cells #[.int .i64 k, .int .u64 u0, .int .u64 u1, .int .u64 u2, .int .u64 u3, .slice pc ks.length capc, .int .i64 mn, .int .i64 mx, .string tx] 27 (0, 0))
  res : wr.heap[b1 + 1]? = some (.cells #[.int .i64 0, .int .u64 0, .int .u64 0, .int .u64 0, .int .u64 0, .slice none 0 0, .int .i64 0, .int .i64 0, .string ⟨#[]⟩] 27 (0, 0))
  bel : Below b1 w0 wr
  siz : b1 + 1 < wr.heap.size
  row : 0 < ks.length → ∃ g, pc = some ⟨g, 0, none⟩ ∧ b1 + 2 ≤ g ∧ NRowAt wr g (ms ++ ks.drop j)
  kept : Kept wr (b1 + 2) (.slice pc ks.length capc) ms
  str : ms.map T.strip = (ks.take j).map T.strip
end Go.Proofs.YtjlmeegaiagfpaaGreatDoor.S7
