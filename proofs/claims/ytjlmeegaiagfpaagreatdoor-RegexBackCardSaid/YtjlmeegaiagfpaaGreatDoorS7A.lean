/- Texts of earlier layers, merged: S7W1, S7W2. -/
import Derived.Test.YtjlmeegaiagfpaaGreatDoorS7K
import Derived.Test.YtjlmeegaiagfpaaGreatDoorLB
import Derived.Test.YtjlmeegaiagfpaaGreatDoorS5A
namespace Go.Proofs.YtjlmeegaiagfpaaGreatDoor.S7
open Go.RowKit
open Go.Tree7
/-- A step's eleven cells. -/
def scells (s : Step) : List Value := [.int .i64 s.k, .int .u64 s.u.1, .int .u64 s.u.2.1, .int .u64 s.u.2.2.1, .int .u64 s.u.2.2.2, .slice none 0 0, .int .i64 s.mn, .int .i64 s.mx, .string s.tx, .int .i64 s.level, .int .i64 s.kids]
def rcells (l : List Step) : List Value := l.flatMap scells
theorem rcells_snoc (l : List Step) (s : Step) : rcells (l ++ [s]) = rcells l ++ scells s := by simp [rcells]
theorem cells_new {w : World} {cs : Array Value} {t : TypeId} {b : Nat} (hb : w.heap.size = b) : ∀ j u, cs.toList[j]? = some u → (w.alloc (.cells cs t)).cell? ((⟨b, 0, none⟩ : Addr).add j) = some u := by
  subst hb
  intro j u h
  have e : (⟨w.heap.size, 0, none⟩ : Addr).add j = ⟨w.heap.size, j, none⟩ := by unfold Addr.add; split <;> simp_all
  rw [e, cell_of_row (w.alloc (.cells cs t)) w.heap.size j cs t (0, 0) (World.alloc_heap_new w _)]
  simpa using h
/-- A kid of a tree that lies in memory: where its nine cells lie. -/
theorem T.kid {w : World} {B : Nat} {k u0 u1 u2 u3 : Int} {p : Option Addr} {cap : Nat} {mn mx : Int} {tx : ByteArray} {ks : List T} (h : T.In w B (.mk k u0 u1 u2 u3 p cap mn mx tx ks)) {j : Nat} (hj : j < ks.length) :
    ∃ b o, T.In w B ks[j] ∧ p = some ⟨b, o, none⟩ ∧ b < B ∧ ∀ q, q < 9 → w.cell? ⟨b, o + j * 9 + q, none⟩ = (ks[j].cells)[q]? := by
  cases h with
  | mk hb hm hf h hk =>
    obtain ⟨⟨b, o, sp⟩, rfl, hB, hc⟩ := h j hj
    have hsp : sp = none := by
      obtain ⟨a0, e0, -, hc0⟩ := h 0 (by omega)
      obtain rfl := Option.some.inj e0
      have h0 := hc0 0 (by decide)
      rw [List.getElem?_eq_getElem (by rw [T.cells_length]; decide)] at h0
      simpa [Addr.add] using World.cell?_spot h0
    subst hsp
    refine ⟨b, o, hk _ (List.getElem_mem hj), rfl, hB, fun q hq => ?_⟩
    rw [← hc q hq]
    congr 1
    unfold Addr.add
    split <;> simp_all <;> omega
theorem nine_of {w : World} {b o : Nat} {c0 c1 c2 c3 c4 c5 c6 c7 c8 : Value} (h : ∀ q, q < 9 → w.cell? ⟨b, o + q, none⟩ = [c0, c1, c2, c3, c4, c5, c6, c7, c8][q]?) :
    w.cell? ⟨b, o, none⟩ = some c0 ∧ w.cell? ⟨b, o + 1, none⟩ = some c1 ∧ w.cell? ⟨b, o + 2, none⟩ = some c2 ∧ w.cell? ⟨b, o + 3, none⟩ = some c3 ∧ w.cell? ⟨b, o + 4, none⟩ = some c4 ∧ w.cell? ⟨b, o + 5, none⟩ = some c5 ∧ w.cell? ⟨b, o + 6, none⟩ = some c6 ∧ w.cell? ⟨b, o + 7, none⟩ = some c7 ∧ w.cell? ⟨b, o + 8, none⟩ = some c8 :=
  ⟨h 0 (by decide), h 1 (by decide), h 2 (by decide), h 3 (by decide), h 4 (by decide), h 5 (by decide), h 6 (by decide), h 7 (by decide), h 8 (by decide)⟩
theorem fold_full (d lv : Nat) (ks : List T) (l : List Step) (h : 601 ≤ l.length) : ks.foldl (walk d lv) l = l := by
  induction ks with
  | nil => rfl
  | cons k ks ih =>
    rw [List.foldl_cons]
    have : walk d lv l k = l := by cases d <;> (unfold walk; rw [if_pos h])
    rw [this, ih]
end Go.Proofs.YtjlmeegaiagfpaaGreatDoor.S7

namespace Go.Proofs.YtjlmeegaiagfpaaGreatDoor.S7
open Go.RowKit
open S5 (nl nl_length nl_small at_nl nl_at)
def NameChar (x : Nat) : Prop := (97 ≤ x ∧ x ≤ 122) ∨ (48 ≤ x ∧ x ≤ 57)
/-- A name is right. -/
def NameOk (l : List Nat) : Prop := 1 ≤ l.length ∧ l.length ≤ 12 ∧ (∀ c, l[0]? = some c → 97 ≤ c ∧ c ≤ 122) ∧ ∀ (j x : Nat), l[j]? = some x → NameChar x
end Go.Proofs.YtjlmeegaiagfpaaGreatDoor.S7
