/- The loop of PackWrites: its state in memory, and what a call of the writer and an append to the law's own row make of it. -/
import Derived.Test.YtdhejbmmdbjpoaaDoorW16
import Derived.Test.YtdhejbmmdbjpoaaDoorLE
namespace Go.Proofs.YtdhejbmmdbjpoaaDoor
open Go.RowKit
/-- An append to a row of one's own, at a step of a region that draws its order: with the place of the new row. -/
theorem step_append_src_at {P : Program} {w : World} {ops : Array Oper} {o : Oper} {a : Act} {K : Act → World → Prop} {Q : Exit → Act → World → Prop} {E : Prop} (hgd : o.guard = none) (s x : Operand) (t : TypeId)
    (ho : o.op = .call { callee := .builtin .append, args := #[s, x], argTypes := #[t, t] })
    (base : Nat) (e : TypeId) (i : TypeInfo) (z : Value) (size bytes : Nat) (ht : P.underlying t = some (.slice e)) (hi : P.info? e = some i) (hz : i.zero = some z)
    (hsize : i.size = size) (hby : i.bytes = bytes) (hzs : z.cells.size = size) (hsz : 0 < size)
    (v : Value) (n : Nat) (xs : List Value) (hs : a.eval s = v) (hown : w.ownsRow base e size v n xs)
    (ao : Option Addr) (m c : Nat) (news : List Value) (hx : a.eval x = .slice ao m c) (hl : news.length = m * size) (hnone : ao = none → m = 0 ∧ c = 0)
    (hnews : ∀ ad, ao = some ad → ∀ j u, news[j]? = some u → w.cell? (ad.add j) = some u) (h1 : ∀ u ∈ news, u.oneCell' = true)
    (h63 : n + m ≤ maxLen) (hbytes : (n + m) * bytes ≤ 140737488355328) (hbase : base ≤ w.heap.size)
    (h : ∀ v' w', w'.ownsRow base e size v' (n + m) (xs ++ news) → w.grownBy w' v.ownBlock → Nxt w v.ownBlock v'.ownBlock → K (a.put o.dst v') w') :
    if Region.wanted o (yielded ops a.tmps) = true then Oper.wp P o a w K Q else E := by
  rw [if_pos (by simp [Region.wanted, hgd])]
  cases ao with
  | some ad =>
    obtain ⟨v', w', hr, h2, h3, h4, h5⟩ := run_append_own_at (P := P) w base t o.type e i z size bytes ht hi hz hsize hby hzs hsz v n xs hown ad m c news hl (hnews ad rfl) h1 h63 hbytes hbase
    unfold Oper.wp
    simp [execOp, ho, resolve, invoke, builtin, hs, hx, hr, Result.andThen]
    exact h v' w' h2 h3 (by
      rcases h5 with h5 | h5
      · exact .inl h5
      · exact .inr ⟨_, h5, Nat.le_refl _⟩)
  | none =>
    obtain ⟨rfl, rfl⟩ := hnone rfl
    obtain rfl : news = [] := List.eq_nil_of_length_eq_zero (by simpa using hl)
    have hrun := run_append_owned_none (P := P) (w := w) base t o.type e i size ht hi v n xs hown
    unfold Oper.wp
    simp [execOp, ho, resolve, invoke, builtin, hs, hx, hrun, Result.andThen]
    exact h v w (by simpa using hown) (World.grownBy.refl w _) (.inl rfl)
theorem own_keep {w w' : World} {base size n : Nat} {e : TypeId} {v : Value} {xs : List Value} (h : w.ownsRow base e size v n xs) (hk : ∀ g, v.ownBlock = some g → g < w.heap.size → w'.heap[g]? = w.heap[g]?) : w'.ownsRow base e size v n xs := by
  refine ⟨h.1, ?_⟩
  rcases h.2 with h2 | ⟨g, cap, cur, rfl, h3, h4, h5⟩
  · exact .inl h2
  · exact .inr ⟨g, cap, cur, rfl, h3, (hk g rfl (lt_of_block h4)).trans h4, h5⟩
theorem Ou.keep {w w' : World} {b : Nat} {r : Option Nat} {l : List Nat} (h : Ou w b r l) (hk : ∀ g, g = b ∨ r = some g → g < w.heap.size → w'.heap[g]? = w.heap[g]?) : Ou w' b r l := by
  obtain ⟨v, hv, ho, hr⟩ := h.ex
  exact ⟨⟨v, (hk b (.inl rfl) (lt_of_block hv)).trans hv, own_keep ho fun g hg hl => hk g (.inr (hr ▸ hg)) hl, hr⟩, h.small⟩
theorem Wr.keep {w w' : World} {b : Nat} {r : Option Nat} {E : Value} {e : Bool} {l : List Nat} (h : Wr w b r E e l) (hk : ∀ g, g = b ∨ r = some g → g < w.heap.size → w'.heap[g]? = w.heap[g]?) : Wr w' b r E e l := by
  cases e
  · exact Ou.keep (show Ou w b r l from h) hk
  · have h' : Of w b (.iface 78 E) := h
    exact (hk b (.inl rfl) (lt_of_block h')).trans h'
theorem Wr.rlt {w : World} {b : Nat} {r : Option Nat} {E : Value} {l : List Nat} (h : Wr w b r E false l) : ∀ k, r = some k → k < w.heap.size := fun k hk => ((show Ou w b r l from h).rlt k hk).1

/-- The state of the loop: the writer, the law's own row; they lie apart, and above what lay. -/
structure Mid (w w2 : World) (bo : Nat) (E : Value) (e : Bool) (l' : List Nat) (vw : Value) (lw : List Nat) (r : Option Nat) : Prop where
  wr : Wr w2 bo r E e l'
  own : w2.ownsRow w.heap.size 5 1 vw lw.length (lw.map encN)
  sep : ∀ g, vw.ownBlock = some g → g ≠ bo ∧ some g ≠ r
  above : ∀ g, r = some g → w.heap.size ≤ g
  rlt : ∀ g, r = some g → g < w2.heap.size
  bel : Bel w w2
  bo : w.heap.size ≤ bo
section
variable {w w1 w2 : World} {bo : Nat} {E : Value} {e : Bool} {l' : List Nat} {vw : Value} {lw : List Nat} {r : Option Nat}
theorem Mid.next (h : Mid w w1 bo E e l' vw lw r) (hb : Bel w1 w2) : Mid w w2 bo E e l' vw lw r :=
  ⟨h.wr.bel hb, ownsRow_bel h.own hb, h.sep, h.above, fun g hg => Nat.lt_of_lt_of_le (h.rlt g hg) hb.size, h.bel.step hb, h.bo⟩
theorem Mid.write {e' : Bool} {l2 : List Nat} {en : Ending} (h : Mid w w1 bo E e l' vw lw r) (hw : Writes w1 bo r E e' l2 en w2) (hr2 : ∀ r2, Nxt w1 r r2 → Wr w2 bo r2 E e' l2 → ∀ g, r2 = some g → g < w2.heap.size) : ∃ r2, Mid w w2 bo E e' l2 vw lw r2 := by
  obtain ⟨-, r2, h1, h2, h3⟩ := hw
  have hlt : ∀ g, vw.ownBlock = some g → g < w1.heap.size := fun g hg => (h.own.lt g hg).2
  refine ⟨r2, h1, own_keep h.own fun g hg hl => h2.block g hl (h.sep g hg).1 (fun e => (h.sep g hg).2 (by rw [e])), fun g hg => ⟨(h.sep g hg).1, ?_⟩, fun g hg => ?_, hr2 r2 h3 h1, Apt.bel h.bel h2 h.bo h.above, h.bo⟩
  · rcases h3 with rfl | ⟨g2, rfl, hg2⟩
    · exact (h.sep g hg).2
    · have := hlt g hg
      intro e
      simp at e
      omega
  · rcases h3 with rfl | ⟨g2, rfl, hg2⟩
    · exact h.above g hg
    · cases hg
      exact Nat.le_trans h.bel.size hg2
/-- The row behind: of a failed writer it is of no account; it may be told as none. -/
theorem Mid.fails (h : Mid w w1 bo E e l' vw lw r) {l2 : List Nat} {en : Ending} (hw : Writes w1 bo r E true l2 en w2) : Mid w w2 bo E true l2 vw lw none := by
  obtain ⟨-, r2, h1, h2, h3⟩ := hw
  refine ⟨h1, own_keep h.own fun g hg hl => h2.block g hl (h.sep g hg).1 (fun e => (h.sep g hg).2 (by rw [e])), fun g hg => ⟨(h.sep g hg).1, by simp⟩, fun g hg => (by cases hg), fun g hg => (by cases hg), Apt.bel h.bel h2 h.bo h.above, h.bo⟩
theorem Mid.writes (h : Mid w w1 bo E e l' vw lw r) {l2 : List Nat} {en : Ending} (hw : Writes w1 bo r E false l2 en w2) : ∃ r2, Mid w w2 bo E false l2 vw lw r2 := h.write hw fun _ _ h1 => h1.rlt
/-- An append to the law's own row. -/
theorem Mid.append (h : Mid w w1 bo E e l' vw lw r) {v2 : Value} {ys : List Nat} {m : Nat} (hm : ys.length = m) (ho : w2.ownsRow w.heap.size 5 1 v2 (lw.length + m) (lw.map encN ++ ys.map encN)) (hg : w1.grownBy w2 vw.ownBlock) (hn : Nxt w1 vw.ownBlock v2.ownBlock) :
    Mid w w2 bo E e l' v2 (lw ++ ys) r := by
  subst hm
  have hbl := h.wr.lt
  refine ⟨h.wr.keep fun g hg2 hl => hg.block g hl ?_, by rw [List.length_append, List.map_append]; exact ho, fun g hg2 => ?_, h.above, fun g hg2 => Nat.lt_of_lt_of_le (h.rlt g hg2) hg.size, Below.grown h.bel hg h.bel.size (fun k hk => (h.own.lt k hk).1), h.bo⟩
  · intro e
    have h2 := h.sep g e.symm
    rcases hg2 with rfl | rfl
    · exact h2.1 rfl
    · exact h2.2 rfl
  · rcases hn with hn | ⟨g2, hn, hg3⟩
    · rw [hn] at hg2
      exact h.sep g hg2
    · rw [hn] at hg2
      obtain rfl : g2 = g := by simpa using hg2
      exact ⟨by omega, fun e => by have := h.rlt g2 e.symm; omega⟩
end
end Go.Proofs.YtdhejbmmdbjpoaaDoor
