/- The writer in memory: its object and its row; what a writing call leaves alone. put and fail. -/
import Derived.Test.YtdhejbmmdbjpoaaDoorM
import Derived.Test.YtdhejbmmdbjpoaaDoorLB
import Derived.Maps.AppendAt
namespace Go.Proofs.YtdhejbmmdbjpoaaDoor
open Go.RowKit
/-- All but block b and row r is as it was. -/
structure Apt (w w' : World) (b : Nat) (r : Option Nat) : Prop where
  os : w'.os = w.os
  tape : w'.tape = w.tape
  output : w'.output = w.output
  size : w.heap.size ≤ w'.heap.size
  block : ∀ k, k < w.heap.size → k ≠ b → some k ≠ r → w'.heap[k]? = w.heap[k]?
/-- The row behind: the same one, or a new block. -/
def Nxt (w : World) (r r' : Option Nat) : Prop := r' = r ∨ ∃ g, r' = some g ∧ w.heap.size ≤ g
theorem Apt.refl (w : World) (b : Nat) (r : Option Nat) : Apt w w b r := ⟨rfl, rfl, rfl, Nat.le_refl _, fun _ _ _ _ => rfl⟩
theorem Apt.of_bel {w w' : World} {b : Nat} {r : Option Nat} (h : Bel w w') : Apt w w' b r := ⟨h.os, h.tape, h.output, h.size, fun k hk _ _ => h.block k hk⟩
theorem Apt.trans {w w1 w2 : World} {b : Nat} {r r1 : Option Nat} (h : Apt w w1 b r) (hn : Nxt w r r1) (k : Apt w1 w2 b r1) : Apt w w2 b r :=
  ⟨k.os.trans h.os, k.tape.trans h.tape, k.output.trans h.output, Nat.le_trans h.size k.size, fun i hi hb hr => by
    refine (k.block i (Nat.lt_of_lt_of_le hi h.size) hb ?_).trans (h.block i hi hb hr)
    rcases hn with rfl | ⟨g, rfl, hg⟩
    · exact hr
    · intro e
      simp only [Option.some.injEq] at e
      omega⟩
theorem Nxt.trans {w w1 : World} {r r1 r2 : Option Nat} (hs : w.heap.size ≤ w1.heap.size) (h : Nxt w r r1) (k : Nxt w1 r1 r2) : Nxt w r r2 := by
  rcases k with rfl | ⟨g, rfl, hg⟩
  · exact h
  · exact .inr ⟨g, rfl, Nat.le_trans hs hg⟩
theorem Nxt.refl (w : World) (r : Option Nat) : Nxt w r r := .inl rfl
theorem Apt.drew {w w' : World} {b : Nat} {r : Option Nat} (h : Apt w w' b r) : Apt w w'.drew b r := ⟨h.os, h.tape, h.output, h.size, h.block⟩
theorem Apt.alloc {w w' : World} {b : Nat} {r : Option Nat} (h : Apt w w' b r) (o : Obj) : Apt w (w'.alloc o) b r :=
  ⟨h.os, h.tape, h.output, by have := h.size; simp; omega, fun k hk hb hr => (Below.heap_alloc _ _ _ (Nat.lt_of_lt_of_le hk h.size)).trans (h.block k hk hb hr)⟩
theorem Apt.setCell {w w' : World} {b : Nat} {r : Option Nat} (h : Apt w w' b r) (j : Nat) (u : Value) : Apt w (w'.setCell ⟨b, j, none⟩ u) b r :=
  ⟨h.os, h.tape, h.output, by simp [World.setCell]; exact h.size, fun k hk hb hr => (Below.heap_setCell _ _ _ _ hb).trans (h.block k hk hb hr)⟩
theorem Apt.grown {w w1 : World} {b : Nat} {r : Option Nat} (h : w.grownBy w1 r) : Apt w w1 b r := ⟨h.os, h.tape, h.output, h.size, fun k hk _ hr => h.block k hk hr⟩
/-- What lies apart from the writer lies as it lay. -/
theorem Apt.bel {w w' w0 : World} {b : Nat} {r : Option Nat} (h0 : Bel w0 w) (h : Apt w w' b r) (hb : w0.heap.size ≤ b) (hr : ∀ k, r = some k → w0.heap.size ≤ k) : Bel w0 w' :=
  ⟨h.os.trans h0.os, h.tape.trans h0.tape, h.output.trans h0.output, Nat.le_trans h0.size h.size, fun k hk => (h.block k (Nat.lt_of_lt_of_le hk h0.size) (by omega) (fun e => by have := hr k e.symm; omega)).trans (h0.block k hk)⟩

/-- A writer without an error: the object in block b, its row in block r, if it has one; l is written. -/
structure Ou (w : World) (b : Nat) (r : Option Nat) (l : List Nat) : Prop where
  ex : ∃ v, w.heap[b]? = some (.cells #[v, .nilIface] 30 (0, 0)) ∧ w.ownsRow 0 5 1 v l.length (l.map encN) ∧ v.ownBlock = r
  small : ∀ x ∈ l, x ≤ 255
/-- A writer that failed with the error E. -/
def Of (w : World) (b : Nat) (E : Value) : Prop := w.heap[b]? = some (.cells #[.slice none 0 0, E] 30 (0, 0))
theorem Ou.lt {w : World} {b : Nat} {r : Option Nat} {l : List Nat} (h : Ou w b r l) : b < w.heap.size := by
  obtain ⟨v, hv, _⟩ := h.ex
  exact lt_of_block hv
theorem Ou.rlt {w : World} {b : Nat} {r : Option Nat} {l : List Nat} (h : Ou w b r l) : ∀ k, r = some k → k < w.heap.size ∧ k ≠ b := by
  obtain ⟨v, hv, ho, hr⟩ := h.ex
  rintro k rfl
  refine ⟨(ho.lt k hr).2, ?_⟩
  rintro rfl
  rcases ho.2 with ⟨rfl, _⟩ | ⟨g, cap, cur, rfl, _, hg, _⟩
  · cases hr
  · obtain rfl : g = k := by simpa [Value.ownBlock] using hr
    have := hv.symm.trans hg
    simp at this
theorem Ou.bel {w w' : World} {b : Nat} {r : Option Nat} {l : List Nat} (h : Ou w b r l) (hb : Bel w w') : Ou w' b r l := by
  obtain ⟨v, hv, ho, hr⟩ := h.ex
  exact ⟨⟨v, (hb.block b (lt_of_block hv)).trans hv, ownsRow_bel ho hb, hr⟩, h.small⟩
theorem Of.bel {w w' : World} {b : Nat} {E : Value} (h : Of w b E) (hb : Bel w w') : Of w' b E := (hb.block b (lt_of_block h)).trans h
/-- A new writer. -/
theorem Ou.new (w : World) : Ou (w.alloc (.cells #[.slice none 0 0, .nilIface] 30 (0, 0))) w.heap.size none [] :=
  ⟨⟨.slice none 0 0, World.alloc_heap_new w _, World.ownsRow_nil _ _ _ _, rfl⟩, fun x hx => by cases hx⟩
/-- A slice that lies apart from block b lies as it lay behind what turned b's row, if it lies apart from that too: by cells that are given. -/
theorem at_zero {w : World} {b : Nat} {r : Option Nat} {l : List Nat} (h : Ou w b r l) : ∃ v, w.cell? ⟨b, 0, none⟩ = some v ∧ w.cell? ⟨b, 1, none⟩ = some .nilIface ∧ w.ownsRow 0 5 1 v l.length (l.map encN) ∧ v.ownBlock = r := by
  obtain ⟨v, hv, ho, hr⟩ := h.ex
  exact ⟨v, by rw [cell_of_row w b 0 _ _ _ hv]; rfl, by rw [cell_of_row w b 1 _ _ _ hv]; rfl, ho, hr⟩
theorem heap_set0 {w : World} {b : Nat} {v e u : Value} {t : TypeId} (h : w.heap[b]? = some (.cells #[v, e] t (0, 0))) : (w.setCell ⟨b, 0, none⟩ u).heap[b]? = some (.cells #[u, e] t (0, 0)) := by
  rw [heap_setCell_same w b 0 _ _ _ h]; rfl
theorem heap_set1 {w : World} {b : Nat} {v e u : Value} {t : TypeId} (h : w.heap[b]? = some (.cells #[v, e] t (0, 0))) : (w.setCell ⟨b, 1, none⟩ u).heap[b]? = some (.cells #[v, u] t (0, 0)) := by
  rw [heap_setCell_same w b 1 _ _ _ h]; rfl
theorem own_set {w : World} {b : Nat} {v u : Value} {j n : Nat} {xs : List Value} (h : w.ownsRow 0 5 1 v n xs) (hb : v.ownBlock ≠ some b) : (w.setCell ⟨b, j, none⟩ u).ownsRow 0 5 1 v n xs := by
  refine h.kept (row := some b) ⟨rfl, rfl, rfl, by simp [World.setCell], fun k hk hne => Below.heap_setCell _ _ _ _ (fun e => hne (by simp [e]))⟩ (.inr hb)

/-- Appended to a row of one's own, nil too: with the place of the new row. -/
theorem wpList_append_src_at {P : Program} (w : World) {ops : Array Oper} {rest : List Oper} {o : Oper} {a : Act} {Q : Exit → Act → World → Prop} (hgd : o.guard = none) (s x : Operand) (t : TypeId)
    (ho : o.op = .call { callee := .builtin .append, args := #[s, x], argTypes := #[t, t] })
    (base : Nat) (e : TypeId) (i : TypeInfo) (z : Value) (size bytes : Nat) (ht : P.underlying t = some (.slice e)) (hi : P.info? e = some i) (hz : i.zero = some z)
    (hsize : i.size = size) (hby : i.bytes = bytes) (hzs : z.cells.size = size) (hsz : 0 < size)
    (v : Value) (n : Nat) (xs : List Value) (hs : a.eval s = v) (hown : w.ownsRow base e size v n xs)
    (ao : Option Addr) (m c : Nat) (news : List Value) (hx : a.eval x = .slice ao m c) (hl : news.length = m * size) (hnone : ao = none → m = 0 ∧ c = 0)
    (hnews : ∀ ad, ao = some ad → ∀ j u, news[j]? = some u → w.cell? (ad.add j) = some u) (h1 : ∀ u ∈ news, u.oneCell' = true)
    (h63 : n + m ≤ maxLen) (hbytes : (n + m) * bytes ≤ 140737488355328) (hbase : base ≤ w.heap.size)
    (h : ∀ v' w', w'.ownsRow base e size v' (n + m) (xs ++ news) → w.grownBy w' v.ownBlock → Nxt w v.ownBlock v'.ownBlock → wpList P ops Q rest (a.put o.dst v') w') : wpList P ops Q (o :: rest) a w := by
  cases ao with
  | some ad => exact wpList_append_own_at w hgd s x t ho base e i z size bytes ht hi hz hsize hby hzs hsz v n xs hs hown ad m c news hx hl (hnews ad rfl) h1 h63 hbytes hbase fun v' w' h1 h2 _ h4 => h v' w' h1 h2 (by
      rcases h4 with h4 | h4
      · exact .inl h4
      · exact .inr ⟨_, h4, Nat.le_refl _⟩)
  | none =>
    obtain ⟨rfl, rfl⟩ := hnone rfl
    obtain rfl : news = [] := List.eq_nil_of_length_eq_zero (by simpa using hl)
    refine wpList_append_own_none hgd s x t ho base e i size ht hi v n xs hs hown hx (h v w (by simpa using hown) ?_ (.inl rfl))
    exact World.grownBy.refl w _

theorem put_failed {w : World} {b : Nat} {v E : Value} (h : w.heap[b]? = some (.cells #[v, .iface 78 E] 30 (0, 0))) (x : Value) :
    Calls Tryd.prog 23 #[.pointer (some ⟨b, 0, none⟩), x] w fun e w' => e = .returned (.tuple #[]) ∧ w = w' := by
  have h1 : w.cell? ⟨b, 1, none⟩ = some (.iface 78 E) := by rw [cell_of_row w b 1 _ _ _ h]; rfl
  go_enter Tryd.func23, Tryd.ntmps23
  go_wp2
  go_end0
  exact ⟨rfl, rfl⟩
theorem put_in {w : World} {b : Nat} {r : Option Nat} {l ys : List Nat} {a : Option Addr} {n c : Nat} (h : Ou w b r l) (hs : Src w a n c ys) (hm : l.length + n ≤ 1000000) :
    Calls Tryd.prog 23 #[.pointer (some ⟨b, 0, none⟩), .slice a n c] w fun e w' => e = .returned (.tuple #[]) ∧ ∃ r', Ou w' b r' (l ++ ys) ∧ Apt w w' b r ∧ Nxt w r r' := by
  obtain ⟨v, hv, ho, hr⟩ := h.ex
  obtain ⟨v', h0, h1, -, -⟩ := at_zero h
  obtain rfl : v' = v := by rw [cell_of_row w b 0 _ _ _ hv] at h0; simpa using h0.symm
  have hrb := h.rlt
  have hsm := h.small
  have hlt := h.lt
  obtain ⟨i0, hi, hz0, hz1, hz2⟩ := info_parts info5
  have hlen := hs.len
  have hone : ∀ u ∈ ys.map encN, u.oneCell' = true := by intro u hu; obtain ⟨x, _, rfl⟩ := List.mem_map.1 hu; rfl
  have hlc : (ys.map encN).length = n * 1 := by simp [hlen]
  have hb63 : l.length + n ≤ maxLen := by simp [maxLen]; omega
  go_enter Tryd.func23, Tryd.ntmps23
  subst hr
  have hstore : ∀ (v2 : Value) (w2 : World), w2.ownsRow 0 5 1 v2 (l.length + n) (l.map encN ++ ys.map encN) → w.grownBy w2 v'.ownBlock → Nxt w v'.ownBlock v2.ownBlock →
      ∃ p2 cap2, v2 = .slice p2 (l.length + n) cap2 ∧ w2.heap[b]? = some (.cells #[v', .nilIface] 30 (0, 0)) ∧ v2.ownBlock ≠ some b := by
    intro v2 w2 ho2 hg2 hn2
    obtain ⟨p2, cap2, e, -⟩ := row_form ho2
    refine ⟨p2, cap2, e, (hg2.block b hlt (fun e => by have := (hrb b e.symm).2; omega)).trans hv, ?_⟩
    rcases hn2 with hn2 | ⟨g, hn2, hg⟩
    · rw [hn2]; intro e; exact (hrb b e).2 rfl
    · rw [hn2]; intro e; simp at e; omega
  replace hstore := Lib.hid hstore
  go_wp2_with (at_builtin; refine wpList_append_src_at _ rfl _ _ 26 rfl 0 5 i0 (.int .u8 0) 1 1 Tryd.underlying26 hi hz0 hz1 hz2 rfl (by decide) v' l.length (l.map encN) rfl ho a n c (ys.map encN) rfl hlc hs.nil hs.cells hone hb63 (by omega) (Nat.zero_le _) ?_; intro v2 w2 ho2 hg2 hn2; obtain ⟨p2, cap2, rfl, hv2, hne2⟩ := hstore.out v2 w2 ho2 hg2 hn2; have hc2 : w2.cell? ⟨b, 0, none⟩ = some v' := (cell_of_row w2 b 0 _ _ _ hv2).trans rfl; have hf2 : w2.frozen? ⟨b, 0, none⟩ = false := frozen_of_row w2 b 0 _ _ hv2; replace hn2 := Lib.hid hn2; replace hne2 := Lib.hid hne2)
  go_end0
  refine ⟨rfl, Value.ownBlock (.slice p2 (l.length + n) cap2), ⟨⟨_, heap_set0 hv2, ?_, rfl⟩, ?_⟩, (Apt.grown hg2).setCell _ _, hn2.out⟩
  · rw [List.length_append, hlen, List.map_append]
    exact own_set ho2 hne2.out
  · intro x hx
    rcases List.mem_append.1 hx with hx | hx
    · exact hsm x hx
    · exact hs.small x hx
end Go.Proofs.YtdhejbmmdbjpoaaDoor
