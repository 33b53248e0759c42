/- Texts of earlier layers, merged: W43, W44, W45, W46, W47, W48. -/
import Derived.Test.YtjlmeegaiagfpaaDoorWH
import Derived.Deep.RegionLaw
import Derived.Deep.RegionHeld3
namespace Go.Proofs.YtjlmeegaiagfpaaDoor
open Go.RowKit
open Go.Tree7
open S7
open S5 (nl nl_length nl_small at_nl nl_at Gives idx idx_at ix ix_no ix_yes)
/-- A row of nodes, as a node's kids. -/
def rowN (p : Option Addr) (cap : Nat) (ks : List T) : T := .mk 2 0 0 0 0 p cap 0 0 ⟨#[]⟩ ks
theorem rowN_strip (p : Option Addr) (cap : Nat) (ks : List T) : (rowN p cap ks).strip = tC (ks.map T.strip) := by unfold rowN tC; rw [T.strip_mk]
/-- A slice of nodes whose row, and all below it, lies in the blocks of S. -/
def Ns (w : World) (S : Nat → Prop) (v : Value) (ks : List T) : Prop := (v = .slice none 0 0 ∧ ks = []) ∨ ∃ g cap, v = .slice (some ⟨g, 0, none⟩) ks.length cap ∧ S g ∧ T.InP w S (rowN (some ⟨g, 0, none⟩) cap ks)
/-- What gives back a node. -/
def GivesN (w : World) (S : Nat → Prop) (st : T) (e : Ending) (w' : World) : Prop :=
  ∃ m : T, e = .returned (.agg m.cells.toArray) ∧ Below w.heap.size w w' ∧ T.InP w' (fun b => S b ∨ (w.heap.size ≤ b ∧ b < w'.heap.size)) m ∧ m.strip = st
theorem add_at (g j : Nat) : (⟨g, 0, none⟩ : Addr).add j = ⟨g, j, none⟩ := by unfold Addr.add; split <;> simp_all
theorem row_news {w : World} {S : Nat → Prop} {g cap : Nat} {ks : List T} (h : T.InP w S (rowN (some ⟨g, 0, none⟩) cap ks)) : ∀ (j : Nat) (u : Value), (ks.flatMap T.cells)[j]? = some u → w.cell? ((⟨g, 0, none⟩ : Addr).add j) = some u := by
  intro j u hj
  have hlt := (List.getElem?_eq_some_iff.1 hj).1
  rw [cells_len9] at hlt
  have hi : j / 9 < ks.length := by omega
  have e : j = j / 9 * 9 + j % 9 := by omega
  unfold rowN at h
  cases h with
  | mk h1 h2 h3 h4 h5 =>
    obtain ⟨a, ea, hSa, hc⟩ := h4 (j / 9) hi
    cases ea
    have h6 := hc (j % 9) (by omega)
    rw [e, flat9 ks (j / 9) (j % 9) hi (by omega)] at hj
    rw [← e] at h6
    rw [h6]
    exact hj
theorem row_ones {ks : List T} : ∀ u ∈ ks.flatMap T.cells, u.oneCell' = true := fun u hu => by
  obtain ⟨t, -, h⟩ := List.mem_flatMap.1 hu
  exact cells_one' t u h
/-- A tree whose kids lie in a row of one's own. -/
theorem inP_row {w : World} {b0 : Nat} {tp : TypeId} {S : Nat → Prop} {k u0 u1 u2 u3 : Int} {p : Option Addr} {cap : Nat} {mn mx : Int} {tx : ByteArray} {ms : List T} {n : Nat} (hn : ms.length = n) (hf : fits k u0 u1 u2 u3 mn mx tx) (h : w.ownsRow b0 tp 9 (.slice p n cap) n (ms.flatMap T.cells)) (hk : ∀ t ∈ ms, T.InP w S t) (hb : ∀ b, b0 ≤ b → b < w.heap.size → S b) :
    T.InP w S (.mk k u0 u1 u2 u3 p cap mn mx tx ms) := by
  subst hn
  obtain ⟨p', cap', hv, hcap, hnil, hc⟩ := row_form h
  have hmax : cap ≤ maxLen := by
    rcases h.2 with ⟨e, -⟩ | ⟨g, cap', cur, e, -, -, -, hm, -⟩
    · simp only [Value.slice.injEq] at e; rw [e.2.2]; exact Nat.zero_le _
    · simp only [Value.slice.injEq] at e; rw [e.2.2]; exact hm
  simp only [Value.slice.injEq, true_and] at hv
  obtain ⟨rfl, rfl⟩ := hv
  refine .mk hcap hmax hf (fun i hi => ?_) hk
  obtain ⟨g, rfl, h1, h2, hcell⟩ := hc (by omega)
  refine ⟨⟨g, 0, none⟩, rfl, hb g h1 h2, fun j hj => ?_⟩
  rw [add_at, hcell _ (by omega), flat9 ms i j hi hj]
theorem own_new (w : World) (tp : TypeId) (b0 : Nat) (hb : b0 ≤ w.heap.size) : (w.alloc (.cells #[] tp)).ownsRow b0 tp 9 (.slice (some ⟨w.heap.size, 0, none⟩) 0 0) 0 [] :=
  ⟨rfl, .inr ⟨_, 0, #[], rfl, hb, World.alloc_heap_new _ _, Nat.le_refl _, Nat.zero_le _, rfl, rfl⟩⟩
set_option maxRecDepth 10000 in
set_option maxHeartbeats 4000000 in
theorem rcat_in {S : Nat → Prop} {w : World} {v : Value} {ks : List T} (hL : Ns w S v ks) (hS : ∀ b, S b → b < w.heap.size) (hn : ks.length ≤ 800) :
    Calls Tryd.prog 24 #[v] w (GivesN w S (catT (ks.map T.strip))) := by
  obtain ⟨i0, hi, hz0, hz1, hz2⟩ := info_parts infoRN
  replace hi := Lib.hid hi
  replace hz0 := Lib.hid hz0
  replace hz1 := Lib.hid hz1
  replace hz2 := Lib.hid hz2
  have hbox : Hid (((w.alloc (.cells #[.int .i64 0, .int .u64 0, .int .u64 0, .int .u64 0, .int .u64 0, .slice none 0 0, .int .i64 0, .int .i64 0, .string ⟨#[]⟩] 35)).alloc (.cells #[] 35)).heap[w.heap.size]? = some (.cells #[.int .i64 0, .int .u64 0, .int .u64 0, .int .u64 0, .int .u64 0, .slice none 0 0, .int .i64 0, .int .i64 0, .string ⟨#[]⟩] 35 (0, 0))) := Lib.hid (kept_alloc (World.alloc_heap_new w _) _)
  have hbA : Hid (Bel w ((w.alloc (.cells #[.int .i64 0, .int .u64 0, .int .u64 0, .int .u64 0, .int .u64 0, .slice none 0 0, .int .i64 0, .int .i64 0, .string ⟨#[]⟩] 35)).alloc (.cells #[] 35))) := Lib.hid (Bel.alloc (Bel.new w _) _)
  have hown := own_new (w.alloc (.cells #[.int .i64 0, .int .u64 0, .int .u64 0, .int .u64 0, .int .u64 0, .slice none 0 0, .int .i64 0, .int .i64 0, .string ⟨#[]⟩] 35)) 35 (w.heap.size + 1) (by simp)
  rw [World.size_alloc] at hown
  replace hown := Lib.hid hown
  have hG : ∃ G, G = GivesN w S (catT (ks.map T.strip)) := ⟨_, rfl⟩
  obtain ⟨G, hG⟩ := hG
  rw [← hG]
  replace hG := Lib.hid hG
  rcases hL with ⟨rfl, rfl⟩ | ⟨g, cap, rfl, hSg, hR⟩
  · clear hi hz0 hz1 hz2
    obtain ⟨i0, hi, -⟩ := info_parts infoRN
    go_enter Tryd.func24, Tryd.ntmps24
    go_wp2_with (at_builtin; refine wpList_append_own_none rfl _ _ 33 rfl (w.heap.size + 1) 35 i0 9 Tryd.underlying33 hi _ _ _ rfl hown.out rfl ?_)
    refine bodyPost_ret (v := .agg #[.int .i64 2, .int .u64 0, .int .u64 0, .int .u64 0, .int .u64 0, .slice (some ⟨w.heap.size + 1, 0, none⟩) 0 0, .int .i64 0, .int .i64 0, .string ⟨#[]⟩]) (by simp [results, Tryd.results24, go_sem]) rfl ?_
    rw [hG.out]
    refine ⟨rowN (some ⟨w.heap.size + 1, 0, none⟩) 0 [], rfl, Bel.alloc (Bel.new w _) _, ?_, rowN_strip _ _ _⟩
    exact .mk (Nat.le_refl _) (Nat.zero_le _) (by constructor <;> decide) (fun i hi => by simp at hi) (fun t ht => by simp at ht)
  · have hnews := row_news hR
    have hlen : ks.length ≤ cap ∧ cap ≤ maxLen := by unfold rowN at hR; cases hR with | mk h1 h2 => exact ⟨h1, h2⟩
    have hkids : ∀ t ∈ ks, T.InP w S t := by unfold rowN at hR; cases hR with | mk h1 h2 h3 h4 h5 => exact h5
    have hlc := hlen.1
    have hcap : cap ≤ 9223372036854775807 := by have := hlen.2; unfold maxLen at this; omega
    have hgl := hS g hSg
    by_cases hl : ks.length = 1
    · obtain ⟨x, rfl⟩ := List.length_eq_one_iff.1 hl
      have hcl : ∀ q, q < 9 → w.cell? ⟨g, q, none⟩ = (x.cells)[q]? := fun q hq => by
        have h9 : (([x] : List T).flatMap T.cells)[q]? = (x.cells)[q]? := by simp
        cases hx : (x.cells)[q]? with
        | none => rw [List.getElem?_eq_none_iff, T.cells_length] at hx; omega
        | some u => have := hnews q u (h9.trans hx); rwa [add_at] at this
      have hxi := Lib.hid (hkids x (by simp))
      clear hi hz0 hz1 hz2 hnews hown hkids hR hl
      obtain ⟨k, u0, u1, u2, u3, q, xc, mn, mx, tx, xs⟩ := x
      simp only [T.cells] at hcl
      obtain ⟨c0, c1, c2, c3, c4, c5, c6, c7, c8⟩ := nine_of0 hcl
      clear hcl
      go_enter Tryd.func24, Tryd.ntmps24
      go_wp2
      refine bodyPost_ret (v := .agg #[.int .i64 k, .int .u64 u0, .int .u64 u1, .int .u64 u2, .int .u64 u3, .slice q xs.length xc, .int .i64 mn, .int .i64 mx, .string tx]) (by simp [results, Tryd.results24, go_sem]) rfl ?_
      rw [hG.out]
      exact ⟨.mk k u0 u1 u2 u3 q xc mn mx tx xs, rfl, Bel.new w _, (hxi.out.keep fun b hb => Below.heap_alloc _ _ _ (hS b hb)).imp fun b hb => .inl hb, rfl⟩
    · have g1 : ((ks.length : Int) == 1) = false := by rw [beq_eq_false_iff_ne]; omega
      have g2 : ks.length ≠ 1 := hl
      have hwA : ∀ b, b < w.heap.size → ((w.alloc (.cells #[.int .i64 0, .int .u64 0, .int .u64 0, .int .u64 0, .int .u64 0, .slice none 0 0, .int .i64 0, .int .i64 0, .string ⟨#[]⟩] 35)).alloc (.cells #[] 35)).heap[b]? = w.heap[b]? := fun b hb => hbA.out.block b hb
      replace hnews : Hid (∀ (j : Nat) (u : Value), (ks.flatMap T.cells)[j]? = some u → ((w.alloc (.cells #[.int .i64 0, .int .u64 0, .int .u64 0, .int .u64 0, .int .u64 0, .slice none 0 0, .int .i64 0, .int .i64 0, .string ⟨#[]⟩] 35)).alloc (.cells #[] 35)).cell? ((⟨g, 0, none⟩ : Addr).add j) = some u) := Lib.hid fun j u h => by
        rw [← hnews j u h]
        refine World.cell?_of_block ?_
        rw [add_at]
        exact hwA g hgl
      have hone := Lib.hid (row_ones (ks := ks))
      have hstr : Hid (catT (ks.map T.strip) = tC (ks.map T.strip)) := Lib.hid (by
        unfold catT
        split
        · rename_i y e
          have := congrArg List.length e
          simp at this
          omega
        · rfl)
      replace hkids := Lib.hid hkids
      clear hR hl hwA
      go_enter Tryd.func24, Tryd.ntmps24
      go_wp2_with (at_builtin; (refine wpList_append_own_at _ rfl _ _ 33 rfl (w.heap.size + 1) 35 i0 (.agg #[.int .i64 0, .int .u64 0, .int .u64 0, .int .u64 0, .int .u64 0, .slice none 0 0, .int .i64 0, .int .i64 0, .string ⟨#[]⟩]) 9 96 Tryd.underlying33 hi.out hz0.out hz1.out hz2.out rfl (by decide) _ _ _ rfl hown.out ⟨g, 0, none⟩ ks.length cap (ks.flatMap T.cells) rfl (cells_len9 ks) hnews.out hone.out (by simp [maxLen]; omega) (by omega) (by simp) ?_; intro v' w9 hown' hgrow hnil hat; clear hnil; rw [Nat.zero_add, List.nil_append] at hown'; obtain ⟨p2, c2, rfl, -⟩ := row_form hown'; have h0 := Lib.hid ((hgrow.block w.heap.size (by simp; omega) (fun e => by have := Option.some.inj e; simp at this)).trans hbox.out); have hk := cells_of h0.out; obtain ⟨y0, f0⟩ := hk 0 _ rfl; obtain ⟨y1, f1⟩ := hk 1 _ rfl; obtain ⟨y2, f2⟩ := hk 2 _ rfl; obtain ⟨y3, f3⟩ := hk 3 _ rfl; obtain ⟨y4, f4⟩ := hk 4 _ rfl; obtain ⟨y5, f5⟩ := hk 5 _ rfl; obtain ⟨y6, f6⟩ := hk 6 _ rfl; obtain ⟨y7, f7⟩ := hk 7 _ rfl; obtain ⟨y8, f8⟩ := hk 8 _ rfl; clear hk))
      obtain ⟨q1, q2, q3, q4⟩ := set9 (b := w.heap.size) (d0 := .int .i64 2) (d1 := .int .u64 0) (d2 := .int .u64 0) (d3 := .int .u64 0) (d4 := .int .u64 0) (d5 := .slice p2 ks.length c2) (d6 := .int .i64 0) (d7 := .int .i64 0) (d8 := .string ⟨#[]⟩) h0.out _ rfl
      generalize hW : World.setCell _ (⟨w.heap.size, 8, none⟩ : Addr) _ = W9 at *
      clear hW
      have hk9 := cells_of q1
      obtain ⟨z0, -⟩ := hk9 0 _ rfl
      obtain ⟨z1, -⟩ := hk9 1 _ rfl
      obtain ⟨z2, -⟩ := hk9 2 _ rfl
      obtain ⟨z3, -⟩ := hk9 3 _ rfl
      obtain ⟨z4, -⟩ := hk9 4 _ rfl
      obtain ⟨z5, -⟩ := hk9 5 _ rfl
      obtain ⟨z6, -⟩ := hk9 6 _ rfl
      obtain ⟨z7, -⟩ := hk9 7 _ rfl
      obtain ⟨z8, -⟩ := hk9 8 _ rfl
      clear hk9
      refine bodyPost_ret (v := .agg #[.int .i64 2, .int .u64 0, .int .u64 0, .int .u64 0, .int .u64 0, .slice p2 ks.length c2, .int .i64 0, .int .i64 0, .string ⟨#[]⟩]) (by simp [results, Tryd.results24, go_sem, z0, z1, z2, z3, z4, z5, z6, z7, z8]) rfl ?_
      rw [hG.out, hstr.out]
      have hlt9 := hgrow.size
      have hb9 : Below w.heap.size w w9 := Below.grown hbA.out hgrow (by simp; omega) (fun k e => by have h9 : w.heap.size + 1 = k := Option.some.inj e; omega)
      have hX : ∀ b, b ≠ w.heap.size → W9.heap[b]? = w9.heap[b]? := fun b hb => q3 b hb
      refine ⟨rowN p2 c2 ks, rfl, hb9.trans (q4 _ (Nat.le_refl _)), ?_, rowN_strip _ _ _⟩
      refine inP_row rfl (by constructor <;> decide) (own_keep2 hown' fun b hb hbl => hX b (by have := (hown'.lt b hb).1; omega)) (fun t ht => ?_) (fun b h1 h2 => .inr ⟨by omega, h2⟩)
      exact ((hkids.out t ht).keep fun b hb => (hX b (by have := hS b hb; omega)).trans (hb9.block b (hS b hb))).imp fun b hb => .inl hb
end Go.Proofs.YtjlmeegaiagfpaaDoor

namespace Go.Proofs.YtjlmeegaiagfpaaDoor
open Go.RowKit
open Go.Tree7
open S7
open S5 (nl nl_length nl_small at_nl nl_at Gives idx idx_at ix ix_no ix_yes)
theorem Ns.keep {w w' : World} {S : Nat → Prop} {v : Value} {ks : List T} (h : Ns w S v ks) (hk : ∀ b, S b → w'.heap[b]? = w.heap[b]?) : Ns w' S v ks := by
  rcases h with h | ⟨g, cap, e, hg, h⟩
  · exact .inl h
  · exact .inr ⟨g, cap, e, hg, h.keep hk⟩
theorem Ns.imp {w : World} {S S' : Nat → Prop} {v : Value} {ks : List T} (h : Ns w S v ks) (hk : ∀ b, S b → S' b) : Ns w S' v ks := by
  rcases h with h | ⟨g, cap, e, hg, h⟩
  · exact .inl h
  · exact .inr ⟨g, cap, e, hk g hg, h.imp hk⟩
theorem Ns.form {w : World} {S : Nat → Prop} {v : Value} {ks : List T} (h : Ns w S v ks) : ∃ p cap, v = .slice p ks.length cap ∧ cap ≤ 9223372036854775807 ∧ ks.length ≤ cap := by
  rcases h with ⟨rfl, rfl⟩ | ⟨g, cap, e, hg, h⟩
  · exact ⟨none, 0, rfl, by omega, Nat.le_refl _⟩
  · unfold rowN at h
    cases h with
    | mk h1 h2 => exact ⟨_, cap, e, by unfold maxLen at h2; omega, h1⟩
theorem at_new2 (w : World) (A B : Obj) : ((w.alloc A).alloc B).heap[w.heap.size + 1]? = some B := by
  have := World.alloc_heap_new (w.alloc A) B
  rwa [World.size_alloc] at this
theorem at_new3 (w : World) (A B C : Obj) : (((w.alloc A).alloc B).alloc C).heap[w.heap.size + 1 + 1]? = some C := by
  have := at_new2 (w.alloc A) B C
  rwa [World.size_alloc] at this
theorem at_mid3 (w : World) (A B C : Obj) : (((w.alloc A).alloc B).alloc C).heap[w.heap.size + 1]? = some B := kept_alloc (at_new2 w A B) C
theorem box_news {W : World} {b : Nat} {cs : List Value} {tp : TypeId} (h : W.heap[b]? = some (.cells cs.toArray tp (0, 0))) : ∀ (j : Nat) (u : Value), cs[j]? = some u → W.cell? ((⟨b, 0, none⟩ : Addr).add j) = some u := fun j u hj => by
  rw [add_at]
  exact (cells_of h j u (by simpa using hj)).1
theorem own_mt {W : World} {b0 g : Nat} {tp : TypeId} (h : W.heap[g]? = some (.cells #[] tp (0, 0))) (hb : b0 ≤ g) : W.ownsRow b0 tp 9 (.slice (some ⟨g, 0, none⟩) 0 0) 0 [] :=
  ⟨rfl, .inr ⟨g, 0, #[], rfl, hb, h, Nat.le_refl _, Nat.zero_le _, rfl, rfl⟩⟩
set_option maxRecDepth 10000 in
set_option maxHeartbeats 8000000 in
theorem rclosed_in {S : Nat → Prop} {w : World} {bv pv : Value} {bs ps : List T} (hB : Ns w S bv bs) (hP : Ns w S pv ps) (hS : ∀ b, S b → b < w.heap.size) (hn : ps.length ≤ 800) (hn2 : bs.length ≤ 800) :
    Calls Tryd.prog 25 #[.agg #[bv, pv]] w (GivesN w S (closedT (bs.map T.strip, ps.map T.strip))) := by
  obtain ⟨i0, hi, hz0, hz1, hz2⟩ := info_parts infoRN
  replace hi := Lib.hid hi
  replace hz0 := Lib.hid hz0
  replace hz1 := Lib.hid hz1
  replace hz2 := Lib.hid hz2
  have hA : Bel w ((w.alloc (.cells #[bv, pv] 58)).alloc (.cells #[.int .i64 0, .int .u64 0, .int .u64 0, .int .u64 0, .int .u64 0, .slice none 0 0, .int .i64 0, .int .i64 0, .string ⟨#[]⟩] 35)) := Bel.alloc (Bel.new w _) _
  have C := Lib.hid (rcat_in (S := S) (w := ((w.alloc (.cells #[bv, pv] 58)).alloc (.cells #[.int .i64 0, .int .u64 0, .int .u64 0, .int .u64 0, .int .u64 0, .slice none 0 0, .int .i64 0, .int .i64 0, .string ⟨#[]⟩] 35))) (hP.keep fun b hb => hA.block b (hS b hb)) (fun b hb => Nat.lt_of_lt_of_le (hS b hb) hA.size) hn)
  have hx0 := Lib.hid (kept_alloc (World.alloc_heap_new w (.cells #[bv, pv] 58)) (.cells #[.int .i64 0, .int .u64 0, .int .u64 0, .int .u64 0, .int .u64 0, .slice none 0 0, .int .i64 0, .int .i64 0, .string ⟨#[]⟩] 35))
  have hx1 := World.alloc_heap_new (w.alloc (.cells #[bv, pv] 58)) (.cells #[.int .i64 0, .int .u64 0, .int .u64 0, .int .u64 0, .int .u64 0, .slice none 0 0, .int .i64 0, .int .i64 0, .string ⟨#[]⟩] 35)
  rw [World.size_alloc] at hx1
  replace hx1 := Lib.hid hx1
  replace hA := Lib.hid hA
  have hG : ∃ G, G = GivesN w S (closedT (bs.map T.strip, ps.map T.strip)) := ⟨_, rfl⟩
  obtain ⟨G, hG⟩ := hG
  rw [← hG]
  replace hG := Lib.hid hG
  by_cases hb : bs = []
  · subst hb
    obtain ⟨p, cap, rfl, hcap, -⟩ := hB.form
    obtain ⟨p', cap', rfl, hcap', hlc'⟩ := hP.form
    clear hi hz0 hz1 hz2 hB hP
    simp only [List.length_nil] at *
    go_enter Tryd.func25, Tryd.ntmps25
    go_wp2_with (go_at_call 24; (with_reducible refine C.out.mono ?_); rintro e w1 ⟨⟨k, u0, u1, u2, u3, q, xc, mn, mx, tx, xs⟩, rfl, hb1, hm1, hs1⟩; simp only [T.cells]; have hB1 := Lib.hid (Bel.step hA.out hb1); have h0 := Lib.hid (kept_row hx0.out hb1); have h1 := Lib.hid (kept_row hx1.out hb1); have l1 : w.heap.size + 1 < w1.heap.size := (Array.getElem?_eq_some_iff.1 h1.out).1; have l0 : w.heap.size < w1.heap.size := (by omega); have c0 := (cells_of h0.out 0 _ rfl).1; have c1 := (cells_of h0.out 1 _ rfl).1; have hk := cells_of h1.out; obtain ⟨y0, f0⟩ := hk 0 _ rfl; obtain ⟨y1, f1⟩ := hk 1 _ rfl; obtain ⟨y2, f2⟩ := hk 2 _ rfl; obtain ⟨y3, f3⟩ := hk 3 _ rfl; obtain ⟨y4, f4⟩ := hk 4 _ rfl; obtain ⟨y5, f5⟩ := hk 5 _ rfl; obtain ⟨y6, f6⟩ := hk 6 _ rfl; obtain ⟨y7, f7⟩ := hk 7 _ rfl; obtain ⟨y8, f8⟩ := hk 8 _ rfl; clear hk; replace hm1 := Lib.hid hm1; replace hs1 := Lib.hid hs1; clear hb1)
    obtain ⟨q1, q2, q3, q4⟩ := set9 (b := w.heap.size + 1) (d0 := .int .i64 k) (d1 := .int .u64 u0) (d2 := .int .u64 u1) (d3 := .int .u64 u2) (d4 := .int .u64 u3) (d5 := .slice q xs.length xc) (d6 := .int .i64 mn) (d7 := .int .i64 mx) (d8 := .string tx) h1.out _ rfl
    generalize hW : World.setCell _ (⟨w.heap.size + 1, 8, none⟩ : Addr) _ = W9 at *
    clear hW
    have q5 := kept_alloc q1 (.cells #[.int .i64 k, .int .u64 u0, .int .u64 u1, .int .u64 u2, .int .u64 u3, .slice q xs.length xc, .int .i64 mn, .int .i64 mx, .string tx] 35)
    have hk9 := cells_of q5
    obtain ⟨z0, -⟩ := hk9 0 _ rfl
    obtain ⟨z1, -⟩ := hk9 1 _ rfl
    obtain ⟨z2, -⟩ := hk9 2 _ rfl
    obtain ⟨z3, -⟩ := hk9 3 _ rfl
    obtain ⟨z4, -⟩ := hk9 4 _ rfl
    obtain ⟨z5, -⟩ := hk9 5 _ rfl
    obtain ⟨z6, -⟩ := hk9 6 _ rfl
    obtain ⟨z7, -⟩ := hk9 7 _ rfl
    obtain ⟨z8, -⟩ := hk9 8 _ rfl
    clear hk9
    refine bodyPost_ret (v := .agg #[.int .i64 k, .int .u64 u0, .int .u64 u1, .int .u64 u2, .int .u64 u3, .slice q xs.length xc, .int .i64 mn, .int .i64 mx, .string tx]) (by simp [results, Tryd.results25, go_sem, z0, z1, z2, z3, z4, z5, z6, z7, z8]) rfl ?_
    rw [hG.out]
    have hsA : ((w.alloc (.cells #[(Value.slice p 0 cap), (Value.slice p' ps.length cap')] 58)).alloc (.cells #[.int .i64 0, .int .u64 0, .int .u64 0, .int .u64 0, .int .u64 0, .slice none 0 0, .int .i64 0, .int .i64 0, .string ⟨#[]⟩] 35)).heap.size = w.heap.size + 2 := by simp
    refine ⟨.mk k u0 u1 u2 u3 q xc mn mx tx xs, rfl, (hB1.out.trans (q4 _ (by omega))).alloc (by rw [q2]; omega) _, ((hm1.out.keep fun b hb => ?_).imp fun b hb => ?_), ?_⟩
    · have hbl : b < w1.heap.size ∧ b ≠ w.heap.size + 1 := by
        rcases hb with hb | hb
        · have := hS b hb; omega
        · rw [hsA] at hb; omega
      exact (Below.heap_alloc _ _ _ (by rw [q2]; exact hbl.1)).trans (q3 b hbl.2)
    · rcases hb with hb | hb
      · exact .inl hb
      · rw [hsA] at hb
        exact .inr ⟨by omega, by rw [World.size_alloc, q2]; omega⟩
    · rw [hs1.out]; rfl
  · rcases hB with ⟨-, e⟩ | ⟨g, cap, rfl, hSg, hR⟩
    · exact absurd e hb
    obtain ⟨p', cap', rfl, hcap', hlc'⟩ := hP.form
    have hb0 : bs.length ≠ 0 := fun e => hb (List.eq_nil_of_length_eq_zero e)
    have g1 : ((bs.length : Int) == 0) = false := by rw [beq_eq_false_iff_ne]; omega
    have hgl := hS g hSg
    have hnewsW : Hid (∀ W : World, Bel w W → ∀ (j : Nat) (u : Value), (bs.flatMap T.cells)[j]? = some u → W.cell? ((⟨g, 0, none⟩ : Addr).add j) = some u) := Lib.hid fun W hW j u h => by
      rw [← row_news hR j u h]
      refine World.cell?_of_block ?_
      rw [add_at]
      exact hW.block g hgl
    have hlen : bs.length ≤ cap ∧ cap ≤ maxLen := by unfold rowN at hR; cases hR with | mk h1 h2 => exact ⟨h1, h2⟩
    have hlc := hlen.1
    have hcap : cap ≤ 9223372036854775807 := by have := hlen.2; unfold maxLen at this; omega
    have hkids : Hid (∀ t ∈ bs, T.InP w S t) := Lib.hid (by unfold rowN at hR; cases hR with | mk h1 h2 h3 h4 h5 => exact h5)
    have hone := Lib.hid (row_ones (ks := bs))
    clear hP hR hlen
    go_enter Tryd.func25, Tryd.ntmps25
    go_wp2_with (go_at_call 24; (with_reducible refine C.out.mono ?_); rintro e w1 ⟨⟨k, u0, u1, u2, u3, q, xc, mn, mx, tx, xs⟩, rfl, hb1, hm1, hs1⟩; simp only [T.cells]; have hB1 := Lib.hid (Bel.step hA.out hb1); have h0 := Lib.hid (kept_row hx0.out hb1); have h1 := Lib.hid (kept_row hx1.out hb1); have l1 : w.heap.size + 1 < w1.heap.size := (Array.getElem?_eq_some_iff.1 h1.out).1; have l0 : w.heap.size < w1.heap.size := (by omega); have c0 := (cells_of h0.out 0 _ rfl).1; have c1 := (cells_of h0.out 1 _ rfl).1; have hk := cells_of h1.out; obtain ⟨y0, f0⟩ := hk 0 _ rfl; obtain ⟨y1, f1⟩ := hk 1 _ rfl; obtain ⟨y2, f2⟩ := hk 2 _ rfl; obtain ⟨y3, f3⟩ := hk 3 _ rfl; obtain ⟨y4, f4⟩ := hk 4 _ rfl; obtain ⟨y5, f5⟩ := hk 5 _ rfl; obtain ⟨y6, f6⟩ := hk 6 _ rfl; obtain ⟨y7, f7⟩ := hk 7 _ rfl; obtain ⟨y8, f8⟩ := hk 8 _ rfl; clear hk; replace hm1 := Lib.hid hm1; replace hs1 := Lib.hid hs1; clear hb1)
    have hq1 := Lib.hid (show Bel w1 (w1.alloc (.cells #[.int .i64 k, .int .u64 u0, .int .u64 u1, .int .u64 u2, .int .u64 u3, .slice q xs.length xc, .int .i64 mn, .int .i64 mx, .string tx] 35)).drew from Bel.drew (Bel.new w1 _))
    have h0q := Lib.hid (show (w1.alloc (.cells #[.int .i64 k, .int .u64 u0, .int .u64 u1, .int .u64 u2, .int .u64 u3, .slice q xs.length xc, .int .i64 mn, .int .i64 mx, .string tx] 35)).drew.heap[w.heap.size]? = _ from kept_alloc h0.out _)
    have h1q := Lib.hid (show (w1.alloc (.cells #[.int .i64 k, .int .u64 u0, .int .u64 u1, .int .u64 u2, .int .u64 u3, .slice q xs.length xc, .int .i64 mn, .int .i64 mx, .string tx] 35)).drew.heap[w.heap.size + 1]? = _ from kept_alloc h1.out _)
    have hMq := Lib.hid (show (w1.alloc (.cells #[.int .i64 k, .int .u64 u0, .int .u64 u1, .int .u64 u2, .int .u64 u3, .slice q xs.length xc, .int .i64 mn, .int .i64 mx, .string tx] 35)).drew.heap[w1.heap.size]? = some (.cells #[.int .i64 k, .int .u64 u0, .int .u64 u1, .int .u64 u2, .int .u64 u3, .slice q xs.length xc, .int .i64 mn, .int .i64 mx, .string tx] 35 (0, 0)) from World.alloc_heap_new w1 _)
    have hqz : w1.heap.size < (w1.alloc (.cells #[.int .i64 k, .int .u64 u0, .int .u64 u1, .int .u64 u2, .int .u64 u3, .slice q xs.length xc, .int .i64 mn, .int .i64 mx, .string tx] 35)).drew.heap.size := by show _ < (w1.alloc (.cells #[.int .i64 k, .int .u64 u0, .int .u64 u1, .int .u64 u2, .int .u64 u3, .slice q xs.length xc, .int .i64 mn, .int .i64 mx, .string tx] 35)).heap.size; simp
    clear y0 f0 y1 f1 y2 f2 y3 f3 y4 f4 y5 f5 y6 f6 y7 f7 y8 f8
    have hsA : ((w.alloc (.cells #[(Value.slice (some ⟨g, 0, none⟩) bs.length cap), (Value.slice p' ps.length cap')] 58)).alloc (.cells #[.int .i64 0, .int .u64 0, .int .u64 0, .int .u64 0, .int .u64 0, .slice none 0 0, .int .i64 0, .int .i64 0, .string ⟨#[]⟩] 35)).heap.size = w.heap.size + 2 := by simp
    refine wp_region_held_drew (S := fun W => W.heap[w.heap.size]? = some (.cells #[Value.slice (some ⟨g, 0, none⟩) bs.length cap, Value.slice p' ps.length cap'] 58 (0, 0)) ∧ W.heap[w1.heap.size]? = some (.cells #[.int .i64 k, .int .u64 u0, .int .u64 u1, .int .u64 u2, .int .u64 u3, .slice q xs.length xc, .int .i64 mn, .int .i64 mx, .string tx] 35 (0, 0))) (by kernel_rfl) (⟨h0q.out, hMq.out⟩) (fun hHeld => ?_)
    generalize (w1.alloc (.cells #[.int .i64 k, .int .u64 u0, .int .u64 u1, .int .u64 u2, .int .u64 u3, .slice q xs.length xc, .int .i64 mn, .int .i64 mx, .string tx] 35)).drew = wq at *
    refine wpAnyH_take (i := 1) (v := ?v1u1) rfl (by kernel_rfl) (by kernel_rfl) (by kernel_rfl) (fun _ _ _ h => h) (Or.inl ⟨by rfl, ?h1u1⟩) hHeld ?r1u1
    case h1u1 => (intro wq hSw; go_simp <;> with_reducible rfl)
    try simp only [Act.put, List.getElem_toArray, List.getElem_cons_succ, List.getElem_cons_zero, List.setIfInBounds_toArray, List.set_cons_zero, List.set_cons_succ]
    refine wpAnyH_take (i := 2) (v := ?v2u2) rfl (by kernel_rfl) (by kernel_rfl) (by kernel_rfl) (fun _ _ _ h => h) (Or.inl ⟨by rfl, ?h2u2⟩) hHeld ?r2u2
    case h2u2 => (intro wq hSw; have y0 := (cells_of hSw.1 0 _ rfl).1; go_simp <;> with_reducible rfl)
    try simp only [Act.put, List.getElem_toArray, List.getElem_cons_succ, List.getElem_cons_zero, List.setIfInBounds_toArray, List.set_cons_zero, List.set_cons_succ]
    refine wpAnyH_take (i := 4) (v := ?v4u3) rfl (by kernel_rfl) (by kernel_rfl) (by kernel_rfl) (fun _ _ _ h => h) (Or.inl ⟨by rfl, ?h4u3⟩) hHeld ?r4u3
    case h4u3 => (intro wq hSw; have hk := cells_of hSw.2; have y0 := (hk 0 _ rfl).1; have y1 := (hk 1 _ rfl).1; have y2 := (hk 2 _ rfl).1; have y3 := (hk 3 _ rfl).1; have y4 := (hk 4 _ rfl).1; have y5 := (hk 5 _ rfl).1; have y6 := (hk 6 _ rfl).1; have y7 := (hk 7 _ rfl).1; have y8 := (hk 8 _ rfl).1; clear hk; go_simp <;> with_reducible rfl)
    try simp only [Act.put, List.getElem_toArray, List.getElem_cons_succ, List.getElem_cons_zero, List.setIfInBounds_toArray, List.set_cons_zero, List.set_cons_succ]
    refine wpAnyH_ready (rs := [0, 5]) (by kernel_rfl) (by simp) ?_
    refine (AllReadyH.cons (o := _) rfl (fun K hK => ?_) (AllReadyH.cons (o := _) rfl (fun K hK => ?_) AllReadyH.nil))
    · go_simp
      try dsimp only
      refine hK.out _ _ (⟨kept_alloc hHeld.1 _, kept_alloc hHeld.2 _⟩) (fun hHeld2 => ?_)
      clear hK K hHeld
      have hHeld := hHeld2
      clear hHeld2
      try simp only [Act.put, List.getElem_toArray, List.getElem_cons_succ, List.getElem_cons_zero, List.setIfInBounds_toArray, List.set_cons_zero, List.set_cons_succ]
      refine wpAnyH_ready (rs := [3, 5]) (by kernel_rfl) (by simp) ?_
      refine (AllReadyH.cons (o := _) rfl (fun K hK => ?_) (AllReadyH.cons (o := _) rfl (fun K hK => ?_) AllReadyH.nil))
      · (refine step_append_own_at rfl _ _ 33 rfl wq.heap.size 35 i0 (.agg #[.int .i64 0, .int .u64 0, .int .u64 0, .int .u64 0, .int .u64 0, .slice none 0 0, .int .i64 0, .int .i64 0, .string ⟨#[]⟩]) 9 96 Tryd.underlying33 hi.out hz0.out hz1.out hz2.out rfl (by decide) _ 0 [] rfl (own_mt (by first | exact World.alloc_heap_new wq _ | exact kept_alloc (World.alloc_heap_new wq _) _ | exact at_new2 wq _ _) (by omega)) ⟨g, 0, none⟩ bs.length cap (bs.flatMap T.cells) rfl (cells_len9 bs) (hnewsW.out _ (Bel.step hB1.out (by first | exact Bel.alloc hq1.out _ | exact Bel.alloc (Bel.alloc hq1.out _) _))) hone.out (by simp [maxLen]; omega) (by omega) (by first | omega | (simp <;> omega)) ?_; intro v' w9 hown' hgrow hat; rw [Nat.zero_add, List.nil_append] at hown'; obtain ⟨p2, c2, rfl, -⟩ := row_form hown'; have hs9 := hgrow.size; have h19 : w9.heap[w.heap.size + 1]? = some (.cells #[.int .i64 0, .int .u64 0, .int .u64 0, .int .u64 0, .int .u64 0, .slice none 0 0, .int .i64 0, .int .i64 0, .string ⟨#[]⟩] 35 (0, 0)) := ((hgrow.block (w.heap.size + 1) (by first | omega | (simp <;> omega)) (fun e => absurd (Option.some.inj e) (by first | omega | (simp <;> omega)))).trans (by first | exact kept_alloc h1q.out _ | exact kept_alloc (kept_alloc h1q.out _) _)); have hb9 : Bel w1 w9 := Below.grown (by first | exact Bel.alloc hq1.out _ | exact Bel.alloc (Bel.alloc hq1.out _) _) hgrow (by first | omega | (simp <;> omega)) (fun b e => by have h9 := Option.some.inj e; first | omega | (simp at h9; omega)); have hl9 : wq.heap.size < w9.heap.size := (by first | omega | (simp at hs9; omega)))
        try dsimp only
        refine hK.out _ _ (⟨(hgrow.block _ (lt_of_box hHeld.1) (fun e => absurd (Option.some.inj e) (by first | omega | (simp <;> omega)))).trans hHeld.1, (hgrow.block _ (lt_of_box hHeld.2) (fun e => absurd (Option.some.inj e) (by first | omega | (simp <;> omega)))).trans hHeld.2⟩) (fun hHeld2 => ?_)
        clear hK K hHeld
        have hHeld := hHeld2
        clear hHeld2
        try simp only [Act.put, List.getElem_toArray, List.getElem_cons_succ, List.getElem_cons_zero, List.setIfInBounds_toArray, List.set_cons_zero, List.set_cons_succ]
        refine wpAnyH_ready (rs := [5]) (by kernel_rfl) (by simp) ?_
        refine AllReadyH.cons (o := _) rfl (fun K hK => ?_) AllReadyH.nil
        go_simp
        try dsimp only
        refine hK.out _ _ (⟨kept_alloc hHeld.1 _, kept_alloc hHeld.2 _⟩) (fun hHeld2 => ?_)
        clear hK K hHeld
        have hHeld := hHeld2
        clear hHeld2
        try simp only [Act.put, List.getElem_toArray, List.getElem_cons_succ, List.getElem_cons_zero, List.setIfInBounds_toArray, List.set_cons_zero, List.set_cons_succ]
        refine wpAnyH_ready (rs := [6]) (by kernel_rfl) (by simp) ?_
        refine AllReadyH.cons (o := _) rfl (fun K hK => ?_) AllReadyH.nil
        (refine step_append_own_at rfl _ _ 33 rfl wq.heap.size 35 i0 (.agg #[.int .i64 0, .int .u64 0, .int .u64 0, .int .u64 0, .int .u64 0, .slice none 0 0, .int .i64 0, .int .i64 0, .string ⟨#[]⟩]) 9 96 Tryd.underlying33 hi.out hz0.out hz1.out hz2.out rfl (by decide) _ bs.length (bs.flatMap T.cells) rfl (by first | exact hown' | exact hown'.alloc _) ⟨_, 0, none⟩ 1 1 [.int .i64 k, .int .u64 u0, .int .u64 u1, .int .u64 u2, .int .u64 u3, .slice q xs.length xc, .int .i64 mn, .int .i64 mx, .string tx] rfl rfl (box_news (by first | exact World.alloc_heap_new w9 _ | exact (hgrow.block _ (by first | omega | (simp <;> omega)) (fun e => absurd (Option.some.inj e) (by first | omega | (simp <;> omega)))).trans (at_new2 wq _ _) | exact (hgrow.block _ (by first | omega | (simp <;> omega)) (fun e => absurd (Option.some.inj e) (by first | omega | (simp <;> omega)))).trans (kept_alloc (World.alloc_heap_new wq _) _))) (by simp [Value.oneCell']) (by simp [maxLen]; omega) (by omega) (by first | omega | (simp <;> omega)) ?_; intro v'' w10 hown2 hgrow2 hat2; obtain ⟨p3, c3, rfl, -⟩ := row_form hown2; have hs10 := hgrow2.size; have h110 := Lib.hid (show w10.heap[w.heap.size + 1]? = some (.cells #[.int .i64 0, .int .u64 0, .int .u64 0, .int .u64 0, .int .u64 0, .slice none 0 0, .int .i64 0, .int .i64 0, .string ⟨#[]⟩] 35 (0, 0)) from (hgrow2.block (w.heap.size + 1) (by first | omega | (simp <;> omega)) (fun e => by have := (hown'.lt _ e.symm).1; omega)).trans (by first | exact h19 | exact kept_alloc h19 _)); have hk := cells_of h110.out; obtain ⟨y0, f0⟩ := hk 0 _ rfl; obtain ⟨y1, f1⟩ := hk 1 _ rfl; obtain ⟨y2, f2⟩ := hk 2 _ rfl; obtain ⟨y3, f3⟩ := hk 3 _ rfl; obtain ⟨y4, f4⟩ := hk 4 _ rfl; obtain ⟨y5, f5⟩ := hk 5 _ rfl; obtain ⟨y6, f6⟩ := hk 6 _ rfl; obtain ⟨y7, f7⟩ := hk 7 _ rfl; obtain ⟨y8, f8⟩ := hk 8 _ rfl; clear hk; have hb10 := Lib.hid (show Bel w1 w10 from Below.grown (by first | exact hb9 | exact Bel.alloc hb9 _) hgrow2 (by first | omega | (simp <;> omega)) (fun b e => by have := (hown'.lt _ e).1; omega)))
        try dsimp only
        refine hK.out _ _ (⟨(hgrow2.block _ (lt_of_box hHeld.1) (fun e => by have := (hown'.lt _ e.symm).1; omega)).trans hHeld.1, (hgrow2.block _ (lt_of_box hHeld.2) (fun e => by have := (hown'.lt _ e.symm).1; omega)).trans hHeld.2⟩) (fun hHeld2 => ?_)
        clear hK K hHeld
        have hHeld := hHeld2
        clear hHeld2
        try simp only [Act.put, List.getElem_toArray, List.getElem_cons_succ, List.getElem_cons_zero, List.setIfInBounds_toArray, List.set_cons_zero, List.set_cons_succ]
        refine wpAnyH_take (i := 7) (v := ?v7u4) rfl (by kernel_rfl) (by kernel_rfl) (by kernel_rfl) (fun _ _ _ h => h) (Or.inl ⟨by rfl, ?h7u4⟩) hHeld ?r7u4
        case h7u4 => (intro wq hSw; go_simp <;> with_reducible rfl)
        try simp only [Act.put, List.getElem_toArray, List.getElem_cons_succ, List.getElem_cons_zero, List.setIfInBounds_toArray, List.set_cons_zero, List.set_cons_succ]
        refine wpAnyH_ready (rs := [8]) (by kernel_rfl) (by simp) ?_
        refine AllReadyH.cons (o := _) rfl (fun K hK => ?_) AllReadyH.nil
        go_simp
        try dsimp only
        refine hK.out _ _ (⟨((set9 (b := w.heap.size + 1) (d0 := .int .i64 3) (d1 := .int .u64 0) (d2 := .int .u64 0) (d3 := .int .u64 0) (d4 := .int .u64 0) (d5 := .slice p3 (bs.length + 1) c3) (d6 := .int .i64 0) (d7 := .int .i64 0) (d8 := .string ⟨#[]⟩) h110.out _ rfl).2.2.1 _ (by omega)).trans hHeld.1, ((set9 (b := w.heap.size + 1) (d0 := .int .i64 3) (d1 := .int .u64 0) (d2 := .int .u64 0) (d3 := .int .u64 0) (d4 := .int .u64 0) (d5 := .slice p3 (bs.length + 1) c3) (d6 := .int .i64 0) (d7 := .int .i64 0) (d8 := .string ⟨#[]⟩) h110.out _ rfl).2.2.1 _ (by omega)).trans hHeld.2⟩) (fun hHeld2 => ?_)
        clear hK K hHeld
        have hHeld := hHeld2
        clear hHeld2
        try simp only [Act.put, List.getElem_toArray, List.getElem_cons_succ, List.getElem_cons_zero, List.setIfInBounds_toArray, List.set_cons_zero, List.set_cons_succ]
        refine wpAnyH_done (by kernel_rfl) ?_ _
        go_wp2
        obtain ⟨q1, q2, q3, q4⟩ := set9 (b := w.heap.size + 1) (d0 := .int .i64 3) (d1 := .int .u64 0) (d2 := .int .u64 0) (d3 := .int .u64 0) (d4 := .int .u64 0) (d5 := .slice p3 (bs.length + 1) c3) (d6 := .int .i64 0) (d7 := .int .i64 0) (d8 := .string ⟨#[]⟩) h110.out _ rfl
        generalize hW : World.setCell _ (⟨w.heap.size + 1, 8, none⟩ : Addr) _ = W9 at *
        clear hW
        have hk9 := cells_of q1
        obtain ⟨z0, -⟩ := hk9 0 _ rfl
        obtain ⟨z1, -⟩ := hk9 1 _ rfl
        obtain ⟨z2, -⟩ := hk9 2 _ rfl
        obtain ⟨z3, -⟩ := hk9 3 _ rfl
        obtain ⟨z4, -⟩ := hk9 4 _ rfl
        obtain ⟨z5, -⟩ := hk9 5 _ rfl
        obtain ⟨z6, -⟩ := hk9 6 _ rfl
        obtain ⟨z7, -⟩ := hk9 7 _ rfl
        obtain ⟨z8, -⟩ := hk9 8 _ rfl
        clear hk9
        refine bodyPost_ret (v := .agg #[.int .i64 3, .int .u64 0, .int .u64 0, .int .u64 0, .int .u64 0, .slice p3 (bs.length + 1) c3, .int .i64 0, .int .i64 0, .string ⟨#[]⟩]) (by simp [results, Tryd.results25, go_sem, z0, z1, z2, z3, z4, z5, z6, z7, z8]) rfl ?_
        rw [hG.out]
        have hbw : Bel w w10 := Bel.step hB1.out hb10.out
        refine ⟨.mk 3 0 0 0 0 p3 c3 0 0 ⟨#[]⟩ (bs ++ [.mk k u0 u1 u2 u3 q xc mn mx tx xs]), by simp only [T.cells, List.length_append, List.length_cons, List.length_nil], hbw.trans (q4 _ (by omega)), ?_, ?_⟩
        · refine inP_row (tp := 35) (n := bs.length + 1) (b0 := wq.heap.size) (by simp) (by constructor <;> decide) ?_ (fun t ht => ?_) (fun b h1 h2 => .inr ⟨by omega, h2⟩)
          · have e : (bs ++ [T.mk k u0 u1 u2 u3 q xc mn mx tx xs]).flatMap T.cells = bs.flatMap T.cells ++ [.int .i64 k, .int .u64 u0, .int .u64 u1, .int .u64 u2, .int .u64 u3, .slice q xs.length xc, .int .i64 mn, .int .i64 mx, .string tx] := by
              rw [List.flatMap_append]
              simp only [List.flatMap_cons, List.flatMap_nil, List.append_nil, T.cells]
            rw [e]
            exact own_keep2 hown2 fun b hb hbl => q3 b (by have := (hown2.lt b hb).1; omega)
          · rcases List.mem_append.1 ht with ht | ht
            · exact ((hkids.out t ht).keep fun b hb => (q3 b (by have := hS b hb; omega)).trans (hbw.block b (hS b hb))).imp fun b hb => .inl hb
            · simp only [List.mem_cons, List.not_mem_nil, or_false] at ht
              subst ht
              refine (hm1.out.keep fun b hb => ?_).imp fun b hb => ?_
              · have hbl : b < w1.heap.size ∧ b ≠ w.heap.size + 1 := by
                  rcases hb with hb | hb
                  · have := hS b hb; omega
                  · rw [hsA] at hb; omega
                exact (q3 b hbl.2).trans (hb10.out.block b hbl.1)
              · rcases hb with hb | hb
                · exact .inl hb
                · rw [hsA] at hb
                  have := hb10.out.size
                  exact .inr ⟨by omega, by omega⟩
        · rw [T.strip_mk, List.map_append, List.map_cons, List.map_nil, hs1.out]
          unfold closedT tA
          rw [if_neg (by simpa using hb)]
      · go_simp
        try dsimp only
        refine hK.out _ _ (⟨kept_alloc hHeld.1 _, kept_alloc hHeld.2 _⟩) (fun hHeld2 => ?_)
        clear hK K hHeld
        have hHeld := hHeld2
        clear hHeld2
        try simp only [Act.put, List.getElem_toArray, List.getElem_cons_succ, List.getElem_cons_zero, List.setIfInBounds_toArray, List.set_cons_zero, List.set_cons_succ]
        refine wpAnyH_ready (rs := [3]) (by kernel_rfl) (by simp) ?_
        refine AllReadyH.cons (o := _) rfl (fun K hK => ?_) AllReadyH.nil
        (refine step_append_own_at rfl _ _ 33 rfl wq.heap.size 35 i0 (.agg #[.int .i64 0, .int .u64 0, .int .u64 0, .int .u64 0, .int .u64 0, .slice none 0 0, .int .i64 0, .int .i64 0, .string ⟨#[]⟩]) 9 96 Tryd.underlying33 hi.out hz0.out hz1.out hz2.out rfl (by decide) _ 0 [] rfl (own_mt (by first | exact World.alloc_heap_new wq _ | exact kept_alloc (World.alloc_heap_new wq _) _ | exact at_new2 wq _ _) (by omega)) ⟨g, 0, none⟩ bs.length cap (bs.flatMap T.cells) rfl (cells_len9 bs) (hnewsW.out _ (Bel.step hB1.out (by first | exact Bel.alloc hq1.out _ | exact Bel.alloc (Bel.alloc hq1.out _) _))) hone.out (by simp [maxLen]; omega) (by omega) (by first | omega | (simp <;> omega)) ?_; intro v' w9 hown' hgrow hat; rw [Nat.zero_add, List.nil_append] at hown'; obtain ⟨p2, c2, rfl, -⟩ := row_form hown'; have hs9 := hgrow.size; have h19 : w9.heap[w.heap.size + 1]? = some (.cells #[.int .i64 0, .int .u64 0, .int .u64 0, .int .u64 0, .int .u64 0, .slice none 0 0, .int .i64 0, .int .i64 0, .string ⟨#[]⟩] 35 (0, 0)) := ((hgrow.block (w.heap.size + 1) (by first | omega | (simp <;> omega)) (fun e => absurd (Option.some.inj e) (by first | omega | (simp <;> omega)))).trans (by first | exact kept_alloc h1q.out _ | exact kept_alloc (kept_alloc h1q.out _) _)); have hb9 : Bel w1 w9 := Below.grown (by first | exact Bel.alloc hq1.out _ | exact Bel.alloc (Bel.alloc hq1.out _) _) hgrow (by first | omega | (simp <;> omega)) (fun b e => by have h9 := Option.some.inj e; first | omega | (simp at h9; omega)); have hl9 : wq.heap.size < w9.heap.size := (by first | omega | (simp at hs9; omega)))
        try dsimp only
        refine hK.out _ _ (⟨(hgrow.block _ (lt_of_box hHeld.1) (fun e => absurd (Option.some.inj e) (by first | omega | (simp <;> omega)))).trans hHeld.1, (hgrow.block _ (lt_of_box hHeld.2) (fun e => absurd (Option.some.inj e) (by first | omega | (simp <;> omega)))).trans hHeld.2⟩) (fun hHeld2 => ?_)
        clear hK K hHeld
        have hHeld := hHeld2
        clear hHeld2
        try simp only [Act.put, List.getElem_toArray, List.getElem_cons_succ, List.getElem_cons_zero, List.setIfInBounds_toArray, List.set_cons_zero, List.set_cons_succ]
        refine wpAnyH_ready (rs := [6]) (by kernel_rfl) (by simp) ?_
        refine AllReadyH.cons (o := _) rfl (fun K hK => ?_) AllReadyH.nil
        (refine step_append_own_at rfl _ _ 33 rfl wq.heap.size 35 i0 (.agg #[.int .i64 0, .int .u64 0, .int .u64 0, .int .u64 0, .int .u64 0, .slice none 0 0, .int .i64 0, .int .i64 0, .string ⟨#[]⟩]) 9 96 Tryd.underlying33 hi.out hz0.out hz1.out hz2.out rfl (by decide) _ bs.length (bs.flatMap T.cells) rfl (by first | exact hown' | exact hown'.alloc _) ⟨_, 0, none⟩ 1 1 [.int .i64 k, .int .u64 u0, .int .u64 u1, .int .u64 u2, .int .u64 u3, .slice q xs.length xc, .int .i64 mn, .int .i64 mx, .string tx] rfl rfl (box_news (by first | exact World.alloc_heap_new w9 _ | exact (hgrow.block _ (by first | omega | (simp <;> omega)) (fun e => absurd (Option.some.inj e) (by first | omega | (simp <;> omega)))).trans (at_new2 wq _ _) | exact (hgrow.block _ (by first | omega | (simp <;> omega)) (fun e => absurd (Option.some.inj e) (by first | omega | (simp <;> omega)))).trans (kept_alloc (World.alloc_heap_new wq _) _))) (by simp [Value.oneCell']) (by simp [maxLen]; omega) (by omega) (by first | omega | (simp <;> omega)) ?_; intro v'' w10 hown2 hgrow2 hat2; obtain ⟨p3, c3, rfl, -⟩ := row_form hown2; have hs10 := hgrow2.size; have h110 := Lib.hid (show w10.heap[w.heap.size + 1]? = some (.cells #[.int .i64 0, .int .u64 0, .int .u64 0, .int .u64 0, .int .u64 0, .slice none 0 0, .int .i64 0, .int .i64 0, .string ⟨#[]⟩] 35 (0, 0)) from (hgrow2.block (w.heap.size + 1) (by first | omega | (simp <;> omega)) (fun e => by have := (hown'.lt _ e.symm).1; omega)).trans (by first | exact h19 | exact kept_alloc h19 _)); have hk := cells_of h110.out; obtain ⟨y0, f0⟩ := hk 0 _ rfl; obtain ⟨y1, f1⟩ := hk 1 _ rfl; obtain ⟨y2, f2⟩ := hk 2 _ rfl; obtain ⟨y3, f3⟩ := hk 3 _ rfl; obtain ⟨y4, f4⟩ := hk 4 _ rfl; obtain ⟨y5, f5⟩ := hk 5 _ rfl; obtain ⟨y6, f6⟩ := hk 6 _ rfl; obtain ⟨y7, f7⟩ := hk 7 _ rfl; obtain ⟨y8, f8⟩ := hk 8 _ rfl; clear hk; have hb10 := Lib.hid (show Bel w1 w10 from Below.grown (by first | exact hb9 | exact Bel.alloc hb9 _) hgrow2 (by first | omega | (simp <;> omega)) (fun b e => by have := (hown'.lt _ e).1; omega)))
        try dsimp only
        refine hK.out _ _ (⟨(hgrow2.block _ (lt_of_box hHeld.1) (fun e => by have := (hown'.lt _ e.symm).1; omega)).trans hHeld.1, (hgrow2.block _ (lt_of_box hHeld.2) (fun e => by have := (hown'.lt _ e.symm).1; omega)).trans hHeld.2⟩) (fun hHeld2 => ?_)
        clear hK K hHeld
        have hHeld := hHeld2
        clear hHeld2
        try simp only [Act.put, List.getElem_toArray, List.getElem_cons_succ, List.getElem_cons_zero, List.setIfInBounds_toArray, List.set_cons_zero, List.set_cons_succ]
        refine wpAnyH_take (i := 7) (v := ?v7u5) rfl (by kernel_rfl) (by kernel_rfl) (by kernel_rfl) (fun _ _ _ h => h) (Or.inl ⟨by rfl, ?h7u5⟩) hHeld ?r7u5
        case h7u5 => (intro wq hSw; go_simp <;> with_reducible rfl)
        try simp only [Act.put, List.getElem_toArray, List.getElem_cons_succ, List.getElem_cons_zero, List.setIfInBounds_toArray, List.set_cons_zero, List.set_cons_succ]
        refine wpAnyH_ready (rs := [8]) (by kernel_rfl) (by simp) ?_
        refine AllReadyH.cons (o := _) rfl (fun K hK => ?_) AllReadyH.nil
        go_simp
        try dsimp only
        refine hK.out _ _ (⟨((set9 (b := w.heap.size + 1) (d0 := .int .i64 3) (d1 := .int .u64 0) (d2 := .int .u64 0) (d3 := .int .u64 0) (d4 := .int .u64 0) (d5 := .slice p3 (bs.length + 1) c3) (d6 := .int .i64 0) (d7 := .int .i64 0) (d8 := .string ⟨#[]⟩) h110.out _ rfl).2.2.1 _ (by omega)).trans hHeld.1, ((set9 (b := w.heap.size + 1) (d0 := .int .i64 3) (d1 := .int .u64 0) (d2 := .int .u64 0) (d3 := .int .u64 0) (d4 := .int .u64 0) (d5 := .slice p3 (bs.length + 1) c3) (d6 := .int .i64 0) (d7 := .int .i64 0) (d8 := .string ⟨#[]⟩) h110.out _ rfl).2.2.1 _ (by omega)).trans hHeld.2⟩) (fun hHeld2 => ?_)
        clear hK K hHeld
        have hHeld := hHeld2
        clear hHeld2
        try simp only [Act.put, List.getElem_toArray, List.getElem_cons_succ, List.getElem_cons_zero, List.setIfInBounds_toArray, List.set_cons_zero, List.set_cons_succ]
        refine wpAnyH_done (by kernel_rfl) ?_ _
        go_wp2
        obtain ⟨q1, q2, q3, q4⟩ := set9 (b := w.heap.size + 1) (d0 := .int .i64 3) (d1 := .int .u64 0) (d2 := .int .u64 0) (d3 := .int .u64 0) (d4 := .int .u64 0) (d5 := .slice p3 (bs.length + 1) c3) (d6 := .int .i64 0) (d7 := .int .i64 0) (d8 := .string ⟨#[]⟩) h110.out _ rfl
        generalize hW : World.setCell _ (⟨w.heap.size + 1, 8, none⟩ : Addr) _ = W9 at *
        clear hW
        have hk9 := cells_of q1
        obtain ⟨z0, -⟩ := hk9 0 _ rfl
        obtain ⟨z1, -⟩ := hk9 1 _ rfl
        obtain ⟨z2, -⟩ := hk9 2 _ rfl
        obtain ⟨z3, -⟩ := hk9 3 _ rfl
        obtain ⟨z4, -⟩ := hk9 4 _ rfl
        obtain ⟨z5, -⟩ := hk9 5 _ rfl
        obtain ⟨z6, -⟩ := hk9 6 _ rfl
        obtain ⟨z7, -⟩ := hk9 7 _ rfl
        obtain ⟨z8, -⟩ := hk9 8 _ rfl
        clear hk9
        refine bodyPost_ret (v := .agg #[.int .i64 3, .int .u64 0, .int .u64 0, .int .u64 0, .int .u64 0, .slice p3 (bs.length + 1) c3, .int .i64 0, .int .i64 0, .string ⟨#[]⟩]) (by simp [results, Tryd.results25, go_sem, z0, z1, z2, z3, z4, z5, z6, z7, z8]) rfl ?_
        rw [hG.out]
        have hbw : Bel w w10 := Bel.step hB1.out hb10.out
        refine ⟨.mk 3 0 0 0 0 p3 c3 0 0 ⟨#[]⟩ (bs ++ [.mk k u0 u1 u2 u3 q xc mn mx tx xs]), by simp only [T.cells, List.length_append, List.length_cons, List.length_nil], hbw.trans (q4 _ (by omega)), ?_, ?_⟩
        · refine inP_row (tp := 35) (n := bs.length + 1) (b0 := wq.heap.size) (by simp) (by constructor <;> decide) ?_ (fun t ht => ?_) (fun b h1 h2 => .inr ⟨by omega, h2⟩)
          · have e : (bs ++ [T.mk k u0 u1 u2 u3 q xc mn mx tx xs]).flatMap T.cells = bs.flatMap T.cells ++ [.int .i64 k, .int .u64 u0, .int .u64 u1, .int .u64 u2, .int .u64 u3, .slice q xs.length xc, .int .i64 mn, .int .i64 mx, .string tx] := by
              rw [List.flatMap_append]
              simp only [List.flatMap_cons, List.flatMap_nil, List.append_nil, T.cells]
            rw [e]
            exact own_keep2 hown2 fun b hb hbl => q3 b (by have := (hown2.lt b hb).1; omega)
          · rcases List.mem_append.1 ht with ht | ht
            · exact ((hkids.out t ht).keep fun b hb => (q3 b (by have := hS b hb; omega)).trans (hbw.block b (hS b hb))).imp fun b hb => .inl hb
            · simp only [List.mem_cons, List.not_mem_nil, or_false] at ht
              subst ht
              refine (hm1.out.keep fun b hb => ?_).imp fun b hb => ?_
              · have hbl : b < w1.heap.size ∧ b ≠ w.heap.size + 1 := by
                  rcases hb with hb | hb
                  · have := hS b hb; omega
                  · rw [hsA] at hb; omega
                exact (q3 b hbl.2).trans (hb10.out.block b hbl.1)
              · rcases hb with hb | hb
                · exact .inl hb
                · rw [hsA] at hb
                  have := hb10.out.size
                  exact .inr ⟨by omega, by omega⟩
        · rw [T.strip_mk, List.map_append, List.map_cons, List.map_nil, hs1.out]
          unfold closedT tA
          rw [if_neg (by simpa using hb)]
    · go_simp
      try dsimp only
      refine hK.out _ _ (⟨kept_alloc hHeld.1 _, kept_alloc hHeld.2 _⟩) (fun hHeld2 => ?_)
      clear hK K hHeld
      have hHeld := hHeld2
      clear hHeld2
      try simp only [Act.put, List.getElem_toArray, List.getElem_cons_succ, List.getElem_cons_zero, List.setIfInBounds_toArray, List.set_cons_zero, List.set_cons_succ]
      refine wpAnyH_ready (rs := [0]) (by kernel_rfl) (by simp) ?_
      refine AllReadyH.cons (o := _) rfl (fun K hK => ?_) AllReadyH.nil
      go_simp
      try dsimp only
      refine hK.out _ _ (⟨kept_alloc hHeld.1 _, kept_alloc hHeld.2 _⟩) (fun hHeld2 => ?_)
      clear hK K hHeld
      have hHeld := hHeld2
      clear hHeld2
      try simp only [Act.put, List.getElem_toArray, List.getElem_cons_succ, List.getElem_cons_zero, List.setIfInBounds_toArray, List.set_cons_zero, List.set_cons_succ]
      refine wpAnyH_ready (rs := [3]) (by kernel_rfl) (by simp) ?_
      refine AllReadyH.cons (o := _) rfl (fun K hK => ?_) AllReadyH.nil
      (refine step_append_own_at rfl _ _ 33 rfl wq.heap.size 35 i0 (.agg #[.int .i64 0, .int .u64 0, .int .u64 0, .int .u64 0, .int .u64 0, .slice none 0 0, .int .i64 0, .int .i64 0, .string ⟨#[]⟩]) 9 96 Tryd.underlying33 hi.out hz0.out hz1.out hz2.out rfl (by decide) _ 0 [] rfl (own_mt (by first | exact World.alloc_heap_new wq _ | exact kept_alloc (World.alloc_heap_new wq _) _ | exact at_new2 wq _ _) (by omega)) ⟨g, 0, none⟩ bs.length cap (bs.flatMap T.cells) rfl (cells_len9 bs) (hnewsW.out _ (Bel.step hB1.out (by first | exact Bel.alloc hq1.out _ | exact Bel.alloc (Bel.alloc hq1.out _) _))) hone.out (by simp [maxLen]; omega) (by omega) (by first | omega | (simp <;> omega)) ?_; intro v' w9 hown' hgrow hat; rw [Nat.zero_add, List.nil_append] at hown'; obtain ⟨p2, c2, rfl, -⟩ := row_form hown'; have hs9 := hgrow.size; have h19 : w9.heap[w.heap.size + 1]? = some (.cells #[.int .i64 0, .int .u64 0, .int .u64 0, .int .u64 0, .int .u64 0, .slice none 0 0, .int .i64 0, .int .i64 0, .string ⟨#[]⟩] 35 (0, 0)) := ((hgrow.block (w.heap.size + 1) (by first | omega | (simp <;> omega)) (fun e => absurd (Option.some.inj e) (by first | omega | (simp <;> omega)))).trans (by first | exact kept_alloc h1q.out _ | exact kept_alloc (kept_alloc h1q.out _) _)); have hb9 : Bel w1 w9 := Below.grown (by first | exact Bel.alloc hq1.out _ | exact Bel.alloc (Bel.alloc hq1.out _) _) hgrow (by first | omega | (simp <;> omega)) (fun b e => by have h9 := Option.some.inj e; first | omega | (simp at h9; omega)); have hl9 : wq.heap.size < w9.heap.size := (by first | omega | (simp at hs9; omega)))
      try dsimp only
      refine hK.out _ _ (⟨(hgrow.block _ (lt_of_box hHeld.1) (fun e => absurd (Option.some.inj e) (by first | omega | (simp <;> omega)))).trans hHeld.1, (hgrow.block _ (lt_of_box hHeld.2) (fun e => absurd (Option.some.inj e) (by first | omega | (simp <;> omega)))).trans hHeld.2⟩) (fun hHeld2 => ?_)
      clear hK K hHeld
      have hHeld := hHeld2
      clear hHeld2
      try simp only [Act.put, List.getElem_toArray, List.getElem_cons_succ, List.getElem_cons_zero, List.setIfInBounds_toArray, List.set_cons_zero, List.set_cons_succ]
      refine wpAnyH_ready (rs := [6]) (by kernel_rfl) (by simp) ?_
      refine AllReadyH.cons (o := _) rfl (fun K hK => ?_) AllReadyH.nil
      (refine step_append_own_at rfl _ _ 33 rfl wq.heap.size 35 i0 (.agg #[.int .i64 0, .int .u64 0, .int .u64 0, .int .u64 0, .int .u64 0, .slice none 0 0, .int .i64 0, .int .i64 0, .string ⟨#[]⟩]) 9 96 Tryd.underlying33 hi.out hz0.out hz1.out hz2.out rfl (by decide) _ bs.length (bs.flatMap T.cells) rfl (by first | exact hown' | exact hown'.alloc _) ⟨_, 0, none⟩ 1 1 [.int .i64 k, .int .u64 u0, .int .u64 u1, .int .u64 u2, .int .u64 u3, .slice q xs.length xc, .int .i64 mn, .int .i64 mx, .string tx] rfl rfl (box_news (by first | exact World.alloc_heap_new w9 _ | exact (hgrow.block _ (by first | omega | (simp <;> omega)) (fun e => absurd (Option.some.inj e) (by first | omega | (simp <;> omega)))).trans (at_new2 wq _ _) | exact (hgrow.block _ (by first | omega | (simp <;> omega)) (fun e => absurd (Option.some.inj e) (by first | omega | (simp <;> omega)))).trans (kept_alloc (World.alloc_heap_new wq _) _))) (by simp [Value.oneCell']) (by simp [maxLen]; omega) (by omega) (by first | omega | (simp <;> omega)) ?_; intro v'' w10 hown2 hgrow2 hat2; obtain ⟨p3, c3, rfl, -⟩ := row_form hown2; have hs10 := hgrow2.size; have h110 := Lib.hid (show w10.heap[w.heap.size + 1]? = some (.cells #[.int .i64 0, .int .u64 0, .int .u64 0, .int .u64 0, .int .u64 0, .slice none 0 0, .int .i64 0, .int .i64 0, .string ⟨#[]⟩] 35 (0, 0)) from (hgrow2.block (w.heap.size + 1) (by first | omega | (simp <;> omega)) (fun e => by have := (hown'.lt _ e.symm).1; omega)).trans (by first | exact h19 | exact kept_alloc h19 _)); have hk := cells_of h110.out; obtain ⟨y0, f0⟩ := hk 0 _ rfl; obtain ⟨y1, f1⟩ := hk 1 _ rfl; obtain ⟨y2, f2⟩ := hk 2 _ rfl; obtain ⟨y3, f3⟩ := hk 3 _ rfl; obtain ⟨y4, f4⟩ := hk 4 _ rfl; obtain ⟨y5, f5⟩ := hk 5 _ rfl; obtain ⟨y6, f6⟩ := hk 6 _ rfl; obtain ⟨y7, f7⟩ := hk 7 _ rfl; obtain ⟨y8, f8⟩ := hk 8 _ rfl; clear hk; have hb10 := Lib.hid (show Bel w1 w10 from Below.grown (by first | exact hb9 | exact Bel.alloc hb9 _) hgrow2 (by first | omega | (simp <;> omega)) (fun b e => by have := (hown'.lt _ e).1; omega)))
      try dsimp only
      refine hK.out _ _ (⟨(hgrow2.block _ (lt_of_box hHeld.1) (fun e => by have := (hown'.lt _ e.symm).1; omega)).trans hHeld.1, (hgrow2.block _ (lt_of_box hHeld.2) (fun e => by have := (hown'.lt _ e.symm).1; omega)).trans hHeld.2⟩) (fun hHeld2 => ?_)
      clear hK K hHeld
      have hHeld := hHeld2
      clear hHeld2
      try simp only [Act.put, List.getElem_toArray, List.getElem_cons_succ, List.getElem_cons_zero, List.setIfInBounds_toArray, List.set_cons_zero, List.set_cons_succ]
      refine wpAnyH_take (i := 7) (v := ?v7u6) rfl (by kernel_rfl) (by kernel_rfl) (by kernel_rfl) (fun _ _ _ h => h) (Or.inl ⟨by rfl, ?h7u6⟩) hHeld ?r7u6
      case h7u6 => (intro wq hSw; go_simp <;> with_reducible rfl)
      try simp only [Act.put, List.getElem_toArray, List.getElem_cons_succ, List.getElem_cons_zero, List.setIfInBounds_toArray, List.set_cons_zero, List.set_cons_succ]
      refine wpAnyH_ready (rs := [8]) (by kernel_rfl) (by simp) ?_
      refine AllReadyH.cons (o := _) rfl (fun K hK => ?_) AllReadyH.nil
      go_simp
      try dsimp only
      refine hK.out _ _ (⟨((set9 (b := w.heap.size + 1) (d0 := .int .i64 3) (d1 := .int .u64 0) (d2 := .int .u64 0) (d3 := .int .u64 0) (d4 := .int .u64 0) (d5 := .slice p3 (bs.length + 1) c3) (d6 := .int .i64 0) (d7 := .int .i64 0) (d8 := .string ⟨#[]⟩) h110.out _ rfl).2.2.1 _ (by omega)).trans hHeld.1, ((set9 (b := w.heap.size + 1) (d0 := .int .i64 3) (d1 := .int .u64 0) (d2 := .int .u64 0) (d3 := .int .u64 0) (d4 := .int .u64 0) (d5 := .slice p3 (bs.length + 1) c3) (d6 := .int .i64 0) (d7 := .int .i64 0) (d8 := .string ⟨#[]⟩) h110.out _ rfl).2.2.1 _ (by omega)).trans hHeld.2⟩) (fun hHeld2 => ?_)
      clear hK K hHeld
      have hHeld := hHeld2
      clear hHeld2
      try simp only [Act.put, List.getElem_toArray, List.getElem_cons_succ, List.getElem_cons_zero, List.setIfInBounds_toArray, List.set_cons_zero, List.set_cons_succ]
      refine wpAnyH_done (by kernel_rfl) ?_ _
      go_wp2
      obtain ⟨q1, q2, q3, q4⟩ := set9 (b := w.heap.size + 1) (d0 := .int .i64 3) (d1 := .int .u64 0) (d2 := .int .u64 0) (d3 := .int .u64 0) (d4 := .int .u64 0) (d5 := .slice p3 (bs.length + 1) c3) (d6 := .int .i64 0) (d7 := .int .i64 0) (d8 := .string ⟨#[]⟩) h110.out _ rfl
      generalize hW : World.setCell _ (⟨w.heap.size + 1, 8, none⟩ : Addr) _ = W9 at *
      clear hW
      have hk9 := cells_of q1
      obtain ⟨z0, -⟩ := hk9 0 _ rfl
      obtain ⟨z1, -⟩ := hk9 1 _ rfl
      obtain ⟨z2, -⟩ := hk9 2 _ rfl
      obtain ⟨z3, -⟩ := hk9 3 _ rfl
      obtain ⟨z4, -⟩ := hk9 4 _ rfl
      obtain ⟨z5, -⟩ := hk9 5 _ rfl
      obtain ⟨z6, -⟩ := hk9 6 _ rfl
      obtain ⟨z7, -⟩ := hk9 7 _ rfl
      obtain ⟨z8, -⟩ := hk9 8 _ rfl
      clear hk9
      refine bodyPost_ret (v := .agg #[.int .i64 3, .int .u64 0, .int .u64 0, .int .u64 0, .int .u64 0, .slice p3 (bs.length + 1) c3, .int .i64 0, .int .i64 0, .string ⟨#[]⟩]) (by simp [results, Tryd.results25, go_sem, z0, z1, z2, z3, z4, z5, z6, z7, z8]) rfl ?_
      rw [hG.out]
      have hbw : Bel w w10 := Bel.step hB1.out hb10.out
      refine ⟨.mk 3 0 0 0 0 p3 c3 0 0 ⟨#[]⟩ (bs ++ [.mk k u0 u1 u2 u3 q xc mn mx tx xs]), by simp only [T.cells, List.length_append, List.length_cons, List.length_nil], hbw.trans (q4 _ (by omega)), ?_, ?_⟩
      · refine inP_row (tp := 35) (n := bs.length + 1) (b0 := wq.heap.size) (by simp) (by constructor <;> decide) ?_ (fun t ht => ?_) (fun b h1 h2 => .inr ⟨by omega, h2⟩)
        · have e : (bs ++ [T.mk k u0 u1 u2 u3 q xc mn mx tx xs]).flatMap T.cells = bs.flatMap T.cells ++ [.int .i64 k, .int .u64 u0, .int .u64 u1, .int .u64 u2, .int .u64 u3, .slice q xs.length xc, .int .i64 mn, .int .i64 mx, .string tx] := by
            rw [List.flatMap_append]
            simp only [List.flatMap_cons, List.flatMap_nil, List.append_nil, T.cells]
          rw [e]
          exact own_keep2 hown2 fun b hb hbl => q3 b (by have := (hown2.lt b hb).1; omega)
        · rcases List.mem_append.1 ht with ht | ht
          · exact ((hkids.out t ht).keep fun b hb => (q3 b (by have := hS b hb; omega)).trans (hbw.block b (hS b hb))).imp fun b hb => .inl hb
          · simp only [List.mem_cons, List.not_mem_nil, or_false] at ht
            subst ht
            refine (hm1.out.keep fun b hb => ?_).imp fun b hb => ?_
            · have hbl : b < w1.heap.size ∧ b ≠ w.heap.size + 1 := by
                rcases hb with hb | hb
                · have := hS b hb; omega
                · rw [hsA] at hb; omega
              exact (q3 b hbl.2).trans (hb10.out.block b hbl.1)
            · rcases hb with hb | hb
              · exact .inl hb
              · rw [hsA] at hb
                have := hb10.out.size
                exact .inr ⟨by omega, by omega⟩
      · rw [T.strip_mk, List.map_append, List.map_cons, List.map_nil, hs1.out]
        unfold closedT tA
        rw [if_neg (by simpa using hb)]

end Go.Proofs.YtjlmeegaiagfpaaDoor

namespace Go.Proofs.YtjlmeegaiagfpaaDoor
open Go.RowKit
open Go.Tree7
open S7
open S5 (nl nl_length nl_small at_nl nl_at Gives idx idx_at ix ix_no ix_yes)
/-- What is open: two slices of nodes, and the nodes. -/
structure Opn where
  bv : Value
  pv : Value
  bs : List T
  ps : List T
def ocells (os : List Opn) : List Value := os.flatMap fun o => [o.bv, o.pv]
theorem ocells_len (os : List Opn) : (ocells os).length = os.length * 2 := by
  unfold ocells
  induction os with
  | nil => rfl
  | cons o os ih => rw [List.flatMap_cons, List.length_append, ih, List.length_cons]; simp only [List.length_cons, List.length_nil]; omega
theorem ocells_at : ∀ (os : List Opn) (i : Nat) (h : i < os.length), (ocells os)[i * 2]? = some os[i].bv ∧ (ocells os)[i * 2 + 1]? = some os[i].pv := by
  intro os
  unfold ocells
  induction os with
  | nil => intro i h; simp at h
  | cons o os ih =>
    intro i h
    rw [List.flatMap_cons]
    cases i with
    | zero => exact ⟨rfl, rfl⟩
    | succ i =>
      have := ih i (by simpa using h)
      rw [List.getElem?_append_right (by simp; omega), List.getElem?_append_right (by simp; omega)]
      simp only [List.length_cons, List.length_nil, List.getElem_cons_succ]
      rw [show (i + 1) * 2 - (0 + 1 + 1) = i * 2 by omega, show (i + 1) * 2 + 1 - (0 + 1 + 1) = i * 2 + 1 by omega]
      exact this
theorem ocells_take (os : List Opn) (m : Nat) : ocells (os.take m) = (ocells os).take (m * 2) := by
  unfold ocells
  induction os generalizing m with
  | nil => simp
  | cons o os ih =>
    cases m with
    | zero => simp
    | succ m =>
      rw [List.take_succ_cons, List.flatMap_cons, List.flatMap_cons, ih m, show (m + 1) * 2 = 2 + m * 2 by omega, List.take_append]
      simp [List.take_of_length_le]
theorem ocells_snoc (os : List Opn) (o : Opn) : ocells (os ++ [o]) = ocells os ++ [o.bv, o.pv] := by
  unfold ocells
  rw [List.flatMap_append]
  simp
theorem ocells_set (os : List Opn) (i : Nat) (h : i < os.length) (o : Opn) : ocells (os.set i o) = ((ocells os).set (i * 2) o.bv).set (i * 2 + 1) o.pv := by
  unfold ocells
  induction os generalizing i with
  | nil => simp at h
  | cons x os ih =>
    cases i with
    | zero => simp
    | succ i =>
      rw [List.set_cons_succ, List.flatMap_cons, List.flatMap_cons, ih i (by simpa using h), show (i + 1) * 2 = i * 2 + 1 + 1 by omega, show i * 2 + 1 + 1 + 1 = i * 2 + 1 + 1 + 1 by rfl]
      simp
/-- The pile in memory: a row of one's own. -/
def Pil (w : World) (b0 : Nat) (v : Value) (os : List Opn) : Prop := w.ownsRow b0 58 2 v os.length (ocells os)
theorem Pil.form {w : World} {b0 : Nat} {v : Value} {os : List Opn} (h : Pil w b0 v os) (hn : os ≠ []) : ∃ g cap cur, v = .slice (some ⟨g, 0, none⟩) os.length cap ∧ b0 ≤ g ∧ w.heap[g]? = some (.cells cur 58 (0, 0)) ∧ os.length ≤ cap ∧ cap ≤ maxLen ∧ cur.size = cap * 2 ∧ cur.toList.take (os.length * 2) = ocells os := by
  rcases h.2 with ⟨e, h0⟩ | ⟨g, cap, cur, e, h1, h2, h3, h4, h5, h6⟩
  · exact absurd (List.eq_nil_of_length_eq_zero h0) hn
  · exact ⟨g, cap, cur, e, h1, h2, h3, h4, h5, h6⟩
/-- The cells of one that is open. -/
theorem Pil.cell {w : World} {b0 g cap : Nat} {os : List Opn} (h : Pil w b0 (.slice (some ⟨g, 0, none⟩) os.length cap) os) {i : Nat} (hi : i < os.length) : w.cell? ⟨g, i * 2, none⟩ = some os[i].bv ∧ w.cell? ⟨g, i * 2 + 1, none⟩ = some os[i].pv ∧ w.frozen? ⟨g, i * 2, none⟩ = false ∧ w.frozen? ⟨g, i * 2 + 1, none⟩ = false := by
  obtain ⟨g', cap', cur, e, h1, h2, h3, h4, h5, h6⟩ := h.form (fun e => by rw [e] at hi; simp at hi)
  simp only [Value.slice.injEq, Option.some.injEq, Addr.mk.injEq, and_true, true_and] at e
  obtain ⟨rfl, rfl⟩ := e
  obtain ⟨a1, a2⟩ := ocells_at os i hi
  rw [← h6, List.getElem?_take] at a1 a2
  rw [if_pos (by omega)] at a1 a2
  rw [Array.getElem?_toList] at a1 a2
  exact ⟨(cells_of h2 _ _ a1).1, (cells_of h2 _ _ a2).1, (cells_of h2 _ _ a1).2, (cells_of h2 _ _ a2).2⟩
theorem Pil.take {w : World} {b0 g cap : Nat} {os : List Opn} (h : Pil w b0 (.slice (some ⟨g, 0, none⟩) os.length cap) os) {m : Nat} (hm : m ≤ os.length) (h0 : os ≠ []) : Pil w b0 (.slice (some ⟨g, 0, none⟩) m cap) (os.take m) := by
  obtain ⟨g', cap', cur, e, h1, h2, h3, h4, h5, h6⟩ := h.form h0
  simp only [Value.slice.injEq, Option.some.injEq, Addr.mk.injEq, and_true, true_and] at e
  obtain ⟨rfl, rfl⟩ := e
  have hl : (os.take m).length = m := by rw [List.length_take]; omega
  refine ⟨by rw [ocells_len, hl], ?_⟩
  rw [hl]
  refine .inr ⟨g, cap, cur, rfl, h1, h2, by omega, h4, h5, ?_⟩
  rw [ocells_take, ← h6, List.take_take, Nat.min_eq_left (by omega)]
/-- One that is open is set. -/
theorem Pil.set {w : World} {b0 g cap : Nat} {os : List Opn} (h : Pil w b0 (.slice (some ⟨g, 0, none⟩) os.length cap) os) {i : Nat} (hi : i < os.length) (o : Opn) (W : World) (hW : (w.setCell ⟨g, i * 2, none⟩ o.bv).setCell ⟨g, i * 2 + 1, none⟩ o.pv = W) :
    Pil W b0 (.slice (some ⟨g, 0, none⟩) os.length cap) (os.set i o) ∧ (∀ b, b ≠ g → W.heap[b]? = w.heap[b]?) ∧ W.heap.size = w.heap.size ∧ (∀ n, n ≤ g → Below n w W) := by
  obtain ⟨g', cap', cur, e, h1, h2, h3, h4, h5, h6⟩ := h.form (fun e => by rw [e] at hi; simp at hi)
  simp only [Value.slice.injEq, Option.some.injEq, Addr.mk.injEq, and_true, true_and] at e
  obtain ⟨rfl, rfl⟩ := e
  subst hW
  have k1 := box_set h2 (i * 2) o.bv
  have k2 := box_set k1 (i * 2 + 1) o.pv
  refine ⟨⟨by rw [ocells_len, List.length_set], ?_⟩, fun b hb => ?_, by rw [size_set, size_set], fun n hn => ?_⟩
  · rw [List.length_set]
    refine .inr ⟨g, cap, _, rfl, h1, k2, h3, h4, by simpa using h5, ?_⟩
    rw [ocells_set os i hi, ← h6]
    simp only [Array.toList_setIfInBounds]
    rw [List.take_set, List.take_set]
  · rw [Below.heap_setCell _ _ _ _ hb, Below.heap_setCell _ _ _ _ hb]
  · exact ((Below.refl n w).setCell (p := ⟨g, i * 2, none⟩) hn _).setCell (p := ⟨g, i * 2 + 1, none⟩) hn _
theorem Pil.keep {w w' : World} {b0 : Nat} {v : Value} {os : List Opn} (h : Pil w b0 v os) (hk : ∀ g, v.ownBlock = some g → g < w.heap.size → w'.heap[g]? = w.heap[g]?) : Pil w' b0 v os := own_keep2 h hk
end Go.Proofs.YtjlmeegaiagfpaaDoor

namespace Go.Proofs.YtjlmeegaiagfpaaDoor
open Go.RowKit
open Go.Tree7
open S7
open S5 (nl nl_length nl_small at_nl nl_at Gives idx idx_at ix ix_no ix_yes)
/-- Where the trees lie: in the call's own blocks, but for the pile's. -/
def Sb (w : World) (lo pb : Nat) : Nat → Prop := fun b => lo ≤ b ∧ b < w.heap.size ∧ b ≠ pb
def opOf (o : Opn) : Op := (o.bs.map T.strip, o.ps.map T.strip)
structure PSt (w w' : World) (g cap : Nat) (os : List Opn) (p : List Op) (k : Nat) : Prop where
  pil : Pil w' (w.heap.size + 2) (.slice (some ⟨g, 0, none⟩) os.length cap) os
  ne : os ≠ []
  each : ∀ o ∈ os, Ns w' (Sb w' (w.heap.size + 2) g) o.bv o.bs ∧ Ns w' (Sb w' (w.heap.size + 2) g) o.pv o.ps
  rel : os.map opOf = p.reverse
  b2 : w'.heap[w.heap.size]? = some (.cells #[.int .i64 0, .int .u64 0, .int .u64 0, .int .u64 0, .int .u64 0, .slice none 0 0, .int .i64 0, .int .i64 0, .string ⟨#[]⟩] 35 (0, 0))
  b5 : w'.heap[w.heap.size + 1]? = some (.cells #[.int .i64 0, .int .u64 0, .int .u64 0, .int .u64 0, .int .u64 0, .slice none 0 0, .int .i64 0, .int .i64 0, .string ⟨#[]⟩] 35 (0, 0))
  bel : Below w.heap.size w w'
  few : os.length ≤ k + 1
  small : ∀ o ∈ os, o.bs.length ≤ k ∧ o.ps.length ≤ k
theorem PSt.lt {w w' : World} {g cap : Nat} {os : List Opn} {p : List Op} {k : Nat} (h : PSt w w' g cap os p k) : w.heap.size + 2 ≤ g ∧ g < w'.heap.size ∧ os.length ≤ cap ∧ cap ≤ maxLen := by
  obtain ⟨g', cap', cur, e, h1, h2, h3, h4, -, -⟩ := h.pil.form h.ne
  simp only [Value.slice.injEq, Option.some.injEq, Addr.mk.injEq, and_true, true_and] at e
  obtain ⟨rfl, rfl⟩ := e
  exact ⟨h1, lt_of_box h2, h3, h4⟩
/-- New memory alone: all stays. -/
theorem PSt.step {w w' w'' : World} {g cap : Nat} {os : List Opn} {p : List Op} {k : Nat} (h : PSt w w' g cap os p k) (hb : Bel w' w'') : PSt w w'' g cap os p k where
  pil := h.pil.keep fun b _ hl => hb.block b hl
  ne := h.ne
  each := fun o ho => ⟨((h.each o ho).1.keep fun b hS => hb.block b hS.2.1).imp fun _ hS => ⟨hS.1, Nat.lt_of_lt_of_le hS.2.1 hb.size, hS.2.2⟩, ((h.each o ho).2.keep fun b hS => hb.block b hS.2.1).imp fun _ hS => ⟨hS.1, Nat.lt_of_lt_of_le hS.2.1 hb.size, hS.2.2⟩⟩
  rel := h.rel
  b2 := kept_row h.b2 hb
  b5 := kept_row h.b5 hb
  bel := Bel.step h.bel hb
  few := h.few
  small := h.small
theorem PSt.more {w w' : World} {g cap : Nat} {os : List Opn} {p : List Op} {k k' : Nat} (h : PSt w w' g cap os p k) (hk : k ≤ k') : PSt w w' g cap os p k' where
  pil := h.pil
  ne := h.ne
  each := h.each
  rel := h.rel
  b2 := h.b2
  b5 := h.b5
  bel := h.bel
  few := Nat.le_trans h.few (by omega)
  small := fun o ho => ⟨Nat.le_trans (h.small o ho).1 hk, Nat.le_trans (h.small o ho).2 hk⟩
/-- The one on top: the last in memory. -/
theorem PSt.top {w w' : World} {g cap : Nat} {os : List Opn} {p : List Op} {k : Nat} (h : PSt w w' g cap os p k) : ∃ os' o, os = os' ++ [o] ∧ p = opOf o :: (os'.map opOf).reverse := by
  have he : os ≠ [] := h.ne
  refine ⟨os.dropLast, os.getLast he, (List.dropLast_concat_getLast he).symm, ?_⟩
  have := h.rel
  rw [← List.dropLast_concat_getLast he, List.map_append] at this
  have e := congrArg List.reverse this
  rw [List.reverse_append, List.reverse_reverse] at e
  simpa using e.symm
/-- The top one is set. -/
theorem PSt.set {w w' : World} {g cap : Nat} {os' : List Opn} {o o' : Opn} {p : List Op} {k : Nat} (h : PSt w w' g cap (os' ++ [o]) p k) {W : World} (hW : (w'.setCell ⟨g, os'.length * 2, none⟩ o'.bv).setCell ⟨g, os'.length * 2 + 1, none⟩ o'.pv = W)
    (h1 : Ns w' (Sb w' (w.heap.size + 2) g) o'.bv o'.bs) (h2 : Ns w' (Sb w' (w.heap.size + 2) g) o'.pv o'.ps) {k' : Nat} (hk : k ≤ k') (h3 : o'.bs.length ≤ k' ∧ o'.ps.length ≤ k') : PSt w W g cap (os' ++ [o']) (opOf o' :: (os'.map opOf).reverse) k' := by
  obtain ⟨q1, q2, q3, q4⟩ := h.pil.set (i := os'.length) (by simp) o' W hW
  have e : (os' ++ [o]).set os'.length o' = os' ++ [o'] := by simp
  have el : (os' ++ [o]).length = (os' ++ [o']).length := by simp
  rw [e, el] at q1
  have hg := h.lt
  have hns : ∀ {v : Value} {l : List T}, Ns w' (Sb w' (w.heap.size + 2) g) v l → Ns W (Sb W (w.heap.size + 2) g) v l := fun hn => (hn.keep fun b hS => q2 b hS.2.2).imp fun b hS => ⟨hS.1, by rw [q3]; exact hS.2.1, hS.2.2⟩
  refine ⟨q1, by simp, fun x hx => ?_, by simp, (q2 _ (by omega)).trans h.b2, (q2 _ (by omega)).trans h.b5, h.bel.trans (q4 _ (by omega)), by have := h.few; simp at this ⊢; omega, fun x hx => ?_⟩
  · rcases List.mem_append.1 hx with hx | hx
    · have := h.each x (List.mem_append_left _ hx)
      exact ⟨hns this.1, hns this.2⟩
    · simp only [List.mem_cons, List.not_mem_nil, or_false] at hx
      subst hx
      exact ⟨hns h1, hns h2⟩
  · rcases List.mem_append.1 hx with hx | hx
    · have := h.small x (List.mem_append_left _ hx)
      exact ⟨by omega, by omega⟩
    · simp only [List.mem_cons, List.not_mem_nil, or_false] at hx
      subst hx
      exact h3
/-- The top one goes. -/
theorem PSt.pop {w w' : World} {g cap : Nat} {os' : List Opn} {o : Opn} {p : List Op} {k : Nat} (h : PSt w w' g cap (os' ++ [o]) p k) (hn : os' ≠ []) : PSt w w' g cap os' (os'.map opOf).reverse k where
  pil := by
    have := h.pil.take (m := os'.length) (by simp) (by simp)
    rwa [List.take_left'] at this
    rfl
  ne := hn
  each := fun x hx => h.each x (List.mem_append_left _ hx)
  rel := by simp
  b2 := h.b2
  b5 := h.b5
  bel := h.bel
  few := by have := h.few; simp at this; omega
  small := fun x hx => h.small x (List.mem_append_left _ hx)
/-- A row of one's own, told as a slice of nodes. -/
theorem ns_of_own {W : World} {b0 : Nat} {S : Nat → Prop} {v : Value} {n : Nat} {ms : List T} (h : W.ownsRow b0 35 9 v n (ms.flatMap T.cells)) (hn : ms.length = n) (hk : ∀ t ∈ ms, T.InP W S t) (hS : ∀ b, b0 ≤ b → b < W.heap.size → S b) : Ns W S v ms := by
  subst hn
  rcases h.2 with ⟨e, h0⟩ | ⟨g, cap, cur, e, h1, h2, h3, h4, h5, h6⟩
  · exact .inl ⟨e, List.eq_nil_of_length_eq_zero h0⟩
  · subst e
    refine .inr ⟨g, cap, rfl, hS g h1 (lt_of_box h2), ?_⟩
    exact inP_row rfl (by constructor <;> decide) h hk hS
end Go.Proofs.YtjlmeegaiagfpaaDoor

namespace Go.Proofs.YtjlmeegaiagfpaaDoor
open Go.RowKit
open Go.Tree7
open S7
open S5 (nl nl_length nl_small at_nl nl_at Gives idx idx_at ix ix_no ix_yes)
/-- What the reference's Parse gives back. -/
def GivesRP (s : ByteArray) (w : World) (out : Out) (e : Ending) (w' : World) : Prop := Below w.heap.size w w' ∧ match out with
  | .bad n er => e = .returned (.tuple #[.agg #[.int .i64 0, .int .u64 0, .int .u64 0, .int .u64 0, .int .u64 0, .slice none 0 0, .int .i64 0, .int .i64 0, .string ⟨#[]⟩], .int .i64 n, .int .i64 er])
  | .tree t => (24 < deepOf (allT t) ∧ e = .returned (.tuple #[.agg #[.int .i64 0, .int .u64 0, .int .u64 0, .int .u64 0, .int .u64 0, .slice none 0 0, .int .i64 0, .int .i64 0, .string ⟨#[]⟩], .int .i64 0, .int .i64 7])) ∨ (deepOf (allT t) ≤ 24 ∧ 600 < (allT t).length ∧ e = .returned (.tuple #[.agg #[.int .i64 0, .int .u64 0, .int .u64 0, .int .u64 0, .int .u64 0, .slice none 0 0, .int .i64 0, .int .i64 0, .string ⟨#[]⟩], .int .i64 0, .int .i64 9])) ∨
      (deepOf (allT t) ≤ 24 ∧ (allT t).length ≤ 600 ∧ ∃ m : T, m.strip = t ∧ T.In w' w'.heap.size m ∧ e = .returned (.tuple #[.agg m.cells.toArray, .int .i64 s.size, .int .i64 0]))
/-- What holds in the loop. -/
def RpRel (s : ByteArray) (w : World) (out : Out) (v fv av : Value) (wr : World) : Prop := ∃ (g cap : Nat) (os : List Opn) (p : List Op) (fr : Bool) (k : Nat), v = .slice (some ⟨g, 0, none⟩) os.length cap ∧ fv = .bool fr ∧ av = .int .i64 k ∧ k ≤ s.size ∧ PSt w wr g cap os p k ∧ Run (nl s) p fr k out
theorem rp_start {s : ByteArray} {out : Out} (hrun : Run (nl s) [([], [])] false 0 out) (w : World) : RpRel s w out (.slice (some ⟨w.heap.size + 1 + 1, 0, none⟩) 1 1) (.bool false) (.int .i64 0) (((w.alloc (.cells #[.int .i64 0, .int .u64 0, .int .u64 0, .int .u64 0, .int .u64 0, .slice none 0 0, .int .i64 0, .int .i64 0, .string ⟨#[]⟩] 35)).alloc (.cells #[.int .i64 0, .int .u64 0, .int .u64 0, .int .u64 0, .int .u64 0, .slice none 0 0, .int .i64 0, .int .i64 0, .string ⟨#[]⟩] 35)).alloc (.cells #[.slice none 0 0, .slice none 0 0] 58)) := by
  refine ⟨w.heap.size + 1 + 1, 1, [⟨.slice none 0 0, .slice none 0 0, [], []⟩], [([], [])], false, 0, rfl, rfl, rfl, Nat.zero_le _, ⟨⟨rfl, .inr ⟨_, 1, _, rfl, by omega, at_new3 w _ _ _, Nat.le_refl _, by unfold maxLen; omega, rfl, rfl⟩⟩, by simp, fun o ho => ?_, rfl, kept_alloc (kept_alloc (World.alloc_heap_new w _) _) _, at_mid3 w _ _ _, Bel.alloc (Bel.alloc (Bel.new w _) _) _, Nat.le_refl _, fun o ho => ?_⟩, hrun⟩
  · simp only [List.mem_cons, List.not_mem_nil, or_false] at ho
    subst ho
    exact ⟨.inl ⟨rfl, rfl⟩, .inl ⟨rfl, rfl⟩⟩
  · simp only [List.mem_cons, List.not_mem_nil, or_false] at ho
    subst ho
    exact ⟨Nat.le_refl _, Nat.le_refl _⟩
theorem mk_lt {l : List Nat} {k n e : Nat} {a b : Int} (h : Mk l k a b n e) : k < l.length := by
  cases h with
  | star h => exact lt_of_at h
  | plus h => exact lt_of_at h
  | opt h => exact lt_of_at h
  | bounds _ _ _ _ h => exact lt_of_at h
theorem allS_deep (t : T) : deepOf (allT t) ≤ 24 ↔ ∀ x ∈ allS t, x.level ≤ 24 := by
  rw [deepOf_le, allS_map]
  constructor
  · intro h x hx
    obtain ⟨y, hy, rfl⟩ := List.mem_map.1 hx
    have : (y.2.step y.1).level = y.1 := by cases y.2; rfl
    rw [this]
    exact h y hy
  · intro h y hy
    have := h _ (List.mem_map_of_mem (f := fun x => x.2.step x.1) hy)
    have e : (y.2.step y.1).level = y.1 := by cases y.2; rfl
    rw [e] at this
    exact this
theorem run_end {l : List Nat} {p : List Op} {fr : Bool} {k : Nat} {out : Out} (h : Run l p fr k out) (hk : l.length ≤ k) : (∃ o, p = [o] ∧ out = .tree (closedT o)) ∨ ∃ o o' p', p = o :: o' :: p' ∧ out = .bad l.length 2 := by
  cases h with
  | step h _ => have := st_next h; omega
  | tree o => exact .inl ⟨o, rfl, rfl⟩
  | short o o' p => exact .inr ⟨o, o', p, rfl, rfl⟩
  | mark _ _ _ _ x y h => exact absurd (mk_lt h) (by omega)
  | close o _ _ h => have := lt_of_at h; omega
  | atom _ _ _ _ _ _ h => obtain ⟨c, h1, -⟩ := atmbad_c h; have := lt_of_at h1; omega
/-- How it goes on where a suffix stands. -/
theorem run_mark {l : List Nat} {p : List Op} {k : Nat} {out : Out} (h : Run l p true k out) (hm : IsMark l k) :
    (∃ bs ps x rest a b n, p = (bs, ps ++ [x]) :: rest ∧ Mk l k a b n 0 ∧ Run l ((bs, ps ++ [tR a b x]) :: rest) true n out) ∨ ∃ n e x y, Mk l k x y n e ∧ e ≠ 0 ∧ out = .bad n e := by
  have hc : ∃ c, l[k]? = some c ∧ c ≠ 40 ∧ c ≠ 41 ∧ c ≠ 124 := by
    rcases hm with h | h | h | ⟨h, -⟩ <;> exact ⟨_, h, by decide, by decide, by decide⟩
  obtain ⟨c, h0, h1, h2, h3⟩ := hc
  cases h with
  | step hs hr =>
    cases hs with
    | mark hk => exact .inl ⟨_, _, _, _, _, _, _, rfl, hk, hr⟩
    | opens h => rw [h0] at h; exact absurd (Option.some.inj h) h1
    | bar h => rw [h0] at h; exact absurd (Option.some.inj h) h3
    | close h => rw [h0] at h; exact absurd (Option.some.inj h) h2
    | atom hn _ => exact absurd ⟨rfl, hm⟩ hn
  | tree _ _ _ h => have := lt_of_at h0; omega
  | short _ _ _ _ _ h => have := lt_of_at h0; omega
  | mark _ _ _ _ x y hk he => exact .inr ⟨_, _, _, _, hk, he, rfl⟩
  | close _ _ _ h => rw [h0] at h; exact absurd (Option.some.inj h) h2
  | atom _ _ _ _ _ hn _ => exact absurd ⟨rfl, hm⟩ hn
theorem run_open {l : List Nat} {p : List Op} {fr : Bool} {k : Nat} {out : Out} (h : Run l p fr k out) (h0 : l[k]? = some 40) : Run l (([], []) :: p) false (k + 1) out := by
  cases h with
  | step hs hr =>
    cases hs with
    | mark hk => obtain ⟨c, h1, h2, -⟩ := mk_at hk; rw [h0] at h1; exact absurd (Option.some.inj h1).symm h2
    | opens h => exact hr
    | bar h => rw [h0] at h; cases h
    | close h => rw [h0] at h; cases h
    | atom hn hk => obtain ⟨c, h1, h2, -⟩ := atm_c hk; rw [h0] at h1; exact absurd (Option.some.inj h1).symm h2
  | tree _ _ _ h => have := lt_of_at h0; omega
  | short _ _ _ _ _ h => have := lt_of_at h0; omega
  | mark _ _ _ _ x y hk he => obtain ⟨c, h1, h2, -⟩ := mk_at hk; rw [h0] at h1; exact absurd (Option.some.inj h1).symm h2
  | close _ _ _ h => rw [h0] at h; cases h
  | atom _ _ _ _ _ hn hk => obtain ⟨c, h1, h2, -⟩ := atmbad_c hk; rw [h0] at h1; exact absurd (Option.some.inj h1).symm h2
theorem run_bar {l : List Nat} {bs ps : List T} {p : List Op} {fr : Bool} {k : Nat} {out : Out} (h : Run l ((bs, ps) :: p) fr k out) (h0 : l[k]? = some 124) : Run l ((bs ++ [catT ps], []) :: p) false (k + 1) out := by
  cases h with
  | step hs hr =>
    cases hs with
    | mark hk => obtain ⟨c, h1, -, -, h2, -⟩ := mk_at hk; rw [h0] at h1; exact absurd (Option.some.inj h1).symm h2
    | opens h => rw [h0] at h; cases h
    | bar h => exact hr
    | close h => rw [h0] at h; cases h
    | atom hn hk => obtain ⟨c, h1, -, -, h2⟩ := atm_c hk; rw [h0] at h1; exact absurd (Option.some.inj h1).symm h2
  | tree _ _ _ h => have := lt_of_at h0; omega
  | short _ _ _ _ _ h => have := lt_of_at h0; omega
  | mark _ _ _ _ x y hk he => obtain ⟨c, h1, -, -, h2, -⟩ := mk_at hk; rw [h0] at h1; exact absurd (Option.some.inj h1).symm h2
  | close _ _ _ h => rw [h0] at h; cases h
  | atom _ _ _ _ _ hn hk => obtain ⟨c, h1, -, -, h2⟩ := atmbad_c hk; rw [h0] at h1; exact absurd (Option.some.inj h1).symm h2
theorem run_close {l : List Nat} {o : Op} {p : List Op} {fr : Bool} {k : Nat} {out : Out} (h : Run l (o :: p) fr k out) (h0 : l[k]? = some 41) : (p = [] ∧ out = .bad k 4) ∨ ∃ bs ps rest, p = (bs, ps) :: rest ∧ Run l ((bs, ps ++ [closedT o]) :: rest) true (k + 1) out := by
  cases h with
  | step hs hr =>
    cases hs with
    | mark hk => obtain ⟨c, h1, -, h2, -⟩ := mk_at hk; rw [h0] at h1; exact absurd (Option.some.inj h1).symm h2
    | opens h => rw [h0] at h; cases h
    | bar h => rw [h0] at h; cases h
    | close h => exact .inr ⟨_, _, _, rfl, hr⟩
    | atom hn hk => obtain ⟨c, h1, -, h2, -⟩ := atm_c hk; rw [h0] at h1; exact absurd (Option.some.inj h1).symm h2
  | tree _ _ _ h => have := lt_of_at h0; omega
  | short _ _ _ _ _ h => have := lt_of_at h0; omega
  | mark _ _ _ _ x y hk he => obtain ⟨c, h1, -, h2, -⟩ := mk_at hk; rw [h0] at h1; exact absurd (Option.some.inj h1).symm h2
  | close _ _ _ h => exact .inl ⟨rfl, rfl⟩
  | atom _ _ _ _ _ hn hk => obtain ⟨c, h1, -, h2, -⟩ := atmbad_c hk; rw [h0] at h1; exact absurd (Option.some.inj h1).symm h2
theorem run_atom {l : List Nat} {bs ps : List T} {p : List Op} {fr : Bool} {k c : Nat} {out : Out} (h : Run l ((bs, ps) :: p) fr k out) (h0 : l[k]? = some c) (h1 : c ≠ 40) (h2 : c ≠ 41) (h3 : c ≠ 124) (hm : ¬ (fr = true ∧ IsMark l k)) :
    (∃ x n, Atm l k x n ∧ Run l ((bs, ps ++ [x]) :: p) true n out) ∨ ∃ n e, AtmBad l k n e ∧ out = .bad n e := by
  cases h with
  | step hs hr =>
    cases hs with
    | mark hk => obtain ⟨c, -, -, -, -, h⟩ := mk_at hk; exact absurd ⟨rfl, h⟩ hm
    | opens h => rw [h0] at h; exact absurd (Option.some.inj h) h1
    | bar h => rw [h0] at h; exact absurd (Option.some.inj h) h3
    | close h => rw [h0] at h; exact absurd (Option.some.inj h) h2
    | atom hn hk => exact .inl ⟨_, _, hk, hr⟩
  | tree _ _ _ h => have := lt_of_at h0; omega
  | short _ _ _ _ _ h => have := lt_of_at h0; omega
  | mark _ _ _ _ x y hk he => obtain ⟨c, -, -, -, -, h⟩ := mk_at hk; exact absurd ⟨rfl, h⟩ hm
  | close _ _ _ h => rw [h0] at h; exact absurd (Option.some.inj h) h2
  | atom _ _ _ _ _ hn hk => exact .inr ⟨_, _, hk, rfl⟩
end Go.Proofs.YtjlmeegaiagfpaaDoor

namespace Go.Proofs.YtjlmeegaiagfpaaDoor
open Go.RowKit
open Go.Tree7
open S7
open S5 (nl nl_length nl_small at_nl nl_at Gives idx idx_at ix ix_no ix_yes)
/-- A slice of nodes that can be appended. -/
structure NSrc (w : World) (p : Option Addr) (m c : Nat) (ks : List T) : Prop where
  len : ks.length = m
  nil : p = none → m = 0 ∧ c = 0
  news : ∀ ad, p = some ad → ∀ (j : Nat) (u : Value), (ks.flatMap T.cells)[j]? = some u → w.cell? (ad.add j) = some u
theorem ns_src {w : World} {S : Nat → Prop} {p : Option Addr} {m c : Nat} {ks : List T} (h : Ns w S (.slice p m c) ks) (hS : ∀ b, S b → b < w.heap.size) : ∀ W, Bel w W → NSrc W p m c ks := by
  intro W hW
  rcases h with ⟨e, rfl⟩ | ⟨g, cap, e, hg, h⟩
  · simp only [Value.slice.injEq] at e
    obtain ⟨rfl, rfl, rfl⟩ := e
    exact ⟨rfl, fun _ => ⟨rfl, rfl⟩, fun ad e => by cases e⟩
  · simp only [Value.slice.injEq] at e
    obtain ⟨rfl, rfl, rfl⟩ := e
    refine ⟨rfl, fun e => (by cases e), fun ad e j u hj => ?_⟩
    cases e
    rw [← row_news h j u hj]
    refine World.cell?_of_block ?_
    rw [add_at]
    exact hW.block g (hS g hg)
theorem ns_kids {w : World} {S : Nat → Prop} {v : Value} {ks : List T} (h : Ns w S v ks) : ∀ t ∈ ks, T.InP w S t := by
  rcases h with ⟨-, rfl⟩ | ⟨g, cap, -, -, h⟩
  · intro t ht; cases ht
  · unfold rowN at h
    cases h with | mk h1 h2 h3 h4 h5 => exact h5
/-- The first ones of such a slice. -/
theorem NSrc.take {w : World} {p : Option Addr} {m c n : Nat} {ks qs : List T} (h : NSrc w p m c (ks ++ qs)) (hn : ks.length = n) (hp : p ≠ none) : NSrc w p n c ks where
  len := hn
  nil := fun e => absurd e hp
  news := fun ad e j u hj => h.news ad e j u (by
    rw [List.flatMap_append, List.getElem?_append_left (List.getElem?_eq_some_iff.1 hj).1]
    exact hj)
/-- A new array of one node. -/
theorem nsrc_one {w : World} {b : Nat} {t : T} (h : w.heap[b]? = some (.cells t.cells.toArray 35 (0, 0))) : NSrc w (some ⟨b, 0, none⟩) 1 1 [t] where
  len := rfl
  nil := fun e => by cases e
  news := fun ad e j u hj => by
    cases e
    exact box_news h j u (by simpa using hj)
section
variable {w : World} {ops : Array Oper} {rest : List Oper} {o : Oper} {a : Act} {K : Act → World → Prop} {Q : Exit → Act → World → Prop} {E : Prop}
theorem step_nodes (hgd : o.guard = none) (s x : Operand) (ho : o.op = .call { callee := .builtin .append, args := #[s, x], argTypes := #[33, 33] })
    (base : Nat) (v : Value) (n : Nat) (xs : List T) (hs : a.eval s = v) (hown : w.ownsRow base 35 9 v n (xs.flatMap T.cells)) (p : Option Addr) (m c : Nat) (ks : List T) (hx : a.eval x = .slice p m c) (hsrc : NSrc w p m c ks)
    (hsm : n + m ≤ 100000) (hbase : base ≤ w.heap.size)
    (h : ∀ v' w', w'.ownsRow base 35 9 v' (n + m) ((xs ++ ks).flatMap T.cells) → w.grownBy w' v.ownBlock → K (a.put o.dst v') w') :
    if Region.wanted o (yielded ops a.tmps) = true then Oper.wp Tryd.prog o a w K Q else E := by
  obtain ⟨i0, hi, hz0, hz1, hz2⟩ := info_parts infoRN
  refine step_append_src hgd s x 33 ho base 35 i0 (.agg #[.int .i64 0, .int .u64 0, .int .u64 0, .int .u64 0, .int .u64 0, .slice none 0 0, .int .i64 0, .int .i64 0, .string ⟨#[]⟩]) 9 96 Tryd.underlying33 hi hz0 hz1 hz2 rfl (by decide) v n _ hs hown p m c (ks.flatMap T.cells) hx (by rw [cells_len9, hsrc.len]) hsrc.nil hsrc.news row_ones (by unfold maxLen; omega) (by omega) hbase ?_
  intro v' w' h1 h2
  exact h v' w' (by rw [List.flatMap_append]; exact h1) h2
end
/-- The pile as a whole block. -/
theorem PSt.cur {w w' : World} {g cap : Nat} {os : List Opn} {p : List Op} {k : Nat} (h : PSt w w' g cap os p k) : ∃ cur, w'.heap[g]? = some (.cells cur 58 (0, 0)) ∧ ∀ i (hi : i < os.length), cur[i * 2]? = some os[i].bv ∧ cur[i * 2 + 1]? = some os[i].pv := by
  obtain ⟨g', cap', cur, e, h1, h2, h3, h4, h5, h6⟩ := h.pil.form h.ne
  simp only [Value.slice.injEq, Option.some.injEq, Addr.mk.injEq, and_true, true_and] at e
  obtain ⟨rfl, rfl⟩ := e
  refine ⟨cur, h2, fun i hi => ?_⟩
  obtain ⟨a1, a2⟩ := ocells_at os i hi
  rw [← h6, List.getElem?_take, if_pos (by omega), Array.getElem?_toList] at a1 a2
  exact ⟨a1, a2⟩
theorem Pil.news {w : World} {b0 g cap : Nat} {os : List Opn} (h : Pil w b0 (.slice (some ⟨g, 0, none⟩) os.length cap) os) : ∀ (j : Nat) (u : Value), (ocells os)[j]? = some u → w.cell? ((⟨g, 0, none⟩ : Addr).add j) = some u := fun j u hj => by
  have hlt := (List.getElem?_eq_some_iff.1 hj).1
  rw [ocells_len] at hlt
  have hi : j / 2 < os.length := by omega
  obtain ⟨c0, c1, -, -⟩ := h.cell hi
  obtain ⟨a0, a1⟩ := ocells_at os (j / 2) hi
  rw [add_at]
  rcases Nat.mod_two_eq_zero_or_one j with hj2 | hj2
  · have e : j = j / 2 * 2 := by omega
    rw [e] at hj
    rw [a0] at hj
    rw [e, c0, hj]
  · have e : j = j / 2 * 2 + 1 := by omega
    rw [e] at hj
    rw [a1] at hj
    rw [e, c1, hj]
theorem PSt.ones {w w' : World} {g cap : Nat} {os : List Opn} {p : List Op} {k : Nat} (h : PSt w w' g cap os p k) : ∀ u ∈ ocells os, u.oneCell' = true := fun u hu => by
  obtain ⟨o, ho, h1⟩ := List.mem_flatMap.1 hu
  obtain ⟨e1, e2⟩ := h.each o ho
  obtain ⟨p1, c1, v1, -⟩ := e1.form
  obtain ⟨p2, c2, v2, -⟩ := e2.form
  simp only [List.mem_cons, List.not_mem_nil, or_false] at h1
  rcases h1 with rfl | rfl
  · rw [v1]; rfl
  · rw [v2]; rfl
theorem own_some {w : World} {base size n : Nat} {e : TypeId} {v : Value} {xs : List Value} (h : w.ownsRow base e size v n xs) (hn : 0 < n) : ∃ g cap, v = .slice (some ⟨g, 0, none⟩) n cap ∧ base ≤ g ∧ g < w.heap.size := by
  rcases h.2 with ⟨-, e⟩ | ⟨g, cap, cur, e, h1, h2, -⟩
  · omega
  · exact ⟨g, cap, e, h1, lt_of_box h2⟩
/-- One more is open. -/
theorem PSt.push {w wr W : World} {g cap : Nat} {os : List Opn} {p : List Op} {k : Nat} (h : PSt w wr g cap os p k) (hb : Bel wr W) {b1 g' cap' : Nat} (hb1 : wr.heap.size ≤ b1) (hr : W.ownsRow b1 58 2 (.slice (some ⟨g', 0, none⟩) (os.length + 1) cap') (os.length + 1) (ocells os ++ [.slice none 0 0, .slice none 0 0])) :
    PSt w W g' cap' (os ++ [⟨.slice none 0 0, .slice none 0 0, [], []⟩]) (([], []) :: p) (k + 1) := by
  have hst := h.step hb
  have hsz := h.lt
  rcases hr.2 with ⟨e, -⟩ | ⟨g2, cap2, cur, e, h1, h2, h3, h4, h5, h6⟩
  · cases e
  simp only [Value.slice.injEq, Option.some.injEq, Addr.mk.injEq, and_true, true_and] at e
  obtain ⟨rfl, rfl⟩ := e
  have e0 : ∀ b, Sb wr (w.heap.size + 2) g b → Sb W (w.heap.size + 2) g' b := fun b hS => ⟨hS.1, Nat.lt_of_lt_of_le hS.2.1 hb.size, by have := hS.2.1; omega⟩
  refine ⟨⟨by rw [ocells_len], ?_⟩, by simp, fun o ho => ?_, ?_, hst.b2, hst.b5, hst.bel, by have := h.few; simp; omega, fun o ho => ?_⟩
  · rw [ocells_snoc, List.length_append]
    exact .inr ⟨g', cap', cur, rfl, by omega, h2, h3, h4, h5, h6⟩
  · rcases List.mem_append.1 ho with ho | ho
    · obtain ⟨a1, a2⟩ := h.each o ho
      exact ⟨(a1.keep fun b hS => hb.block b hS.2.1).imp e0, (a2.keep fun b hS => hb.block b hS.2.1).imp e0⟩
    · simp only [List.mem_cons, List.not_mem_nil, or_false] at ho
      subst ho
      exact ⟨.inl ⟨rfl, rfl⟩, .inl ⟨rfl, rfl⟩⟩
  · rw [List.map_append, h.rel]
    simp [opOf]
  · rcases List.mem_append.1 ho with ho | ho
    · have := h.small o ho; omega
    · simp only [List.mem_cons, List.not_mem_nil, or_false] at ho
      subst ho
      exact ⟨Nat.zero_le _, Nat.zero_le _⟩
/-- A repetition, its node in a box of its own. -/
theorem rep_inP {W : World} {S : Nat → Prop} {bk : Nat} {a b : Int} {z : T} (ha : (Lit.int .i64 a).wf = true) (hb : (Lit.int .i64 b).wf = true) (hbl : W.heap[bk]? = some (.cells z.cells.toArray 35 (0, 0))) (hS : S bk) (hz : T.InP W S z) : T.InP W S (.mk 4 0 0 0 0 (some ⟨bk, 0, none⟩) 1 a b ⟨#[]⟩ [z]) := by
  refine .mk (Nat.le_refl _) (by unfold maxLen; omega) ⟨by decide, ⟨by decide, by decide, by decide, by decide⟩, ha, hb, by decide⟩ (fun i hi => ?_) (fun t ht => ?_)
  · have hi0 : i = 0 := by simp at hi; exact hi
    subst hi0
    refine ⟨⟨bk, 0, none⟩, rfl, hS, fun j hj => ?_⟩
    rw [add_at, Nat.zero_mul, Nat.zero_add]
    have hl := T.cells_length z
    obtain ⟨u, hu⟩ : ∃ u, z.cells[j]? = some u := ⟨_, List.getElem?_eq_getElem (by omega)⟩
    rw [(cells_of hbl j u (by simpa using hu)).1]
    exact hu.symm
  · simp only [List.mem_cons, List.not_mem_nil, or_false] at ht
    subst ht
    exact hz
theorem rep_strip (p : Option Addr) (c : Nat) (a b : Int) (z : T) : (T.mk 4 0 0 0 0 p c a b ⟨#[]⟩ [z]).strip = tR a b z.strip := by rw [T.strip_mk]; rfl
/-- Behind an atom, or a closing bracket: what is added to the one on top, in the box xb. -/
def AtX (s : ByteArray) (w : World) (out : Out) (g cap k xb : Nat) (v6 v8 v9 : Value) (wx : World) : Prop := ∃ (os2 : List Opn) (o2 : Opn) (p2 : List Op) (n : Nat) (m : T), v6 = .slice (some ⟨g, 0, none⟩) (os2.length + 1) cap ∧ v8 = .int .i64 n ∧ v9 = .int .i64 os2.length ∧ n ≤ s.size ∧ k < n ∧
  PSt w wx g cap (os2 ++ [o2]) p2 k ∧ wx.heap[xb]? = some (.cells m.cells.toArray 35 (0, 0)) ∧ g < xb ∧ T.InP wx (Sb wx (w.heap.size + 2) g) m ∧ Run (nl s) ((o2.bs.map T.strip, o2.ps.map T.strip ++ [m.strip]) :: (os2.map opOf).reverse) true n out
end Go.Proofs.YtjlmeegaiagfpaaDoor
