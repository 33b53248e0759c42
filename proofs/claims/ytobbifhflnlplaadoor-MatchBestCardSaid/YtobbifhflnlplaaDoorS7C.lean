/- Texts merged: S7W10, S7W11, S7W13, S7W14, S7W19, S7W21, S7W23, S7W22a. -/
import Derived.StillTailTactics
import Derived.Deep.QuietTactic
import Derived.BigQuiet
import Derived.Deep.RegionWith
import Derived.Test.YtobbifhflnlplaaDoorS7B
import Derived.Test.YtobbifhflnlplaaDoorS5A
import Derived.Test.YtobbifhflnlplaaDoorS6A
import Derived.Test.YtobbifhflnlplaaDoorS5B
import Derived.Test.YtobbifhflnlplaaDoorS1C
import Derived.Test.YtobbifhflnlplaaDoorS7W9
namespace Go.Proofs.YtobbifhflnlplaaDoor.S7
open Lib (hid)
open Go.RowKit
open Go.Tree7
open S5 (nl nl_length nl_small at_nl nl_at)
def figs (n : Nat) : List Nat := if n < 10 then [48 + n] else [48 + n / 10, 48 + n % 10]
end Go.Proofs.YtobbifhflnlplaaDoor.S7
namespace Go.Proofs.YtobbifhflnlplaaDoor.S7
open Lib (hid)
open Go.RowKit
open Go.Tree7
open S5 (nl nl_length nl_small at_nl nl_at)
open S1 (el eqB notS oneS wd)
theorem cells_of {W : World} {b : Nat} {cs : Array Value} {t : TypeId} (h : W.heap[b]? = some (.cells cs t (0, 0))) : ∀ q v, cs[q]? = some v → W.cell? ⟨b, q, none⟩ = some v ∧ W.frozen? ⟨b, q, none⟩ = false := fun q v hv => by
 refine ⟨?_, ?_⟩
 ·rw [cell_of_row _ _ _ _ _ (0, 0) h]; exact hv
 ·simp [World.frozen?, h]
def dotS : Nat → Bool := notS (oneS 10)
set_option maxRecDepth 10000 in
set_option maxHeartbeats 1000000 in
theorem dot_in (w : World) : Calls Tryd.prog 73 #[] w fun e w' => e = .returned (.agg #[.int .u64 (S1.wd (dotS) 0), .int .u64 (S1.wd (dotS) 1), .int .u64 (S1.wd (dotS) 2), .int .u64 (S1.wd (dotS) 3)]) ∧ Below w.heap.size w w' := by
 have C := fun w => S1.one_in 10 (by decide) w
 have D := fun w => S1.not_in (oneS 10) w
 unfold dotS
 have o0 := C
 clear o0
 generalize wd (oneS 10) 0 = a0 at *
 generalize wd (oneS 10) 1 = a1 at *
 generalize wd (oneS 10) 2 = a2 at *
 generalize wd (oneS 10) 3 = a3 at *
 generalize wd (notS (oneS 10)) 0 = b0 at *
 generalize wd (notS (oneS 10)) 1 = b1 at *
 generalize wd (notS (oneS 10)) 2 = b2 at *
 generalize wd (notS (oneS 10)) 3 = b3 at *
 replace C := hid C
 replace D := hid D
 go_enter Tryd.func73, Tryd.ntmps73
 go_wp2_with (first | (go_at_call 76; refine (C.out _).mono ?_; rintro e w1 ⟨rfl, hb1⟩; replace hb1 := hid hb1) | (go_at_call 91; (with_reducible refine (D.out _).mono ?_); rintro e w2 ⟨rfl, hb2⟩; have hk := cells_of (kept_row (kept_row (World.alloc_heap_new _ _) hb1.out) hb2); obtain ⟨c0, f0⟩ := hk 0 _ rfl; obtain ⟨c1, f1⟩ := hk 1 _ rfl; obtain ⟨c2, f2⟩ := hk 2 _ rfl; obtain ⟨c3, f3⟩ := hk 3 _ rfl; clear hk; have hl : w.heap.size < w2.heap.size := Nat.lt_of_lt_of_le (by have := hb1.out.size; simp at this; omega) hb2.size; replace hb2 := hid hb2))
 have hB : Below w.heap.size w w2 := ((Below.refl w.heap.size w).alloc (Nat.le_refl _) _).trans ((hb1.out.mono (by simp)).trans (hb2.out.mono (by have := hb1.out.size; simp at this; omega)))
 exact bodyPost_ret (v := (.agg #[.int .u64 b0, .int .u64 b1, .int .u64 b2, .int .u64 b3])) (by simp [results, Tryd.results73, go_sem, c0, c1, c2, c3]) rfl ⟨rfl, (((hB.setCell (p := ⟨w.heap.size, 0, none⟩) (Nat.le_refl _) _).setCell (p := ⟨w.heap.size, 1, none⟩) (Nat.le_refl _) _).setCell (p := ⟨w.heap.size, 2, none⟩) (Nat.le_refl _) _).setCell (p := ⟨w.heap.size, 3, none⟩) (Nat.le_refl _) _⟩
noncomputable def po (c : Nat) : List Nat := if h : c ≤ 255 then Classical.choose (S5.sp_some (.inl rfl) c h : ∃ l, S5.Sp S5.out c l) else []
noncomputable def oneL (f : Nat → Bool) : List Nat := if (el f 256).length = 1 then po ((el f 256).headD 0) else if eqB f dotS = true then [46] else S6.txtB f
end Go.Proofs.YtobbifhflnlplaaDoor.S7
namespace Go.Proofs.YtobbifhflnlplaaDoor.S7
open Lib (hid)
open Go.RowKit
open Go.Tree7
open S5 (nl nl_length nl_small at_nl nl_at)
def timesL (mn mx : Int) : List Nat :=
 if mn = 0 ∧ mx = -1 then [42] else if mn = 1 ∧ mx = -1 then [43] else if mn = 0 ∧ mx = 1 then [63]
 else if mn = mx then [123] ++ figs mn.toNat ++ [125] else if mx = -1 then [123] ++ figs mn.toNat ++ [44, 125] else [123] ++ figs mn.toNat ++ [44] ++ figs mx.toNat ++ [125]
end Go.Proofs.YtobbifhflnlplaaDoor.S7
namespace Go.Proofs.YtobbifhflnlplaaDoor.S7
open Lib (hid)
open Go.RowKit
open Go.Tree7
open S5 (nl nl_length nl_small at_nl nl_at)
inductive T.All (P : T → Prop) : T → Prop
 | mk {k u0 u1 u2 u3 : Int} {p : Option Addr} {cap : Nat} {mn mx : Int} {tx : ByteArray} {ks : List T} (h : P (.mk k u0 u1 u2 u3 p cap mn mx tx ks)) (hk : ∀ t ∈ ks, T.All P t) : T.All P (.mk k u0 u1 u2 u3 p cap mn mx tx ks)
theorem T.All.imp {P Q : T → Prop} (h : ∀ t, P t → Q t) {t : T} (a : T.All P t) : T.All Q t := by
 induction a with
 | mk h' _ ih => exact .mk (h _ h') ih
theorem all_pre {P : T → Prop} : ∀ (d lv : Nat) (t : T), lv + d = 25 → (∀ x ∈ preT d lv t, x.1 ≤ 24 ∧ P x.2) → T.All P t ∧ (preT d lv t).length = t.size := by
 intro d
 induction d with
 | zero =>
  intro lv t hd h
  have := (h (lv, t) (by simp [preT])).1
  simp at this
  omega
 | succ d ih =>
  intro lv t hd h
  cases t with
  | mk k u0 u1 u2 u3 p cap mn mx tx ks =>
   have each : ∀ t ∈ ks, T.All P t ∧ (preT d (lv + 1) t).length = t.size := fun t ht => ih (lv + 1) t (by omega) fun x hx => h x (by
    simp only [preT, T.kids, List.mem_cons, List.mem_flatMap]
    exact .inr ⟨t, ht, hx⟩)
   refine ⟨.mk (h (lv, .mk k u0 u1 u2 u3 p cap mn mx tx ks) (by simp [preT])).2 (fun t ht => (each t ht).1), ?_⟩
   rw [T.size_mk]
   simp only [preT, T.kids, List.length_cons, List.length_flatMap]
   have e : (ks.map fun t => (preT d (lv + 1) t).length) = ks.map T.size := List.map_congr_left fun t ht => (each t ht).2
   rw [e]
   omega
theorem right_all {t : T} (h : RightP t) : T.All (fun t => T.ok t = true) t ∧ t.size ≤ 600 := by
 obtain ⟨h1, h2⟩ := h
 have hl : (preT 24 1 t).length ≤ 600 := by
  unfold allT at h2
  simp at h2
  omega
 have e : allT t = preT 24 1 t := by unfold allT; exact List.take_of_length_le (by omega)
 rw [e] at h1
 obtain ⟨a, b⟩ := all_pre (P := fun t => T.ok t = true) 24 1 t rfl h1
 exact ⟨a, by omega⟩
def itm (cl : List Int) (k : Int) (l : List Nat) : List Nat := if k ∈ cl then [40] ++ l ++ [41] else l
def joinS (sep : List Nat) : List (List Nat) → List Nat
 | [] => []
 | x :: xs => x ++ xs.flatMap fun y => sep ++ y
def T.k : T → Int
 | .mk k _ _ _ _ _ _ _ _ _ _ => k
noncomputable def T.txt : T → List Nat
 | .mk k u0 u1 u2 u3 _ _ mn mx tx ks =>
  if k = 1 then oneL (S1.mem4 u0.toNat u1.toNat u2.toNat u3.toNat)
  else if k = 2 then (if ks.length = 0 then [40, 41] else joinS [] (ks.attach.map fun ⟨t, _⟩ => itm [2, 3] (T.k t) (T.txt t)))
  else if k = 3 then joinS [124] (ks.attach.map fun ⟨t, _⟩ => itm [3] (T.k t) (T.txt t))
  else if k = 4 then joinS [] (ks.attach.map fun ⟨t, _⟩ => itm [2, 3, 4] (T.k t) (T.txt t)) ++ timesL mn mx
  else [123] ++ nl tx ++ [125]
noncomputable def its (cl : List Int) (ks : List T) : List (List Nat) := ks.map fun t => itm cl (T.k t) (T.txt t)
end Go.Proofs.YtobbifhflnlplaaDoor.S7
namespace Go.Proofs.YtobbifhflnlplaaDoor.S7
open Lib (hid)
open Go.RowKit
open Go.Tree7
open S5 (nl nl_length nl_small at_nl nl_at nl_inj)
def leafT (f : Nat → Bool) : T := .mk 1 (S1.wd f 0 : Nat) (S1.wd f 1 : Nat) (S1.wd f 2 : Nat) (S1.wd f 3 : Nat) none 0 0 0 ⟨#[]⟩ []
theorem wf_nat {n : Nat} (h : n < 18446744073709551616) : (Lit.int .u64 n).wf = true := WalkArith.wf_u64 (by omega)
theorem plain0 : plainB S1.noS 0 0 ⟨#[]⟩ = true := by
 have e : (⟨#[]⟩ : ByteArray).toList.isEmpty = true := by rw [ByteArray.toList_eq]; rfl
 unfold plainB
 rw [empty_noS, e]
 rfl
end Go.Proofs.YtobbifhflnlplaaDoor.S7
namespace Go.Tree7
open Go.RowKit
inductive T.InP (w : World) (S : Nat → Prop) : T → Prop
 | mk {k u0 u1 u2 u3 : Int} {p : Option Addr} {cap : Nat} {mn mx : Int} {tx : ByteArray} {kids : List T} (hb : kids.length ≤ cap) (hm : cap ≤ maxLen) (hf : fits k u0 u1 u2 u3 mn mx tx)
   (h : ∀ i (_ : i < kids.length), ∃ a, p = some a ∧ S a.block ∧ ∀ j, j < 9 → w.cell? (a.add (i * 9 + j)) = (kids[i].cells)[j]?) (hk : ∀ t ∈ kids, T.InP w S t) : T.InP w S (.mk k u0 u1 u2 u3 p cap mn mx tx kids)
theorem T.InP.keep {w w' : World} {S : Nat → Prop} (hk : ∀ b, S b → w'.heap[b]? = w.heap[b]?) {t : T} (h : T.InP w S t) : T.InP w' S t := by
 induction h with
 | mk hl hm hf h _ ih =>
  refine .mk hl hm hf (fun i hi => ?_) ih
  obtain ⟨a, rfl, ha, hc⟩ := h i hi
  refine ⟨a, rfl, ha, fun j hj => ?_⟩
  rw [← hc j hj]
  refine World.cell?_of_block ?_
  have e : (a.add (i * 9 + j)).block = a.block := by unfold Addr.add; split <;> rfl
  rw [e]
  exact hk _ ha
theorem T.InP.imp {w : World} {S S' : Nat → Prop} (hS : ∀ b, S b → S' b) {t : T} (h : T.InP w S t) : T.InP w S' t := by
 induction h with
 | mk hl hm hf h _ ih =>
  refine .mk hl hm hf (fun i hi => ?_) ih
  obtain ⟨a, rfl, ha, hc⟩ := h i hi
  exact ⟨a, rfl, hS _ ha, hc⟩
theorem T.InP.toIn {w : World} {S : Nat → Prop} {B : Nat} (hS : ∀ b, S b → b < B) {t : T} (h : T.InP w S t) : T.In w B t := by
 induction h with
 | mk hl hm hf h _ ih =>
  refine .mk hl hm hf (fun i hi => ?_) ih
  obtain ⟨a, rfl, ha, hc⟩ := h i hi
  exact ⟨a, rfl, hS _ ha, hc⟩
theorem T.In.toP {w : World} {B : Nat} {t : T} (h : T.In w B t) : T.InP w (fun b => b < B) t := by
 induction h with
 | mk hl hm hf h _ ih =>
  refine .mk hl hm hf (fun i hi => ?_) ih
  obtain ⟨a, rfl, ha, hc⟩ := h i hi
  exact ⟨a, rfl, ha, hc⟩
end Go.Tree7
namespace Go.Proofs.YtobbifhflnlplaaDoor.S7
open Lib (hid)
open Go.RowKit
open Go.Tree7
inductive IsChain (l : T) : Nat → T → Prop
 | zero : IsChain l 0 l
 | succ {j : Nat} {t : T} (g : Nat) (h : IsChain l j t) : IsChain l (j + 1) (.mk 2 0 0 0 0 (some ⟨g, 0, none⟩) 1 0 0 ⟨#[]⟩ [t])
end Go.Proofs.YtobbifhflnlplaaDoor.S7
namespace Go.Tree7
open Go.RowKit
def T.strip : T → T
 | .mk k u0 u1 u2 u3 _ _ mn mx tx ks => .mk k u0 u1 u2 u3 none 0 mn mx tx (ks.attach.map fun ⟨t, _⟩ => t.strip)
theorem T.strip_mk (k u0 u1 u2 u3 : Int) (p : Option Addr) (cap : Nat) (mn mx : Int) (tx : ByteArray) (ks : List T) : (T.mk k u0 u1 u2 u3 p cap mn mx tx ks).strip = .mk k u0 u1 u2 u3 none 0 mn mx tx (ks.map T.strip) := by
 rw [T.strip]
 simp
theorem T.ind {P : T → Prop} (h : ∀ k u0 u1 u2 u3 p cap mn mx tx ks, (∀ t ∈ ks, P t) → P (.mk k u0 u1 u2 u3 p cap mn mx tx ks)) : ∀ t, P t
 | .mk k u0 u1 u2 u3 p cap mn mx tx ks => h k u0 u1 u2 u3 p cap mn mx tx ks fun t _ => T.ind h t
theorem T.size_pos (t : T) : 1 ≤ t.size := by
 cases t
 rw [T.size_mk]
 omega
theorem size_strip : ∀ t : T, t.strip.size = t.size := by
 refine T.ind fun k u0 u1 u2 u3 p cap mn mx tx ks ih => ?_
 rw [T.strip_mk, T.size_mk, T.size_mk, List.map_map]
 congr 2
 exact List.map_congr_left fun t ht => ih t ht
theorem T.InP.length {w : World} {S : Nat → Prop} {k u0 u1 u2 u3 : Int} {p : Option Addr} {cap : Nat} {mn mx : Int} {tx : ByteArray} {ks : List T} (h : T.InP w S (.mk k u0 u1 u2 u3 p cap mn mx tx ks)) : ks.length ≤ maxLen := by
 cases h with | mk h1 h2 => omega
end Go.Tree7
namespace Go.Proofs.YtobbifhflnlplaaDoor.S7
open Lib (hid)
open Go.RowKit
open Go.Tree7
theorem ok_strip (t : T) : T.ok t.strip = T.ok t := by cases t; rw [T.strip_mk]; simp only [T.ok, T.f, List.length_map]
theorem preT_strip : ∀ (d lv : Nat) (t : T), preT d lv t.strip = (preT d lv t).map fun x => (x.1, x.2.strip) := by
 intro d
 induction d with
 | zero => intro lv t; simp [preT]
 | succ d ih =>
  intro lv t
  cases t
  simp only [preT, List.map_cons, List.map_flatMap]
  rw [T.strip_mk]
  simp only [T.kids, List.flatMap_map]
  congr 1
  congr 1
  funext t
  exact ih _ _
theorem allT_strip (t : T) : allT t.strip = (allT t).map fun x => (x.1, x.2.strip) := by
 unfold allT
 rw [preT_strip, List.map_take]
theorem right_strip (t : T) : rightB t.strip = rightB t := by
 rw [Bool.eq_iff_iff, rightB_iff, rightB_iff]
 unfold RightP
 rw [allT_strip]
 simp only [List.length_map, List.mem_map]
 constructor
 ·rintro ⟨h1, h2⟩
  refine ⟨fun x hx => ?_, h2⟩
  have := h1 _ ⟨x, hx, rfl⟩
  rw [ok_strip] at this
  exact this
 ·rintro ⟨h1, h2⟩
  refine ⟨fun x hx => ?_, h2⟩
  obtain ⟨y, hy, rfl⟩ := hx
  have := h1 _ hy
  rw [← ok_strip] at this
  exact this
end Go.Proofs.YtobbifhflnlplaaDoor.S7
namespace Go.Proofs.YtobbifhflnlplaaDoor.S7
open Lib (hid)
open Go.RowKit
open Go.Tree7
theorem box_set {w : World} {b : Nat} {cs : Array Value} {t : TypeId} (h : w.heap[b]? = some (.cells cs t (0, 0))) (q : Nat) (v : Value) : (w.setCell ⟨b, q, none⟩ v).heap[b]? = some (.cells (cs.setIfInBounds q v) t (0, 0)) := by
 simp [World.setCell, Array.getElem?_modify, h]
theorem size_set (w : World) (a : Addr) (v : Value) : (w.setCell a v).heap.size = w.heap.size := by simp [World.setCell]
theorem arr9 {c0 c1 c2 c3 c4 c5 c6 c7 c8 d0 d1 d2 d3 d4 d5 d6 d7 d8 : Value} : ((((((((((#[c0, c1, c2, c3, c4, c5, c6, c7, c8] : Array Value).setIfInBounds 0 d0).setIfInBounds 1 d1).setIfInBounds 2 d2).setIfInBounds 3 d3).setIfInBounds 4 d4).setIfInBounds 5 d5).setIfInBounds 6 d6).setIfInBounds 7 d7).setIfInBounds 8 d8) = #[d0, d1, d2, d3, d4, d5, d6, d7, d8] := by
 simp
theorem set9 {w : World} {b : Nat} {c0 c1 c2 c3 c4 c5 c6 c7 c8 d0 d1 d2 d3 d4 d5 d6 d7 d8 : Value} {t : TypeId} (h : w.heap[b]? = some (.cells #[c0, c1, c2, c3, c4, c5, c6, c7, c8] t (0, 0))) (W : World) (hW : W = (((((((((w.setCell ⟨b, 0, none⟩ d0).setCell ⟨b, 1, none⟩ d1).setCell ⟨b, 2, none⟩ d2).setCell ⟨b, 3, none⟩ d3).setCell ⟨b, 4, none⟩ d4).setCell ⟨b, 5, none⟩ d5).setCell ⟨b, 6, none⟩ d6).setCell ⟨b, 7, none⟩ d7).setCell ⟨b, 8, none⟩ d8)) :
  W.heap[b]? = some (.cells #[d0, d1, d2, d3, d4, d5, d6, d7, d8] t (0, 0)) ∧ W.heap.size = w.heap.size ∧ (∀ k, k ≠ b → W.heap[k]? = w.heap[k]?) ∧ ∀ n, n ≤ b → Below n w W := by
 have a0 := box_set h 0 d0
 have a1 := box_set a0 1 d1
 have a2 := box_set a1 2 d2
 have a3 := box_set a2 3 d3
 have a4 := box_set a3 4 d4
 have a5 := box_set a4 5 d5
 have a6 := box_set a5 6 d6
 have a7 := box_set a6 7 d7
 have a8 := box_set a7 8 d8
 rw [arr9, ← hW] at a8
 refine ⟨a8, by rw [hW]; simp only [size_set], fun k hk => ?_, fun n hn => ?_⟩
 ·rw [hW]
  iterate 9 rw [Below.heap_setCell _ _ _ _ hk]
 ·rw [hW]
  have s0 := (Below.refl n w).setCell (p := ⟨b, 0, none⟩) hn d0
  have s1 := s0.setCell (p := ⟨b, 1, none⟩) hn d1
  have s2 := s1.setCell (p := ⟨b, 2, none⟩) hn d2
  have s3 := s2.setCell (p := ⟨b, 3, none⟩) hn d3
  have s4 := s3.setCell (p := ⟨b, 4, none⟩) hn d4
  have s5 := s4.setCell (p := ⟨b, 5, none⟩) hn d5
  have s6 := s5.setCell (p := ⟨b, 6, none⟩) hn d6
  have s7 := s6.setCell (p := ⟨b, 7, none⟩) hn d7
  exact s7.setCell (p := ⟨b, 8, none⟩) hn d8
end Go.Proofs.YtobbifhflnlplaaDoor.S7
