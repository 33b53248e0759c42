/- Texts merged: LP, PN. -/
import Derived.ProofKit
import Derived.LaidMore
import Derived.OpenShut
import Derived.Stop.Joined
import Derived.Stop.LaidTwo
import Derived.Below
import Derived.ChangeOld
import Derived.Laws.IdiomArrays
import Derived.Carry
import Derived.Deep.Slices
import Derived.Test.YtobbifhflnlplaaDoorChecked
import Derived.Test.YtobbifhflnlplaaDoorLB
import Derived.Test.YtobbifhflnlplaaDoorRows
import Derived.Test.YtobbifhflnlplaaDoorS7K
namespace Go.Proofs.YtobbifhflnlplaaDoor
open Go.ChangeShapes Go.WideShapes Go.ChangeAt Go.WideMaps Go.WideElems Go.RowKit
theorem own : ownKnob Tryd.prog.godebug = none := by kernel_rfl
theorem laidOut : laidOutB Tryd.prog = true := by kernel_rfl
theorem src_of_trod {H : Type} {enc : TypeId × Value → H} {W : World} {fuel : Nat} {v : Value} {x : DataW H × List MemPlace} (hf : DataW.trod enc Tryd.prog W 0 (fun _ => true) true fuel 28 [v] = some x) :
  ∃ (a : Option Addr) (cap : Nat) (l : List Nat), v = .slice a l.length cap ∧ Src W a l.length cap l ∧ l.length ≤ 9223372036854775807 := by
 rcases open_ints Tryd.underlying28 Tryd.underlying5 (by kernel_rfl) hf with ⟨hcs, _⟩ | ⟨x, len, cap, zs, hcs, _, hl, hm, hz, _, hcell, hwz⟩
 ·simp only [List.cons.injEq, and_true] at hcs
  exact ⟨none, 0, [], hcs, ⟨rfl, by simp, fun _ => ⟨rfl, rfl⟩, fun ad e => (by cases e), Nat.le_refl _⟩, by simp⟩
 ·simp only [List.cons.injEq, and_true] at hcs
  have hz' : zs.length = cap := by simpa using hz
  have hlen : ((zs.take len).map Int.toNat).length = len := by simp; omega
  refine ⟨some x, cap, (zs.take len).map Int.toNat, by rw [hlen]; exact hcs, ⟨rfl, ?_, fun e => (by cases e), ?_, by rw [hlen]; exact hl⟩, by rw [hlen]; unfold maxLen at hm; omega⟩
  ·intro y hy
   obtain ⟨z, hzm, rfl⟩ := List.mem_map.1 hy
   have := bounds_u8 (hwz z (List.mem_of_mem_take hzm))
   omega
  ·intro ad e j u hu
   obtain rfl : x = ad := by simpa using e
   rw [List.getElem?_map, List.getElem?_map] at hu
   have hj : j < len := by
    rcases Nat.lt_or_ge j len with h | h
    ·exact h
    ·rw [List.getElem?_eq_none (by simp; omega)] at hu; cases hu
   have hjz : j < zs.length := by omega
   rw [List.getElem?_take, if_pos hj, List.getElem?_eq_getElem hjz] at hu
   simp only [Option.map_some, Option.some.injEq] at hu
   subst hu
   rw [hcell j hjz]
   have hb := bounds_u8 (hwz zs[j] (List.getElem_mem hjz))
   have e1 : zs.getD j 0 = zs[j] := by simp [List.getD, hjz]
   rw [e1]
   unfold encN
   rw [Int.toNat_of_nonneg hb.1]
set_option maxRecDepth 100000 in
theorem open_bytes {H : Type} {enc : TypeId × Value → H} {W : World} {r : Reach} {b0 : Nat} {v : Value} {d : DataW H} {p : List MemPlace} (hv : Value.okWide Tryd.prog W r b0 28 v)
  (h : DataW.Trod enc Tryd.prog W 0 (fun _ => true) true 28 v d p) : ∃ (a : Option Addr) (cap : Nat) (l : List Nat), v = .slice a l.length cap ∧ Src W a l.length cap l ∧ l.length ≤ 9223372036854775807 := by
 obtain ⟨a, len, cap, rfl⟩ := okWide_slice Tryd.underlying28 hv
 obtain ⟨fuel, hf⟩ := h
 exact src_of_trod hf
theorem sentinels {P : Program} {W : World} {tp te ts ti : TypeId} {ms : Array (String × TypeId)} {nm : String} {f : Field} {rest : List (String × DataW Unit)}
  (hi : P.underlying ti = some (.interface ms)) (hrow : ∀ u, P.typeName? 3 u = some nm → u = tp)
  (hp : P.underlying tp = some (.pointer te)) (he : P.underlying te = some (.struct #[f])) (hft : f.type = ts) (hfo : f.offset = 0) (hs : P.underlying ts = some .string) (hc : P.cellsOf te = 1) (hcs : P.cellsOf ts = 1) :
  ∀ (sent : List (String × DataW Unit)) (ps : List MemPlace), (∀ x ∈ sent, ∃ text, x.2 = .iface nm (.ptr (.agg [.lit (.string text)]))) → (∀ x ∈ sent, ∃ g, P.globalNamed x.1 = some g ∧ (P.globals[g]?).map (·.type) = some ti) →
   DataW.LaidVars P W (sent ++ rest) ps →
   (∀ b off, MemPlace.cell b off ∈ ps → (∃ c t, W.heap[b]? = some (.cells c t (0, 0))) ∧ ∀ u v, W.cell? ⟨b, off, none⟩ = some (.iface u v) → Value.okWide P W .any 0 u v) →
   ∃ al : List Addr, al.length = sent.length ∧ (∀ (k : Nat) (x : String × DataW Unit) (a : Addr), sent[k]? = some x → al[k]? = some a → ∃ g, P.globalNamed x.1 = some g ∧ W.cell? ⟨g, 0, none⟩ = some (.iface tp (.pointer (some a)))) ∧
    (al.map fun a => MemPlace.cell a.block a.off).Sublist ps ∧ (∀ a ∈ al, ∃ c t, W.heap[a.block]? = some (.cells c t (0, 0))) ∧ ∃ q, DataW.LaidVars P W rest q := by
 intro sent
 induction sent with
 | nil => intro ps _ _ h _; exact ⟨[], rfl, fun k x a hx => by simp at hx, by simp, by simp, ps, h⟩
 | cons x r ih =>
  intro ps ht hg h hrows
  obtain ⟨n, d⟩ := x
  obtain ⟨g0, t0, cs0, f0, p0, q0, hg0, ht0, hv0, hd0, hr, e0⟩ := h
  obtain ⟨text, hdt⟩ := ht (n, d) (by simp)
  obtain ⟨g1, hg1, ht1⟩ := hg (n, d) (by simp)
  simp only at hdt hg1
  subst hdt
  obtain rfl := Option.some.inj (hg1.symm.trans hg0)
  obtain rfl := Option.some.inj (ht1.symm.trans ht0)
  subst e0
  obtain ⟨l0⟩ := cs0
  have ok0 : ∀ u v, l0 = [.iface u v] → Value.okWide P W .any 0 u v := fun u v e => by
   subst e
   exact (hrows g1 0 (by simp [MemPlace.row])).2 u v (by simpa using World.var?_cell hg0 hv0 0)
  obtain ⟨a0, s0, rfl, hc0, hs0, hz0, rfl⟩ := errorString_of_trod hi hrow hp he hft hfo hs hc hcs hd0 ok0
  obtain ⟨al, hl, hvar, hsub, hcell, hq⟩ := ih q0 (fun y hy => ht y (by simp [hy])) (fun y hy => hg y (by simp [hy])) hr (fun b off hb => hrows b off (by simp [hb]))
  refine ⟨a0 :: al, by simp [hl], ?_, ?_, ?_, hq⟩
  ·intro k x a hx ha
   cases k with
   | zero =>
    simp only [List.getElem?_cons_zero, Option.some.injEq] at hx ha
    subst hx ha
    exact ⟨g1, hg0, by simpa using World.var?_cell hg0 hv0 0⟩
   | succ k => exact hvar k x a (by simpa using hx) (by simpa using ha)
  ·have e : MemPlace.row a0 1 = [MemPlace.cell a0.block a0.off] := by simp [MemPlace.row]
   rw [e, List.map_cons]
   rw [List.append_assoc]
   exact List.Sublist.trans (List.Sublist.cons_cons _ hsub) (List.sublist_append_right _ _)
  ·intro a ha
   rcases List.mem_cons.1 ha with rfl | h
   ·exact (hrows a.block a.off (by simp [MemPlace.row])).1
   ·exact hcell a h

theorem getD_at {al : List Addr} {k : Nat} {d : Addr} (h : k < al.length) : al.getD k d = al[k] := by simp [List.getD, h]
theorem cells85 : Tryd.prog.cellsOf 152 = 1 := by kernel_rfl
theorem cells9 : Tryd.prog.cellsOf 9 = 1 := by kernel_rfl
theorem star : "*" ++ "errors.errorString" = "*errors.errorString" := by decide
theorem row60 (u : TypeId) (h : Tryd.prog.typeName? 3 u = some "*errors.errorString") : u = 135 :=
 typeName_ptr_named (nm := "errors.errorString") (by rw [star]; kernel_rfl) (by kernel_rfl) (by decide) u (by rw [star]; exact h)
end Go.Proofs.YtobbifhflnlplaaDoor
namespace Go.Proofs.YtobbifhflnlplaaDoor
open Go.ChangeShapes Go.WideShapes Go.ChangeAt Go.WideMaps Go.WideElems Go.RowKit
open Go.Tree7
theorem fieldsN : (match Tryd.prog.underlying 27 with | some (.struct fs) => (fs.toList.map fun f => (f.type, f.offset)) == [(3, 0), (24, 1), (25, 5), (3, 6), (3, 7), (9, 8)] | _ => false) = true := by kernel_rfl
set_option maxRecDepth 100000 in
theorem shapeN : ∃ f0 f1 f2 f3 f4 f5, Shape Tryd.prog 27 3 24 22 25 9 f0 f1 f2 f3 f4 f5 := by
 have h := fieldsN
 cases hu : Tryd.prog.underlying 27 with
 | none => rw [hu] at h; cases h
 | some u =>
  rw [hu] at h
  cases u with
  | struct fs =>
   obtain ⟨l⟩ := fs
   have h2 : (l.map fun f => (f.type, f.offset)) = [(3, 0), (24, 1), (25, 5), (3, 6), (3, 7), (9, 8)] := by simpa using h
   have hl : l.length = 6 := by have := congrArg List.length h2; simpa using this
   match l, hl, h2, hu with
   | [f0, f1, f2, f3, f4, f5], _, h2, hu =>
    simp only [List.map_cons, List.map_nil, List.cons.injEq, Prod.mk.injEq, and_true] at h2
    obtain ⟨y0, y1, y2, y3, y4, y5⟩ := h2
    exact ⟨f0, f1, f2, f3, f4, f5, ⟨hu, by kernel_rfl, y0, y1, y2, y3, y4, y5, by kernel_rfl, by kernel_rfl, by kernel_rfl, by kernel_rfl, by kernel_rfl, by kernel_rfl, by kernel_rfl, by kernel_rfl, by kernel_rfl, by kernel_rfl⟩⟩
  | _ => simp at h
set_option maxRecDepth 100000 in
theorem open_node {H : Type} {enc : TypeId × Value → H} {W : World} {r : Reach} {b0 : Nat} {v : Value} {d : DataW H} {p : List MemPlace} (hv : Value.okWide Tryd.prog W r b0 27 v)
  (h : DataW.Trod enc Tryd.prog W 0 (fun _ => true) true 27 v d p) : ∃ t : T, v = .agg t.cells.toArray ∧ T.In W W.heap.size t := by
 obtain ⟨f0, f1, f2, f3, f4, f5, S⟩ := shapeN
 obtain ⟨cs, rfl, hsz⟩ : ∃ cs, v = .agg cs ∧ cs.size = Tryd.prog.cellsOf 27 := by
  simp only [Value.okWide, S.hn] at hv
  obtain ⟨cs, h1, h2, _⟩ := hv
  exact ⟨cs, h1, h2⟩
 obtain ⟨fuel, hf⟩ := h
 obtain ⟨t, h1, h2⟩ := open_tree S fuel _ _ hf
 refine ⟨t, ?_, h2⟩
 rw [← h1]
 simp [Value.cells]
end Go.Proofs.YtobbifhflnlplaaDoor
