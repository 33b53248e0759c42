/- Texts merged: S10R10, S10R11, S10R12. -/

import Derived.Test.YtobbifhflnlplaaDoorS10R9
import Derived.Test.YtobbifhflnlplaaDoorMX
namespace Go.Proofs.YtobbifhflnlplaaDoor
open Lib (hid)
open Go.RowKit
open Go.Tree7
open S7
open S5 (nl nl_length nl_small at_nl nl_at Gives idx idx_at ix ix_no ix_yes)
theorem cat10_in {w0 : World} {P : Nat → Prop} (hP : ∀ b, P b → b < w0.heap.size) {b : T} (hPB : T.InP w0 P b) : ∀ a : T, T.InP w0 P a → CatOk a.strip b.strip → ∀ w, Below w0.heap.size w0 w →
  Calls Tryd.prog 45 #[.agg a.cells.toArray, .agg b.cells.toArray] w (GivesP P w (catD b.strip a.strip)) := by
 refine T.ind fun k u0 u1 u2 u3 p cap mn mx tx ks ih => ?_
 intro hPA hok w hw
 have hP' : ∀ b, P b → b < w.heap.size := fun b hb => Nat.lt_of_lt_of_le (hP b hb) hw.size
 have hA' : T.InP w P (.mk k u0 u1 u2 u3 p cap mn mx tx ks) := hPA.keep fun b hb => hw.block b (hP b hb)
 have hB' : T.InP w P b := hPB.keep fun b hb => hw.block b (hP b hb)
 by_cases h0 : k = 0 ∨ kindT b = 0
 ·have e : catD b.strip (T.mk k u0 u1 u2 u3 p cap mn mx tx ks).strip = noneT := by
   rw [T.strip_mk, catD_mk, if_pos (by rw [kind_strip]; exact h0)]
  rw [e]
  exact cat_none (a := .mk k u0 u1 u2 u3 p cap mn mx tx ks) h0
 by_cases h3 : k = 3
 ·refine cat_alt hP' hA' hB' h3 (fun h => h0 (.inr h)) hok fun y hy W hW => ?_
  refine (ih y hy (inp_kids hPA y hy) ?_ W (hw.trans (hW.mono hw.size)))
  rw [T.strip_mk] at hok
  exact hok.kid h3 (List.mem_map_of_mem hy)
 ·have e : catD b.strip (T.mk k u0 u1 u2 u3 p cap mn mx tx ks).strip = catOf ((partsT (T.mk k u0 u1 u2 u3 p cap mn mx tx ks) ++ partsT b).map T.strip) := by
   rw [List.map_append, parts_strip, parts_strip, T.strip_mk, catD_mk, if_neg (by rw [kind_strip]; exact h0), if_neg h3]
  rw [e]
  refine cat_join hP' hA' hB' (fun h => h0 (.inl h)) h3 (fun h => h0 (.inr h)) ?_
  have := hok.short (T.mk k u0 u1 u2 u3 p cap mn mx tx ks).strip (by
   have hb : Basic (T.mk k u0 u1 u2 u3 p cap mn mx tx ks).strip := by rw [T.strip_mk]; exact ⟨fun h => h0 (.inl h), h3⟩
   rw [spT_basic hb]; simp)
  rw [← parts_strip, ← parts_strip, List.length_map, List.length_map] at this
  exact this
end Go.Proofs.YtobbifhflnlplaaDoor
namespace Go.Proofs.YtobbifhflnlplaaDoor
open Lib (hid)
open Go.RowKit
open Go.Tree7
open S7
open S5 (nl nl_length nl_small at_nl nl_at Gives idx idx_at ix ix_no ix_yes)
structure Fine2 (t : T) : Prop where
 fine : Fine t
 size : t.size ≤ 2000
theorem size_kid10 {k u0 u1 u2 u3 : Int} {p : Option Addr} {cap : Nat} {mn mx : Int} {tx : ByteArray} {ks : List T} {x : T} (hx : x ∈ ks) : x.size ≤ (T.mk k u0 u1 u2 u3 p cap mn mx tx ks).size := by
 rw [T.size_mk]
 have := le_sum9 (List.mem_map_of_mem (f := T.size) hx)
 omega
theorem Fine2.kid {k u0 u1 u2 u3 : Int} {p : Option Addr} {cap : Nat} {mn mx : Int} {tx : ByteArray} {ks : List T} (h : Fine2 (.mk k u0 u1 u2 u3 p cap mn mx tx ks)) : ∀ x ∈ ks, Fine2 x := fun x hx =>
 ⟨fine_kid h.fine x hx, Nat.le_trans (size_kid10 hx) h.size⟩
theorem left_size (mn mx : Int) (ks : List T) : (leftT mn mx ks).size ≤ 1 + (ks.map T.size).sum := by
 unfold leftT
 generalize (if mx > 0 then mx - 1 else mx) = m
 by_cases h : m = 0
 ·rw [if_pos h, T.size_mk]; simp
 ·rw [if_neg h, T.size_mk]; exact Nat.le_refl _
theorem lf_size {ks : List T} {mn mx : Int} {r : T} (h : Lf ks mn mx r) : r.size ≤ 1 + (ks.map T.size).sum := by
 induction h with
 | here mn mx => exact left_size mn mx ks
 | next mn mx r h ih => exact ih
theorem sub_size : ∀ (t w : T), SubP t w → w.size ≤ t.size := by
 refine T.ind fun k u0 u1 u2 u3 p cap mn mx tx ks ih => ?_
 intro w h
 rw [SubP_mk] at h
 rcases h with rfl | ⟨x, hx, h⟩ | ⟨-, h⟩
 ·exact Nat.le_refl _
 ·exact Nat.le_trans (ih x hx w h) (size_kid10 hx)
 ·rw [T.size_mk]; exact lf_size h
theorem Fine2.parts {n : T} (h : Fine2 n) {q : List T} (hq : Qo n q) : ∀ w ∈ q, Fine2 w := fun w hw =>
 ⟨fine_parts h.fine hq w hw, Nat.le_trans (sub_size n w (outer_within n q hq w hw)) h.size⟩
def CatsOk (c : Nat) (ks : List T) : Prop :=
 (∀ l : List T, l.Nodup → (∀ x ∈ l, ∃ u z d, ks = u ++ z :: d ∧ ∃ a ∈ spT (offD c z), x ∈ spT (catOf (partsT a ++ partsT (catOf d)))) → l.length ≤ 805306376000) ∧
 ∀ u z d, ks = u ++ z :: d → ∀ a ∈ spT (offD c z), (partsT a).length + (partsT (catOf d)).length ≤ 805306376000
def AltsOk (c : Nat) (ks : List T) : Prop := ∀ l : List T, l.Nodup → (∀ x ∈ l, ∃ y ∈ ks, x ∈ spT (offD c y)) → l.length ≤ 805306376000
def kn (c : Nat) : T → Prop
 | .mk k _ _ _ _ _ _ mn mx _ ks => (k = 2 → CatsOk c ks ∧ ks.length ≤ 2000) ∧ (k = 3 → AltsOk c ks) ∧ (k = 4 → ∀ y ∈ ks, CatOk (offD c y) (leftT mn mx ks))
theorem joined_nrm {c : Nat} {z : T} {d : List T} (hz : Nrm z) (hd : ∀ x ∈ d, Nrm x) {a x : T} (ha : a ∈ spT (offD c z)) (hx : x ∈ spT (catOf (partsT a ++ partsT (catOf d)))) : Nrm x :=
 sp_nrm _ (catOf_nrm fun y hy => (List.mem_append.1 hy).elim (nrm_parts (sp_nrm _ (off_nrm c hz) a ha) y) (nrm_parts (catOf_nrm hd) y)) x hx
theorem rest_short {d : List T} {m : Nat} (hd : d.length ≤ m) (hs : ∀ x ∈ d, x.size ≤ m) : (partsT (catOf d)).length ≤ m := by
 match d with
 | [] => simp [catOf, partsT, kindT, kidsT]
 | [y] =>
  show (partsT y).length ≤ m
  have h1 := hs y (by simp)
  unfold partsT
  split
  ·obtain ⟨k, u0, u1, u2, u3, p, cap, mn, mx, tx, ks⟩ := y
   rw [T.size_mk] at h1
   have h2 : ∀ (l : List T), l.length ≤ (l.map T.size).sum := by
    intro l
    induction l with
    | nil => simp
    | cons z zs ih =>
     rw [List.map_cons, List.sum_cons, List.length_cons]
     have : 1 ≤ z.size := by cases z; rw [T.size_mk]; omega
     omega
   have := h2 ks
   show ks.length ≤ m
   omega
  ·simpa using hd
 | x :: y :: l =>
  rw [parts_cat _ (by simp)]
  exact hd
theorem off_short {c : Nat} {z : T} (hz : Fine2 z) {a : T} (ha : a ∈ spT (offD c z)) : (partsT a).length ≤ 2000 :=
 Nat.le_trans (inner_short z _ ((closed_all hz.fine.okd).all.first c a ha)) hz.size
theorem fine_kn (c : Nat) : ∀ t : T, Fine2 t → T.All (kn c) t := by
 refine T.ind fun k u0 u1 u2 u3 p cap mn mx tx ks ih => ?_
 intro hf
 refine .mk ⟨fun hk => ?_, fun hk => ?_, fun hk => ?_⟩ fun x hx => ih x hx (hf.kid x hx)
 ·subst hk
  have hlen : ks.length ≤ 2000 := by
   have h1 := hf.size
   rw [T.size_mk] at h1
   have h2 : ∀ (l : List T), l.length ≤ (l.map T.size).sum := by
    intro l
    induction l with
    | nil => simp
    | cons z zs ih =>
     rw [List.map_cons, List.sum_cons, List.length_cons]
     have : 1 ≤ z.size := by cases z; rw [T.size_mk]; omega
     omega
   have := h2 ks
   omega
  refine ⟨⟨fun l h1 h2 => fine_few hf.fine h1 fun x hx => ?_, fun u z d e a ha => ?_⟩, hlen⟩
  ·obtain ⟨u, z, d, e, a, ha, h3⟩ := h2 x hx
   have hz := hf.kid z (by rw [e]; simp)
   have hd : ∀ y ∈ d, Fine2 y := fun y hy => hf.kid y (by rw [e]; simp [hy])
   refine ⟨nrm_self (joined_nrm hz.fine.nrm (fun y hy => (hd y hy).fine.nrm) ha h3), qi_qo _ _ ?_⟩
   rw [Qi_mk, if_neg (by decide), if_pos rfl]
   exact join_at (closed_all hz.fine.okd).all e ((closed_all hz.fine.okd).all.first c a ha) (.inr rfl) h3
  ·have hz := hf.kid z (by rw [e]; simp)
   have h3 := off_short hz ha
   have h4 := rest_short (d := d) (m := 2000) (by rw [e] at hlen; simp at hlen; omega) fun y hy => (hf.kid y (by rw [e]; simp [hy])).size
   omega
 ·subst hk
  refine fun l h1 h2 => fine_few hf.fine h1 fun x hx => ?_
  obtain ⟨y, hy, h3⟩ := h2 x hx
  have hz := hf.kid y hy
  refine ⟨nrm_self (sp_nrm _ (off_nrm c hz.fine.nrm) x h3), qi_qo _ _ ?_⟩
  rw [Qi_mk, if_neg (by decide), if_neg (by decide), if_pos rfl]
  exact ⟨y, hy, (closed_all hz.fine.okd).all.first c x h3⟩
 ·subst hk
  intro y hy
  have hz := hf.kid y hy
  refine ⟨fun l h1 h2 => fine_few hf.fine h1 fun x hx => ?_, fun a ha => ?_⟩
  ·obtain ⟨a, ha, h3⟩ := h2 x hx
   have hl : Nrm (leftT mn mx ks) := left_nrm fun z hz => (hf.kid z hz).fine.nrm
   refine ⟨nrm_self (sp_nrm _ (catOf_nrm fun z hz2 => (List.mem_append.1 hz2).elim (nrm_parts (sp_nrm _ (off_nrm c hz.fine.nrm) a ha) z) (nrm_parts hl z)) x h3), qi_qo _ _ ?_⟩
   rw [Qi_mk, if_neg (by decide), if_neg (by decide), if_neg (by decide), if_pos rfl]
   obtain ⟨p', r', h4, h5, h6⟩ := rep_join (closed_all hz.fine.okd).all ((closed_all hz.fine.okd).all.first c a ha) (Lf.here mn mx) h3
   exact ⟨y, hy, p', r', h4, h5, h6⟩
  ·have h3 := off_short hz ha
   have h4 : (partsT (leftT mn mx ks)).length ≤ 1 := by
    unfold leftT
    generalize (if mx > 0 then mx - 1 else mx) = m
    by_cases h : m = 0
    ·rw [if_pos h]; exact Nat.zero_le _
    ·rw [if_neg h]; exact Nat.le_refl _
   omega
theorem rest_kn {n : T} (hn : Fine2 n) (c : Nat) : ∀ D : T, T.All okd D → Nrm D → (∀ b ∈ spT D, Qo n (partsT b)) → T.All (kn c) D := by
 refine T.ind fun k u0 u1 u2 u3 p cap mn mx tx ks ih => ?_
 intro ho hN hD
 have hko := okd_kids ho
 have hkn := nrm_kids hN
 by_cases h0 : k = 0
 ·have hks : ks = [] := by
   cases ho with
   | mk h _ =>
    rcases h with ⟨-, h⟩ | h | h | h | ⟨h, -⟩ | h
    ·exact h
    all_goals omega
  subst hks
  exact .mk ⟨fun h => by omega, fun h => by omega, fun h => by omega⟩ (by simp)
 by_cases h3 : k = 3
 ·have hk : ∀ y ∈ ks, ∀ b ∈ spT y, Qo n (partsT b) := fun y hy b hb => hD b (by
   rw [spT_mk, if_neg h0, if_pos h3]
   exact List.mem_flatMap.2 ⟨y, hy, hb⟩)
  refine .mk ⟨fun h => by omega, fun _ => ?_, fun h => by omega⟩ fun y hy => ih y hy (hko y hy) (hkn y hy) (hk y hy)
  refine fun l h1 h2 => fine_few hn.fine h1 fun x hx => ?_
  obtain ⟨y, hy, h4⟩ := h2 x hx
  exact ⟨nrm_self (sp_nrm _ (off_nrm c (hkn y hy)) x h4), step_among hn.fine.okd c y (hk y hy) x h4⟩
 ·have hself := hD (.mk k u0 u1 u2 u3 p cap mn mx tx ks) (by rw [spT_mk, if_neg h0, if_neg h3]; simp)
  by_cases h2 : k = 2
  ·rw [parts_two h2] at hself
   have hlen := Nat.le_trans (outer_short n _ hself) hn.size
   have hF := hn.parts hself
   refine .mk ⟨fun _ => ?_, fun h => by omega, fun h => by omega⟩ fun y hy => fine_kn c y (hF y hy)
   refine ⟨⟨fun l h1 h4 => fine_few hn.fine h1 fun x hx => ?_, fun u z d e a ha => ?_⟩, hlen⟩
   ·obtain ⟨u, z, d, e, a, ha, h5⟩ := h4 x hx
    have hz := hF z (by rw [e]; simp)
    have hd : ∀ y ∈ d, Fine2 y := fun y hy => hF y (by rw [e]; simp [hy])
    exact ⟨nrm_self (joined_nrm hz.fine.nrm (fun y hy => (hd y hy).fine.nrm) ha h5), ((outer_all hn.fine.okd).more ks hself u z d e c a ha).2 x h5⟩
   ·have hz := hF z (by rw [e]; simp)
    have h3 := off_short hz ha
    have h4 := rest_short (d := d) (m := 2000) (by rw [e] at hlen; simp at hlen; omega) fun y hy => (hF y (by rw [e]; simp [hy])).size
    omega
  ·rw [parts_not (show ¬ kindT (T.mk k u0 u1 u2 u3 p cap mn mx tx ks) = 2 from h2)] at hself
   exact fine_kn c _ (hn.parts hself _ (by simp))
theorem read_kn {n : T} (hn : Fine2 n) (w : List Nat) (c : Nat) : T.All (kn c) (readD n w) := by
 cases w with
 | nil => exact fine_kn c n hn
 | cons a w => exact rest_kn hn c _ (read_okd hn.fine.okd _) (read_nrm hn.fine.nrm _) (among hn.fine.okd w a)
theorem okd_unstrip : ∀ t : T, T.All okd t.strip → T.All okd t := by
 refine T.ind fun k u0 u1 u2 u3 p cap mn mx tx ks ih => ?_
 intro h
 rw [T.strip_mk] at h
 cases h with
 | mk h1 h2 =>
  refine .mk ?_ fun x hx => ih x hx (h2 _ (List.mem_map_of_mem hx))
  rcases h1 with ⟨h, e⟩ | h | h | h | ⟨h, e, h3, h4⟩ | h
  ·exact .inl ⟨h, by simpa using e⟩
  ·exact .inr (.inl h)
  ·exact .inr (.inr (.inl h))
  ·exact .inr (.inr (.inr (.inl h)))
  ·exact .inr (.inr (.inr (.inr (.inl ⟨h, by simpa using e, h3, h4⟩))))
  ·exact .inr (.inr (.inr (.inr (.inr h))))
end Go.Proofs.YtobbifhflnlplaaDoor
namespace Go.Proofs.YtobbifhflnlplaaDoor
open Lib (hid)
open Go.RowKit
open Go.Tree7
open S7
open S5 (nl nl_length nl_small at_nl nl_at Gives idx idx_at ix ix_no ix_yes)
theorem two_in (w : World) (S : Nat → Prop) : T.InP w S (nodeT 2 []) := .mk (by simp) (by decide) ⟨by decide, ⟨by decide, by decide, by decide, by decide⟩, by decide, by decide, by decide⟩ (fun i hi => by simp at hi) (fun t ht => by simp at ht)
set_option maxRecDepth 100000 in
set_option maxHeartbeats 4000000 in
theorem off_plain {w : World} {n : T} {P : Nat → Prop} (hT : T.In w w.heap.size n) {c : Nat} (hc : c ≤ 255) (h2 : kindT n ≠ 2) (h3 : kindT n ≠ 3) (h4 : kindT n ≠ 4) :
  Calls Tryd.prog 28 #[.agg n.cells.toArray, .int .i64 c] w (GivesP P w (offD c n.strip)) := by
 obtain ⟨hbb, hxn, hxr, hxz⟩ := box3 w n.cells.toArray #[.int .i64 0, .int .u64 0, .int .u64 0, .int .u64 0, .int .u64 0, .slice none 0 0, .int .i64 0, .int .i64 0, .string ⟨#[]⟩] #[.int .i64 0, .int .u64 0, .int .u64 0, .int .u64 0, .int .u64 0, .slice none 0 0, .int .i64 0, .int .i64 0, .string ⟨#[]⟩] 32
 obtain ⟨kn, n0, n1, n2, n3, pn, capn, mnn, mxn, txn, ksn⟩ := n
 have h2 : kn ≠ 2 := h2
 have h3 : kn ≠ 3 := h3
 have h4 : kn ≠ 4 := h4
 have hfit : fits kn n0 n1 n2 n3 mnn mxn txn := by cases hT with | mk _ _ h => exact h
 have cH : ∀ w', Calls Tryd.prog 43 #[.agg #[.int .u64 n0, .int .u64 n1, .int .u64 n2, .int .u64 n3], .int .i64 c] w' fun e w'' => e = .returned (.bool (S1.mem4 n0.toNat n1.toNat n2.toNat n3.toNat c)) ∧ Below w'.heap.size w' w'' := fun w' => by
  have := S1.has_ref (S1.mem4 n0.toNat n1.toNat n2.toNat n3.toNat) c hc w'
  obtain ⟨e0, e1, e2, e3⟩ := wd_f hfit.2.1
  rw [e0, e1, e2, e3] at this
  exact this
 have eo : offD c (T.mk kn n0 n1 n2 n3 pn capn mnn mxn txn ksn).strip = if kn = 1 then (if S1.mem4 n0.toNat n1.toNat n2.toNat n3.toNat c = true then nodeT 2 [] else noneT) else noneT := by
  rw [T.strip_mk, offD_mk]
  by_cases h1 : kn = 1
  ·rw [if_pos h1, if_pos h1]
  ·rw [if_neg h1, if_neg h1, if_neg h2, if_neg h3, if_neg h4]
 rw [eo]
 generalize S1.mem4 n0.toNat n1.toNat n2.toNat n3.toNat c = M at *
 have g2 : (kn == 2) = false := by rw [beq_eq_false_iff_ne]; exact h2
 have g3 : (kn == 3) = false := by rw [beq_eq_false_iff_ne]; exact h3
 have g4 : (kn == 4) = false := by rw [beq_eq_false_iff_ne]; exact h4
 simp only [T.cells] at hbb hxn hxr hxz ⊢
 obtain ⟨y0, y1, y2, y3, y4, y5, y6, y7, y8⟩ := c9 hxn
 obtain ⟨x0, f0, x1, f1, x2, f2, x3, f3, x4, f4, x5, f5, x6, f6, x7, f7, x8, f8⟩ := d9 hxr
 obtain ⟨z0, z1, z2, z3, z4, z5, z6, z7, z8⟩ := c9 hxz
 have hxr2 := hid hxr
 have hxz2 := hid hxz
 have hbw := hid hbb
 replace cH := hid cH
 clear hxn hxr hbb hfit eo hT h2 h3 h4 hxz
 by_cases h1 : kn = 1
 ·have g1 : (kn == 1) = true := by rw [beq_iff_eq]; exact h1
  rw [if_pos h1]
  clear h1
  go_enter Tryd.func28, Tryd.ntmps28
  cases M with
  | true =>
   go_wp2_with (go_at_call 43; (with_reducible refine (cH.out _).mono ?_); rintro e w1 ⟨rfl, hb1⟩; have hb2 := hid (show Bel (((w.alloc (.cells #[.int .i64 kn, .int .u64 n0, .int .u64 n1, .int .u64 n2, .int .u64 n3, .slice pn ksn.length capn, .int .i64 mnn, .int .i64 mxn, .string txn] 32)).alloc (.cells #[.int .i64 0, .int .u64 0, .int .u64 0, .int .u64 0, .int .u64 0, .slice none 0 0, .int .i64 0, .int .i64 0, .string ⟨#[]⟩] 32)).alloc (.cells #[.int .i64 0, .int .u64 0, .int .u64 0, .int .u64 0, .int .u64 0, .slice none 0 0, .int .i64 0, .int .i64 0, .string ⟨#[]⟩] 32)) w1 from hb1); have hx1 := hid (kept_row hxr2.out hb1); clear x0 x1 x2 x3 x4 x5 x6 x7 x8 f0 f1 f2 f3 f4 f5 f6 f7 f8; obtain ⟨x0, f0, x1, f1, x2, f2, x3, f3, x4, f4, x5, f5, x6, f6, x7, f7, x8, f8⟩ := d9 hx1.out)
   generalize hWW : World.setCell _ (⟨w.heap.size + 1, 8, none⟩ : Addr) _ = W at *
   obtain ⟨s1, s2, s3, s4⟩ := S7.set9 hx1.out W hWW.symm
   obtain ⟨r0, r1, r2, r3, r4, r5, r6, r7, r8⟩ := c9 s1
   refine bodyPost_ret (v := .agg #[.int .i64 2, .int .u64 0, .int .u64 0, .int .u64 0, .int .u64 0, .slice none 0 0, .int .i64 0, .int .i64 0, .string ⟨#[]⟩]) (by simp [results, Tryd.results28, go_sem, r0, r1, r2, r3, r4, r5, r6, r7, r8]) rfl ?_
   exact ⟨nodeT 2 [], rfl, by rw [T.strip_mk]; rfl, two_in _ _, Below.trans (show Below w.heap.size w w1 from bel_bel hbw.out hb2.out) (s4 w.heap.size (by omega))⟩
  | false =>
   go_wp2_with (go_at_call 43; (with_reducible refine (cH.out _).mono ?_); rintro e w1 ⟨rfl, hb1⟩; have hb2 := hid (show Bel (((w.alloc (.cells #[.int .i64 kn, .int .u64 n0, .int .u64 n1, .int .u64 n2, .int .u64 n3, .slice pn ksn.length capn, .int .i64 mnn, .int .i64 mxn, .string txn] 32)).alloc (.cells #[.int .i64 0, .int .u64 0, .int .u64 0, .int .u64 0, .int .u64 0, .slice none 0 0, .int .i64 0, .int .i64 0, .string ⟨#[]⟩] 32)).alloc (.cells #[.int .i64 0, .int .u64 0, .int .u64 0, .int .u64 0, .int .u64 0, .slice none 0 0, .int .i64 0, .int .i64 0, .string ⟨#[]⟩] 32)) w1 from hb1); have hx1 := hid (kept_row hxr2.out hb1); have hz1 := hid (kept_row hxz2.out hb1); clear x0 x1 x2 x3 x4 x5 x6 x7 x8 f0 f1 f2 f3 f4 f5 f6 f7 f8 z0 z1 z2 z3 z4 z5 z6 z7 z8; obtain ⟨x0, f0, x1, f1, x2, f2, x3, f3, x4, f4, x5, f5, x6, f6, x7, f7, x8, f8⟩ := d9 hx1.out; obtain ⟨z0, z1, z2, z3, z4, z5, z6, z7, z8⟩ := c9 hz1.out)
   generalize hWW : World.setCell _ (⟨w.heap.size + 1, 8, none⟩ : Addr) _ = W at *
   obtain ⟨s1, s2, s3, s4⟩ := S7.set9 hx1.out W hWW.symm
   obtain ⟨r0, r1, r2, r3, r4, r5, r6, r7, r8⟩ := c9 s1
   refine bodyPost_ret (v := .agg #[.int .i64 0, .int .u64 0, .int .u64 0, .int .u64 0, .int .u64 0, .slice none 0 0, .int .i64 0, .int .i64 0, .string ⟨#[]⟩]) (by simp [results, Tryd.results28, go_sem, r0, r1, r2, r3, r4, r5, r6, r7, r8]) rfl ?_
   exact ⟨noneT, rfl, none_strip, none_in _ _, Below.trans (show Below w.heap.size w w1 from bel_bel hbw.out hb2.out) (s4 w.heap.size (by omega))⟩
 ·have g1 : (kn == 1) = false := by rw [beq_eq_false_iff_ne]; exact h1
  rw [if_neg h1]
  clear h1
  go_enter Tryd.func28, Tryd.ntmps28
  go_wp2
  refine bodyPost_ret (v := .agg #[.int .i64 0, .int .u64 0, .int .u64 0, .int .u64 0, .int .u64 0, .slice none 0 0, .int .i64 0, .int .i64 0, .string ⟨#[]⟩]) (by simp [results, Tryd.results28, go_sem, x0, x1, x2, x3, x4, x5, x6, x7, x8]) rfl ?_
  exact ⟨noneT, rfl, none_strip, none_in _ _, hbw.out⟩
end Go.Proofs.YtobbifhflnlplaaDoor
