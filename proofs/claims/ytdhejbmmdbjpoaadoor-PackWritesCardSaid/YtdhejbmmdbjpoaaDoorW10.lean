/- The writer in whatever state: Text, Row. -/
import Derived.Test.YtdhejbmmdbjpoaaDoorW9
import Derived.Lib.ConvBytes
namespace Go.Proofs.YtdhejbmmdbjpoaaDoor
open Go.RowKit
theorem bytes_of_strN (ys : List Nat) (hs : ∀ x ∈ ys, x ≤ 255) : (strN ys).data.toList.map UInt8.toNat = ys := by
  unfold strN
  rw [strOfNums_data, List.map_map, List.map_map]
  conv => rhs; rw [← List.map_id ys]
  refine List.map_congr_left fun x hx => ?_
  have := hs x hx
  simp
  omega
theorem conv_text (w : World) (ys : List Nat) (hs : ∀ x ∈ ys, x ≤ 255) : ∃ cap w1, (convert 9 26 (.string (strN ys))).run Tryd.prog w = .ok (.slice (some ⟨w.heap.size, 0, none⟩) ys.length cap) w1 ∧ Bel w w1 ∧ Src w1 (some ⟨w.heap.size, 0, none⟩) ys.length cap ys := by
  have hr := Lib.run_convert_string_bytes (P := Tryd.prog) w 9 26 5 (strN ys) u9 u24 u5
  rw [strN_size] at hr
  refine ⟨_, _, hr, ⟨rfl, rfl, rfl, by rw [Lib.bytesWorld_size]; omega, fun k hk => Lib.bytesWorld_at_old _ _ _ _ hk⟩, ?_⟩
  refine Src.of_row rfl (Lib.bytesWorld_at_new w 5 (strN ys)) (fun j hj => ?_) hs (grownCap_ge _ _ _ _)
  have hsz : (strN ys).data.size = ys.length := strN_size ys
  unfold Lib.bytesCells
  rw [Array.getElem?_append_left (by simp [hsz]; exact hj)]
  have e := congrArg (fun l => l[j]?) (bytes_of_strN ys hs)
  simp only [List.getElem?_map, Array.getElem?_toList, List.getElem?_eq_getElem hj] at e
  rw [Array.getElem?_map]
  cases hq : (strN ys).data[j]? with
  | none => rw [hq] at e; cases e
  | some q =>
    rw [hq] at e
    simp only [Option.map_some, Option.some.injEq] at e ⊢
    rw [e]
    rfl
set_option maxHeartbeats 1000000 in
theorem otext_wr {w : World} {b : Nat} {r : Option Nat} {E : Value} {e : Bool} {l ys : List Nat} (h : Wr w b r E e l) (hs : ∀ x ∈ ys, x ≤ 255) (hn : ys.length ≤ 400000) (hm : e = false → l.length ≤ 400000) (hE : w.cell? ⟨0, 0, none⟩ = some (.iface 78 E)) :
    Calls Tryd.prog 11 #[.pointer (some ⟨b, 0, none⟩), .string (strN ys)] w (Writes w b r E e (l ++ numL ys.length ++ ys)) := by
  have hN := onum_wr h (n := (ys.length : Int)) (by omega) (fun he => by have := hm he; omega) hE
  have hg : badN (ys.length : Int) = false := by unfold badN; simp; omega
  rw [hg, Bool.or_false] at hN
  have hsz := strN_size ys
  have hP : ∀ w1 r1, Wr w1 b r1 E e (l ++ numL ys.length) → Apt w w1 b r → Nxt w r r1 → ∃ cap w2, (convert 9 26 (.string (strN ys))).run Tryd.prog w1 = .ok (.slice (some ⟨w1.heap.size, 0, none⟩) ys.length cap) w2 ∧
      Calls Tryd.prog 23 #[.pointer (some ⟨b, 0, none⟩), .slice (some ⟨w1.heap.size, 0, none⟩) ys.length cap] w2 (Writes w b r E e (l ++ numL ys.length ++ ys)) := by
    intro w1 r1 h1 ha hx
    obtain ⟨cap, w2, hcv, hb2, hs2⟩ := conv_text w1 ys hs
    refine ⟨cap, w2, hcv, ?_⟩
    have hb2' : Bel w1 w2 := hb2
    refine (put_wr (h1.bel hb2') hs2 (fun he => ?_) hn).mono fun _ _ hw => Writes.snd (ha.trans hx (Apt.of_bel hb2')) (Nxt.trans ha.size hx (.inl rfl)) hw
    have h5 := num_len (n := ys.length) (by omega)
    have := hm he
    simp only [List.length_append]
    omega
  replace hP := Lib.hid hP
  replace hN := Lib.hid hN
  clear hs hE h hg
  generalize hl' : ys.length = m at *
  generalize strN ys = s at *
  replace hl' := Lib.hid hl'
  go_enter Tryd.func11, Tryd.ntmps11
  go_wp2_with (first
    | (go_at_call 8; (with_reducible refine hN.out.mono ?_); rintro e w1 ⟨rfl, r1, h1, ha, hx⟩; obtain ⟨cap, w2, hcv, hp2⟩ := hP.out w1 r1 h1 ha hx; replace hp2 := Lib.hid hp2; clear h1 ha hx)
    | (go_at_call 23; (with_reducible refine hp2.out.mono ?_); rintro e w2 ⟨rfl, hw⟩; replace hw := Lib.hid hw))
  go_end0
  exact ⟨rfl, hw.out⟩

/-- Numbers that lie in memory. -/
def Ints (w : World) (a : Option Addr) (xs : List Int) : Prop := ∀ k (h : k < xs.length), ∃ b o, a = some ⟨b, o, none⟩ ∧ b < w.heap.size ∧ w.cell? ⟨b, o + k, none⟩ = some (.int .i64 xs[k]) ∧ -9223372036854775808 ≤ xs[k] ∧ xs[k] ≤ 9223372036854775807
theorem Ints.bel {w w' : World} {a : Option Addr} {xs : List Int} (h : Ints w a xs) (hb : Bel w w') : Ints w' a xs := fun k hk => by
  obtain ⟨b, o, e, hl, hc, h1⟩ := h k hk
  exact ⟨b, o, e, Nat.lt_of_lt_of_le hl hb.size, hb.cell (p := ⟨b, o + k, none⟩) hl hc, h1⟩
theorem Ints.apt {w w' : World} {b : Nat} {r : Option Nat} {a : Option Addr} {xs : List Int} (h : Ints w a xs) (ha : Apt w w' b r) (hb : ∀ ad, a = some ad → xs ≠ [] → ad.block ≠ b ∧ some ad.block ≠ r) : Ints w' a xs := fun k hk => by
  obtain ⟨bb, o, e, hl, hc, h1⟩ := h k hk
  obtain ⟨h2, h3⟩ := hb _ e (by rintro rfl; simp at hk)
  exact ⟨bb, o, e, Nat.lt_of_lt_of_le hl ha.size, (World.cell?_of_block (w := w) (w' := w') (a := ⟨bb, o + k, none⟩) (ha.block bb hl h2 h3)).trans hc, h1⟩
def badR (x : Int) : Bool := decide (x < -1) || decide (2147483646 < x)
/-- What a row's numbers are written as. -/
def cells1 (l : List Int) : List Nat := (l.map fun n => numL (n + 1).toNat).flatten
theorem cells1_snoc (l : List Int) (x : Int) : cells1 (l ++ [x]) = cells1 l ++ numL (x + 1).toNat := by simp [cells1]
theorem rowL_eq (l : List Int) : rowL l = numL l.length ++ cells1 l := rfl
theorem cells1_len : ∀ (l : List Int), l.any badR = false → (cells1 l).length ≤ 5 * l.length := by
  intro l
  induction l with
  | nil => intro _; simp [cells1]
  | cons x l ih =>
    intro h
    simp only [List.any_cons, Bool.or_eq_false_iff] at h
    have h1 := ih h.2
    have h2 : (numL (x + 1).toNat).length ≤ 5 := numL_len5 (by have := h.1; unfold badR at this; simp at this; omega)
    have : cells1 (x :: l) = numL (x + 1).toNat ++ cells1 l := rfl
    rw [this, List.length_append, List.length_cons]
    omega
theorem Wr.congr {w : World} {b : Nat} {r : Option Nat} {E : Value} {e : Bool} {l l' : List Nat} (h : Wr w b r E e l) (hl : e = false → l = l') : Wr w b r E e l' := by
  cases e
  · rw [← hl rfl]; exact h
  · exact h
theorem badN_wrap {x : Int} (h1 : -9223372036854775808 ≤ x) (h2 : x ≤ 9223372036854775807) : badN (wrap64 (x + 1)) = badR x := by
  have hw : wrap64 (x + 1) = if x = 9223372036854775807 then -9223372036854775808 else x + 1 := by
    unfold wrap64
    split <;> omega
  rw [hw]
  unfold badN badR
  split
  · subst_vars; decide
  · rw [Bool.eq_iff_iff]; simp; omega
theorem toNat_wrap {x : Int} (h : badR x = false) : (wrap64 (x + 1)).toNat = (x + 1).toNat := by
  unfold badR at h
  simp at h
  unfold wrap64
  omega
set_option maxHeartbeats 1000000 in
theorem orow_wr {w : World} {b : Nat} {r : Option Nat} {E : Value} {e : Bool} {l : List Nat} {a : Option Addr} {c : Nat} {xs : List Int} (h : Wr w b r E e l) (hs : Ints w a xs) (hb : ∀ ad, a = some ad → xs ≠ [] → ad.block ≠ b ∧ some ad.block ≠ r) (hn : xs.length ≤ 1000) (hm : e = false → l.length ≤ 100000) (hE : w.cell? ⟨0, 0, none⟩ = some (.iface 78 E)) (hEb : 0 ≠ b ∧ some 0 ≠ r) :
    Calls Tryd.prog 12 #[.pointer (some ⟨b, 0, none⟩), .slice a xs.length c] w (Writes w b r E (e || xs.any badR) (l ++ rowL xs)) := by
  have hN := onum_wr h (n := (xs.length : Int)) (by omega) (fun he => by have := hm he; omega) hE
  have hg : badN (xs.length : Int) = false := by unfold badN; simp; omega
  rw [hg, Bool.or_false] at hN
  have hElt := World.block_lt_of_cell? _ _ hE
  have hE' : ∀ w1, Apt w w1 b r → w1.cell? ⟨0, 0, none⟩ = some (.iface 78 E) := fun w1 ha => (World.cell?_of_block (w := w) (w' := w1) (a := ⟨0, 0, none⟩) (ha.block _ hElt hEb.1 hEb.2)).trans hE
  have hS : ∀ w1 r1 k x, xs[k]? = some x → Wr w1 b r1 E (e || (xs.take k).any badR) (l ++ numL xs.length ++ cells1 (xs.take k)) → Apt w w1 b r → Nxt w r r1 →
      Calls Tryd.prog 8 #[.pointer (some ⟨b, 0, none⟩), .int .i64 (wrap64 (x + 1))] w1 (Writes w b r E (e || (xs.take (k + 1)).any badR) (l ++ numL xs.length ++ cells1 (xs.take (k + 1)))) := by
    intro w1 r1 k x hx h1 ha hxx
    obtain ⟨hk, rfl⟩ := List.getElem?_eq_some_iff.1 hx
    obtain ⟨_, _, _, _, _, q1, q2⟩ := hs k hk
    have hlen : (e || (xs.take k).any badR) = false → (l ++ numL xs.length ++ cells1 (xs.take k)).length ≤ 500000 := by
      intro he
      rw [Bool.or_eq_false_iff] at he
      have h2 := cells1_len _ he.2
      have h3 := hm he.1
      have h5 := num_len (n := xs.length) (by omega)
      simp only [List.length_append, List.length_take] at h2 ⊢
      omega
    refine (onum_wr h1 (n := wrap64 (xs[k] + 1)) (by unfold wrap64; omega) hlen (hE' _ ha)).mono fun en w2 hw => ?_
    obtain ⟨rfl, r2, h2, h3, h4⟩ := hw
    refine ⟨rfl, r2, ?_, ha.trans hxx h3, Nxt.trans ha.size hxx h4⟩
    have e1 : (xs.take (k + 1)).any badR = ((xs.take k).any badR || badR xs[k]) := by rw [List.take_succ_eq_append_getElem hk, List.any_append]; simp only [List.any_cons, List.any_nil, Bool.or_false]
    rw [badN_wrap q1 q2, Bool.or_assoc, ← e1] at h2
    refine h2.congr fun he => ?_
    rw [List.take_succ_eq_append_getElem hk, cells1_snoc]
    have hbr : badR xs[k] = false := by rw [e1] at he; simp at he; exact he.2.2
    rw [toNat_wrap hbr]
    simp
  have hc : ∀ w1 k x, xs[k]? = some x → Apt w w1 b r → ∃ bb o, a = some ⟨bb, o, none⟩ ∧ w1.cell? ⟨bb, o + k, none⟩ = some (.int .i64 x) := by
    intro w1 k x hx ha
    obtain ⟨hk, rfl⟩ := List.getElem?_eq_some_iff.1 hx
    obtain ⟨bb, o, e, _, q, _⟩ := hs.apt ha hb k hk
    exact ⟨bb, o, e, q⟩
  have hdone : ∀ w1 r1, Wr w1 b r1 E (e || (xs.take xs.length).any badR) (l ++ numL xs.length ++ cells1 (xs.take xs.length)) → Apt w w1 b r → Nxt w r r1 → Writes w b r E (e || xs.any badR) (l ++ rowL xs) (.returned (.tuple #[])) w1 := by
    intro w1 r1 h1 h2 h3
    rw [List.take_length, List.append_assoc] at h1
    exact ⟨rfl, r1, h1, h2, h3⟩
  have hst : ∀ w1 r1, Wr w1 b r1 E e (l ++ numL xs.length) → Wr w1 b r1 E (e || (xs.take 0).any badR) (l ++ numL xs.length ++ cells1 (xs.take 0)) := fun w1 r1 h => by simpa [cells1] using h
  replace hN := Lib.hid hN
  replace hS := Lib.hid hS
  replace hc := Lib.hid hc
  replace hst := Lib.hid hst
  replace hdone := Lib.hid hdone
  clear hs hb hE h hg hE' hEb hElt hm
  have hn0 : ∀ k, k < xs.length → ∃ x, xs[k]? = some x := fun k hk => ⟨xs[k], List.getElem?_eq_getElem hk⟩
  generalize xs.length = n at *
  replace hn0 := Lib.hid hn0
  go_enter Tryd.func12, Tryd.ntmps12
  go_wp2_with (go_at_call 8; (with_reducible refine hN.out.mono ?_); rintro e w1 ⟨rfl, r1, h1, ha, hx⟩; replace h1 := Lib.hid (hst.out _ _ h1); replace ha := Lib.hid ha; replace hx := Lib.hid hx)
  go_loopw [12] (fun s12 wr => ∃ (k : Nat) (r1 : Option Nat), k ≤ n ∧ s12 = .int .i64 k ∧ Hid (Wr wr b r1 E (e || (xs.take k).any badR) (l ++ numL n ++ cells1 (xs.take k))) ∧ Hid (Apt w wr b r) ∧ Hid (Nxt w r r1)) (fun s12 _ => n - (intOf s12).toNat)
  case atStart => exact ⟨0, r1, by omega, rfl, h1, ha, hx⟩
  case round =>
    clear h1 ha hx hN
    obtain ⟨k, r2, hk, rfl, h1, ha, hx⟩ := hrel
    by_cases hlt : k < n
    · obtain ⟨x, hxk⟩ := hn0.out k hlt
      obtain ⟨bb, o, rfl, hcell⟩ := hc.out _ k x hxk ha.out
      have hp := Lib.hid (hS.out _ _ k x hxk h1.out ha.out hx.out)
      replace hxk := Lib.hid hxk
      go_wp2_with (go_at_call 8; (with_reducible refine hp.out.mono ?_); rintro e w2 ⟨rfl, r3, h3, ha3, hx3⟩; replace h3 := Lib.hid h3; replace ha3 := Lib.hid ha3; replace hx3 := Lib.hid hx3)
      go_roundw
      case rel => exact ⟨k + 1, r3, by omega, by go_num, h3, ha3, hx3⟩
      case measure => simp [intOf]; omega
    · obtain rfl : k = n := by omega
      go_wp2
      go_end0
      exact hdone.out _ _ h1.out ha.out hx.out
end Go.Proofs.YtdhejbmmdbjpoaaDoor
