/- joined. -/
import Derived.Test.YtbkmoaollooomaaDoorW14
import Derived.Test.YtbkmoaollooomaaDoorW15
import Derived.Test.YtbkmoaollooomaaDoorS6B
namespace Go.Proofs.YtbkmoaollooomaaDoor
open Go.RowKit
open Go.Tree7
open S5 (nl nl_length nl_small at_nl nl_at nl_strN Bld)
theorem Bld.al {B b : Nat} {l : List Nat} {w : World} (h : Bld B b l w) (o : Obj) : Bld B b l (w.alloc o) := h.bel ((Below.refl _ _).alloc (Nat.le_refl _) _)
theorem lit40 : strN [40] = ⟨#[40]⟩ := by decide +kernel
theorem lit41 : strN [41] = ⟨#[41]⟩ := by decide +kernel
theorem bld_new (w : World) : Bld w.heap.size w.heap.size [] (w.alloc (.cells #[.pointer none, .slice none 0 0] 87)) :=
  ⟨.pointer none, .inl rfl, Nat.le_refl _, .slice none 0 0, World.alloc_heap_new w _, World.ownsRow_nil _ _ _ _, by simp [Value.ownBlock]⟩
theorem joinS_take {sep : List Nat} {l : List (List Nat)} {k : Nat} (hk : k < l.length) : joinS sep (l.take (k + 1)) = joinS sep (l.take k) ++ (if k = 0 then [] else sep) ++ l[k] := by
  rw [List.take_succ_eq_append_getElem hk, joinS_snoc]
  congr 2
  have : (l.take k).length = k := by simp; omega
  rw [this]
theorem joinS_mono {sep : List Nat} {l : List (List Nat)} (k : Nat) : (joinS sep (l.take k)).length ≤ (joinS sep l).length := by
  rcases l with _ | ⟨x, xs⟩
  · simp
  · rcases k with _ | k
    · simp [joinS]
    · simp only [List.take_succ_cons, joinS, List.length_append, List.length_flatMap]
      have e : xs.flatMap (fun y => sep ++ y) = (xs.take k).flatMap (fun y => sep ++ y) ++ (xs.drop k).flatMap (fun y => sep ++ y) := by
        rw [← List.flatMap_append, List.take_append_drop]
      have := congrArg List.length e
      simp only [List.length_append, List.length_flatMap] at this
      omega
theorem oneL_ne (f : Nat → Bool) : oneL f ≠ [] := by
  unfold oneL
  split
  · intro h
    rename_i h1
    obtain ⟨c, hc, hc5⟩ := el_one h1
    rw [hc] at h
    have := (S5.sp_length (po_sp hc5)).1
    simp only [List.headD_cons] at h
    rw [h] at this
    simp at this
  · split
    · simp
    · unfold S6.txtB
      split <;> simp
theorem joinS_ne {sep : List Nat} {l : List (List Nat)} (hl : l ≠ []) (h : ∀ y ∈ l, y ≠ []) : joinS sep l ≠ [] := by
  cases l with
  | nil => exact absurd rfl hl
  | cons x xs =>
    intro e
    simp only [joinS, List.append_eq_nil_iff] at e
    exact h x (by simp) e.1
theorem its_ne {cl : List Int} {ks : List T} (h : ∀ t ∈ ks, T.txt t ≠ []) : ∀ y ∈ its cl ks, y ≠ [] := fun y hy => by
  unfold its at hy
  obtain ⟨t, ht, rfl⟩ := List.mem_map.1 hy
  unfold itm
  split
  · simp
  · exact h t ht
theorem txt_ne {t : T} (h : T.All (fun t => T.ok t = true) t) : T.txt t ≠ [] := by
  induction h with
  | @mk k u0 u1 u2 u3 p cap mn mx tx ks h _ ih =>
    rw [txt_mk]
    rcases ok5 h with rfl | rfl | ⟨rfl, h2⟩ | ⟨rfl, h2, hb⟩ | ⟨rfl, hn⟩
    · simp only [if_true]; exact oneL_ne _
    · simp only [show ¬ (2 : Int) = 1 by decide, if_false, if_true]
      split
      · simp
      · rename_i hz
        exact joinS_ne (fun e => hz (by have := congrArg List.length e; simpa [its] using this)) (its_ne ih)
    · simp only [show ¬ (3 : Int) = 1 by decide, show ¬ (3 : Int) = 2 by decide, if_false, if_true]
      exact joinS_ne (fun e => by have := congrArg List.length e; simp [its] at this; subst this; simp at h2) (its_ne ih)
    · simp only [show ¬ (4 : Int) = 1 by decide, show ¬ (4 : Int) = 2 by decide, show ¬ (4 : Int) = 3 by decide, if_false, if_true]
      intro e
      exact joinS_ne (fun e => by have := congrArg List.length e; simp [its] at this; subst this; simp at h2) (its_ne ih) (List.append_eq_nil_iff.1 e).1
    · simp only [show ¬ (5 : Int) = 1 by decide, show ¬ (5 : Int) = 2 by decide, show ¬ (5 : Int) = 3 by decide, show ¬ (5 : Int) = 4 by decide, if_false]
      simp
/-- What text is asked of the kids. -/
def TextOf (w0 : World) (B0 : Nat) (t : T) : Prop := ∀ w', Below B0 w0 w' → S1.Tab w' → Calls Tryd.prog 33 #[.agg t.cells.toArray] w' fun e w'' => e = .returned (.string (strN (T.txt t))) ∧ Below w'.heap.size w' w''
set_option maxRecDepth 10000 in
set_option maxHeartbeats 4000000 in
theorem joined_in {w0 w : World} {B0 : Nat} {k u0 u1 u2 u3 : Int} {p : Option Addr} {cap : Nat} {mn mx : Int} {tx : ByteArray} {ks : List T} (hT : T.In w0 B0 (.mk k u0 u1 u2 u3 p cap mn mx tx ks))
    (hB0 : Below B0 w0 w) (hn0 : B0 ≤ w0.heap.size) (hTab : S1.Tab w) (ih : ∀ t ∈ ks, TextOf w0 B0 t) (hne : ks.length ≠ 0)
    {cl : List Int} {g m : Nat} (hm : cl.length = m) (hml : m ≤ 3) (hrow : w.heap[g]? = some (.cells (cl.map fun c => Value.int .i64 c).toArray 3 (0, 0)))
    {s : ByteArray} {sep : List Nat} (hs : nl s = sep) (hsl : sep.length ≤ 1) (hss : ∀ x ∈ sep, x ≤ 255) (hne2 : ∀ t ∈ ks, T.txt t ≠ []) (hsmall : ∀ t ∈ ks, ∀ x ∈ T.txt t, x ≤ 255) (hlen : ∀ t ∈ ks, (T.txt t).length ≤ 2000000) (hall : (joinS sep (its cl ks)).length ≤ 2000000) :
    Calls Tryd.prog 47 #[.slice p ks.length cap, .string s, .slice (some ⟨g, 0, none⟩) m m] w fun e w' => e = .returned (.string (strN (joinS sep (its cl ks)))) ∧ Below w.heap.size w w' := by
  have hks : ks.length ≤ 9223372036854775807 := by cases hT with | mk h1 h2 => unfold maxLen at h2; omega
  have hlen' : (its cl ks).length = ks.length := by simp [its]
  have hsz : s.size ≤ 1 := by rw [← nl_length, hs]; exact hsl
  have hsm2 : ∀ y ∈ its cl ks, ∀ x ∈ y, x ≤ 255 := fun y hy x hx => by
    unfold its at hy
    obtain ⟨t, ht, rfl⟩ := List.mem_map.1 hy
    unfold itm at hx
    split at hx
    · simp only [List.mem_append, List.mem_cons, List.not_mem_nil, or_false] at hx
      rcases hx with (rfl | hx) | rfl
      · decide
      · exact hsmall t ht x hx
      · decide
    · exact hsmall t ht x hx
  have hres := Lib.hid (joinS_small hss hsm2)
  have hget : ∀ j (hj : j < ks.length), (its cl ks)[j]'(by omega) = itm cl (T.k ks[j]) (T.txt ks[j]) := fun j hj => by simp [its]
  obtain ⟨J, hJ⟩ : ∃ J : Nat → List Nat, ∀ j, J j = joinS sep ((its cl ks).take j) := ⟨_, fun _ => rfl⟩
  have hJ0 : J 0 = [] := by rw [hJ]; rfl
  have hJs : ∀ j (hj : j < ks.length), J (j + 1) = J j ++ (if j = 0 then [] else sep) ++ itm cl (T.k ks[j]) (T.txt ks[j]) := fun j hj => by
    rw [hJ, hJ, joinS_take (by omega), hget j hj]
  have hJl : ∀ j, (J j).length ≤ 2000000 := fun j => by rw [hJ]; exact Nat.le_trans (joinS_mono j) hall
  have hJe : J ks.length = joinS sep (its cl ks) := by rw [hJ, List.take_of_length_le (by omega)]
  have hJsm : ∀ x ∈ J ks.length, x ≤ 255 := by rw [hJe]; exact hres.out
  have hJne : J ks.length ≠ [] := by rw [hJe]; exact joinS_ne (fun e => hne (by have := congrArg List.length e; simpa [its] using this)) (its_ne hne2)
  rw [← hJe]
  have hT' := Lib.hid hT
  have hB0' := Lib.hid hB0
  have hTab' := Lib.hid hTab
  have hrow' := Lib.hid hrow
  replace hJs := Lib.hid hJs
  replace hJl := Lib.hid hJl
  replace hlen := Lib.hid hlen
  replace hsmall := Lib.hid hsmall
  replace ih := Lib.hid ih
  have hg : g < w.heap.size := (Array.getElem?_eq_some_iff.1 hrow).1
  have hBn : B0 ≤ w.heap.size := Nat.le_trans hn0 hB0.size
  have hBl0 : Hid (Bld w.heap.size w.heap.size (J 0) (w.alloc (.cells #[.pointer none, .slice none 0 0] 87))) := Lib.hid (by rw [hJ0]; exact bld_new w)
  have hBB0 := Lib.hid ((Below.refl w.heap.size w).alloc (Nat.le_refl _) (.cells #[.pointer none, .slice none 0 0] 87))
  replace hs := Lib.hid hs
  replace hJne := Lib.hid hJne
  replace hJsm := Lib.hid hJsm
  clear hT hB0 hTab hrow hsm2 hres hget hJ hJ0 hJe hne2 hall hss hlen' 
  go_enter Tryd.func47, Tryd.ntmps47
  go_wp2
  go_loopw [12] (fun i wr => ∃ j : Nat, j ≤ ks.length ∧ i = .int .i64 j ∧ Hid (Bld w.heap.size w.heap.size (J j) wr) ∧ Hid (Below w.heap.size w wr)) (fun i _ => ks.length - (intOf i).toNat)
  case atStart => exact ⟨0, Nat.zero_le _, rfl, hBl0, hBB0⟩
  case round =>
    clear hBl0 hBB0
    obtain ⟨j, hj, rfl, hBl, hB⟩ := hrel
    by_cases hlt : j < ks.length
    · obtain ⟨b, o, hkid, hp, hb, hc⟩ := T.kid hT'.out hlt
      have hwB : Below B0 w0 wr := hB0'.out.trans (hB.out.mono hBn)
      have hcl : ∀ q, q < 9 → wr.cell? ⟨b, o + j * 9 + q, none⟩ = (ks[j].cells)[q]? := fun q hq => by
        rw [← hc q hq]
        exact hwB.cell (p := ⟨b, o + j * 9 + q, none⟩) hb
      have hnext := hJs.out j hlt
      have hi := ih.out _ (List.getElem_mem hlt)
      unfold TextOf at hi
      have hl1 := hlen.out _ (List.getElem_mem hlt)
      have hsm1 := hsmall.out _ (List.getElem_mem hlt)
      clear hkid hc
      obtain ⟨r, hr⟩ : ∃ r, decide (T.k ks[j] ∈ cl) = r := ⟨_, rfl⟩
      have hitm : itm cl (T.k ks[j]) (T.txt ks[j]) = if r = true then [40] ++ T.txt ks[j] ++ [41] else T.txt ks[j] := by unfold itm; rw [← hr]; simp
      rw [hitm] at hnext
      clear hitm
      have cC : ∀ wr', wr'.heap[g]? = some (.cells (cl.map fun c => Value.int .i64 c).toArray 3 (0, 0)) → Calls Tryd.prog 62 #[.slice (some ⟨g, 0, none⟩) m m, .int .i64 (T.k ks[j])] wr' fun e w' => e = .returned (.bool r) ∧ wr' = w' := fun wr' h => by rw [← hr]; exact cInts_in wr' hm hml h
      clear hr
      generalize ks[j] = kd at *
      generalize T.txt kd = F at *
      have rowAt : Hid (∀ X, Below w.heap.size w X → X.heap[g]? = some (.cells (cl.map fun c => Value.int .i64 c).toArray 3 (0, 0))) := Lib.hid fun X hX => (hX.block g hg).trans hrow'.out
      have textAt : Hid (∀ X, Below w.heap.size w X → Calls Tryd.prog 33 #[.agg kd.cells.toArray] X fun e w'' => e = .returned (.string (strN F)) ∧ Below X.heap.size X w'') := Lib.hid fun X hX => hi X (hB0'.out.trans (hX.mono hBn)) (hTab'.out.below hX hTab'.out.1)
      have sF : (strN F).size ≤ 2000000 := by rw [strN_size]; exact hl1
      have hjl := hJl.out j
      clear hi hwB
      cases kd with
      | mk k' u0' u1' u2' u3' p' cap' mn' mx' tx' ks' =>
        simp only [T.cells, T.k] at *
        obtain ⟨c0, c1, c2, c3, c4, c5, c6, c7, c8⟩ := nine_of hcl
        subst hp
        clear hcl
        replace cC := Lib.hid cC
        have hBl1 := Lib.hid (Bld.al hBl.out (.cells #[.int .i64 k', .int .u64 u0', .int .u64 u1', .int .u64 u2', .int .u64 u3', .slice p' ks'.length cap', .int .i64 mn', .int .i64 mx', .string tx'] 27))
        have hB1 := Lib.hid (hB.out.alloc hB.out.size (.cells #[.int .i64 k', .int .u64 u0', .int .u64 u1', .int .u64 u2', .int .u64 u3', .slice p' ks'.length cap', .int .i64 mn', .int .i64 mx', .string tx'] 27))
        have nlP : nl (⟨#[40]⟩ ++ strN F ++ ⟨#[41]⟩) = [40] ++ F ++ [41] := by
          rw [show (⟨#[40]⟩ ++ strN F ++ ⟨#[41]⟩ : ByteArray) = strN ([40] ++ F ++ [41]) by rw [S6.strN_app, S6.strN_app, lit40, lit41]]
          exact nl_strN (by intro x hx; simp only [List.mem_append, List.mem_cons, List.not_mem_nil, or_false] at hx; rcases hx with (rfl | hx) | rfl <;> first | decide | exact hsm1 x hx)
        have szP : (⟨#[40]⟩ ++ strN F ++ ⟨#[41]⟩ : ByteArray).size ≤ 100000000 := by
          rw [← nl_length, nlP]; simp; omega
        by_cases h0 : j = 0
        · have d0 : decide (0 < j) = false := by simp; omega
          rw [if_pos h0, List.append_nil] at hnext
          clear h0
          cases r with
          | true =>
            rw [if_pos rfl] at hnext
            have k2 := Lib.hid (fun wr' (h : Bld w.heap.size w.heap.size (J j) wr') (hb : w.heap.size ≤ wr'.heap.size) => S6.write_keep wr' h nlP (by omega) szP hb)
            replace hnext := Lib.hid hnext
            clear nlP szP
            go_wp2_with (first | (go_at_call 62; (with_reducible refine (cC.out _ (rowAt.out _ hB1.out)).mono ?_); rintro e w7 ⟨rfl, rfl⟩) | (go_at_call 33; (with_reducible refine (textAt.out _ hB1.out).mono ?_); rintro e w2 ⟨rfl, h4⟩; replace hBl1 := Lib.hid (hBl1.out.bel h4); replace hB1 := Lib.hid (hB1.out.trans (h4.mono hB1.out.size)); clear h4) | (go_at_call 61; (with_reducible refine (k2.out _ hBl1.out hB1.out.size).mono ?_); rintro e w3 ⟨rfl, h1, h2, -⟩; replace hBl1 := Lib.hid h1; replace hB1 := Lib.hid (hB1.out.trans h2); clear h1 h2))
            go_roundw
            case rel => exact ⟨j + 1, by omega, by go_num, Lib.hid (by rw [hnext.out]; exact hBl1.out), hB1⟩
            case measure => simp [intOf]; omega
          | false =>
            rw [if_neg (by simp)] at hnext
            have k2 := Lib.hid (fun wr' (h : Bld w.heap.size w.heap.size (J j) wr') (hb : w.heap.size ≤ wr'.heap.size) => S6.write_keep wr' h (nl_strN hsm1) (by omega) (Nat.le_trans sF (by decide)) hb)
            replace hnext := Lib.hid hnext
            clear nlP szP
            go_wp2_with (first | (go_at_call 62; (with_reducible refine (cC.out _ (rowAt.out _ hB1.out)).mono ?_); rintro e w7 ⟨rfl, rfl⟩) | (go_at_call 33; (with_reducible refine (textAt.out _ hB1.out).mono ?_); rintro e w2 ⟨rfl, h4⟩; replace hBl1 := Lib.hid (hBl1.out.bel h4); replace hB1 := Lib.hid (hB1.out.trans (h4.mono hB1.out.size)); clear h4) | (go_at_call 61; (with_reducible refine (k2.out _ hBl1.out hB1.out.size).mono ?_); rintro e w3 ⟨rfl, h1, h2, -⟩; replace hBl1 := Lib.hid h1; replace hB1 := Lib.hid (hB1.out.trans h2); clear h1 h2))
            go_roundw
            case rel => exact ⟨j + 1, by omega, by go_num, Lib.hid (by rw [hnext.out]; exact hBl1.out), hB1⟩
            case measure => simp [intOf]; omega
        · have d0 : decide (0 < j) = true := by simp; omega
          rw [if_neg h0] at hnext
          clear h0
          have k1 := Lib.hid (fun wr' (h : Bld w.heap.size w.heap.size (J j) wr') (hb : w.heap.size ≤ wr'.heap.size) => S6.write_keep wr' h hs.out (by omega) (by omega) hb)
          have hjl2 : (J j ++ sep).length ≤ 100000000 := by simp; omega
          cases r with
          | true =>
            rw [if_pos rfl] at hnext
            have k2 := Lib.hid (fun wr' (h : Bld w.heap.size w.heap.size (J j ++ sep) wr') (hb : w.heap.size ≤ wr'.heap.size) => S6.write_keep wr' h nlP hjl2 szP hb)
            replace hnext := Lib.hid hnext
            clear nlP szP
            go_wp2_with (first | (go_at_call 61; (with_reducible refine (k1.out _ hBl1.out (Nat.le_trans hB1.out.size (Nat.le_refl _))).mono ?_); rintro e w1 ⟨rfl, h1, h2, h3⟩; have hk := cells_of (h3 wr.heap.size _ _ (by decide) (by have := hBl.out.lt; omega) (World.alloc_heap_new wr _)); have x0 := (hk 0 _ rfl).1; have x1 := (hk 1 _ rfl).1; have x2 := (hk 2 _ rfl).1; have x3 := (hk 3 _ rfl).1; have x4 := (hk 4 _ rfl).1; have x5 := (hk 5 _ rfl).1; have x6 := (hk 6 _ rfl).1; have x7 := (hk 7 _ rfl).1; have x8 := (hk 8 _ rfl).1; clear hk h3; replace hBl1 := Lib.hid h1; replace hB1 := Lib.hid (hB1.out.trans h2); clear h1 h2) | (go_at_call 62; (with_reducible refine (cC.out _ (rowAt.out _ hB1.out)).mono ?_); rintro e w7 ⟨rfl, rfl⟩) | (go_at_call 33; (with_reducible refine (textAt.out _ hB1.out).mono ?_); rintro e w2 ⟨rfl, h4⟩; replace hBl1 := Lib.hid (hBl1.out.bel h4); replace hB1 := Lib.hid (hB1.out.trans (h4.mono hB1.out.size)); clear h4) | (go_at_call 61; (with_reducible refine (k2.out _ hBl1.out hB1.out.size).mono ?_); rintro e w3 ⟨rfl, h1, h2, -⟩; replace hBl1 := Lib.hid h1; replace hB1 := Lib.hid (hB1.out.trans h2); clear h1 h2))
            go_roundw
            case rel => exact ⟨j + 1, by omega, by go_num, Lib.hid (by rw [hnext.out]; exact hBl1.out), hB1⟩
            case measure => simp [intOf]; omega
          | false =>
            rw [if_neg (by simp)] at hnext
            have k2 := Lib.hid (fun wr' (h : Bld w.heap.size w.heap.size (J j ++ sep) wr') (hb : w.heap.size ≤ wr'.heap.size) => S6.write_keep wr' h (nl_strN hsm1) hjl2 (Nat.le_trans sF (by decide)) hb)
            replace hnext := Lib.hid hnext
            clear nlP szP
            go_wp2_with (first | (go_at_call 61; (with_reducible refine (k1.out _ hBl1.out (Nat.le_trans hB1.out.size (Nat.le_refl _))).mono ?_); rintro e w1 ⟨rfl, h1, h2, h3⟩; have hk := cells_of (h3 wr.heap.size _ _ (by decide) (by have := hBl.out.lt; omega) (World.alloc_heap_new wr _)); have x0 := (hk 0 _ rfl).1; have x1 := (hk 1 _ rfl).1; have x2 := (hk 2 _ rfl).1; have x3 := (hk 3 _ rfl).1; have x4 := (hk 4 _ rfl).1; have x5 := (hk 5 _ rfl).1; have x6 := (hk 6 _ rfl).1; have x7 := (hk 7 _ rfl).1; have x8 := (hk 8 _ rfl).1; clear hk h3; replace hBl1 := Lib.hid h1; replace hB1 := Lib.hid (hB1.out.trans h2); clear h1 h2) | (go_at_call 62; (with_reducible refine (cC.out _ (rowAt.out _ hB1.out)).mono ?_); rintro e w7 ⟨rfl, rfl⟩) | (go_at_call 33; (with_reducible refine (textAt.out _ hB1.out).mono ?_); rintro e w2 ⟨rfl, h4⟩; replace hBl1 := Lib.hid (hBl1.out.bel h4); replace hB1 := Lib.hid (hB1.out.trans (h4.mono hB1.out.size)); clear h4) | (go_at_call 61; (with_reducible refine (k2.out _ hBl1.out hB1.out.size).mono ?_); rintro e w3 ⟨rfl, h1, h2, -⟩; replace hBl1 := Lib.hid h1; replace hB1 := Lib.hid (hB1.out.trans h2); clear h1 h2))
            go_roundw
            case rel => exact ⟨j + 1, by omega, by go_num, Lib.hid (by rw [hnext.out]; exact hBl1.out), hB1⟩
            case measure => simp [intOf]; omega
    · obtain rfl : j = ks.length := by omega
      have cS := Lib.hid (fun wr (h : Bld w.heap.size w.heap.size (J ks.length) wr) => S5.string_in wr h hJne.out hJsm.out)
      go_wp2_with (go_at_call 63; (with_reducible refine (cS.out _ hBl.out).mono ?_); rintro e w9 ⟨rfl, h1⟩; replace h1 := Lib.hid h1)
      go_ret
      exact ⟨rfl, hB.out.trans h1.out⟩
end Go.Proofs.YtbkmoaollooomaaDoor
