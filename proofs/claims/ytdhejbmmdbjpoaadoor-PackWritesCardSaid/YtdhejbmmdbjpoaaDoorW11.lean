/- The document's answer: Num and Row of the law's own side. -/
import Derived.Test.YtdhejbmmdbjpoaaDoorW10
namespace Go.Proofs.YtdhejbmmdbjpoaaDoor
open Go.RowKit
def GivesRow (w : World) (l : List Nat) (e : Ending) (w' : World) : Prop := ∃ v, e = .returned v ∧ w'.ownsRow w.heap.size 5 1 v l.length (l.map encN) ∧ Below w.heap.size w w'
theorem own_lit (w : World) {x : Int} {c : Nat} (hx : x = c) : (w.alloc (.cells #[.int .u8 x] 5)).ownsRow w.heap.size 5 1 (.slice (some ⟨w.heap.size, 0, none⟩) 1 1) 1 [encN c] := by
  subst hx
  have := World.ownsRow_lit (base := w.heap.size) (e := 5) (size := 1) w #[encN c] 1 (Nat.le_refl _) (by decide) rfl
  exact this
theorem enc_one (l : List Nat) : ∀ u ∈ l.map encN, u.oneCell' = true := by intro u hu; obtain ⟨x, _, rfl⟩ := List.mem_map.1 hu; rfl
set_option maxRecDepth 10000 in
theorem rnum_in : ∀ (n : Nat), n ≤ 9223372036854775807 → ∀ w, Calls Tryd.prog 13 #[.int .i64 n] w (GivesRow w (numL n)) := by
  intro n
  induction n using Nat.strongRecOn with
  | ind n ih =>
    intro hn w
    obtain ⟨i0, hi, hz0, hz1, hz2⟩ := info_parts info5
    unfold GivesRow
    by_cases h : n < 128
    · have h1 : (n : Int) < 128 := by omega
      have hown := own_lit w (x := (n : Int)) (c := n) rfl
      have he := numL_lt h
      rw [he]
      replace hown := Lib.hid hown
      clear ih
      go_enter Tryd.func13, Tryd.ntmps13
      go_wp2
      go_ret
      exact ⟨_, rfl, hown.out, Bel.new _ _⟩
    · have h1 : ¬ (n : Int) < 128 := by omega
      have hown := own_lit w (x := (n : Int) % 128 + 128) (c := n % 128 + 128) (by omega)
      have he := numL_ge h
      have hb0 : Bel w (w.alloc (.cells #[.int .u8 ((n : Int) % 128 + 128)] 5)) := Bel.new _ _
      have hq : ((n : Int) / 128) = ((n / 128 : Nat) : Int) := by omega
      have hc := ih (n / 128) (by omega) (by omega) (w.alloc (.cells #[.int .u8 ((n : Int) % 128 + 128)] 5))
      rw [← hq] at hc
      have hwr : wrap64 ((n : Int) / 128) = (n : Int) / 128 := by unfold wrap64; omega
      have hlen : (numL (n / 128)).length ≤ 10 := numL_len (k := 9) (Nat.lt_of_le_of_lt (show n / 128 ≤ 9223372036854775807 by omega) (by decide))
      have hsm := numL_small (n / 128)
      rw [he]
      generalize numL (n / 128) = q at *
      have happ : ∀ v w1, w1.ownsRow (w.alloc (.cells #[.int .u8 ((n : Int) % 128 + 128)] 5)).heap.size 5 1 v q.length (q.map encN) → Below (w.alloc (.cells #[.int .u8 ((n : Int) % 128 + 128)] 5)).heap.size (w.alloc (.cells #[.int .u8 ((n : Int) % 128 + 128)] 5)) w1 →
          ∃ p cap, v = .slice p q.length cap ∧ Hid (Src w1 p q.length cap q) ∧ w1.ownsRow w.heap.size 5 1 (.slice (some ⟨w.heap.size, 0, none⟩) 1 1) 1 [encN (n % 128 + 128)] ∧ Hid (Bel w w1) := by
        intro v w1 ho hb
        obtain ⟨p, cap, rfl, hs⟩ := Src.of_owns ho rfl hsm
        exact ⟨p, cap, rfl, Lib.hid hs, ownsRow_bel hown hb, Lib.hid (hb0.step hb)⟩
      have hone := Lib.hid (enc_one q)
      have hlc : Hid ((q.map encN).length = q.length * 1) := Lib.hid (by simp)
      replace happ := Lib.hid happ
      replace hc := Lib.hid hc
      clear hown hb0 hq ih he hsm
      have h63 : 1 + q.length ≤ maxLen := by simp [maxLen]; omega
      go_enter Tryd.func13, Tryd.ntmps13
      go_wp2_with (first
        | (go_at_call 13; (with_reducible refine hc.out.mono ?_); rintro e w1 ⟨v, rfl, ho, hb⟩; obtain ⟨p, cap, rfl, hs, hown, hb1⟩ := happ.out v w1 ho hb; clear ho hb)
        | (at_builtin; refine wpList_append_src _ rfl _ _ 26 rfl w.heap.size 5 i0 (.int .u8 0) 1 1 Tryd.underlying26 hi hz0 hz1 hz2 rfl (by decide) _ 1 _ rfl hown p q.length cap (q.map encN) rfl hlc.out hs.out.nil hs.out.cells hone.out h63 (by omega) hb1.out.size ?_; intro v2 w2 ho2 hg2; replace hg2 := Lib.hid hg2; replace ho2 := Lib.hid ho2))
      go_ret
      refine ⟨v2, rfl, ?_, Below.grown hb1.out hg2.out hb1.out.size (fun k hk => by cases hk; exact Nat.le_refl _)⟩
      have h2 := ho2.out
      rw [Nat.add_comm 1 q.length] at h2
      exact h2

theorem any_take_false {l : List Int} {f : Int → Bool} (h : l.any f = false) (k : Nat) : (l.take k).any f = false := by
  rw [List.any_eq_false] at h ⊢
  exact fun x hx => h x (List.mem_of_mem_take hx)
set_option maxHeartbeats 1000000 in
set_option maxRecDepth 10000 in
theorem rrow_in {w : World} {a : Option Addr} {c : Nat} {xs : List Int} (hs : Ints w a xs) (hn : xs.length ≤ 1000) (hg : xs.any badR = false) :
    Calls Tryd.prog 14 #[.slice a xs.length c] w (GivesRow w (rowL xs)) := by
  obtain ⟨i0, hi, hz0, hz1, hz2⟩ := info_parts info5
  have hN := rnum_in xs.length (by omega) w
  have hlen : ∀ k, (numL xs.length ++ cells1 (xs.take k)).length ≤ 6000 := fun k => by
    have h1 := cells1_len _ (any_take_false hg k)
    have h5 := num_len (n := xs.length) (by omega)
    simp only [List.length_append, List.length_take] at h1 ⊢
    omega
  have hsm : ∀ k, ∀ x ∈ numL xs.length ++ cells1 (xs.take k), x ≤ 255 := fun k x hx => by
    rcases List.mem_append.1 hx with hx | hx
    · exact numL_small _ _ hx
    · unfold cells1 at hx
      simp only [List.mem_flatten, List.mem_map] at hx
      obtain ⟨y, ⟨z, _, rfl⟩, hy⟩ := hx
      exact numL_small _ _ hy
  have hS : ∀ w1 k x, xs[k]? = some x → Bel w w1 → wrap64 (x + 1) = x + 1 ∧ (∃ bb o, a = some ⟨bb, o, none⟩ ∧ w1.cell? ⟨bb, o + k, none⟩ = some (.int .i64 x)) ∧
      Calls Tryd.prog 13 #[.int .i64 (x + 1)] w1 (fun e w2 => ∃ p cap, e = .returned (.slice p (numL (x + 1).toNat).length cap) ∧ Hid (Src w2 p (numL (x + 1).toNat).length cap (numL (x + 1).toNat)) ∧ Hid (Below w1.heap.size w1 w2)) ∧
      (numL xs.length ++ cells1 (xs.take (k + 1)) = numL xs.length ++ cells1 (xs.take k) ++ numL (x + 1).toNat) ∧ (numL (x + 1).toNat).length ≤ 5 := by
    intro w1 k x hx hb
    obtain ⟨hk, rfl⟩ := List.getElem?_eq_some_iff.1 hx
    obtain ⟨bb, o, e, _, q, q1, q2⟩ := hs.bel hb k hk
    have hbr : badR xs[k] = false := by
      rw [List.any_eq_false] at hg
      simpa using hg _ (List.getElem_mem hk)
    unfold badR at hbr
    simp at hbr
    obtain ⟨m, hm⟩ := Int.eq_ofNat_of_zero_le (show 0 ≤ xs[k] + 1 by omega)
    refine ⟨by unfold wrap64; omega, ⟨bb, o, e, q⟩, ?_, by rw [List.take_succ_eq_append_getElem hk, cells1_snoc]; simp, by rw [hm]; exact numL_len5 (by simp; omega)⟩
    rw [hm]
    refine (rnum_in m (by omega) w1).mono ?_
    rintro e w2 ⟨v, rfl, ho, hb2⟩
    obtain ⟨p, cap, rfl, hsr⟩ := Src.of_owns ho rfl (numL_small m)
    exact ⟨p, cap, rfl, Lib.hid hsr, Lib.hid hb2⟩
  have h0 : numL xs.length = numL xs.length ++ cells1 (xs.take 0) := by simp [cells1]
  have hend : numL xs.length ++ cells1 (xs.take xs.length) = rowL xs := by rw [List.take_length]; rfl
  have hn0 : ∀ k, k < xs.length → ∃ x, xs[k]? = some x := fun k hk => ⟨xs[k], List.getElem?_eq_getElem hk⟩
  rw [h0] at hN
  have hN' : Calls Tryd.prog 13 #[.int .i64 xs.length] w (GivesRow w (numL xs.length ++ cells1 (xs.take 0))) := hN
  unfold GivesRow at hN' ⊢
  rw [← hend]
  generalize hL : (fun k => numL xs.length ++ cells1 (xs.take k)) = L at *
  have hLk : ∀ k, numL xs.length ++ cells1 (xs.take k) = L k := fun k => by rw [← hL]
  simp only [hLk] at hlen hsm hS hN' ⊢
  clear hN h0 hend hL hLk hs hg
  replace hN' := Lib.hid hN'
  replace hlen := Lib.hid hlen
  replace hsm := Lib.hid hsm
  replace hS := Lib.hid hS
  replace hn0 := Lib.hid hn0
  generalize xs.length = n at *
  go_enter Tryd.func14, Tryd.ntmps14
  go_wp2_with (go_at_call 13; (with_reducible refine hN'.out.mono ?_); rintro e w1 ⟨v, rfl, ho, hb⟩; replace ho := Lib.hid ho; replace hb := Lib.hid hb)
  go_loopw [3, 11] (fun s3 s11 wr => ∃ k : Nat, k ≤ n ∧ s11 = .int .i64 k ∧ Hid (wr.ownsRow w.heap.size 5 1 s3 (L k).length ((L k).map encN)) ∧ Hid (Bel w wr)) (fun _ s11 _ => n - (intOf s11).toNat)
  case atStart => exact ⟨0, by omega, rfl, ho, hb⟩
  case round =>
    clear ho hb hN'
    obtain ⟨k, hk, rfl, ho, hb⟩ := hrel
    by_cases hlt : k < n
    · obtain ⟨x, hxk⟩ := hn0.out k hlt
      obtain ⟨hw, ⟨bb, o, rfl, hcell⟩, hcall, hL1, hq5⟩ := hS.out _ k x hxk hb.out
      have hl0 := hlen.out k
      obtain ⟨p0, cap0, rfl, -, -, -⟩ := row_form ho.out
      replace hcall := Lib.hid hcall
      replace hL1 := Lib.hid hL1
      replace hxk := Lib.hid hxk
      have hone := Lib.hid (enc_one (numL (x + 1).toNat))
      have hlc : Hid (((numL (x + 1).toNat).map encN).length = (numL (x + 1).toNat).length * 1) := Lib.hid (by simp)
      have hmapL : Hid ((L k).map encN ++ (numL (x + 1).toNat).map encN = (L (k + 1)).map encN ∧ (L k).length + (numL (x + 1).toNat).length = (L (k + 1)).length) := Lib.hid (by rw [hL1.out]; simp)
      generalize numL (x + 1).toNat = q at *
      generalize hml : (L k).map encN = ml at *
      replace hml := Lib.hid hml
      generalize hqm : q.map encN = qm at *
      replace hqm := Lib.hid hqm
      generalize (L k).length = m at *
      generalize q.length = m2 at *
      have h63 : m + m2 ≤ maxLen := by simp [maxLen]; omega
      have hown : ∀ w2, Below wr.heap.size wr w2 → w2.ownsRow w.heap.size 5 1 (.slice p0 m cap0) m ml ∧ Bel w w2 := fun w2 hb2 => ⟨ownsRow_bel ho.out hb2, hb.out.step hb2⟩
      replace hown := Lib.hid hown
      have hsrc : ∀ w2 p cap, Src w2 p m2 cap q → (p = none → m2 = 0 ∧ cap = 0) ∧ ∀ ad, p = some ad → ∀ j u, qm[j]? = some u → w2.cell? (ad.add j) = some u := fun w2 p cap hs => ⟨hs.nil, by rw [← hqm.out]; exact hs.cells⟩
      replace hsrc := Lib.hid hsrc
      go_wp2_with (first
        | (go_at_call 13; (with_reducible refine hcall.out.mono ?_); rintro e w2 ⟨p, cap, rfl, hs, hb2⟩; obtain ⟨hown2, hb2'⟩ := hown.out w2 hb2.out; replace hb2' := Lib.hid hb2')
        | (at_builtin; refine wpList_append_src _ rfl _ _ 26 rfl w.heap.size 5 i0 (.int .u8 0) 1 1 Tryd.underlying26 hi hz0 hz1 hz2 rfl (by decide) _ m ml rfl hown2 p m2 cap qm rfl hlc.out (hsrc.out _ _ _ hs.out).1 (hsrc.out _ _ _ hs.out).2 hone.out h63 (by omega) hb2'.out.size ?_; intro v2 w3 ho2 hg2; replace hg2 := Lib.hid hg2; replace ho2 := Lib.hid ho2))
      go_roundw
      case rel =>
        refine ⟨k + 1, by omega, by go_num, Lib.hid ?_, Lib.hid (Below.grown hb2'.out hg2.out hb2'.out.size (fun k hk => (ho.out.lt k hk).1))⟩
        rw [← hmapL.out.1, ← hmapL.out.2]
        exact ho2.out
      case measure => simp [intOf]; omega
    · obtain rfl : k = n := by omega
      go_wp2
      go_ret
      exact ⟨_, rfl, ho.out, hb.out⟩
end Go.Proofs.YtdhejbmmdbjpoaaDoor
