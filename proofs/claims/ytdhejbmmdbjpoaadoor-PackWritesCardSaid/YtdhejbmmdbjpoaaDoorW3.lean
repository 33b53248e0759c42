/- The writer's Done; the chapter's example. -/
import Derived.Test.YtdhejbmmdbjpoaaDoorW2
namespace Go.Proofs.YtdhejbmmdbjpoaaDoor
open Go.RowKit
theorem odone_ok {w : World} {b : Nat} {r : Option Nat} {l : List Nat} (h : Ou w b r l) (hm : l.length ≤ 900000) :
    Calls Tryd.prog 15 #[.pointer (some ⟨b, 0, none⟩)] w fun e w' => ∃ v, e = .returned (.tuple #[v, .nilIface]) ∧ w'.ownsRow w.heap.size 5 1 v l.length (l.map encN) ∧ Below w.heap.size w w' := by
  obtain ⟨v, h0, h1, ho, -⟩ := at_zero h
  obtain ⟨p, cap, rfl, hsr⟩ := Src.of_owns ho rfl h.small
  obtain ⟨i0, hi, hz0, hz1, hz2⟩ := info_parts info5
  have hone : ∀ u ∈ l.map encN, u.oneCell' = true := by intro u hu; obtain ⟨x, _, rfl⟩ := List.mem_map.1 hu; rfl
  have hlc : (l.map encN).length = l.length * 1 := by simp
  have hcs : ∀ ad, p = some ad → ∀ j u, (l.map encN)[j]? = some u → (w.alloc (.cells #[] 5)).cell? (ad.add j) = some u := (hsr.bel (Bel.new w _)).cells
  have hnl := hsr.nil
  have hown : (w.alloc (.cells #[] 5)).ownsRow w.heap.size 5 1 (.slice (some ⟨w.heap.size, 0, none⟩) 0 0) 0 [] := own_empty (World.alloc_heap_new w _) (Nat.le_refl _)
  have hb63 : 0 + l.length ≤ maxLen := by simp [maxLen]; omega
  have hB0 : Bel w (w.alloc (.cells #[] 5)) := Bel.new w _
  have hB := hB0.size
  have h0a := hB0.cell (p := ⟨b, 0, none⟩) h.lt h0
  replace hone := Lib.hid hone
  replace hcs := Lib.hid hcs
  replace hnl := Lib.hid hnl
  replace hlc := Lib.hid hlc
  replace hB0 := Lib.hid hB0
  clear hsr ho h
  go_enter Tryd.func15, Tryd.ntmps15
  go_wp2_with (at_builtin; refine wpList_append_src _ rfl _ _ 26 rfl w.heap.size 5 i0 (.int .u8 0) 1 1 Tryd.underlying26 hi hz0 hz1 hz2 rfl (by decide) _ 0 [] rfl hown p l.length cap (l.map encN) rfl hlc.out hnl.out hcs.out hone.out hb63 (by omega) hB ?_; intro v2 w2 ho2 hg2; replace hg2 := Lib.hid hg2; replace ho2 := Lib.hid ho2)
  go_ret2
  refine ⟨v2, rfl, by simpa using ho2.out, ?_⟩
  exact Below.grown hB0.out hg2.out hB (fun k hk => by cases hk; exact Nat.le_refl _)
theorem odone_failed {w : World} {b : Nat} {E : Value} (h : Of w b (.iface 78 E)) :
    Calls Tryd.prog 15 #[.pointer (some ⟨b, 0, none⟩)] w fun e w' => e = .returned (.tuple #[.slice none 0 0, .iface 78 E]) ∧ Below w.heap.size w w' := by
  have h1 : w.cell? ⟨b, 1, none⟩ = some (.iface 78 E) := (cell_of_row w b 1 _ _ _ h).trans rfl
  have hbl := lt_of_block h
  clear h
  go_enter Tryd.func15, Tryd.ntmps15
  go_wp2
  go_region
  all_goals
    go_wp2
    go_ret2
    exact ⟨rfl, Bel.drew (Bel.refl w)⟩

/-- A new writer's object lies above all that lay. -/
theorem Apt.fresh {w w' : World} {o : Obj} (h : Apt (w.alloc o) w' w.heap.size none) : Bel w w' :=
  Apt.bel (w := w.alloc o) (b := w.heap.size) (r := none) (Bel.new w o) h (Nat.le_refl _) (fun k hk => by cases hk)
theorem str300 : (strN [172, 2]) = ⟨#[172, 2]⟩ := by decide
theorem alive_in (w : World) : Calls Tryd.prog 5 #[] w fun e w' => e = .returned (.bool true) ∧ Below w.heap.size w w' := by
  have hn := onum_ok (Ou.new w) (n := 300) (by decide) (by simp)
  have e300 : numL 300 = [172, 2] := by rw [numL_ge (by decide), numL_lt (by decide)]
  rw [e300] at hn
  have hs := str300
  replace hn := Lib.hid hn
  have hd : ∀ (w' : World) (r : Option Nat), Ou w' w.heap.size r ([] ++ [172, 2]) → Calls Tryd.prog 15 #[.pointer (some ⟨w.heap.size, 0, none⟩)] w' fun e w'' => ∃ v, e = .returned (.tuple #[v, .nilIface]) ∧ (convert 26 9 v).run Tryd.prog w'' = .ok (.string ⟨#[172, 2]⟩) w'' ∧ Below w'.heap.size w' w'' := by
    intro w' r ho
    refine (odone_ok ho (by simp)).mono ?_
    rintro e w'' ⟨v, rfl, h1, h2⟩
    refine ⟨v, rfl, ?_, h2⟩
    rw [← hs]
    exact conv_own (n := 2) rfl (by simp) h1
  replace hd := Lib.hid hd
  clear hs e300
  go_enter Tryd.func5, Tryd.ntmps5
  go_wp2_with (first
    | (go_at_call 8; refine hn.out.mono ?_; rintro e w1 ⟨rfl, r1, ho1, ha1, hx1⟩; replace ho1 := Lib.hid ho1; replace ha1 := Lib.hid ha1)
    | (go_at_call 15; refine (hd.out _ _ ho1.out).mono ?_; rintro e w2 ⟨v, rfl, hcv, hb2⟩; replace hb2 := Lib.hid hb2))
  go_ret
  exact ⟨rfl, ha1.out.fresh.step hb2.out⟩
end Go.Proofs.YtdhejbmmdbjpoaaDoor
