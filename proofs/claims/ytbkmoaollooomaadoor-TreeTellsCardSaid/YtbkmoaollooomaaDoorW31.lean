/- Names: mathematics; slices.Contains over strings; doffernum.SameTexts. -/
import Derived.Test.YtbkmoaollooomaaDoorW26
import Derived.Test.YtbkmoaollooomaaDoorW11
namespace Go.Proofs.YtbkmoaollooomaaDoor
open Go.RowKit
open Go.Tree7
/-- A name that is new comes behind. -/
noncomputable def addS (l : List ByteArray) (s : Step) : List ByteArray := open Classical in if s.k = 5 ∧ s.tx ∉ l then l ++ [s.tx] else l
noncomputable def namesS (S : List Step) : List ByteArray := S.foldl addS []
theorem namesS_snoc (S : List Step) (s : Step) : namesS (S ++ [s]) = addS (namesS S) s := by simp [namesS]
theorem addS_len (l : List ByteArray) (s : Step) : (addS l s).length ≤ l.length + 1 := by unfold addS; split <;> simp
theorem names_fold (S : List Step) : ∀ l : List ByteArray, (S.foldl addS l).length ≤ l.length + S.length := by
  induction S with
  | nil => intro l; simp
  | cons s S ih =>
    intro l
    have h1 := ih (addS l s)
    have h2 := addS_len l s
    simp only [List.foldl_cons, List.length_cons]
    omega
theorem namesS_len (S : List Step) : (namesS S).length ≤ S.length := by
  have := names_fold S []
  simpa [namesS] using this
/-- A row of strings in memory. -/
def SRow (w : World) (p : Option Addr) (l : List ByteArray) : Prop := ∀ i (hi : i < l.length), ∃ g, p = some ⟨g, 0, none⟩ ∧ g < w.heap.size ∧ w.cell? ⟨g, i, none⟩ = some (.string l[i])
theorem SRow.bel {w w' : World} {p : Option Addr} {l : List ByteArray} (h : SRow w p l) (hb : Below w.heap.size w w') : SRow w' p l := fun i hi => by
  obtain ⟨g, h1, h2, h3⟩ := h i hi
  exact ⟨g, h1, Nat.lt_of_lt_of_le h2 hb.size, (hb.cell (p := ⟨g, i, none⟩) h2).trans h3⟩
theorem SRow.of_owns {w : World} {base n : Nat} {v : Value} {l : List ByteArray} (hn : l.length = n) (h : w.ownsRow base 9 1 v n (l.map Value.string)) : ∃ p cap, v = .slice p n cap ∧ SRow w p l := by
  obtain ⟨p, cap, rfl, hcap, hnil, hc⟩ := row_form h
  refine ⟨p, cap, rfl, fun i hi => ?_⟩
  obtain ⟨g, h1, -, h2, h3⟩ := hc (by omega)
  exact ⟨g, h1, h2, by rw [h3 i (by omega)]; simp [hi]⟩
theorem toList_inj {a b : ByteArray} (h : a.toList = b.toList) : a = b := bytes_inj h
set_option maxRecDepth 10000 in
set_option maxHeartbeats 2000000 in
theorem xStrs_in {l : List ByteArray} {p : Option Addr} {n cap : Nat} {s : ByteArray} (w : World) (hn : l.length = n) (hmax : n ≤ 100000) (hrow : SRow w p l) :
    Calls Tryd.prog 49 #[.slice p n cap, .string s] w fun e w' => ∃ r : Int, e = .returned (.int .i64 r) ∧ (0 ≤ r ↔ s ∈ l) ∧ w = w' := by
  have hc := Lib.hid hrow
  have hno : Hid ((∀ j (hj : j < l.length), l[j] ≠ s) → s ∉ l) := Lib.hid fun h hx => by
    obtain ⟨j, hj, e⟩ := List.getElem_of_mem hx
    exact h j hj e
  have hyes : Hid (∀ j (hj : j < l.length), l[j] = s → s ∈ l) := Lib.hid fun j hj e => by rw [← e]; exact List.getElem_mem hj
  clear hrow
  go_enter Tryd.func49, Tryd.ntmps49
  go_wp2
  go_loop [8] (fun i => ∃ k : Nat, k ≤ n ∧ i = .int .i64 k ∧ Hid (∀ j (hj : j < l.length), j < k → l[j] ≠ s)) (fun i => n - (intOf i).toNat)
  case atStart => exact ⟨0, Nat.zero_le _, rfl, Lib.hid fun j hj h => by omega⟩
  case round =>
    obtain ⟨k, hk, rfl, hnn⟩ := hrel
    by_cases hlt : k < n
    · obtain ⟨g, hp, hg, hcell⟩ := hc.out k (by omega)
      subst hp
      obtain ⟨c, hcc⟩ : ∃ c, l[k]'(by omega) = c := ⟨_, rfl⟩
      rw [hcc] at hcell
      by_cases e : c = s
      · have hy := Lib.hid (hyes.out k (by omega) (hcc.trans e))
        subst e
        have hq : (c.toList == c.toList) = true := by simp
        clear hcc
        go_wp2
        go_ret
        exact ⟨(k : Int), rfl, ⟨fun _ => hy.out, fun _ => by omega⟩, rfl⟩
      · have hq : (s.toList == c.toList) = false := by rw [beq_eq_false_iff_ne]; exact fun h => e (toList_inj h).symm
        have hn2 : Hid (∀ j (hj : j < l.length), j < k + 1 → l[j] ≠ s) := Lib.hid fun j hj h => by
          by_cases e2 : j = k
          · subst e2; rw [hcc]; exact e
          · exact hnn.out j hj (by omega)
        clear e hcc
        go_wp2
        go_round
        case rel => exact ⟨k + 1, by omega, by go_num, hn2⟩
        case measure => simp [intOf]; omega
    · have hx := Lib.hid (hno.out fun j hj => hnn.out j hj (by omega))
      go_wp2
      go_ret
      exact ⟨-1, rfl, ⟨fun h => by omega, fun h => absurd h hx.out⟩, rfl⟩
set_option maxHeartbeats 1000000 in
theorem cStrs_in {l : List ByteArray} {p : Option Addr} {n cap : Nat} {s : ByteArray} (w : World) (hn : l.length = n) (hmax : n ≤ 100000) (hrow : SRow w p l) {q : Bool} (hq' : q = true ↔ s ∈ l) :
    Calls Tryd.prog 34 #[.slice p n cap, .string s] w fun e w' => e = .returned (.bool q) ∧ w = w' := by
  have C := Lib.hid (xStrs_in (cap := cap) (s := s) w hn hmax hrow)
  replace hq' := Lib.hid hq'
  clear hrow
  go_enter Tryd.func34, Tryd.ntmps34
  go_wp2_with (go_at_call 49; (with_reducible refine C.out.mono ?_); rintro e w1 ⟨r, rfl, hr, rfl⟩; replace hr := Lib.hid hr)
  go_ret
  refine ⟨ret_bool ?_, rfl⟩
  have := hr.out.trans hq'.out.symm
  cases q <;> simp_all
set_option maxRecDepth 10000 in
set_option maxHeartbeats 2000000 in
theorem sameTexts_in {l : List ByteArray} {p p2 : Option Addr} {n cap cap2 : Nat} (w : World) (hn : l.length = n) (hmax : n ≤ 100000) (h1 : SRow w p l) (h2 : SRow w p2 l) :
    Calls Tryd.prog 17 #[.slice p n cap, .slice p2 n cap2] w fun e w' => e = .returned (.bool true) ∧ Below w.heap.size w w' := by
  replace h1 := Lib.hid h1
  replace h2 := Lib.hid h2
  go_enter Tryd.func17, Tryd.ntmps17
  go_wp2
  go_loopw [13] (fun i wr => ∃ k : Nat, k ≤ n ∧ i = .int .i64 k ∧ Hid (Below w.heap.size w wr)) (fun i _ => n - (intOf i).toNat)
  case atStart => exact ⟨0, Nat.zero_le _, rfl, Lib.hid (Below.refl _ _)⟩
  case round =>
    obtain ⟨k, hk, rfl, hB⟩ := hrel
    by_cases hlt : k < n
    · obtain ⟨g, hp, hg, hcell⟩ := h1.out k (by omega)
      obtain ⟨g2, hp2, hg2, hcell2⟩ := h2.out k (by omega)
      subst hp hp2
      obtain ⟨c, hcc⟩ : ∃ c, l[k]'(by omega) = c := ⟨_, rfl⟩
      rw [hcc] at hcell hcell2
      have x1 := (hB.out.cell (p := ⟨g, k, none⟩) hg).trans hcell
      have x2 := (hB.out.cell (p := ⟨g2, k, none⟩) hg2).trans hcell2
      have hq : (c.toList == c.toList) = true := by simp
      clear hcc hcell hcell2
      go_wp2
      go_quiet (fail)
      go_wp2
      go_roundw
      case rel => exact ⟨k + 1, by omega, by go_num, Lib.hid (hB.out.trans ((below_drewN (Below.refl wr.heap.size wr) _).mono hB.out.size))⟩
      case measure => simp [intOf]; omega
    · go_wp2
      go_ret
      exact ⟨rfl, hB.out⟩
end Go.Proofs.YtbkmoaollooomaaDoor
