/- The reference's Text: kind 2. -/
import Derived.Test.YtbkmoaollooomaaDoorW28
import Derived.Test.YtbkmoaollooomaaDoorW17
namespace Go.Proofs.YtbkmoaollooomaaDoor
open Go.RowKit
open Go.Tree7
open S5 (nl nl_length nl_small at_nl nl_at nl_strN nl_inj)
/-- What the reference's Text is asked of the kids. -/
def RTextOf (w0 : World) (B0 : Nat) (t : T) : Prop := ∀ w', Below B0 w0 w' → Calls Tryd.prog 12 #[.agg t.cells.toArray] w' fun e w'' => e = .returned (.string (strN (T.txt t))) ∧ Below w'.heap.size w' w''
theorem lit124 : strN [124] = ⟨#[124]⟩ := by decide +kernel
theorem strN_nil : strN [] = ⟨#[]⟩ := rfl
theorem app_emp (x : ByteArray) : x ++ (⟨#[]⟩ : ByteArray) = x := by apply ByteArray.ext; simp
theorem emp_app (x : ByteArray) : (⟨#[]⟩ : ByteArray) ++ x = x := by apply ByteArray.ext; simp
set_option maxRecDepth 100000 in
set_option maxHeartbeats 4000000 in
theorem rtext_k2 {w0 : World} {B0 : Nat} (hn0 : B0 ≤ w0.heap.size) {u0 u1 u2 u3 : Int} {p : Option Addr} {cap : Nat} {mn mx : Int} {tx : ByteArray} {ks : List T} (hT : T.In w0 B0 (.mk 2 u0 u1 u2 u3 p cap mn mx tx ks))
    (hk : ∀ t ∈ ks, T.All (fun t => T.ok t = true) t) (ih : ∀ t ∈ ks, RTextOf w0 B0 t) (hsz : 1 + (ks.map T.size).sum ≤ 600) (hne : ks.length ≠ 0) : RTextOf w0 B0 (.mk 2 u0 u1 u2 u3 p cap mn mx tx ks) := by
  unfold RTextOf
  intro w hB0
  have hks : ks.length ≤ 9223372036854775807 := by cases hT with | mk h1 h2 => unfold maxLen at h2; omega
  have hl : ∀ t ∈ ks, (T.txt t).length + 3 ≤ 2413 * t.size := fun t ht => txt_len (hk t ht)
  have hlen' : (its [2, 3] ks).length = ks.length := by simp [its]
  have hall : (joinS [] (its [2, 3] ks)).length ≤ 2000000 := by
    have := its_sum (cl := [2, 3]) (sep := []) (by simp) hl
    omega
  have hget : ∀ j (hj : j < ks.length), (its [2, 3] ks)[j]'(by omega) = itm [2, 3] (T.k ks[j]) (T.txt ks[j]) := fun j hj => by simp [its]
  obtain ⟨J, hJ⟩ : ∃ J : Nat → List Nat, ∀ j, J j = joinS [] ((its [2, 3] ks).take j) := ⟨_, fun _ => rfl⟩
  have hJ0 : strN (J 0) = ⟨#[]⟩ := by rw [hJ]; rfl
  have hJs : ∀ j (hj : j < ks.length), J (j + 1) = J j ++ (if j = 0 then [] else []) ++ itm [2, 3] (T.k ks[j]) (T.txt ks[j]) := fun j hj => by
    rw [hJ, hJ, joinS_take (by omega), hget j hj]
  have hJl : ∀ j, (J j).length ≤ 2000000 := fun j => by rw [hJ]; exact Nat.le_trans (joinS_mono j) hall
  have hJe : J ks.length = joinS [] (its [2, 3] ks) := by rw [hJ, List.take_of_length_le (by omega)]
  have hlen : ∀ t ∈ ks, (T.txt t).length ≤ 2000000 := fun t ht => by
    have h1 := hl t ht
    have h2 := size_kid ht
    omega
  have hres : Hid (strN (T.txt (.mk 2 u0 u1 u2 u3 p cap mn mx tx ks)) = strN (J ks.length)) := Lib.hid (by rw [txt_mk, if_neg (by decide), if_pos rfl, if_neg hne, hJe])
  rw [hres.out]
  have hBn : B0 ≤ w.heap.size := Nat.le_trans hn0 hB0.size
  have hT' := Lib.hid hT
  have hB0' := Lib.hid hB0
  replace hJ0 := Lib.hid hJ0
  replace hJs := Lib.hid hJs
  replace hJl := Lib.hid hJl
  replace hlen := Lib.hid hlen
  replace ih := Lib.hid ih
  have hbox := Lib.hid (World.alloc_heap_new w (.cells #[.int .i64 2, .int .u64 u0, .int .u64 u1, .int .u64 u2, .int .u64 u3, .slice p ks.length cap, .int .i64 mn, .int .i64 mx, .string tx] 32))
  have hB1 := Lib.hid ((Below.refl w.heap.size w).alloc (Nat.le_refl _) (.cells #[.int .i64 2, .int .u64 u0, .int .u64 u1, .int .u64 u2, .int .u64 u3, .slice p ks.length cap, .int .i64 mn, .int .i64 mx, .string tx] 32))
  have hz0' : ((ks.length : Int) == 0) = false := by rw [beq_eq_false_iff_ne]; omega
  clear hT hB0 hl hlen' hall hget hJ hJe hk hsz
  simp only [T.cells]
  go_enter Tryd.func12, Tryd.ntmps12
  go_wp2
  have hlt1 : w.heap.size < (w.alloc (.cells #[.int .i64 2, .int .u64 u0, .int .u64 u1, .int .u64 u2, .int .u64 u3, .slice p ks.length cap, .int .i64 mn, .int .i64 mx, .string tx] 32)).heap.size := by simp
  generalize hW1 : w.alloc (.cells #[.int .i64 2, .int .u64 u0, .int .u64 u1, .int .u64 u2, .int .u64 u3, .slice p ks.length cap, .int .i64 mn, .int .i64 mx, .string tx] 32) = W1 at *
  replace hW1 := Lib.hid hW1
  go_loopw [4, 52] (fun v4 i wr => ∃ j : Nat, j ≤ ks.length ∧ v4 = .string (strN (J j)) ∧ i = .int .i64 j ∧ Hid (Below W1.heap.size W1 wr)) (fun _ i _ => ks.length - (intOf i).toNat)
  case atStart => exact ⟨0, Nat.zero_le _, by rw [hJ0.out], rfl, Lib.hid (Below.refl _ _)⟩
  case round =>
    obtain ⟨j, hj, rfl, rfl, hB⟩ := hrel
    have hwr := hB.out.size
    have hltr : w.heap.size < wr.heap.size := by omega
    have sJ : (strN (J j)).size ≤ 2000000 := by rw [strN_size]; exact hJl.out j
    have hk := cells_of ((hB.out.block _ hlt1).trans hbox.out)
    have z0 := (hk 0 _ rfl).1
    have z6 := (hk 6 _ rfl).1
    have z7 := (hk 7 _ rfl).1
    clear hk
    by_cases hlt : j < ks.length
    · obtain ⟨b, o, hkid, hp, hb', hc⟩ := T.kid hT'.out hlt
      have hww : Below w.heap.size w wr := hB1.out.trans (hB.out.mono (by omega))
      have hwB : Below B0 w0 wr := hB0'.out.trans (hww.mono hBn)
      have hcl : ∀ q, q < 9 → wr.cell? ⟨b, o + j * 9 + q, none⟩ = (ks[j].cells)[q]? := fun q hq => by
        rw [← hc q hq]
        exact hwB.cell (p := ⟨b, o + j * 9 + q, none⟩) hb'
      have hnext := hJs.out j hlt
      have hi := ih.out _ (List.getElem_mem hlt)
      unfold RTextOf at hi
      have hl1 := hlen.out _ (List.getElem_mem hlt)
      clear hkid hc
      generalize ks[j] = kd at *
      generalize T.txt kd = F at *
      have sF : (strN F).size ≤ 2000000 := by rw [strN_size]; exact hl1
      have textAt : Hid (∀ X, Below W1.heap.size W1 X → Calls Tryd.prog 12 #[.agg kd.cells.toArray] X fun e w'' => e = .returned (.string (strN F)) ∧ Below X.heap.size X w'') := Lib.hid fun X hX => hi X (hB0'.out.trans ((hB1.out.trans (hX.mono (by omega))).mono hBn))
      clear hi hwB hl1 hww
      obtain ⟨S0, hS0⟩ : ∃ S0, strN (J j) = S0 := ⟨_, rfl⟩
      obtain ⟨SF, hSF⟩ : ∃ SF, strN F = SF := ⟨_, rfl⟩
      rw [hS0] at sJ ⊢
      rw [hSF] at sF textAt
      replace hS0 := Lib.hid hS0
      replace hSF := Lib.hid hSF
      cases kd with
      | mk k' u0' u1' u2' u3' p' cap' mn' mx' tx' ks' =>
        simp only [T.cells, T.k] at *
        obtain ⟨c0, c1, c2, c3, c4, c5, c6, c7, c8⟩ := nine_of hcl
        subst hp
        clear hcl
        have hBk := Lib.hid (hB.out.alloc hwr (.cells #[.int .i64 k', .int .u64 u0', .int .u64 u1', .int .u64 u2', .int .u64 u3', .slice p' ks'.length cap', .int .i64 mn', .int .i64 mx', .string tx'] 32))
        replace hnext := Lib.hid hnext
        by_cases q3 : k' = 3
        · subst q3
          by_cases hj0 : j = 0
          · have hjp : decide (0 < j) = false := by simp; omega
            have hval : Hid (strN (J (j + 1)) = S0 ++ ((⟨#[40]⟩ ++ (SF ++ ⟨#[41]⟩)))) := Lib.hid (by
              rw [hnext.out]
              unfold itm
              rw [if_pos hj0, if_pos (by decide)]
              simp only [S6.strN_app, ← hS0.out, ← hSF.out, lit40, lit41, ByteArray.append_assoc, strN_nil, app_emp])
            clear hnext
            clear hj0
            go_wp2_with (go_at_call 12; (with_reducible refine (textAt.out _ hBk.out).mono ?_); rintro e w2 ⟨rfl, hb2⟩; have hk := cells_of (kept_row (World.alloc_heap_new wr _) hb2); have x0 := (hk 0 _ rfl).1; clear hk; have hB2 := Lib.hid (hBk.out.trans (hb2.mono hBk.out.size)); have hk := cells_of ((hB2.out.block _ hlt1).trans hbox.out); have z0 := (hk 0 _ rfl).1; clear hk hb2)
            go_roundw
            case rel => exact ⟨j + 1, by omega, congrArg Value.string (by rw [hval.out]; first | done | rfl | simp only [ByteArray.append_assoc]), by go_num, hB2⟩
            case measure => simp [intOf]; omega
          · have hjp : decide (0 < j) = true := by simp; omega
            have hval : Hid (strN (J (j + 1)) = S0 ++ ((⟨#[40]⟩ ++ (SF ++ ⟨#[41]⟩)))) := Lib.hid (by
              rw [hnext.out]
              unfold itm
              rw [if_neg hj0, if_pos (by decide)]
              simp only [S6.strN_app, ← hS0.out, ← hSF.out, lit40, lit41, ByteArray.append_assoc, strN_nil, app_emp])
            clear hnext
            clear hj0
            go_wp2_with (go_at_call 12; (with_reducible refine (textAt.out _ hBk.out).mono ?_); rintro e w2 ⟨rfl, hb2⟩; have hk := cells_of (kept_row (World.alloc_heap_new wr _) hb2); have x0 := (hk 0 _ rfl).1; clear hk; have hB2 := Lib.hid (hBk.out.trans (hb2.mono hBk.out.size)); have hk := cells_of ((hB2.out.block _ hlt1).trans hbox.out); have z0 := (hk 0 _ rfl).1; clear hk hb2)
            go_roundw
            case rel => exact ⟨j + 1, by omega, congrArg Value.string (by rw [hval.out]; first | done | rfl | simp only [ByteArray.append_assoc]), by go_num, hB2⟩
            case measure => simp [intOf]; omega
        by_cases q2 : k' = 2
        · subst q2
          clear q3
          by_cases hj0 : j = 0
          · have hjp : decide (0 < j) = false := by simp; omega
            have hval : Hid (strN (J (j + 1)) = S0 ++ ((⟨#[40]⟩ ++ (SF ++ ⟨#[41]⟩)))) := Lib.hid (by
              rw [hnext.out]
              unfold itm
              rw [if_pos hj0, if_pos (by decide)]
              simp only [S6.strN_app, ← hS0.out, ← hSF.out, lit40, lit41, ByteArray.append_assoc, strN_nil, app_emp])
            clear hnext
            clear hj0
            go_wp2_with (go_at_call 12; (with_reducible refine (textAt.out _ hBk.out).mono ?_); rintro e w2 ⟨rfl, hb2⟩; have hk := cells_of (kept_row (World.alloc_heap_new wr _) hb2); have x0 := (hk 0 _ rfl).1; clear hk; have hB2 := Lib.hid (hBk.out.trans (hb2.mono hBk.out.size)); have hk := cells_of ((hB2.out.block _ hlt1).trans hbox.out); have z0 := (hk 0 _ rfl).1; clear hk hb2)
            go_roundw
            case rel => exact ⟨j + 1, by omega, congrArg Value.string (by rw [hval.out]; first | done | rfl | simp only [ByteArray.append_assoc]), by go_num, hB2⟩
            case measure => simp [intOf]; omega
          · have hjp : decide (0 < j) = true := by simp; omega
            have hval : Hid (strN (J (j + 1)) = S0 ++ ((⟨#[40]⟩ ++ (SF ++ ⟨#[41]⟩)))) := Lib.hid (by
              rw [hnext.out]
              unfold itm
              rw [if_neg hj0, if_pos (by decide)]
              simp only [S6.strN_app, ← hS0.out, ← hSF.out, lit40, lit41, ByteArray.append_assoc, strN_nil, app_emp])
            clear hnext
            clear hj0
            go_wp2_with (go_at_call 12; (with_reducible refine (textAt.out _ hBk.out).mono ?_); rintro e w2 ⟨rfl, hb2⟩; have hk := cells_of (kept_row (World.alloc_heap_new wr _) hb2); have x0 := (hk 0 _ rfl).1; clear hk; have hB2 := Lib.hid (hBk.out.trans (hb2.mono hBk.out.size)); have hk := cells_of ((hB2.out.block _ hlt1).trans hbox.out); have z0 := (hk 0 _ rfl).1; clear hk hb2)
            go_roundw
            case rel => exact ⟨j + 1, by omega, congrArg Value.string (by rw [hval.out]; first | done | rfl | simp only [ByteArray.append_assoc]), by go_num, hB2⟩
            case measure => simp [intOf]; omega
        by_cases q4 : k' = 4
        · subst q4
          clear q3
          clear q2
          by_cases hj0 : j = 0
          · have hjp : decide (0 < j) = false := by simp; omega
            have hval : Hid (strN (J (j + 1)) = S0 ++ (SF)) := Lib.hid (by
              rw [hnext.out]
              unfold itm
              rw [if_pos hj0, if_neg (by decide)]
              simp only [S6.strN_app, ← hS0.out, ← hSF.out, strN_nil, app_emp])
            clear hnext
            clear hj0
            go_wp2_with (go_at_call 12; (with_reducible refine (textAt.out _ hBk.out).mono ?_); rintro e w2 ⟨rfl, hb2⟩; have hk := cells_of (kept_row (World.alloc_heap_new wr _) hb2); have x0 := (hk 0 _ rfl).1; clear hk; have hB2 := Lib.hid (hBk.out.trans (hb2.mono hBk.out.size)); have hk := cells_of ((hB2.out.block _ hlt1).trans hbox.out); have z0 := (hk 0 _ rfl).1; clear hk hb2)
            go_roundw
            case rel => exact ⟨j + 1, by omega, congrArg Value.string (by rw [hval.out]; first | done | rfl | simp only [ByteArray.append_assoc]), by go_num, hB2⟩
            case measure => simp [intOf]; omega
          · have hjp : decide (0 < j) = true := by simp; omega
            have hval : Hid (strN (J (j + 1)) = S0 ++ (SF)) := Lib.hid (by
              rw [hnext.out]
              unfold itm
              rw [if_neg hj0, if_neg (by decide)]
              simp only [S6.strN_app, ← hS0.out, ← hSF.out, strN_nil, app_emp])
            clear hnext
            clear hj0
            go_wp2_with (go_at_call 12; (with_reducible refine (textAt.out _ hBk.out).mono ?_); rintro e w2 ⟨rfl, hb2⟩; have hk := cells_of (kept_row (World.alloc_heap_new wr _) hb2); have x0 := (hk 0 _ rfl).1; clear hk; have hB2 := Lib.hid (hBk.out.trans (hb2.mono hBk.out.size)); have hk := cells_of ((hB2.out.block _ hlt1).trans hbox.out); have z0 := (hk 0 _ rfl).1; clear hk hb2)
            go_roundw
            case rel => exact ⟨j + 1, by omega, congrArg Value.string (by rw [hval.out]; first | done | rfl | simp only [ByteArray.append_assoc]), by go_num, hB2⟩
            case measure => simp [intOf]; omega
        have d3 : (k' == (3 : Int)) = false := by simp; omega
        have d2 : (k' == (2 : Int)) = false := by simp; omega
        have d4 : (k' == (4 : Int)) = false := by simp; omega
        by_cases hj0 : j = 0
        · have hjp : decide (0 < j) = false := by simp; omega
          have hval : Hid (strN (J (j + 1)) = S0 ++ (SF)) := Lib.hid (by
            rw [hnext.out]
            unfold itm
            rw [if_pos hj0, if_neg (by simp; omega)]
            simp only [S6.strN_app, ← hS0.out, ← hSF.out, strN_nil, app_emp])
          clear hnext
          clear hj0
          go_wp2_with (go_at_call 12; (with_reducible refine (textAt.out _ hBk.out).mono ?_); rintro e w2 ⟨rfl, hb2⟩; have hk := cells_of (kept_row (World.alloc_heap_new wr _) hb2); have x0 := (hk 0 _ rfl).1; clear hk; have hB2 := Lib.hid (hBk.out.trans (hb2.mono hBk.out.size)); have hk := cells_of ((hB2.out.block _ hlt1).trans hbox.out); have z0 := (hk 0 _ rfl).1; clear hk hb2)
          go_roundw
          case rel => exact ⟨j + 1, by omega, congrArg Value.string (by rw [hval.out]; first | done | rfl | simp only [ByteArray.append_assoc]), by go_num, hB2⟩
          case measure => simp [intOf]; omega
        · have hjp : decide (0 < j) = true := by simp; omega
          have hval : Hid (strN (J (j + 1)) = S0 ++ (SF)) := Lib.hid (by
            rw [hnext.out]
            unfold itm
            rw [if_neg hj0, if_neg (by simp; omega)]
            simp only [S6.strN_app, ← hS0.out, ← hSF.out, strN_nil, app_emp])
          clear hnext
          clear hj0
          go_wp2_with (go_at_call 12; (with_reducible refine (textAt.out _ hBk.out).mono ?_); rintro e w2 ⟨rfl, hb2⟩; have hk := cells_of (kept_row (World.alloc_heap_new wr _) hb2); have x0 := (hk 0 _ rfl).1; clear hk; have hB2 := Lib.hid (hBk.out.trans (hb2.mono hBk.out.size)); have hk := cells_of ((hB2.out.block _ hlt1).trans hbox.out); have z0 := (hk 0 _ rfl).1; clear hk hb2)
          go_roundw
          case rel => exact ⟨j + 1, by omega, congrArg Value.string (by rw [hval.out]; first | done | rfl | simp only [ByteArray.append_assoc]), by go_num, hB2⟩
          case measure => simp [intOf]; omega

    · obtain rfl : j = ks.length := by omega
      obtain ⟨S0, hS0⟩ : ∃ S0, strN (J ks.length) = S0 := ⟨_, rfl⟩
      rw [hS0] at sJ ⊢
      replace hS0 := Lib.hid hS0
      clear hres
      go_wp2
      go_ret
      exact ⟨by rw [hS0.out]; rfl, hB1.out.trans (hB.out.mono (by omega))⟩
end Go.Proofs.YtbkmoaollooomaaDoor
