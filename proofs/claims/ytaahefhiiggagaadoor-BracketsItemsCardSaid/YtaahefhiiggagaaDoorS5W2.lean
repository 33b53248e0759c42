/- How a byte is written: the program's written, Plain, Inner, Special. -/
import Derived.Test.YtaahefhiiggagaaDoorS5W1
namespace Go.Proofs.YtaahefhiiggagaaDoor.S5
open Go.RowKit
abbrev blanksB : ByteArray := ⟨#[10, 9, 13, 32]⟩
abbrev lettersB : ByteArray := ⟨#[110, 116, 114, 115]⟩
abbrev outB : ByteArray := ⟨#[124, 42, 43, 63, 40, 41, 91, 93, 123, 125, 46, 92, 47]⟩
abbrev innB : ByteArray := ⟨#[91, 93, 94, 45, 92, 47]⟩
theorem nl_out : nl outB = out := by decide
theorem nl_inn : nl innB = inn := by decide
theorem not_blank {c : Nat} (h1 : c ≠ 10) (h2 : c ≠ 9) (h3 : c ≠ 13) (h4 : c ≠ 32) : c ∉ nl blanksB := by
  have : nl blanksB = [10, 9, 13, 32] := by decide
  rw [this]
  simp
  omega
theorem idx_lit (s : ByteArray) (c : Int) (k : Int) (hc : 0 ≤ c) (hk : ix s c.toNat = k) (w : World) : Calls Tryd.prog 58 #[.string s, .int .u8 c] w fun e w' => e = .returned (.int .i64 k) ∧ w = w' := by
  obtain ⟨n, rfl⟩ : ∃ n : Nat, c = n := ⟨c.toNat, by omega⟩
  exact idx_at s n w k hk
theorem conv_new (l : List Nat) (hs : ∀ x ∈ l, x ≤ 255) (w : World) : (convert 40 9 (.slice (some ⟨w.heap.size, 0, none⟩) l.length l.length)).run Tryd.prog (w.alloc (.cells (row l) 5)) = .ok (.string (strN l)) (w.alloc (.cells (row l) 5)) := (Src.new w l 5 (0, 0) hs).conv
theorem digs_hx : ∀ q : Fin 16, (digsB[q.val]'(by have := q.isLt; exact this)).toNat = hx q.val := by decide
theorem wrap8 (q : Nat) (h : q < 256) : IntKind.u8.wrap (q : Int) = q := by
  unfold IntKind.wrap
  simp [IntKind.bits, IntKind.signed]
  omega
theorem conv_drew (l : List Nat) (hs : ∀ x ∈ l, x ≤ 255) (w : World) : (convert 40 9 (.slice (some ⟨w.heap.size, 0, none⟩) l.length l.length)).run Tryd.prog (w.alloc (.cells (row l) 5)).drew = .ok (.string (strN l)) (w.alloc (.cells (row l) 5)).drew := ((Src.new w l 5 (0, 0) hs).bel (Bel.drew (Bel.refl _))).conv
set_option maxRecDepth 10000 in
theorem written_in {s : ByteArray} {ex : List Nat} {c : Nat} {l : List Nat} (hs : nl s = ex) (hex : ex = out ∨ ex = inn) (h : Sp ex c l) (w : World) :
    Calls Tryd.prog 51 #[.int .u8 c, .string s] w fun e w' => e = .returned (.string (strN l)) ∧ Below w.heap.size w w' := by
  cases h with
  | blank k hk =>
    simp at hk
    rcases hk with ⟨rfl, rfl⟩ | ⟨rfl, rfl⟩ | ⟨rfl, rfl⟩ | ⟨rfl, rfl⟩
    · have c1 := Lib.hid (idx_lit blanksB 10 0 (by decide) (by decide +kernel))
      have e1 : strN [92, 110] = ⟨#[92, 110]⟩ := by decide
      rw [e1]
      clear hs hex e1
      go_enter Tryd.func51, Tryd.ntmps51
      go_wp2_with (go_at_call 58; (with_reducible refine (c1.out _).mono ?_); rintro e w' ⟨rfl, rfl⟩)
      refine bodyPost_ret (v := .string ⟨#[92, 110]⟩) (by simp [results, Tryd.results51, go_sem]; try decide) rfl ?_
      exact ⟨rfl, Below.refl _ _⟩
    · have c1 := Lib.hid (idx_lit blanksB 9 1 (by decide) (by decide +kernel))
      have e1 : strN [92, 116] = ⟨#[92, 116]⟩ := by decide
      rw [e1]
      clear hs hex e1
      go_enter Tryd.func51, Tryd.ntmps51
      go_wp2_with (go_at_call 58; (with_reducible refine (c1.out _).mono ?_); rintro e w' ⟨rfl, rfl⟩)
      refine bodyPost_ret (v := .string ⟨#[92, 116]⟩) (by simp [results, Tryd.results51, go_sem]; try decide) rfl ?_
      exact ⟨rfl, Below.refl _ _⟩
    · have c1 := Lib.hid (idx_lit blanksB 13 2 (by decide) (by decide +kernel))
      have e1 : strN [92, 114] = ⟨#[92, 114]⟩ := by decide
      rw [e1]
      clear hs hex e1
      go_enter Tryd.func51, Tryd.ntmps51
      go_wp2_with (go_at_call 58; (with_reducible refine (c1.out _).mono ?_); rintro e w' ⟨rfl, rfl⟩)
      refine bodyPost_ret (v := .string ⟨#[92, 114]⟩) (by simp [results, Tryd.results51, go_sem]; try decide) rfl ?_
      exact ⟨rfl, Below.refl _ _⟩
    · have c1 := Lib.hid (idx_lit blanksB 32 3 (by decide) (by decide +kernel))
      have e1 : strN [92, 115] = ⟨#[92, 115]⟩ := by decide
      rw [e1]
      clear hs hex e1
      go_enter Tryd.func51, Tryd.ntmps51
      go_wp2_with (go_at_call 58; (with_reducible refine (c1.out _).mono ?_); rintro e w' ⟨rfl, rfl⟩)
      refine bodyPost_ret (v := .string ⟨#[92, 115]⟩) (by simp [results, Tryd.results51, go_sem]; try decide) rfl ?_
      exact ⟨rfl, Below.refl _ _⟩
  | esc h1 h2 h3 =>
    have c1 := Lib.hid (fun w => idx_at blanksB c w _ (ix_no (by omega) (not_blank (by omega) (by omega) (by omega) (by omega))))
    have hy := ix_yes (hs ▸ h1)
    obtain ⟨k, hk⟩ : ∃ k, ix s c = k := ⟨_, rfl⟩
    rw [hk] at hy
    have c2 := Lib.hid (fun w => idx_at s c w _ hk)
    have hcv : ∀ w : World, (convert 40 9 (.slice (some ⟨w.heap.size, 0, none⟩) 2 2)).run Tryd.prog (w.alloc (.cells #[.int .u8 92, .int .u8 c] 5)) = .ok (.string (strN [92, c])) (w.alloc (.cells #[.int .u8 92, .int .u8 c] 5)) := conv_new [92, c] (by simp; omega)
    clear hs hex hk h1
    go_enter Tryd.func51, Tryd.ntmps51
    go_wp2_with (first | (go_at_call 58; (with_reducible refine (c1.out _).mono ?_); rintro e w' ⟨rfl, rfl⟩) | (go_at_call 58; (with_reducible refine (c2.out _).mono ?_); rintro e w' ⟨rfl, rfl⟩))
    go_ret
    exact ⟨rfl, Bel.new _ _⟩
  | self h1 h2 h3 =>
    have c1 := Lib.hid (fun w => idx_at blanksB c w _ (ix_no (by omega) (not_blank (by omega) (by omega) (by omega) (by omega))))
    have c2 := Lib.hid (fun w => idx_at s c w _ (ix_no (by omega) (hs ▸ h1)))
    have hcv : ∀ w : World, (convert 40 9 (.slice (some ⟨w.heap.size, 0, none⟩) 1 1)).run Tryd.prog (w.alloc (.cells #[.int .u8 c] 5)) = .ok (.string (strN [c])) (w.alloc (.cells #[.int .u8 c] 5)) := conv_new [c] (by simp; omega)
    clear hs hex h1
    go_enter Tryd.func51, Tryd.ntmps51
    go_wp2_with (first | (go_at_call 58; (with_reducible refine (c1.out _).mono ?_); rintro e w' ⟨rfl, rfl⟩) | (go_at_call 58; (with_reducible refine (c2.out _).mono ?_); rintro e w' ⟨rfl, rfl⟩))
    go_ret
    exact ⟨rfl, Bel.new _ _⟩
  | hex h1 h2 h3 h4 h5 h6 h7 =>
    have c1 := Lib.hid (fun w => idx_at blanksB c w _ (ix_no h7 (not_blank h2 h3 h4 h5)))
    have c2 := Lib.hid (fun w => idx_at s c w _ (ix_no h7 (hs ▸ h1)))
    have g : decide ((33 : Int) ≤ c) = true ∧ decide ((c : Int) ≤ 126) = false ∨ decide ((33 : Int) ≤ c) = false := by simp; omega
    obtain ⟨q, hq⟩ : ∃ q, c / 16 = q := ⟨_, rfl⟩
    obtain ⟨r, hr⟩ : ∃ r, c % 16 = r := ⟨_, rfl⟩
    have q16 : q < 16 := by omega
    have r16 : r < 16 := by omega
    obtain ⟨a, ha⟩ : ∃ a, hx q = a := ⟨_, rfl⟩
    obtain ⟨b, hb⟩ : ∃ b, hx r = b := ⟨_, rfl⟩
    have hda := digs_hx ⟨q, q16⟩
    have hdb := digs_hx ⟨r, r16⟩
    have has := hx_small q q16
    have hbs := hx_small r r16
    simp only at hda hdb
    rw [ha] at hda has
    rw [hb] at hdb hbs
    have k1 : IntKind.u8.wrap ((c : Int) / 16) = (q : Int) := by rw [show (c : Int) / 16 = (q : Int) by omega]; exact wrap8 q (by omega)
    have k2 : IntKind.u8.wrap ((c : Int) % 16) = (r : Int) := by rw [show (c : Int) % 16 = (r : Int) by omega]; exact wrap8 r (by omega)
    have k3 : (c : Int) % 16 = (r : Int) := by omega
    have k4 : (c : Int) / 16 = (q : Int) := by omega
    rw [hq, hr, ha, hb]
    have hcv : ∀ w : World, (convert 40 9 (.slice (some ⟨w.heap.size, 0, none⟩) 4 4)).run Tryd.prog (w.alloc (.cells #[.int .u8 92, .int .u8 120, .int .u8 a, .int .u8 b] 5)).drew = .ok (.string (strN [92, 120, a, b])) (w.alloc (.cells #[.int .u8 92, .int .u8 120, .int .u8 a, .int .u8 b] 5)).drew := conv_drew [92, 120, a, b] (by simp; omega)
    clear hs hex h1 h2 h3 h4 h5 h6 hq hr ha hb has hbs
    rcases g with ⟨g1, g2⟩ | g
    all_goals
      go_enter Tryd.func51, Tryd.ntmps51
      go_wp2_with (first | (go_at_call 58; (with_reducible refine (c1.out _).mono ?_); rintro e w' ⟨rfl, rfl⟩) | (go_at_call 58; (with_reducible refine (c2.out _).mono ?_); rintro e w' ⟨rfl, rfl⟩))
      go_region
      all_goals
        go_wp2
        go_ret
        exact ⟨rfl, Below.drew (Bel.new _ _)⟩
theorem inner_in {c : Nat} {l : List Nat} (h : Sp inn c l) (w : World) : Calls Tryd.prog 39 #[.int .u8 c] w fun e w' => e = .returned (.string (strN l)) ∧ Below w.heap.size w w' := by
  have C := Lib.hid (fun w => written_in nl_inn (.inr rfl) h w)
  clear h
  go_enter Tryd.func39, Tryd.ntmps39
  go_wp2_with (go_at_call 51; (with_reducible refine (C.out _).mono ?_); rintro e w' ⟨rfl, hb⟩)
  go_ret
  exact ⟨rfl, hb⟩
end Go.Proofs.YtaahefhiiggagaaDoor.S5
