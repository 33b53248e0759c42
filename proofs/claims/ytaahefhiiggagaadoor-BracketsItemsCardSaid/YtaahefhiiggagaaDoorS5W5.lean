/- How it is read: the program's escaped, Read. -/
import Derived.Test.YtaahefhiiggagaaDoorS5W4
namespace Go.Proofs.YtaahefhiiggagaaDoor.S5
open Go.RowKit
theorem not_letter {c : Nat} (h1 : c ≠ 110) (h2 : c ≠ 116) (h3 : c ≠ 114) (h4 : c ≠ 115) : c ∉ nl lettersB := by
  have : nl lettersB = [110, 116, 114, 115] := by decide
  rw [this]
  simp
  omega
/-- What a call gives back that leaves all that lay. -/
def Gives (f : FuncId) (args : Array Value) (v : Value) (w : World) : Prop := Calls Tryd.prog f args w fun e w' => e = .returned v ∧ Below w.heap.size w w'
theorem esc_0 {s : ByteArray} {k : Nat} (hk : k = s.size) (hm : s.size ≤ 100000) {E2 E4 : Value} (w : World) (hT : Two w E2 E4) :
    Gives 61 #[.string s, .int .i64 k] (.tuple #[.int .u8 0, .int .i64 k, .iface 105 E2]) w := by
  have h1 := hT.short
  clear hT
  have g1 : ((k : Int) == (s.size : Int)) = true := by simp; omega
  have hkb : k ≤ 100000 := by omega
  clear hk
  unfold Gives
  go_enter Tryd.func61, Tryd.ntmps61
  go_wp2
  go_quiet (fail)
  go_wp2
  refine bodyPost_ret (v := .tuple #[.int .u8 0, .int .i64 k, .iface 105 E2]) (by simp [results, Tryd.results61, go_sem]) rfl ?_
  exact ⟨rfl, below_drewN (Below.refl _ _) _⟩
theorem esc_blank {s : ByteArray} {k c d : Nat} (hk : (nl s)[k]? = some c) (hd : [(10, 110), (9, 116), (13, 114), (32, 115)].contains (d, c) = true) (hm : s.size ≤ 100000) (w : World) :
    Gives 61 #[.string s, .int .i64 k] (.tuple #[.int .u8 d, .int .i64 (k + 1), .nilIface]) w := by
  obtain ⟨hlt, hat⟩ := at_nl hk
  clear hk
  have g1 : ((k : Int) == (s.size : Int)) = false := by simp; omega
  have hkb : k ≤ 100000 := by omega
  simp at hd
  unfold Gives
  rcases hd with ⟨rfl, rfl⟩ | ⟨rfl, rfl⟩ | ⟨rfl, rfl⟩ | ⟨rfl, rfl⟩
  · have c1 := Lib.hid (idx_lit lettersB 110 0 (by decide) (by decide +kernel))
    clear hm
    go_enter Tryd.func61, Tryd.ntmps61
    go_wp2_with (go_at_call 58; (with_reducible refine (c1.out _).mono ?_); rintro e w' ⟨rfl, rfl⟩)
    refine bodyPost_ret (v := .tuple #[.int .u8 10, .int .i64 (k + 1), .nilIface]) (by simp [results, Tryd.results61, go_sem]; try decide) rfl ?_
    exact ⟨rfl, Below.refl _ _⟩
  · have c1 := Lib.hid (idx_lit lettersB 116 1 (by decide) (by decide +kernel))
    clear hm
    go_enter Tryd.func61, Tryd.ntmps61
    go_wp2_with (go_at_call 58; (with_reducible refine (c1.out _).mono ?_); rintro e w' ⟨rfl, rfl⟩)
    refine bodyPost_ret (v := .tuple #[.int .u8 9, .int .i64 (k + 1), .nilIface]) (by simp [results, Tryd.results61, go_sem]; try decide) rfl ?_
    exact ⟨rfl, Below.refl _ _⟩
  · have c1 := Lib.hid (idx_lit lettersB 114 2 (by decide) (by decide +kernel))
    clear hm
    go_enter Tryd.func61, Tryd.ntmps61
    go_wp2_with (go_at_call 58; (with_reducible refine (c1.out _).mono ?_); rintro e w' ⟨rfl, rfl⟩)
    refine bodyPost_ret (v := .tuple #[.int .u8 13, .int .i64 (k + 1), .nilIface]) (by simp [results, Tryd.results61, go_sem]; try decide) rfl ?_
    exact ⟨rfl, Below.refl _ _⟩
  · have c1 := Lib.hid (idx_lit lettersB 115 3 (by decide) (by decide +kernel))
    clear hm
    go_enter Tryd.func61, Tryd.ntmps61
    go_wp2_with (go_at_call 58; (with_reducible refine (c1.out _).mono ?_); rintro e w' ⟨rfl, rfl⟩)
    refine bodyPost_ret (v := .tuple #[.int .u8 32, .int .i64 (k + 1), .nilIface]) (by simp [results, Tryd.results61, go_sem]; try decide) rfl ?_
    exact ⟨rfl, Below.refl _ _⟩
theorem esc_x {s : ByteArray} {k : Nat} (hk : (nl s)[k]? = some 120) (hm : s.size ≤ 100000) {x y z : Value} (w : World) (hC : ∀ w', Bel w w' → Gives 63 #[.string s, .int .i64 (k + 1)] (.tuple #[x, y, z]) w') :
    Gives 61 #[.string s, .int .i64 k] (.tuple #[x, y, z]) w := by
  obtain ⟨hlt, hat⟩ := at_nl hk
  clear hk
  have g1 : ((k : Int) == (s.size : Int)) = false := by simp; omega
  have hkb : k ≤ 100000 := by omega
  have c1 := Lib.hid (idx_lit lettersB 120 (-1) (by decide) (by decide +kernel))
  unfold Gives at hC ⊢
  have C := Lib.hid (hC w (Bel.refl w))
  clear hC hm
  go_enter Tryd.func61, Tryd.ntmps61
  go_wp2_with (first | (go_at_call 58; (with_reducible refine (c1.out _).mono ?_); rintro e w' ⟨rfl, rfl⟩) | (go_at_call 63; (with_reducible refine C.out.mono ?_); rintro e w' ⟨rfl, hb⟩))
  refine bodyPost_ret (v := .tuple #[x, y, z]) (by simp [results, Tryd.results61, go_sem]) rfl ?_
  exact ⟨rfl, hb⟩
theorem esc_sign {s : ByteArray} {k c : Nat} (hk : (nl s)[k]? = some c) (hc : Sign c) (hm : s.size ≤ 100000) (w : World) :
    Gives 61 #[.string s, .int .i64 k] (.tuple #[.int .u8 c, .int .i64 (k + 1), .nilIface]) w := by
  obtain ⟨hlt, hat⟩ := at_nl hk
  have hcs : c ≤ 255 := nl_small s c (List.mem_of_getElem? hk)
  clear hk
  have g1 : ((k : Int) == (s.size : Int)) = false := by simp; omega
  have hkb : k ≤ 100000 := by omega
  have hx : ((c : Int) == 120) = false := by unfold Sign at hc; simp; omega
  have c1 := Lib.hid (fun w => idx_at lettersB c w (-1) (ix_no hcs (by unfold Sign at hc; apply not_letter <;> omega)))
  have C := Lib.hid (fun w => sign_yes hc w)
  clear hm hc
  unfold Gives
  go_enter Tryd.func61, Tryd.ntmps61
  go_wp2_with (first | (go_at_call 58; (with_reducible refine (c1.out _).mono ?_); rintro e w' ⟨rfl, rfl⟩) | (go_at_call 64; (with_reducible refine (C.out _).mono ?_); rintro e w' ⟨rfl, rfl⟩))
  refine bodyPost_ret (v := .tuple #[.int .u8 c, .int .i64 (k + 1), .nilIface]) (by simp [results, Tryd.results61, go_sem]) rfl ?_
  exact ⟨rfl, Below.refl _ _⟩
theorem esc_bad {s : ByteArray} {k c : Nat} (hk : (nl s)[k]? = some c) (hc : ¬ Sign c) (h1 : c ≠ 110) (h2 : c ≠ 116) (h3 : c ≠ 114) (h4 : c ≠ 115) (h5 : c ≠ 120) (hm : s.size ≤ 100000) {E2 E4 : Value} (w : World) (hT : Two w E2 E4) :
    Gives 61 #[.string s, .int .i64 k] (.tuple #[.int .u8 0, .int .i64 k, .iface 105 E4]) w := by
  obtain ⟨hlt, hat⟩ := at_nl hk
  have hcs : c ≤ 255 := nl_small s c (List.mem_of_getElem? hk)
  have hf := hT.form
  clear hk hT
  have g1 : ((k : Int) == (s.size : Int)) = false := by simp; omega
  have hkb : k ≤ 100000 := by omega
  have hx : ((c : Int) == 120) = false := by simp; omega
  have c1 := Lib.hid (fun w => idx_at lettersB c w (-1) (ix_no hcs (not_letter h1 h2 h3 h4)))
  have C := Lib.hid (fun w => sign_no hc w)
  clear hm hc h1 h2 h3 h4 h5
  unfold Gives
  go_enter Tryd.func61, Tryd.ntmps61
  go_wp2_with (first | (go_at_call 58; (with_reducible refine (c1.out _).mono ?_); rintro e w' ⟨rfl, rfl⟩) | (go_at_call 64; (with_reducible refine (C.out _).mono ?_); rintro e w' ⟨rfl, rfl⟩))
  go_quiet (fail)
  go_wp2
  refine bodyPost_ret (v := .tuple #[.int .u8 0, .int .i64 k, .iface 105 E4]) (by simp [results, Tryd.results61, go_sem]) rfl ?_
  exact ⟨rfl, below_drewN (Below.refl _ _) _⟩
/-! ### Read -/
theorem read_out {s : ByteArray} {i : Int} (hi : i < 0 ∨ (s.size : Int) ≤ i) (hm : s.size ≤ 100000) {E2 E4 : Value} (w : World) (hT : Two w E2 E4) :
    Gives 59 #[.string s, .int .i64 i] (.tuple #[.int .u8 0, .int .i64 s.size, .iface 105 E2]) w := by
  have h1 := hT.short
  clear hT
  unfold Gives
  rcases hi with hi | hi
  all_goals
    have g1 : decide ((s.size : Int) ≤ i) = true ∨ decide (i < 0) = true := by simp; omega
    go_enter Tryd.func59, Tryd.ntmps59
    go_wp2
    all_goals
      go_quiet (fail)
      go_wp2
      refine bodyPost_ret (v := .tuple #[.int .u8 0, .int .i64 s.size, .iface 105 E2]) (by simp [results, Tryd.results59, go_sem]) rfl ?_
      exact ⟨rfl, below_drewN (Below.refl _ _) _⟩
theorem read_plain {s : ByteArray} {k c : Nat} (hk : (nl s)[k]? = some c) (hc : c ≠ 92) (hm : s.size ≤ 100000) (w : World) :
    Gives 59 #[.string s, .int .i64 k] (.tuple #[.int .u8 c, .int .i64 (k + 1), .nilIface]) w := by
  obtain ⟨hlt, hat⟩ := at_nl hk
  clear hk
  have hkb : k ≤ 100000 := by omega
  have hx : ((c : Int) == 92) = false := by simp; omega
  have hx2 : ((c : Int) != 92) = true := by simp; omega
  clear hc hm
  unfold Gives
  go_enter Tryd.func59, Tryd.ntmps59
  go_wp2
  refine bodyPost_ret (v := .tuple #[.int .u8 c, .int .i64 (k + 1), .nilIface]) (by simp [results, Tryd.results59, go_sem]) rfl ?_
  exact ⟨rfl, Below.refl _ _⟩
theorem read_esc {s : ByteArray} {k : Nat} (hk : (nl s)[k]? = some 92) (hm : s.size ≤ 100000) {x y z : Value} (w : World) (hC : ∀ w', Bel w w' → Gives 61 #[.string s, .int .i64 (k + 1)] (.tuple #[x, y, z]) w') :
    Gives 59 #[.string s, .int .i64 k] (.tuple #[x, y, z]) w := by
  obtain ⟨hlt, hat⟩ := at_nl hk
  clear hk
  have hkb : k ≤ 100000 := by omega
  unfold Gives at hC ⊢
  have C := Lib.hid (hC w (Bel.refl w))
  clear hC hm
  go_enter Tryd.func59, Tryd.ntmps59
  go_wp2_with (go_at_call 61; (with_reducible refine C.out.mono ?_); rintro e w' ⟨rfl, hb⟩)
  refine bodyPost_ret (v := .tuple #[x, y, z]) (by simp [results, Tryd.results59, go_sem]) rfl ?_
  exact ⟨rfl, hb⟩
theorem read_in {s : ByteArray} {i : Int} {c : Nat} {t : Int} {e : Nat} (h : Rd (nl s) i c t e) (hm : s.size ≤ 99990) {E2 E4 : Value} (w : World) (hT : Two w E2 E4) :
    Gives 59 #[.string s, .int .i64 i] (.tuple #[.int .u8 c, .int .i64 t, errV E2 E4 e]) w := by
  have hn := nl_length s
  cases h with
  | outside i hi => rw [hn] at hi ⊢; exact read_out hi (by omega) w hT
  | plain k c h1 h2 => exact read_plain h1 h2 (by omega) w
  | ends1 k h1 h2 =>
    refine read_esc h1 (by omega) w fun w' hb => ?_
    have := esc_0 (s := s) (k := k + 1) (by omega) (by omega) w' (hT.bel hb)
    rw [show ((k + 1 : Nat) : Int) = (k : Int) + 1 by omega] at this
    exact this
  | blank k c d h1 h2 h3 =>
    refine read_esc h1 (by omega) w fun w' hb => ?_
    have := esc_blank h2 h3 (by omega) w'
    rw [show ((k + 1 : Nat) : Int) = (k : Int) + 1 by omega, show (k : Int) + 1 + 1 = (k : Int) + 2 by omega] at this
    exact this
  | ends2 k h1 h2 h3 =>
    refine read_esc h1 (by omega) w fun w' hb => esc_x h2 (by omega) w' fun w2 hb2 => ?_
    have := coded_0 (s := s) (k := k + 2) (by omega) (by omega) w2 ((hT.bel hb).bel hb2)
    rw [show ((k + 2 : Nat) : Int) = (k : Int) + 2 by omega] at this
    rw [show ((k + 1 : Nat) : Int) + 1 = (k : Int) + 2 by omega]
    exact this
  | bad2 k c h1 h2 h3 h4 =>
    refine read_esc h1 (by omega) w fun w' hb => esc_x h2 (by omega) w' fun w2 hb2 => ?_
    have := coded_1 h3 h4 (by omega) w2 ((hT.bel hb).bel hb2)
    rw [show ((k + 2 : Nat) : Int) = (k : Int) + 2 by omega] at this
    rw [show ((k + 1 : Nat) : Int) + 1 = (k : Int) + 2 by omega]
    exact this
  | ends3 k c d h1 h2 h3 h4 h5 =>
    refine read_esc h1 (by omega) w fun w' hb => esc_x h2 (by omega) w' fun w2 hb2 => ?_
    have := coded_2 h3 h4 (by omega) (by omega) w2 ((hT.bel hb).bel hb2)
    rw [show ((k + 2 : Nat) : Int) = (k : Int) + 2 by omega, show (k : Int) + 2 + 1 = (k : Int) + 3 by omega] at this
    rw [show ((k + 1 : Nat) : Int) + 1 = (k : Int) + 2 by omega]
    exact this
  | bad3 k c d b h1 h2 h3 h4 h5 h6 =>
    refine read_esc h1 (by omega) w fun w' hb => esc_x h2 (by omega) w' fun w2 hb2 => ?_
    have := coded_3 h3 h4 h5 h6 (by omega) w2 ((hT.bel hb).bel hb2)
    rw [show ((k + 2 : Nat) : Int) = (k : Int) + 2 by omega, show (k : Int) + 2 + 1 = (k : Int) + 3 by omega] at this
    rw [show ((k + 1 : Nat) : Int) + 1 = (k : Int) + 2 by omega]
    exact this
  | hex k c d b e h1 h2 h3 h4 h5 h6 =>
    refine read_esc h1 (by omega) w fun w' hb => esc_x h2 (by omega) w' fun w2 hb2 => ?_
    have := coded_4 h3 h4 h5 h6 (by omega) w2
    rw [show ((k + 2 : Nat) : Int) = (k : Int) + 2 by omega, show (k : Int) + 2 + 2 = (k : Int) + 4 by omega] at this
    rw [show ((k + 1 : Nat) : Int) + 1 = (k : Int) + 2 by omega]
    exact this
  | sign k c h1 h2 h3 =>
    refine read_esc h1 (by omega) w fun w' hb => ?_
    have := esc_sign h2 h3 (by omega) w'
    rw [show ((k + 1 : Nat) : Int) = (k : Int) + 1 by omega, show (k : Int) + 1 + 1 = (k : Int) + 2 by omega] at this
    exact this
  | bad1 k c h1 h2 h3 h4 h5 h6 h7 h8 =>
    refine read_esc h1 (by omega) w fun w' hb => ?_
    have := esc_bad h2 h3 h4 h5 h6 h7 h8 (by omega) w' (hT.bel hb)
    rw [show ((k + 1 : Nat) : Int) = (k : Int) + 1 by omega] at this
    exact this
end Go.Proofs.YtaahefhiiggagaaDoor.S5
