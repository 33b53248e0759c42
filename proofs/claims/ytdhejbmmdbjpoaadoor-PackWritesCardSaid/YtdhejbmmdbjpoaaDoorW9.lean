/- The writer that has failed; the writer in whatever state: Num, Byte, Bytes, Text, Row. -/
import Derived.Test.YtdhejbmmdbjpoaaDoorW3
namespace Go.Proofs.YtdhejbmmdbjpoaaDoor
open Go.RowKit
set_option maxRecDepth 10000 in
theorem onum_failed {w : World} {b : Nat} {E E0 : Value} (h : Of w b (.iface 78 E)) {n : Int} (hn : n ≤ 9223372036854775807) (hE : w.cell? ⟨0, 0, none⟩ = some (.iface 78 E0)) :
    Calls Tryd.prog 8 #[.pointer (some ⟨b, 0, none⟩), .int .i64 n] w fun e w' => e = .returned (.tuple #[]) ∧ Bel w w' := by
  by_cases hbad : n < 0 ∨ 2147483647 < n
  · have hf := Lib.hid (ofail_failed h (.iface 78 E0))
    rcases hbad with h1 | h1
    · go_enter Tryd.func8, Tryd.ntmps8
      go_wp2_with (go_at_call 22; (with_reducible refine hf.out.mono ?_); rintro e w2 ⟨rfl, rfl⟩)
      refine bodyPost_ret (results_none rfl _ _ _) rfl ?_
      exact ⟨rfl, Bel.refl _⟩
    · have h2 : ¬ n < 0 := by omega
      go_enter Tryd.func8, Tryd.ntmps8
      go_wp2_with (go_at_call 22; (with_reducible refine hf.out.mono ?_); rintro e w2 ⟨rfl, rfl⟩)
      refine bodyPost_ret (results_none rfl _ _ _) rfl ?_
      exact ⟨rfl, Bel.refl _⟩
  · obtain ⟨m0, rfl⟩ := Int.eq_ofNat_of_zero_le (show 0 ≤ n by omega)
    have hm0 : m0 ≤ 2147483647 := by omega
    clear hbad hn
    have hn0 : ¬ ((m0 : Int) < 0) := by omega
    have hn1 : ¬ (2147483647 < (m0 : Int)) := by omega
    have hp : ∀ (w' : World) (x : Int), Bel w w' → Calls Tryd.prog 23 #[.pointer (some ⟨b, 0, none⟩), .slice (some ⟨w'.heap.size, 0, none⟩) 1 1] (w'.alloc (.cells #[.int .u8 x] 5)) fun e w'' => e = .returned (.tuple #[]) ∧ w'.alloc (.cells #[.int .u8 x] 5) = w'' :=
      fun w' x hb => put_failed (h.bel (hb.alloc _)) _
    replace hp := Lib.hid hp
    replace hm0 := Lib.hid hm0
    have hb0 := Lib.hid (Bel.refl w)
    clear h
    go_enter Tryd.func8, Tryd.ntmps8
    go_wp2
    go_loopw [1] (fun s1 wr => ∃ (m : Nat), s1 = .int .i64 m ∧ Hid (m ≤ 2147483647) ∧ Hid (Bel w wr)) (fun s1 _ => (intOf s1).toNat)
    case atStart => exact ⟨m0, rfl, hm0, hb0⟩
    case round =>
      clear hb0 hm0
      obtain ⟨m, rfl, hmn, hb⟩ := hrel
      by_cases hc : m < 128
      · have hc1 : ¬ (128 ≤ (m : Int)) := by omega
        go_wp2_with (go_at_call 23; (with_reducible refine (hp.out _ _ hb.out).mono ?_); rintro e w2 ⟨rfl, rfl⟩)
        go_end0
        exact ⟨rfl, hb.out.alloc _⟩
      · have hc1 : 128 ≤ (m : Int) := by omega
        have hdiv : wrap64 ((m : Int) / 128) = (m : Int) / 128 := by have := hmn.out; unfold wrap64; omega
        go_wp2_with (go_at_call 23; (with_reducible refine (hp.out _ _ hb.out).mono ?_); rintro e w2 ⟨rfl, rfl⟩)
        go_roundw
        case rel => exact ⟨m / 128, (by first | (rw [hdiv]; rfl) | rfl), Lib.hid (by have := hmn.out; omega), Lib.hid (hb.out.alloc _)⟩
        case measure =>
          try rw [hdiv]
          simp [intOf]; omega

/-- The writer, failed or not. -/
def Wr (w : World) (b : Nat) (r : Option Nat) (E : Value) (e : Bool) (l : List Nat) : Prop := if e = true then Of w b (.iface 78 E) else Ou w b r l
/-- What a writing call of the writer does: it fails, or appends x. -/
def Writes (w : World) (b : Nat) (r : Option Nat) (E : Value) (e' : Bool) (l' : List Nat) (e : Ending) (w' : World) : Prop :=
  e = .returned (.tuple #[]) ∧ ∃ r', Wr w' b r' E e' l' ∧ Apt w w' b r ∧ Nxt w r r'
theorem Wr.bel {w w' : World} {b : Nat} {r : Option Nat} {E : Value} {e : Bool} {l : List Nat} (h : Wr w b r E e l) (hb : Bel w w') : Wr w' b r E e l := by
  cases e
  · exact Ou.bel h hb
  · exact Of.bel h hb
theorem Wr.lt {w : World} {b : Nat} {r : Option Nat} {E : Value} {e : Bool} {l : List Nat} (h : Wr w b r E e l) : b < w.heap.size := by
  cases e
  · exact Ou.lt h
  · exact lt_of_block h
def badN (n : Int) : Bool := decide (n < 0) || decide (2147483647 < n)
theorem onum_wr {w : World} {b : Nat} {r : Option Nat} {E : Value} {e : Bool} {l : List Nat} (h : Wr w b r E e l) {n : Int} (hn : n ≤ 9223372036854775807) (hm : e = false → l.length ≤ 500000) (hE : w.cell? ⟨0, 0, none⟩ = some (.iface 78 E)) :
    Calls Tryd.prog 8 #[.pointer (some ⟨b, 0, none⟩), .int .i64 n] w (Writes w b r E (e || badN n) (l ++ numL n.toNat)) := by
  cases e
  · by_cases hbad : n < 0 ∨ 2147483647 < n
    · refine (onum_bad (show Ou w b r l from h) hbad hE).mono ?_
      rintro e w' ⟨rfl, h1, h2⟩
      have : badN n = true := by unfold badN; rcases hbad with h | h <;> simp [h]
      rw [this]
      exact ⟨rfl, r, h1, h2, .inl rfl⟩
    · obtain ⟨m, rfl⟩ := Int.eq_ofNat_of_zero_le (show 0 ≤ n by omega)
      have : badN m = false := by unfold badN; simp; omega
      rw [this]
      refine (onum_ok (show Ou w b r l from h) (n := m) (by omega) (by have := hm rfl; omega)).mono ?_
      rintro e w' ⟨rfl, r', h1, h2, h3⟩
      exact ⟨rfl, r', h1, h2, h3⟩
  · refine (onum_failed (show Of w b (.iface 78 E) from h) hn hE).mono ?_
    rintro e w' ⟨rfl, hb⟩
    exact ⟨rfl, r, Of.bel (show Of w b (.iface 78 E) from h) hb, Apt.of_bel hb, .inl rfl⟩
theorem put_wr {w : World} {b : Nat} {r : Option Nat} {E : Value} {e : Bool} {l ys : List Nat} {a : Option Addr} {n c : Nat} (h : Wr w b r E e l) (hs : Src w a n c ys) (hm : e = false → l.length ≤ 500000) (hn : n ≤ 400000) :
    Calls Tryd.prog 23 #[.pointer (some ⟨b, 0, none⟩), .slice a n c] w (Writes w b r E e (l ++ ys)) := by
  cases e
  · refine (put_in (show Ou w b r l from h) hs (by have := hm rfl; omega)).mono ?_
    rintro e w' ⟨rfl, r', h1, h2, h3⟩
    exact ⟨rfl, r', h1, h2, h3⟩
  · refine (put_failed (show Of w b (.iface 78 E) from h) _).mono ?_
    rintro e w' ⟨rfl, rfl⟩
    exact ⟨rfl, r, h, Apt.refl _ _ _, .inl rfl⟩
/-- The byte of a number. -/
def byteOf (n : Int) : Nat := (n % 256).toNat
theorem byteOf_le (n : Int) : byteOf n ≤ 255 := by unfold byteOf; omega
theorem byteOf_int (n : Int) : ((byteOf n : Nat) : Int) = n % 256 := by unfold byteOf; omega
theorem Writes.pre {w0 w : World} {b : Nat} {r : Option Nat} {E : Value} {e : Bool} {l : List Nat} {f : FuncId} {args : Array Value} (hb : Bel w0 w) (h : Calls Tryd.prog f args w (Writes w b r E e l)) : Calls Tryd.prog f args w (Writes w0 b r E e l) := by
  refine h.mono ?_
  rintro e w' ⟨rfl, r', h1, h2, h3⟩
  exact ⟨rfl, r', h1, (Apt.of_bel hb).trans (.inl rfl) h2, Nxt.trans hb.size (.inl rfl) h3⟩
theorem Writes.snd {w w1 : World} {b : Nat} {r r1 : Option Nat} {E : Value} {e : Bool} {l : List Nat} {en : Ending} {w2 : World} (ha : Apt w w1 b r) (hx : Nxt w r r1) (h : Writes w1 b r1 E e l en w2) : Writes w b r E e l en w2 := by
  obtain ⟨rfl, r', h1, h2, h3⟩ := h
  exact ⟨rfl, r', h1, ha.trans hx h2, Nxt.trans ha.size hx h3⟩
theorem obyte_wr {w : World} {b : Nat} {r : Option Nat} {E : Value} {e : Bool} {l : List Nat} (h : Wr w b r E e l) {c : Nat} (hc : c ≤ 255) (hm : e = false → l.length ≤ 500000) :
    Calls Tryd.prog 9 #[.pointer (some ⟨b, 0, none⟩), .int .u8 c] w (Writes w b r E e (l ++ [c])) := by
  have hp := Lib.hid (Writes.pre (Bel.new w (.cells #[.int .u8 c] 5)) (put_wr (h.bel (Bel.new w (.cells #[.int .u8 c] 5))) (src_one w (x := (c : Int)) rfl hc) hm (by decide)))
  go_enter Tryd.func9, Tryd.ntmps9
  go_wp2_with (go_at_call 23; (with_reducible refine hp.out.mono ?_); rintro e w2 ⟨rfl, hw⟩; replace hw := Lib.hid hw)
  go_end0
  exact ⟨rfl, hw.out⟩
theorem Src.apt {w w' : World} {b n c : Nat} {r : Option Nat} {a : Option Addr} {l : List Nat} (h : Src w a n c l) (ha : Apt w w' b r) (hb : ∀ ad, a = some ad → l ≠ [] → ad.block ≠ b ∧ some ad.block ≠ r) : Src w' a n c l :=
  ⟨h.len, h.small, h.nil, fun ad e j u hu => by
    have h1 := h.cells ad e j u hu
    obtain ⟨h2, h3⟩ := hb ad e (by rintro rfl; simp at hu)
    have e2 : (ad.add j).block = ad.block := by unfold Addr.add; split <;> simp_all
    exact (World.cell?_of_block (w := w) (w' := w') (a := ad.add j) (by rw [e2]; exact ha.block ad.block (by have := World.block_lt_of_cell? _ _ h1; rwa [e2] at this) h2 h3)).trans h1, h.cap⟩
theorem obytes_wr {w : World} {b : Nat} {r : Option Nat} {E : Value} {e : Bool} {l ys : List Nat} {a : Option Addr} {n c : Nat} (h : Wr w b r E e l) (hs : Src w a n c ys) (hb : ∀ ad, a = some ad → ys ≠ [] → ad.block ≠ b ∧ some ad.block ≠ r) (hn : n ≤ 400000) (hm : e = false → l.length ≤ 400000) (hE : w.cell? ⟨0, 0, none⟩ = some (.iface 78 E)) :
    Calls Tryd.prog 10 #[.pointer (some ⟨b, 0, none⟩), .slice a n c] w (Writes w b r E e (l ++ numL ys.length ++ ys)) := by
  have hln := hs.len
  have hN := onum_wr h (n := (n : Int)) (by omega) (fun he => by have := hm he; omega) hE
  have hg : badN (n : Int) = false := by unfold badN; simp; omega
  rw [hg, Bool.or_false] at hN
  have hP : ∀ w1 r1, Wr w1 b r1 E e (l ++ numL n) → Apt w w1 b r → Nxt w r r1 → Calls Tryd.prog 23 #[.pointer (some ⟨b, 0, none⟩), .slice a n c] w1 (Writes w b r E e (l ++ numL ys.length ++ ys)) := by
    intro w1 r1 h1 ha hx
    have hs1 : Src w1 a n c ys := hs.apt ha hb
    rw [hln]
    refine (put_wr h1 hs1 (fun he => ?_) hn).mono fun _ _ hw => Writes.snd ha hx hw
    have h5 := num_len (n := n) (by omega)
    have := hm he
    simp only [List.length_append]
    omega
  replace hP := Lib.hid hP
  replace hN := Lib.hid hN
  clear hs hb hE h hg
  go_enter Tryd.func10, Tryd.ntmps10
  go_wp2_with (first
    | (go_at_call 8; (with_reducible refine hN.out.mono ?_); rintro e w1 ⟨rfl, r1, h1, ha, hx⟩; replace h1 := Lib.hid h1; replace ha := Lib.hid ha; replace hx := Lib.hid hx)
    | (go_at_call 23; (with_reducible refine (hP.out _ _ h1.out ha.out hx.out).mono ?_); rintro e w2 ⟨rfl, hw⟩; replace hw := Lib.hid hw))
  go_end0
  exact ⟨rfl, hw.out⟩
end Go.Proofs.YtdhejbmmdbjpoaaDoor
