/- The program's bared: a tree's Cats of one kid go. -/
import Derived.Test.YtjlmeegaiagfpaaGreatDoorW33
import Derived.Test.YtjlmeegaiagfpaaGreatDoorMA
import Derived.Test.YtjlmeegaiagfpaaGreatDoorWC
namespace Go.Proofs.YtjlmeegaiagfpaaGreatDoor
open Go.RowKit
open Go.Tree7
open S7
open S5 (nl nl_length nl_small at_nl nl_at Gives idx idx_at ix ix_no ix_yes)
/-- What bared gives back. -/
def GivesBare (w : World) (lo hi : Nat) (t : T) (e : Ending) (w' : World) : Prop :=
  ∃ m : T, e = .returned (.agg m.cells.toArray) ∧ Fr (fun b => lo ≤ b ∧ b < hi) w w' ∧ T.InP w' (fun b => lo ≤ b ∧ b < hi) m ∧ m.strip = T.simp t
def BareOf (t : T) : Prop := ∀ (lo hi : Nat) (w : World), Own w lo hi t → hi ≤ w.heap.size → Calls Tryz.prog 12 #[.agg t.cells.toArray] w (GivesBare w lo hi t)
theorem simp_one {k u0 u1 u2 u3 : Int} {p : Option Addr} {cap : Nat} {mn mx : Int} {tx : ByteArray} {x : T} (hk : k = 2) : T.simp (.mk k u0 u1 u2 u3 p cap mn mx tx [x]) = T.simp x := by
  rw [simp_mk, if_pos ⟨hk, rfl⟩]
  rfl
/-- What holds in the first loop: the tree that is left, with so many nodes. -/
def Left (w w' : World) (lo hi : Nat) (t0 : T) (n : Nat) : Prop := ∃ (t : T) (lo' hi' : Nat), t.size = n ∧ t.size ≤ t0.size ∧ lo ≤ lo' ∧ hi' ≤ hi ∧ Own w' lo' hi' t ∧ T.simp t = T.simp t0 ∧ w'.heap[w.heap.size]? = some (.cells t.cells.toArray 27 (0, 0)) ∧ w'.heap[w.heap.size + 1]? = some (.cells #[.int .i64 0, .int .u64 0, .int .u64 0, .int .u64 0, .int .u64 0, .slice none 0 0, .int .i64 0, .int .i64 0, .string ⟨#[]⟩] 27 (0, 0)) ∧ Below w.heap.size w w'
theorem least_of {P : Nat → Prop} : ∀ n, P n → ∃ m, P m ∧ ∀ k, P k → m ≤ k := by
  intro n
  induction n using Nat.strongRecOn with
  | ind n ih =>
    intro h
    by_cases hs : ∃ k, k < n ∧ P k
    · obtain ⟨k, hk, hp⟩ := hs
      exact ih k hk hp
    · exact ⟨n, h, fun k hp => Nat.le_of_not_lt fun hk => hs ⟨k, hk, hp⟩⟩
open Classical in
/-- The least such number. -/
noncomputable def leftN (w w' : World) (lo hi : Nat) (t0 : T) : Nat := if h : ∃ m, Left w w' lo hi t0 m ∧ ∀ k, Left w w' lo hi t0 k → m ≤ k then Classical.choose h else 0
theorem left_at {w w' : World} {lo hi : Nat} {t0 : T} {n : Nat} (h : Left w w' lo hi t0 n) : Left w w' lo hi t0 (leftN w w' lo hi t0) ∧ leftN w w' lo hi t0 ≤ n := by
  have h2 := least_of n h
  unfold leftN
  rw [dif_pos h2]
  exact ⟨(Classical.choose_spec h2).1, (Classical.choose_spec h2).2 n h⟩
theorem Fr.of_bel' {X : Nat → Prop} {w w1 : World} (h : Below w.heap.size w w1) : Fr X w w1 := Fr.of_bel h
/-- The second loop's state. -/
structure BSt (w wr : World) (lo hi : Nat) (bd : Nat → Nat) (k u0 u1 u2 u3 mn mx : Int) (tx : ByteArray) (ks : List T) (p : Option Addr) (cap : Nat) (ms : List T) (j : Nat) : Prop where
  len : ms.length = j
  box : wr.heap[w.heap.size]? = some (.cells #[.int .i64 k, .int .u64 u0, .int .u64 u1, .int .u64 u2, .int .u64 u3, .slice p ks.length cap, .int .i64 mn, .int .i64 mx, .string tx] 27 (0, 0))
  res : wr.heap[w.heap.size + 1]? = some (.cells #[.int .i64 0, .int .u64 0, .int .u64 0, .int .u64 0, .int .u64 0, .slice none 0 0, .int .i64 0, .int .i64 0, .string ⟨#[]⟩] 27 (0, 0))
  fr : Fr (fun b => lo ≤ b ∧ b < hi) w wr
  row : 0 < ks.length → ∃ g, p = some ⟨g, 0, none⟩ ∧ lo ≤ g ∧ g < bd 0 ∧ NRowAt wr g (ms ++ ks.drop j)
  rest : ∀ i, j ≤ i → ∀ (h : i < ks.length), Own wr (bd i) (bd (i + 1)) ks[i]
  done : ∀ i (h : i < ms.length), T.InP wr (fun b => bd i ≤ b ∧ b < bd (i + 1)) ms[i]
  str : ms.map T.strip = (ks.take j).map T.simp
theorem NRowAt.lt8 {W : World} {g : Nat} {l : List T} (h : NRowAt W g l) : g < W.heap.size := h.lt
theorem BSt.next {w wr wr' : World} {lo hi : Nat} {bd : Nat → Nat} {k u0 u1 u2 u3 mn mx : Int} {tx : ByteArray} {ks : List T} {p : Option Addr} {cap : Nat} {ms : List T} {j : Nat} (h : BSt w wr lo hi bd k u0 u1 u2 u3 mn mx tx ks p cap ms j) (hb : Below wr.heap.size wr wr') (hbd : ∀ i, i < ks.length → bd (i + 1) ≤ wr.heap.size) (hjk : j ≤ ks.length) : BSt w wr' lo hi bd k u0 u1 u2 u3 mn mx tx ks p cap ms j where
  len := h.len
  box := kept_row h.box hb
  res := kept_row h.res hb
  fr := h.fr.step hb
  row := fun h0 => by obtain ⟨g, e, a1, a2, a3⟩ := h.row h0; exact ⟨g, e, a1, a2, a3.bel hb⟩
  rest := fun i hi2 h0 => (h.rest i hi2 h0).keep fun b h1 h2 => hb.block b (by have := hbd i h0; omega)
  done := fun i h0 => (h.done i h0).keep fun b h1 => hb.block b (by have := h.len; have := hbd i (by omega); omega)
  str := h.str
set_option maxRecDepth 100000 in
set_option maxHeartbeats 8000000 in
theorem bared_aux (N : Nat) (ihN : ∀ t : T, t.size < N → BareOf t) : ∀ t0 : T, t0.size = N → BareOf t0 := by
  intro t0 hN
  unfold BareOf at ihN ⊢
  intro lo hi w hO hhi
  have hst0 : Left w ((w.alloc (.cells t0.cells.toArray 27)).alloc (.cells #[.int .i64 0, .int .u64 0, .int .u64 0, .int .u64 0, .int .u64 0, .slice none 0 0, .int .i64 0, .int .i64 0, .string ⟨#[]⟩] 27)) lo hi t0 t0.size := by
    have hb : Below w.heap.size w ((w.alloc (.cells t0.cells.toArray 27)).alloc (.cells #[.int .i64 0, .int .u64 0, .int .u64 0, .int .u64 0, .int .u64 0, .slice none 0 0, .int .i64 0, .int .i64 0, .string ⟨#[]⟩] 27)) := ((Below.refl w.heap.size w).alloc (Nat.le_refl _) _).alloc (by simp) _
    refine ⟨t0, lo, hi, rfl, Nat.le_refl _, Nat.le_refl _, Nat.le_refl _, hO.keep fun b h1 h2 => hb.block b (by omega), rfl, ?_, ?_, hb⟩
    · exact (Below.heap_alloc _ _ _ (by simp)).trans (World.alloc_heap_new _ _)
    · have := World.alloc_heap_new (w.alloc (.cells t0.cells.toArray 27)) (.cells #[.int .i64 0, .int .u64 0, .int .u64 0, .int .u64 0, .int .u64 0, .slice none 0 0, .int .i64 0, .int .i64 0, .string ⟨#[]⟩] 27)
      rw [World.size_alloc] at this
      exact this
  have hG : ∃ G, G = GivesBare w lo hi t0 := ⟨_, rfl⟩
  obtain ⟨G, hG⟩ := hG
  rw [← hG]
  replace hG := Lib.hid hG
  obtain ⟨ct, hct⟩ : ∃ ct, ct = t0.cells := ⟨_, rfl⟩
  have hc9 : ∃ k u0 u1 u2 u3 p n cap mn mx tx, ct = [.int .i64 k, .int .u64 u0, .int .u64 u1, .int .u64 u2, .int .u64 u3, .slice p n cap, .int .i64 mn, .int .i64 mx, .string tx] := by
    rw [hct]
    cases t0
    exact ⟨_, _, _, _, _, _, _, _, _, _, _, rfl⟩
  rw [← hct] at hst0 ⊢
  obtain ⟨k, u0, u1, u2, u3, p, n, cap, mn, mx, tx, rfl⟩ := hc9
  replace hst0 := Lib.hid hst0
  replace ihN := Lib.hid ihN
  replace hN := Lib.hid hN
  clear hO hct
  go_enter Tryz.func12, Tryz.ntmps12
  go_wp2
  go_loopw [] (fun wr => ∃ n, Hid (Left w wr lo hi t0 n)) (fun wr => leftN w wr lo hi t0)
  case atStart => exact ⟨_, hst0⟩
  case round =>
    clear hst0
    obtain ⟨n1, hn1⟩ := hrel
    obtain ⟨t, lo', hi', hsz, hle, hlo, hhi2, hO, hsimp, hx, hr, hbel⟩ := (left_at hn1.out).1
    clear hn1
    have hks : t.kids.length ≤ 9223372036854775807 := by cases hO with | mk bd h1 h2 h3 => simp only [T.kids]; unfold maxLen at h3; omega
    have cL := fun w => lone_in t hks w
    cases hlb : loneB t with
    | true =>
      rw [hlb] at cL
      have hone := (loneB_iff t).1 hlb
      obtain ⟨kx, sw0, sw1, sw2, sw3, px, capx, mnx, mxx, txx, ksx⟩ := t
      obtain ⟨rfl, hl1⟩ := hone
      obtain ⟨y, rfl⟩ := List.length_eq_one_iff.1 hl1
      rw [simp_one rfl] at hsimp
      cases hO with
      | mk bd h1 h2 h3 h4 h5 h6 h7 h8 =>
        obtain ⟨g, rfl, hg1, hg2, hrow⟩ := h4 (by simp)
        have hOy := h8 0 (by simp)
        have hyc : ∀ q, q < 9 → wr.cell? ⟨g, q, none⟩ = (y.cells)[q]? := fun q hq => by
          have := hrow.cell (i := 0) (by simp) hq
          simpa using this
        have hsy : (T.mk 2 sw0 sw1 sw2 sw3 (some ⟨g, 0, none⟩) capx mnx mxx txx [y]).size = 1 + y.size := by rw [T.size_mk]; simp
        rw [hsy] at hsz hle
        have hglt := hrow.lt
        have hOy2 := Lib.hid hOy
        have hxw := Lib.hid hx
        have hrw2 := Lib.hid hr
        have hbel2 := Lib.hid hbel
        have h61 : bd 1 ≤ hi' := h6
        have h71 : bd 0 ≤ bd 1 := h7 0 (by simp)
        have hgw : w.heap.size ≠ g := by omega
        have hgw2 : w.heap.size + 1 ≠ g := by omega
        have hxlt : w.heap.size < wr.heap.size := (Array.getElem?_eq_some_iff.1 hx).1
        have hcap : capx ≤ 9223372036854775807 := by unfold maxLen at h3; omega
        have hc1 : 1 ≤ capx := h2
        have hbb : lo ≤ bd 0 ∧ bd 1 ≤ hi := ⟨by omega, Nat.le_trans h6 hhi2⟩
        clear hOy hrow hx hr hbel h1 h4 h5 h6 h7 h8
        obtain ⟨ky, tw0, tw1, tw2, tw3, py, capy, mny, mxy, txy, ksy⟩ := y
        simp only [T.cells, List.length_cons, List.length_nil] at *
        obtain ⟨c0, c1, c2, c3, c4, c5, c6, c7, c8⟩ := nine_of0 hyc
        clear hyc
        have hq := cells_of hxw.out
        obtain ⟨y0, f0⟩ := hq 0 _ rfl; obtain ⟨y1, f1⟩ := hq 1 _ rfl; obtain ⟨y2, f2⟩ := hq 2 _ rfl; obtain ⟨y3, f3⟩ := hq 3 _ rfl; obtain ⟨y4, f4⟩ := hq 4 _ rfl; obtain ⟨y5, f5⟩ := hq 5 _ rfl; obtain ⟨y6, f6⟩ := hq 6 _ rfl; obtain ⟨y7, f7⟩ := hq 7 _ rfl; obtain ⟨y8, f8⟩ := hq 8 _ rfl
        clear hq
        replace cL := Lib.hid cL
        have hsimp2 := Lib.hid hsimp
        have hsz2 := Lib.hid hsz
        go_wp2_with (go_at_call 23; (with_reducible refine (cL.out _).mono ?_); rintro e w1 ⟨rfl, hb1⟩; have hx1 := Lib.hid (kept_row hxw.out hb1); have hkx := cells_of hx1.out; clear y0 y1 y2 y3 y4 y5 y6 y7 y8 f0 f1 f2 f3 f4 f5 f6 f7 f8; obtain ⟨y0, f0⟩ := hkx 0 _ rfl; obtain ⟨y1, f1⟩ := hkx 1 _ rfl; obtain ⟨y2, f2⟩ := hkx 2 _ rfl; obtain ⟨y3, f3⟩ := hkx 3 _ rfl; obtain ⟨y4, f4⟩ := hkx 4 _ rfl; obtain ⟨y5, f5⟩ := hkx 5 _ rfl; obtain ⟨y6, f6⟩ := hkx 6 _ rfl; obtain ⟨y7, f7⟩ := hkx 7 _ rfl; obtain ⟨y8, f8⟩ := hkx 8 _ rfl; clear hkx; replace c0 := (hb1.cell (p := ⟨g, 0, none⟩) hglt).trans c0; replace c1 := (hb1.cell (p := ⟨g, 1, none⟩) hglt).trans c1; replace c2 := (hb1.cell (p := ⟨g, 2, none⟩) hglt).trans c2; replace c3 := (hb1.cell (p := ⟨g, 3, none⟩) hglt).trans c3; replace c4 := (hb1.cell (p := ⟨g, 4, none⟩) hglt).trans c4; replace c5 := (hb1.cell (p := ⟨g, 5, none⟩) hglt).trans c5; replace c6 := (hb1.cell (p := ⟨g, 6, none⟩) hglt).trans c6; replace c7 := (hb1.cell (p := ⟨g, 7, none⟩) hglt).trans c7; replace c8 := (hb1.cell (p := ⟨g, 8, none⟩) hglt).trans c8; have hl1 : w.heap.size < w1.heap.size := Nat.lt_of_lt_of_le hxlt hb1.size; have hglt1 : g < w1.heap.size := Nat.lt_of_lt_of_le hglt hb1.size; replace hb1 := Lib.hid hb1)
        obtain ⟨q1, q2, q3, q4⟩ := set9 (b := w.heap.size) (d0 := .int .i64 ky) (d1 := .int .u64 tw0) (d2 := .int .u64 tw1) (d3 := .int .u64 tw2) (d4 := .int .u64 tw3) (d5 := .slice py ksy.length capy) (d6 := .int .i64 mny) (d7 := .int .i64 mxy) (d8 := .string txy) hx1.out _ rfl
        generalize hW : World.setCell _ (⟨w.heap.size, 8, none⟩ : Addr) _ = W9 at *
        clear hW
        have hL : Left w W9 lo hi t0 (T.mk ky tw0 tw1 tw2 tw3 py capy mny mxy txy ksy).size := by
          refine ⟨_, bd 0, bd 1, rfl, by omega, hbb.1, hbb.2, hOy2.out.keep fun b hb1' hb2 => ?_, hsimp2.out, q1, ?_, (hbel2.out.trans (hb1.out.mono (Nat.le_of_lt hxlt |> fun _ => hbel2.out.size))).trans (q4 w.heap.size (Nat.le_refl _))⟩
          · have hb3 : b < w.heap.size := by have : b < bd 1 := hb2; omega
            exact (q3 b (by omega)).trans (hb1.out.block b (by have := hbel2.out.size; omega))
          · exact (q3 _ (by omega)).trans (kept_row hrw2.out hb1.out)
        exact ⟨⟨_, Lib.hid hL⟩, by have := (left_at hL).2; have := hsz2.out; omega⟩
    | false =>
      rw [hlb] at cL
      have hnone : ¬ T.one t := fun h => by rw [(loneB_iff t).2 h] at hlb; cases hlb
      obtain ⟨kx, sw0, sw1, sw2, sw3, px, capx, mnx, mxx, txx, ksx⟩ := t
      have hsm : Hid (T.simp t0 = .mk kx sw0 sw1 sw2 sw3 none 0 mnx mxx txx (ksx.map T.simp)) := Lib.hid (by rw [← hsimp, simp_mk]; exact if_neg hnone)
      replace hx : wr.heap[w.heap.size]? = some (.cells #[.int .i64 kx, .int .u64 sw0, .int .u64 sw1, .int .u64 sw2, .int .u64 sw3, .slice px ksx.length capx, .int .i64 mnx, .int .i64 mxx, .string txx] 27 (0, 0)) := hx
      have hxlt : w.heap.size < wr.heap.size := (Array.getElem?_eq_some_iff.1 hx).1
      rw [T.size_mk] at hle
      cases hO with
      | mk bd h1 h2 h3 h4 h5 h6 h7 h8 =>
        have hm := bd_mono h7
        have hst1 : BSt w wr lo hi bd kx sw0 sw1 sw2 sw3 mnx mxx txx ksx px capx [] 0 := by
          refine ⟨rfl, hx, hr, Fr.of_bel' hbel, fun h => ?_, fun i _ h => h8 i h, fun i h => by simp at h, rfl⟩
          obtain ⟨g, e, a1, a2, a3⟩ := h4 h
          exact ⟨g, e, by omega, a2, a3⟩
        have hbd : Hid (∀ i, i < ksx.length → lo ≤ bd i ∧ bd i ≤ bd (i + 1) ∧ bd (i + 1) ≤ hi ∧ bd 0 ≤ bd i) := Lib.hid fun i hi2 => ⟨by have := hm i (by omega) 0 (Nat.zero_le _); omega, h7 i hi2, by have := hm ksx.length (Nat.le_refl _) (i + 1) (by omega); omega, hm i (by omega) 0 (Nat.zero_le _)⟩
        have hmo : Hid (∀ i j, i ≤ j → j ≤ ksx.length → bd i ≤ bd j) := Lib.hid fun i j h h' => hm j h' i h
        have hih : Hid (∀ i (h : i < ksx.length), ksx[i].size < N) := Lib.hid fun i h => by
          have e1 := sum_take ksx h
          have e2 := sum_le ksx (i + 1)
          have := hN.out
          omega
        have hfit := Lib.hid h1
        have hcp := Lib.hid (And.intro h2 h3)
        have hcap : capx ≤ 9223372036854775807 := by unfold maxLen at h3; omega
        have hlen : ksx.length ≤ capx := h2
        have hkn : ksx.length ≤ 9223372036854775807 := by omega
        have hq := cells_of hx
        simp only [T.cells] at hq cL
        obtain ⟨y0, f0⟩ := hq 0 _ rfl; obtain ⟨y1, f1⟩ := hq 1 _ rfl; obtain ⟨y2, f2⟩ := hq 2 _ rfl; obtain ⟨y3, f3⟩ := hq 3 _ rfl; obtain ⟨y4, f4⟩ := hq 4 _ rfl; obtain ⟨y5, f5⟩ := hq 5 _ rfl; obtain ⟨y6, f6⟩ := hq 6 _ rfl; obtain ⟨y7, f7⟩ := hq 7 _ rfl; obtain ⟨y8, f8⟩ := hq 8 _ rfl
        clear hq h1 h2 h3 h4 h5 h6 h7 h8 hm hnone hsimp hle hsz hlo hhi2 hks hlb
        replace cL := Lib.hid cL
        replace hst1 := Lib.hid hst1
        have hxw := Lib.hid hx
        replace hbel := Lib.hid hbel
        clear hx hr
        go_wp2_with (go_at_call 23; (with_reducible refine (cL.out _).mono ?_); rintro e w1 ⟨rfl, hb1⟩; have hx1 := Lib.hid (kept_row hxw.out hb1); have hkx := cells_of hx1.out; clear y5; obtain ⟨y5, -⟩ := hkx 5 _ rfl; clear hkx; replace hb1 := Lib.hid hb1)
        have hsw : w.heap.size ≤ wr.heap.size := Nat.le_of_lt hxlt
        replace hst1 := Lib.hid (hst1.out.next hb1.out (fun i hi2 => by have := (hbd.out i hi2).2.2.1; omega) (Nat.zero_le _))
        have hw1 : w.heap.size + 1 < w1.heap.size := (Array.getElem?_eq_some_iff.1 hst1.out.res).1
        clear y0 y1 y2 y3 y4 y5 y6 y7 y8 f0 f1 f2 f3 f4 f5 f6 f7 f8 hx1 hxw hb1 cL hxlt hsw hbel
        go_loopw [14] (fun i wr => ∃ (j : Nat) (ms : List T), j ≤ ksx.length ∧ i = .int .i64 j ∧ Hid (BSt w wr lo hi bd kx sw0 sw1 sw2 sw3 mnx mxx txx ksx px capx ms j)) (fun i _ => ksx.length - (intOf i).toNat)
        case atStart => exact ⟨0, [], Nat.zero_le _, rfl, hst1⟩
        case round =>
          clear hst1
          obtain ⟨j, ms, hj, rfl, hst⟩ := hrel
          by_cases hlt : j < ksx.length
          · obtain ⟨g, hpx, hlg, hgb, hrw⟩ := hst.out.row (by omega)
            subst hpx
            have hl2 : (ms ++ ksx.drop j).length = ksx.length := by simp [hst.out.len]; omega
            have hjl := Lib.hid (show j < (ms ++ ksx.drop j).length by omega)
            have hkj : (ms ++ ksx.drop j)[j]'(by omega) = ksx[j] := by
              rw [List.getElem_append_right (by rw [hst.out.len]; exact Nat.le_refl _)]
              simp [hst.out.len]
            have hcl : ∀ q, q < 9 → wr.cell? ⟨g, j * 9 + q, none⟩ = (ksx[j].cells)[q]? := fun q hq => by rw [hrw.cell hjl.out hq, hkj]
            have hgw := hrw.lt
            obtain ⟨b1, b2, b3, b4⟩ := hbd.out j hlt
            have hOj := hst.out.rest j (Nat.le_refl _) hlt
            have hsz : Hid (ksx[j].size < N) := Lib.hid (hih.out j hlt)
            have htk : Hid ((ksx.take (j + 1)).map T.simp = (ksx.take j).map T.simp ++ [T.simp ksx[j]]) := Lib.hid (by rw [List.take_succ_eq_append_getElem hlt, List.map_append]; rfl)
            clear hkj hl2
            generalize ksx[j] = kd at *
            have hwr1 : w.heap.size + 1 < wr.heap.size := (Array.getElem?_eq_some_iff.1 hst.out.res).1
            obtain ⟨ky, tw0, tw1, tw2, tw3, py, capy, mny, mxy, txy, ksy⟩ := kd
            simp only [T.cells] at hcl
            obtain ⟨c0, c1, c2, c3, c4, c5, c6, c7, c8⟩ := nine_of hcl
            clear hcl
            have hgne : w.heap.size ≠ g := by omega
            have hkne : wr.heap.size ≠ g := by omega
            have hAl : Below wr.heap.size wr (wr.alloc (.cells #[.int .i64 ky, .int .u64 tw0, .int .u64 tw1, .int .u64 tw2, .int .u64 tw3, .slice py ksy.length capy, .int .i64 mny, .int .i64 mxy, .string txy] 27)) := (Below.refl _ _).alloc (Nat.le_refl _) _
            have hsw : w.heap.size < wr.heap.size := by omega
            have hstk := Lib.hid (hst.out.next hAl (fun i hi2 => by have := (hbd.out i hi2).2.2.1; omega) hj)
            have hOk := hOj.keep (w' := wr.alloc (.cells #[.int .i64 ky, .int .u64 tw0, .int .u64 tw1, .int .u64 tw2, .int .u64 tw3, .slice py ksy.length capy, .int .i64 mny, .int .i64 mxy, .string txy] 27)) fun b h1 h2 => hAl.block b (by omega)
            have hbk := Lib.hid (World.alloc_heap_new wr (.cells #[.int .i64 ky, .int .u64 tw0, .int .u64 tw1, .int .u64 tw2, .int .u64 tw3, .slice py ksy.length capy, .int .i64 mny, .int .i64 mxy, .string txy] 27))
            have hskz : wr.heap.size < (wr.alloc (.cells #[.int .i64 ky, .int .u64 tw0, .int .u64 tw1, .int .u64 tw2, .int .u64 tw3, .slice py ksy.length capy, .int .i64 mny, .int .i64 mxy, .string txy] 27)).heap.size := by simp
            clear hAl hrw hOj hst
            replace hOk := Lib.hid hOk
            go_wp2
            generalize wr.alloc (.cells #[.int .i64 ky, .int .u64 tw0, .int .u64 tw1, .int .u64 tw2, .int .u64 tw3, .slice py ksy.length capy, .int .i64 mny, .int .i64 mxy, .string txy] 27) = wk at *
            have hg2 : g < wk.heap.size := by omega
            obtain ⟨cur, hcur, hcc⟩ : NRowAt wk g (ms ++ ksx.drop j) := by
              obtain ⟨g', e, -, -, h⟩ := hstk.out.row (by omega)
              cases e
              exact h
            have hcB := ihN.out _ hsz.out (bd j) (bd (j + 1)) wk.drew (hOk.out.keep fun _ _ _ => rfl) (by show bd (j + 1) ≤ wk.heap.size; omega)
            simp only [T.cells] at hcB
            have cB := Lib.hid hcB
            have hSk : Hid (∀ W : World, Fr (fun b => bd j ≤ b ∧ b < bd (j + 1)) wk.drew W → (fun W => W.heap[w.heap.size]? = some (.cells #[.int .i64 kx, .int .u64 sw0, .int .u64 sw1, .int .u64 sw2, .int .u64 sw3, .slice (some ⟨g, 0, none⟩) ksx.length capx, .int .i64 mnx, .int .i64 mxx, .string txx] 27 (0, 0)) ∧ W.heap[wr.heap.size]? = some (.cells #[.int .i64 ky, .int .u64 tw0, .int .u64 tw1, .int .u64 tw2, .int .u64 tw3, .slice py ksy.length capy, .int .i64 mny, .int .i64 mxy, .string txy] 27 (0, 0))) wk.drew → (fun W => W.heap[w.heap.size]? = some (.cells #[.int .i64 kx, .int .u64 sw0, .int .u64 sw1, .int .u64 sw2, .int .u64 sw3, .slice (some ⟨g, 0, none⟩) ksx.length capx, .int .i64 mnx, .int .i64 mxx, .string txx] 27 (0, 0)) ∧ W.heap[wr.heap.size]? = some (.cells #[.int .i64 ky, .int .u64 tw0, .int .u64 tw1, .int .u64 tw2, .int .u64 tw3, .slice py ksy.length capy, .int .i64 mny, .int .i64 mxy, .string txy] 27 (0, 0))) W) := Lib.hid fun W hF h => ⟨(hF.block _ (show w.heap.size < wk.heap.size by omega) (by omega)).trans h.1, (hF.block _ (show wr.heap.size < wk.heap.size by omega) (by omega)).trans h.2⟩
            have hrk : Hid (∀ W : World, Fr (fun b => bd j ≤ b ∧ b < bd (j + 1)) wk.drew W → NRowAt W g (ms ++ ksx.drop j)) := Lib.hid fun W hF => ⟨cur, (hF.block g (show g < wk.heap.size by omega) (by omega)).trans hcur, hcc⟩
            have hstart : (fun W => W.heap[w.heap.size]? = some (.cells #[.int .i64 kx, .int .u64 sw0, .int .u64 sw1, .int .u64 sw2, .int .u64 sw3, .slice (some ⟨g, 0, none⟩) ksx.length capx, .int .i64 mnx, .int .i64 mxx, .string txx] 27 (0, 0)) ∧ W.heap[wr.heap.size]? = some (.cells #[.int .i64 ky, .int .u64 tw0, .int .u64 tw1, .int .u64 tw2, .int .u64 tw3, .slice py ksy.length capy, .int .i64 mny, .int .i64 mxy, .string txy] 27 (0, 0))) wk.drew := ⟨hstk.out.box, hbk.out⟩
            clear hcB hcur hcc
            refine wp_region_held_drew (S := fun W => W.heap[w.heap.size]? = some (.cells #[.int .i64 kx, .int .u64 sw0, .int .u64 sw1, .int .u64 sw2, .int .u64 sw3, .slice (some ⟨g, 0, none⟩) ksx.length capx, .int .i64 mnx, .int .i64 mxx, .string txx] 27 (0, 0)) ∧ W.heap[wr.heap.size]? = some (.cells #[.int .i64 ky, .int .u64 tw0, .int .u64 tw1, .int .u64 tw2, .int .u64 tw3, .slice py ksy.length capy, .int .i64 mny, .int .i64 mxy, .string txy] 27 (0, 0))) (by kernel_rfl) (hstart) (fun hHeld => ?_)
            refine wpAnyH_take (i := 0) (v := ?v0u1) rfl (by kernel_rfl) (by kernel_rfl) (by kernel_rfl) (fun _ _ _ h => h) (Or.inl ⟨by rfl, ?h0u1⟩) hHeld ?r0u1
            case h0u1 => (intro wq hSw; go_simp <;> with_reducible rfl)
            try simp only [Act.put, List.getElem_toArray, List.getElem_cons_zero, List.setIfInBounds_toArray, List.set_cons_zero, List.set_cons_succ]
            refine wpAnyH_take (i := 1) (v := ?v1u1) rfl (by kernel_rfl) (by kernel_rfl) (by kernel_rfl) (fun _ _ _ h => h) (Or.inl ⟨by rfl, ?h1u1⟩) hHeld ?r1u1
            case h1u1 => (intro wq hSw; have yb := (cells_of hSw.1 5 _ rfl).1; go_simp <;> with_reducible rfl)
            try simp only [Act.put, List.getElem_toArray, List.getElem_cons_succ, List.getElem_cons_zero, List.setIfInBounds_toArray, List.set_cons_zero, List.set_cons_succ]
            refine wpAnyH_take (i := 2) (v := ?v2u1) rfl (by kernel_rfl) (by kernel_rfl) (by kernel_rfl) (fun _ _ _ h => h) (Or.inl ⟨by rfl, ?h2u1⟩) hHeld ?r2u1
            case h2u1 => (intro wq hSw; go_simp <;> with_reducible rfl)
            try simp only [Act.put, List.getElem_toArray, List.getElem_cons_succ, List.getElem_cons_zero, List.setIfInBounds_toArray, List.set_cons_zero, List.set_cons_succ]
            refine wpAnyH_take (i := 3) (v := ?v3u1) rfl (by kernel_rfl) (by kernel_rfl) (by kernel_rfl) (fun _ _ _ h => h) (Or.inl ⟨by rfl, ?h3u1⟩) hHeld ?r3u1
            case h3u1 => (intro wq hSw; have hk := cells_of hSw.2; have y0 := (hk 0 _ rfl).1; have y1 := (hk 1 _ rfl).1; have y2 := (hk 2 _ rfl).1; have y3 := (hk 3 _ rfl).1; have y4 := (hk 4 _ rfl).1; have y5 := (hk 5 _ rfl).1; have y6 := (hk 6 _ rfl).1; have y7 := (hk 7 _ rfl).1; have y8 := (hk 8 _ rfl).1; clear hk; go_simp <;> with_reducible rfl)
            try simp only [Act.put, List.getElem_toArray, List.getElem_cons_succ, List.getElem_cons_zero, List.setIfInBounds_toArray, List.set_cons_zero, List.set_cons_succ]
            refine wpAnyH_ready (rs := [4]) (by kernel_rfl) (by simp) ?_
            refine AllReadyH.cons (o := _) rfl (fun K hK => ?_) AllReadyH.nil
            go_simp
            (go_at_call 12; (with_reducible refine cB.out.mono ?_); rintro e w9 ⟨⟨km, u0m, u1m, u2m, u3m, pm, capm, mnm, mxm, txm, ksm⟩, rfl, hF9, hm9, hs9⟩; simp only [T.cells]; have hS9 := Lib.hid (hSk.out w9 hF9 hHeld); have hrow9 := Lib.hid (hrk.out w9 hF9); replace hF9 := Lib.hid hF9; replace hm9 := Lib.hid hm9; replace hs9 := Lib.hid hs9; have f0 : w9.frozen? ⟨g, j * 9, none⟩ = false := hrow9.out.frozen (j * 9); obtain ⟨z0, hz0⟩ : ∃ z, w9.cell? ⟨g, j * 9, none⟩ = some z := row_some hrow9.out hjl.out (q := 0) (by decide); have f1 := hrow9.out.frozen (j * 9 + 1); obtain ⟨z1, hz1⟩ := row_some hrow9.out hjl.out (q := 1) (by decide); have f2 := hrow9.out.frozen (j * 9 + 2); obtain ⟨z2, hz2⟩ := row_some hrow9.out hjl.out (q := 2) (by decide); have f3 := hrow9.out.frozen (j * 9 + 3); obtain ⟨z3, hz3⟩ := row_some hrow9.out hjl.out (q := 3) (by decide); have f4 := hrow9.out.frozen (j * 9 + 4); obtain ⟨z4, hz4⟩ := row_some hrow9.out hjl.out (q := 4) (by decide); have f5 := hrow9.out.frozen (j * 9 + 5); obtain ⟨z5, hz5⟩ := row_some hrow9.out hjl.out (q := 5) (by decide); have f6 := hrow9.out.frozen (j * 9 + 6); obtain ⟨z6, hz6⟩ := row_some hrow9.out hjl.out (q := 6) (by decide); have f7 := hrow9.out.frozen (j * 9 + 7); obtain ⟨z7, hz7⟩ := row_some hrow9.out hjl.out (q := 7) (by decide); have f8 := hrow9.out.frozen (j * 9 + 8); obtain ⟨z8, hz8⟩ := row_some hrow9.out hjl.out (q := 8) (by decide))
            try dsimp only
            refine hK.out _ _ (hS9.out) (fun hHeld2 => ?_)
            clear hK K hHeld
            have hHeld := hHeld2
            clear hHeld2
            try simp only [Act.put, List.getElem_toArray, List.getElem_cons_succ, List.getElem_cons_zero, List.setIfInBounds_toArray, List.set_cons_zero, List.set_cons_succ]
            refine wpAnyH_take (i := 5) (v := ?v5u1) rfl (by kernel_rfl) (by kernel_rfl) (by kernel_rfl) (fun _ _ _ h => h) (Or.inl ⟨by rfl, ?h5u1⟩) hHeld ?r5u1
            case h5u1 => (intro wq hSw; go_simp <;> with_reducible rfl)
            try simp only [Act.put, List.getElem_toArray, List.getElem_cons_succ, List.getElem_cons_zero, List.setIfInBounds_toArray, List.set_cons_zero, List.set_cons_succ]
            refine wpAnyH_ready (rs := [6]) (by kernel_rfl) (by simp) ?_
            refine AllReadyH.cons (o := _) rfl (fun K hK => ?_) AllReadyH.nil
            go_simp
            try dsimp only
            refine hK.out _ _ (⟨((hrow9.out.set hjl.out (T.mk km u0m u1m u2m u3m pm capm mnm mxm txm ksm) rfl _ rfl).2.2.1 _ hgne).trans hHeld.1, ((hrow9.out.set hjl.out (T.mk km u0m u1m u2m u3m pm capm mnm mxm txm ksm) rfl _ rfl).2.2.1 _ hkne).trans hHeld.2⟩) (fun hHeld2 => ?_)
            clear hK K hHeld
            have hHeld := hHeld2
            clear hHeld2
            try simp only [Act.put, List.getElem_toArray, List.getElem_cons_succ, List.getElem_cons_zero, List.setIfInBounds_toArray, List.set_cons_zero, List.set_cons_succ]
            refine wpAnyH_done (by kernel_rfl) ?_ _

            obtain ⟨q1, q2, q3, q4⟩ := hrow9.out.set hjl.out (T.mk km u0m u1m u2m u3m pm capm mnm mxm txm ksm) rfl _ rfl
            generalize hW : World.setCell _ (⟨g, j * 9 + 8, none⟩ : Addr) _ = W9 at *
            clear hW
            go_wp2
            have hwkz : wk.drew.heap.size = wk.heap.size := rfl
            refine ⟨⟨j + 1, ms ++ [T.mk km u0m u1m u2m u3m pm capm mnm mxm txm ksm], by omega, by go_num, Lib.hid ⟨by simp [hstk.out.len], ?_, ?_, ?_, fun _ => ⟨g, rfl, hlg, hgb, ?_⟩, fun i hi2 h0 => ?_, fun i h0 => ?_, ?_⟩⟩, by simp [intOf]; omega⟩
            · exact (q3 _ hgne).trans ((hF9.out.block _ (show w.heap.size < wk.heap.size by omega) (by omega)).trans hstk.out.box)
            · exact (q3 _ (by omega)).trans ((hF9.out.block _ (show w.heap.size + 1 < wk.heap.size by omega) (by omega)).trans hstk.out.res)
            · refine ((hstk.out.fr.drew).trans hF9.out fun b hb => .inl ⟨by omega, by omega⟩).trans (Y := fun b => b = g) ⟨(q4 0 (Nat.zero_le _)).os, (q4 0 (Nat.zero_le _)).tape, (q4 0 (Nat.zero_le _)).output, by rw [q2]; exact Nat.le_refl _, fun b _ h => q3 b h⟩ fun b hb => .inl ⟨by omega, by omega⟩
            · rw [← set_drop hstk.out.len hlt]
              exact q1
            · have hm1 := hmo.out (j + 1) i hi2 (by omega)
              have hm2 := (hbd.out i h0).2.2.1
              exact (hstk.out.rest i (by omega) h0).keep fun b hb1 hb2 => (q3 b (by omega)).trans (hF9.out.block b (show b < wk.heap.size by omega) (by omega))
            · rw [List.length_append] at h0
              simp only [List.length_cons, List.length_nil] at h0
              have hln := hstk.out.len
              rcases Nat.lt_or_ge i ms.length with h9 | h9
              · rw [List.getElem_append_left h9]
                have hm1 := hmo.out (i + 1) j (by omega) (by omega)
                have hm2 := (hbd.out i (by omega)).2.2.2
                have h8 := hstk.out.done i h9
                refine T.InP.keep ?_ h8
                intro b hb
                exact (q3 b (by omega)).trans (hF9.out.block b (show b < wk.heap.size by omega) (by omega))
              · obtain rfl : i = ms.length := by omega
                subst hln
                simp only [List.getElem_append_right (Nat.le_refl _), Nat.sub_self, List.getElem_cons_zero]
                exact hm9.out.keep fun b hb => q3 b (by omega)
            · rw [List.map_append, hstk.out.str, htk.out, List.map_cons, List.map_nil, hs9.out]
          · obtain rfl : j = ksx.length := by omega
            have hw1 : w.heap.size + 1 < wr.heap.size := (Array.getElem?_eq_some_iff.1 hst.out.res).1
            have hq := cells_of hst.out.box
            obtain ⟨y0, -⟩ := hq 0 _ rfl; obtain ⟨y1, -⟩ := hq 1 _ rfl; obtain ⟨y2, -⟩ := hq 2 _ rfl; obtain ⟨y3, -⟩ := hq 3 _ rfl; obtain ⟨y4, -⟩ := hq 4 _ rfl; obtain ⟨y5, -⟩ := hq 5 _ rfl; obtain ⟨y6, -⟩ := hq 6 _ rfl; obtain ⟨y7, -⟩ := hq 7 _ rfl; obtain ⟨y8, -⟩ := hq 8 _ rfl
            clear hq
            have hq := cells_of hst.out.res
            obtain ⟨v0, f0⟩ := hq 0 _ rfl; obtain ⟨v1, f1⟩ := hq 1 _ rfl; obtain ⟨v2, f2⟩ := hq 2 _ rfl; obtain ⟨v3, f3⟩ := hq 3 _ rfl; obtain ⟨v4, f4⟩ := hq 4 _ rfl; obtain ⟨v5, f5⟩ := hq 5 _ rfl; obtain ⟨v6, f6⟩ := hq 6 _ rfl; obtain ⟨v7, f7⟩ := hq 7 _ rfl; obtain ⟨v8, f8⟩ := hq 8 _ rfl
            clear hq
            have hsw : w.heap.size < wr.heap.size := by omega
            go_wp2
            obtain ⟨q1, q2, q3, q4⟩ := set9 (b := w.heap.size + 1) (d0 := .int .i64 kx) (d1 := .int .u64 sw0) (d2 := .int .u64 sw1) (d3 := .int .u64 sw2) (d4 := .int .u64 sw3) (d5 := .slice px ksx.length capx) (d6 := .int .i64 mnx) (d7 := .int .i64 mxx) (d8 := .string txx) hst.out.res _ rfl
            generalize hW : World.setCell _ (⟨w.heap.size + 1, 8, none⟩ : Addr) _ = W9 at *
            clear hW
            have hk9 := cells_of q1
            obtain ⟨z0, -⟩ := hk9 0 _ rfl
            obtain ⟨z1, -⟩ := hk9 1 _ rfl
            obtain ⟨z2, -⟩ := hk9 2 _ rfl
            obtain ⟨z3, -⟩ := hk9 3 _ rfl
            obtain ⟨z4, -⟩ := hk9 4 _ rfl
            obtain ⟨z5, -⟩ := hk9 5 _ rfl
            obtain ⟨z6, -⟩ := hk9 6 _ rfl
            obtain ⟨z7, -⟩ := hk9 7 _ rfl
            obtain ⟨z8, -⟩ := hk9 8 _ rfl
            clear hk9
            refine bodyPost_ret (v := .agg #[.int .i64 kx, .int .u64 sw0, .int .u64 sw1, .int .u64 sw2, .int .u64 sw3, .slice px ksx.length capx, .int .i64 mnx, .int .i64 mxx, .string txx]) (by simp [results, Tryz.results12, go_sem, z0, z1, z2, z3, z4, z5, z6, z7, z8]) rfl ?_
            rw [hG.out]
            have hln := hst.out.len
            have hdr : ms ++ ksx.drop ksx.length = ms := by simp
            refine ⟨.mk kx sw0 sw1 sw2 sw3 px capx mnx mxx txx ms, by simp only [T.cells, hln], (hst.out.fr.trans (Y := fun b => b = w.heap.size + 1) ⟨(q4 0 (Nat.zero_le _)).os, (q4 0 (Nat.zero_le _)).tape, (q4 0 (Nat.zero_le _)).output, by rw [q2]; exact Nat.le_refl _, fun b _ h => q3 b h⟩ fun b hb => .inr (by omega)), ?_, by rw [hsm.out, T.strip_mk, hst.out.str, List.take_of_length_le (Nat.le_refl _)]⟩
            refine .mk (by rw [hln]; exact hcp.out.1) hcp.out.2 hfit.out (fun i hi2 => ?_) (fun t ht => ?_)
            · obtain ⟨g, e, a1, a2, a3⟩ := hst.out.row (by omega)
              rw [hdr] at a3
              have hm1 := hmo.out 0 ksx.length (Nat.zero_le _) (Nat.le_refl _)
              have hm2 := (hbd.out 0 (by omega)).2.2.1
              have hm3 := (hbd.out 0 (by omega)).2.1
              refine ⟨⟨g, 0, none⟩, e, ⟨a1, by show g < hi; omega⟩, fun q hq => ?_⟩
              have e2 : (⟨g, 0, none⟩ : Addr).add (i * 9 + q) = ⟨g, i * 9 + q, none⟩ := by unfold Addr.add; split <;> simp_all
              rw [e2, ← a3.cell hi2 hq]
              exact World.cell?_of_block (q3 g (by omega))
            · obtain ⟨i, hi2, rfl⟩ := List.getElem_of_mem ht
              obtain ⟨b1, b2, b3, b4⟩ := hbd.out i (by omega)
              exact ((hst.out.done i hi2).keep fun b hb => q3 b (by omega)).imp fun b hb => ⟨by omega, by omega⟩
/-- bared, of every tree. -/
theorem bared_in : ∀ t : T, BareOf t := by
  have h : ∀ (n : Nat) (t : T), t.size = n → BareOf t := by
    intro n
    induction n using Nat.strongRecOn with
    | ind n ih => exact fun t ht => bared_aux n (fun t' h' => ih t'.size h' t' rfl) t ht
  exact fun t => h t.size t rfl
end Go.Proofs.YtjlmeegaiagfpaaGreatDoor
