/- The program's sum of parts; the chapter's example. -/
import Derived.Test.YtficnnlajpfkbaaDoorW2
import Derived.Laws.Rows
import Derived.OneCell
import Derived.Lib.SlBytesConst
import Derived.RangeFuncRecord
namespace Go.Proofs.YtficnnlajpfkbaaDoor
open Go.RowKit
/-- A slice of slices of bytes: what they hold. -/
structure Parts (w : World) (p : Option Addr) (n c : Nat) (ls : List (List Nat)) : Prop where
  len : ls.length = n
  each : ∀ i (hi : i < ls.length), ∃ b off a k, p = some ⟨b, off, none⟩ ∧ w.cell? ⟨b, off + i, none⟩ = some (.slice a ls[i].length k) ∧ Src w a ls[i].length k ls[i]
  cap : n ≤ c
theorem Parts.bel {w w' : World} {p : Option Addr} {n c : Nat} {ls : List (List Nat)} (h : Parts w p n c ls) (hb : Bel w w') : Parts w' p n c ls :=
  ⟨h.len, fun i hi => by
    obtain ⟨b, off, a, k, e, hc, hs⟩ := h.each i hi
    exact ⟨b, off, a, k, e, hb.cell (World.block_lt_of_cell? _ _ hc) hc, hs.bel hb⟩, h.cap⟩
/-- A block that holds l and more behind. -/
theorem Src.of_row {w : World} {b : Nat} {l : List Nat} {cs : Array Value} {t : TypeId} {fr : Nat × Nat} {n c : Nat} (hn : l.length = n) (hb : w.heap[b]? = some (.cells cs t fr)) (he : ∀ j (hj : j < l.length), cs[j]? = some (encN l[j])) (hs : ∀ x ∈ l, x ≤ 255) (hc : n ≤ c) :
    Src w (some ⟨b, 0, none⟩) n c l := by
  refine ⟨hn, hs, (fun e => by cases e), fun ad e j u hu => ?_, hc⟩
  cases e
  have e2 : (⟨b, 0, none⟩ : Addr).add j = ⟨b, j, none⟩ := by unfold Addr.add; split <;> simp_all
  rw [e2, cell_of_row w b j _ _ _ hb]
  rw [List.getElem?_map] at hu
  cases hl : l[j]? with
  | none => rw [hl] at hu; cases hu
  | some x =>
    rw [hl] at hu
    obtain ⟨hj, rfl⟩ := List.getElem?_eq_some_iff.1 hl
    rw [he j hj]; exact hu
theorem crcN_nil : crcN 0 [] = 0 := by decide +kernel
theorem flat_take {ls : List (List Nat)} {k : Nat} (h : k < ls.length) : (ls.take (k + 1)).flatten = (ls.take k).flatten ++ ls[k] := by
  rw [List.take_succ_eq_append_getElem h, List.flatten_append, List.flatten_singleton]
set_option maxRecDepth 100000 in
set_option maxHeartbeats 1000000 in
theorem sum_in (p : Option Addr) (n c : Nat) (ls : List (List Nat)) (w : World) (hP : Parts w p n c ls) (hT : Tab w) (hn : n ≤ 100000) (hm : ∀ l ∈ ls, l.length ≤ 100000) :
    Calls Tryd.prog 8 #[.slice p n c] w fun e w' => e = .returned (.int .i64 (crcN 0 ls.flatten : Nat)) ∧ w = w' := by
  have hlen := hP.len
  subst hlen
  have hcap := hP.cap
  replace hP := Lib.hid hP
  replace hT := Lib.hid hT
  replace hm := Lib.hid hm
  go_enter Tryd.func8, Tryd.ntmps8
  go_wp2
  go_loop [3, 8] (fun x i => ∃ k : Nat, k ≤ ls.length ∧ i = .int .i64 k ∧ x = .int .i64 (crcN 0 (ls.take k).flatten : Nat)) (fun _ i => ls.length - (intOf i).toNat)
  case atStart => exact ⟨0, Nat.zero_le _, rfl, by rw [show crcN 0 (List.take 0 ls).flatten = 0 from crcN_nil]; rfl⟩
  case round =>
    obtain ⟨k, hk, rfl, rfl⟩ := hrel
    by_cases hlt : k < ls.length
    · obtain ⟨b, off, a, c', rfl, hcell, hsrc⟩ := hP.out.each k hlt
      have hl5 := hm.out ls[k] (List.getElem_mem hlt)
      have hx := crcN_lt (s := 0) (ls.take k).flatten
      have hmod : ((crcN 0 (ls.take k).flatten : Nat) : Int) % 4294967296 = ((crcN 0 (ls.take k).flatten : Nat) : Int) := by omega
      have hc := more_in _ _ hmod a c' ls[k] w hsrc hT.out hl5
      have hsm : ∀ q ∈ (ls.take k).flatten, q < 256 := by
        intro q hq
        obtain ⟨l, hl, hql⟩ := List.mem_flatten.1 hq
        obtain ⟨j, hj, rfl⟩ := List.getElem_of_mem (List.mem_of_mem_take hl)
        obtain ⟨_, _, _, _, _, _, hs2⟩ := hP.out.each j hj
        have := hs2.small q hql
        omega
      have hstep := Lib.hid ((crcN_more (s := 0) (by decide) _ ls[k] hsm).trans (congrArg (crcN 0) (flat_take hlt).symm))
      clear hsm hx hsrc hmod
      replace hc := Lib.hid hc
      generalize crcN 0 (ls.take k).flatten = z at *
      generalize ls[k] = y at *
      go_wp2_with (go_at_call 11; refine hc.out.mono ?_; rintro e w' ⟨rfl, rfl⟩)
      go_round
      case rel => exact ⟨k + 1, by omega, by go_num, by rw [hstep.out]⟩
      case measure => simp [intOf]; omega
    · have e : ls.take k = ls := List.take_of_length_le (by omega)
      rw [e]
      clear e
      go_wp2
      go_ret
      exact ⟨rfl, rfl⟩

theorem one_part {w : World} {b : Nat} {a : Option Addr} {k : Nat} {l : List Nat} {t : TypeId} {fr : Nat × Nat} (hb : w.heap[b]? = some (.cells #[.slice a l.length k] t fr)) (hs : Src w a l.length k l) : Parts w (some ⟨b, 0, none⟩) 1 1 [l] := by
  refine ⟨rfl, fun i hi => ?_, Nat.le_refl _⟩
  have e : i = 0 := by simpa using hi
  subst e
  refine ⟨b, 0, a, k, rfl, ?_, hs⟩
  rw [cell_of_row w b _ _ _ _ hb]
  rfl
theorem two_parts {w : World} {b : Nat} {a1 a2 : Option Addr} {k1 k2 : Nat} {l1 l2 : List Nat} {t : TypeId} {fr : Nat × Nat} (hb : w.heap[b]? = some (.cells #[.slice a1 l1.length k1, .slice a2 l2.length k2] t fr)) (h1 : Src w a1 l1.length k1 l1) (h2 : Src w a2 l2.length k2 l2) :
    Parts w (some ⟨b, 0, none⟩) 2 2 [l1, l2] := by
  refine ⟨rfl, fun i hi => ?_, Nat.le_refl _⟩
  have e : i = 0 ∨ i = 1 := by simp at hi; omega
  rcases e with rfl | rfl
  · exact ⟨b, 0, a1, k1, rfl, by rw [cell_of_row w b _ _ _ _ hb]; rfl, h1⟩
  · exact ⟨b, 0, a2, k2, rfl, by rw [cell_of_row w b _ _ _ _ hb]; rfl, h2⟩
def row (l : List Nat) : Array Value := (l.map encN).toArray
theorem row_get {l : List Nat} : ∀ j (hj : j < l.length), (row l)[j]? = some (encN l[j]) := by
  intro j hj
  simp [row, hj]
/-- A block that was just made holds l. -/
theorem Src.new (w : World) (l : List Nat) (t : TypeId) (fr : Nat × Nat) (hs : ∀ x ∈ l, x ≤ 255) : Src (w.alloc (.cells (row l) t fr)) (some ⟨w.heap.size, 0, none⟩) l.length l.length l :=
  Src.of_row rfl (World.alloc_heap_new w _) row_get hs (Nat.le_refl _)
theorem Bel.new (w : World) (o : Obj) : Bel w (w.alloc o) := (Below.refl _ _).alloc (Nat.le_refl _) _
set_option maxHeartbeats 1000000 in
theorem alive_in (w : World) (hT : Tab w) : Calls Tryd.prog 6 #[] w fun e w' => e = .returned (.bool true) ∧ Below w.heap.size w w' := by
  obtain ⟨W, hW, hPW, hBW⟩ : ∃ W, ((w.alloc (.cells #[.int .u8 49, .int .u8 50, .int .u8 51, .int .u8 52] 5 (4, 5))).alloc (.cells #[.int .u8 53, .int .u8 54, .int .u8 55, .int .u8 56, .int .u8 57] 5 (5, 6))).alloc (.cells #[.slice (some ⟨w.heap.size, 0, none⟩) 4 4, .slice (some ⟨w.heap.size + 1, 0, none⟩) 5 5] 24) = W ∧
      Parts W (some ⟨w.heap.size + 1 + 1, 0, none⟩) 2 2 [[49, 50, 51, 52], [53, 54, 55, 56, 57]] ∧ Below w.heap.size w W := by
    have s1 := Src.new w [49, 50, 51, 52] 5 (4, 5) (by decide)
    have s2 := Src.new (w.alloc (.cells (row [49, 50, 51, 52]) 5 (4, 5))) [53, 54, 55, 56, 57] 5 (5, 6) (by decide)
    have b1 := Bel.new w (.cells (row [49, 50, 51, 52]) 5 (4, 5))
    have b2 := Bel.new (w.alloc (.cells (row [49, 50, 51, 52]) 5 (4, 5))) (.cells (row [53, 54, 55, 56, 57]) 5 (5, 6))
    have b3 := Bel.new ((w.alloc (.cells (row [49, 50, 51, 52]) 5 (4, 5))).alloc (.cells (row [53, 54, 55, 56, 57]) 5 (5, 6))) (.cells #[.slice (some ⟨w.heap.size, 0, none⟩) 4 4, .slice (some ⟨w.heap.size + 1, 0, none⟩) 5 5] 24)
    refine ⟨_, rfl, ?_, (b1.trans (b2.mono b1.size)).trans (b3.mono (Nat.le_trans b1.size b2.size))⟩
    have e1 : (w.alloc (.cells (row [49, 50, 51, 52]) 5 (4, 5))).heap.size = w.heap.size + 1 := by simp
    have e2 : ((w.alloc (.cells (row [49, 50, 51, 52]) 5 (4, 5))).alloc (.cells (row [53, 54, 55, 56, 57]) 5 (5, 6))).heap.size = w.heap.size + 1 + 1 := by simp
    have hp := two_parts (l1 := [49, 50, 51, 52]) (l2 := [53, 54, 55, 56, 57]) (World.alloc_heap_new ((w.alloc (.cells (row [49, 50, 51, 52]) 5 (4, 5))).alloc (.cells (row [53, 54, 55, 56, 57]) 5 (5, 6))) (.cells #[.slice (some ⟨w.heap.size, 0, none⟩) 4 4, .slice (some ⟨w.heap.size + 1, 0, none⟩) 5 5] 24)) ((s1.bel b2).bel b3) (by rw [e1] at s2; exact s2.bel b3)
    rw [e2] at hp
    exact hp
  have hc := sum_in _ _ _ _ W hPW (hT.below hBW hT.1) (by decide) (by decide)
  have e : crcN 0 [[49, 50, 51, 52], [53, 54, 55, 56, 57]].flatten = 3421780262 := by
    rw [← alive_sum, crcN_more (by decide) _ _ (by decide)]; rfl
  rw [e] at hc
  replace hc := Lib.hid hc
  replace hBW := Lib.hid hBW
  replace hW := Lib.hid hW
  clear hPW hT e
  have kc := fun (w : World) (C : Array Value) (n c : Nat) => Lib.run_convert_bytes_const (P := Tryd.prog) w 24 5 C n c Tryd.underlying24 Tryd.underlying5
  have kc2 := fun (o : Obj) (C : Array Value) (n c : Nat) => kc (w.alloc o) C n c
  simp only [World.size_alloc] at kc2
  go_enter Tryd.func6, Tryd.ntmps6
  go_wp2_with (rw [hW.out]; go_at_call 8; refine hc.out.mono ?_; rintro e w' ⟨rfl, rfl⟩)
  go_ret
  exact ⟨rfl, hBW.out⟩
end Go.Proofs.YtficnnlajpfkbaaDoor
