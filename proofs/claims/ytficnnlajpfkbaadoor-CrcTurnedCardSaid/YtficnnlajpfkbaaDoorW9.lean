/- doffernum.Bytes and Kept: a copy with marked room behind; whether list and room stand as they stood. -/
import Derived.Test.YtficnnlajpfkbaaDoorW6
import Derived.Laws.AppendOwnNone
import Derived.Laws.BytesArg
namespace Go.Proofs.YtficnnlajpfkbaaDoor
open Go.RowKit
def strN (ys : List Nat) : ByteArray := strOfNums (ys.map fun c : Nat => (c : Int))
theorem strN_size (ys : List Nat) : (strN ys).size = ys.length := by simp [strN, strOfNums_size]
theorem strN_inj {a b : List Nat} (ha : ∀ x ∈ a, x < 256) (hb : ∀ x ∈ b, x < 256) (h : strN a = strN b) : a = b := by
  have h1 : (strN a).data.toList = (strN b).data.toList := by rw [h]
  unfold strN at h1
  rw [strOfNums_data, strOfNums_data, List.map_map, List.map_map] at h1
  have hl : a.length = b.length := by simpa using congrArg List.length h1
  apply List.ext_getElem hl
  intro i hi hj
  have := congrArg (fun l => l[i]?) h1
  simp only [List.getElem?_map, List.getElem?_eq_getElem hi, List.getElem?_eq_getElem hj, Option.map_some, Function.comp_apply, Int.toNat_natCast, Option.some.injEq] at this
  have h3 := congrArg UInt8.toNat this
  rw [UInt8.toNat_ofNat', UInt8.toNat_ofNat'] at h3
  have := ha _ (List.getElem_mem hi)
  have := hb _ (List.getElem_mem hj)
  omega
theorem u24 : Tryd.prog.underlying 24 = some (.slice 5) := by kernel_rfl
theorem u9 : Tryd.prog.underlying 9 = some .string := by kernel_rfl
theorem Src.conv {w : World} {a : Option Addr} {n c : Nat} {l : List Nat} (h : Src w a n c l) : (convert 24 9 (.slice a n c)).run Tryd.prog w = .ok (.string (strN l)) w := by
  have hl := h.len
  rcases Nat.eq_zero_or_pos n with h0 | h0
  · subst h0
    obtain rfl : l = [] := List.length_eq_zero_iff.1 hl
    cases a with
    | none => rw [run_convert_bytes_nil w 24 5 u24 u5 _ _ 9 u9]; rfl
    | some a =>
      rw [run_convert_bytes_string w 24 9 5 (some a) _ c u24 u5 u9]
      exact run_bytesToString (P := Tryd.prog) w a 0 c [] (by simp [loadCells, loadCellsFrom])
  · obtain ⟨b, off, rfl, hc⟩ := h.at h0
    refine run_convert_bytes_arg w 24 5 u24 u5 b off n c _ (by simpa using hl) (fun i hi => ?_) 9 u9
    rw [hc i (by omega)]
    simp [show i < l.length by omega]

def marks6 : List Value := [.int .u8 201, .int .u8 202, .int .u8 203, .int .u8 204, .int .u8 205, .int .u8 206]
/-- Block g is l and six marks behind. -/
def Marked (w : World) (g : Nat) (l : List Nat) : Prop := w.heap[g]? = some (.cells (l.map encN ++ marks6).toArray 5 (0, 0))
def GivesMarked (w0 : World) (l : List Nat) (n : Nat) (e : Ending) (w' : World) : Prop := ∃ g, e = .returned (.slice (some ⟨g, 0, none⟩) n (n + 6)) ∧ w0.heap.size ≤ g ∧ Marked w' g l ∧ Below w0.heap.size w0 w'

theorem cell_six_new (w : World) (t : TypeId) : ∀ j u, marks6[j]? = some u → (w.alloc (.cells #[.int .u8 201, .int .u8 202, .int .u8 203, .int .u8 204, .int .u8 205, .int .u8 206] t)).cell? ((⟨w.heap.size, 0, none⟩ : Addr).add j) = some u := by
  intro j u hj
  match j, hj with
  | 0, hj => simp [marks6] at hj; subst hj; simp [Addr.add]
  | 1, hj => simp [marks6] at hj; subst hj; simp [Addr.add]
  | 2, hj => simp [marks6] at hj; subst hj; simp [Addr.add]
  | 3, hj => simp [marks6] at hj; subst hj; simp [Addr.add]
  | 4, hj => simp [marks6] at hj; subst hj; simp [Addr.add]
  | 5, hj => simp [marks6] at hj; subst hj; simp [Addr.add]
  | n + 6, hj => simp [marks6] at hj

set_option maxRecDepth 10000 in
set_option maxHeartbeats 2000000 in
theorem bytes_in (a : Option Addr) (n c : Nat) (l : List Nat) (hn : n ≤ 100000) (w : World) (hs : Src w a n c l) :
    Calls Tryd.prog 7 #[.slice a n c] w (GivesMarked w l n) := by
  obtain ⟨i0, hi, hz0, hz1, hz2⟩ := info_parts info5
  have hlen := hs.len
  have hnil := hs.nil
  have hcl := hs.cells
  replace hlen := Lib.hid hlen
  replace hnil := Lib.hid hnil
  replace hcl := Lib.hid hcl
  clear hs
  go_enter Tryd.func7, Tryd.ntmps7
  go_wp2_with (first
    | (at_make; refine wpList_make_own _ rfl _ _ 24 rfl w.heap.size 5 i0 (.int .u8 0) 1 Tryd.underlying24 hi hz0 hz1 .i64 .i64 _ (n + 6) rfl rfl (by omega) (by rw [hz2]; omega) (by simp [maxLen]; omega) (Nat.le_refl _) ?_; intro w1 hown hg1)
    | (at_builtin; refine wpList_append_fits_any _ rfl _ _ 24 rfl w.heap.size 5 i0 1 Tryd.underlying24 hi hz1 w.heap.size 0 (n + 6) [] rfl hown a n c (l.map encN) rfl (by simp [hlen.out]) hnil.out (fun ad e j u hu => (hg1.block _ (World.block_lt_of_cell? _ _ (hcl.out ad e j u hu)) (by simp) |> World.cell?_of_block).trans (hcl.out ad e j u hu)) (by intro u hu; obtain ⟨x, _, rfl⟩ := List.mem_map.1 hu; rfl) (by omega) ?_; intro w2 hown2 hg2; clear hown; simp only [Nat.zero_add, List.nil_append] at hown2)
    | (at_builtin; refine wpList_append_fits _ rfl _ _ 24 rfl w.heap.size 5 i0 1 Tryd.underlying24 hi hz1 w.heap.size n (n + 6) (l.map encN) rfl (hown2.alloc _) ⟨_, 0, none⟩ 6 6 marks6 rfl rfl (cell_six_new _ _) (by simp [marks6, Value.oneCell']) (by omega) ?_; intro w3 hown3 hg3; clear hown2))
  go_ret
  refine ⟨w.heap.size, rfl, Nat.le_refl _, ?_, ?_⟩
  · rcases hown3.2 with ⟨h1, _⟩ | ⟨gg, cap, cur, hv, _, hh, _, _, hcs, htk⟩
    · simp at h1
    · simp only [Value.slice.injEq, Option.some.injEq, Addr.mk.injEq, and_true, true_and] at hv
      obtain ⟨rfl, rfl⟩ := hv
      have e : cur.toList = l.map encN ++ marks6 := by
        rw [← htk, List.take_of_length_le (by rw [Array.length_toList, hcs]; omega)]
      have e2 : cur = (l.map encN ++ marks6).toArray := by rw [← e]
      rw [e2] at hh
      exact hh
  · have b1 := (Below.refl w.heap.size w).grown hg1 (Nat.le_refl _) (fun k e => by cases e)
    have b2 := b1.grown hg2 b1.size (fun k e => by cases e; exact Nat.le_refl _)
    exact (b2.alloc b2.size _).grown hg3 (by have := b2.size; simp; omega) (fun k e => by cases e; exact Nat.le_refl _)

theorem marked_cell {w : World} {g : Nat} {l : List Nat} (h : Marked w g l) : (∀ j (hj : j < l.length), w.cell? ⟨g, j, none⟩ = some (.int .u8 ((l[j] : Nat) : Int))) ∧ (∀ k, k < 6 → w.cell? ⟨g, l.length + k, none⟩ = some (.int .u8 (201 + (k : Int)))) := by
  have hc := fun j => cell_of_row w g j _ _ (0, 0) h
  refine ⟨fun j hj => ?_, fun k hk => ?_⟩
  · rw [hc j, List.getElem?_toArray, List.getElem?_append_left (by simpa using hj)]
    simp [encN, hj]
  · rw [hc (l.length + k), List.getElem?_toArray, List.getElem?_append_right (by simp)]
    have : l.length + k - (l.map encN).length = k := by simp
    rw [this]
    have : k = 0 ∨ k = 1 ∨ k = 2 ∨ k = 3 ∨ k = 4 ∨ k = 5 := by omega
    rcases this with rfl | rfl | rfl | rfl | rfl | rfl <;> rfl
theorem Marked.lt {w : World} {g : Nat} {l : List Nat} (h : Marked w g l) : g < w.heap.size := (Array.getElem?_eq_some_iff.1 h).1
theorem Marked.bel {w w' : World} {g : Nat} {l : List Nat} (h : Marked w g l) (hb : Bel w w') : Marked w' g l := (Below.block hb g h.lt).trans h
theorem Marked.conv {w : World} {g : Nat} {l : List Nat} {cap : Nat} (h : Marked w g l) : (convert 24 9 (.slice (some ⟨g, 0, none⟩) l.length cap)).run Tryd.prog w = .ok (.string (strN l)) w := by
  refine run_convert_bytes_arg w 24 5 u24 u5 g 0 l.length cap _ (by simp) (fun i hi => ?_) 9 u9
  rw [Nat.zero_add, (marked_cell h).1 i hi]
  simp [hi]
set_option maxRecDepth 10000 in
set_option maxHeartbeats 2000000 in
theorem kept_in (a : Option Addr) (c g : Nat) (l : List Nat) (hm : l.length ≤ 100000) (w : World) (hs : Src w a l.length c l) (hg : Marked w g l) :
    Calls Tryd.prog 10 #[.slice (some ⟨g, 0, none⟩) l.length (l.length + 6), .slice a l.length c] w fun e w' => e = .returned (.bool true) ∧ Below w.heap.size w w' := by
  have hcap := hs.cap
  have cv1 : ∀ w', Bel w w' → (convert 24 9 (.slice (some ⟨g, 0, none⟩) l.length (l.length + 6))).run Tryd.prog w' = .ok (.string (strN l)) w' := fun w' h => (hg.bel h).conv
  have cv2 : ∀ w', Bel w w' → (convert 24 9 (.slice a l.length c)).run Tryd.prog w' = .ok (.string (strN l)) w' := fun w' h => (hs.bel h).conv
  generalize hn : l.length = n at *
  replace hs := Lib.hid hs
  replace hg := Lib.hid hg
  replace hn := Lib.hid hn
  have m1 : IntKind.i64.wrap ((n : Int) + 6) = (n : Int) + 6 := by rw [IntKind.wrap_i64]; omega
  have m2 : (0 : Int) ≤ (n : Int) := by omega
  have m3 : (n : Int) ≤ ((n + 6 : Nat) : Int) := by omega
  have m4 : (n : Int) ≤ (n : Int) + 6 := by omega
  go_enter Tryd.func10, Tryd.ntmps10
  go_wp2_with fail
  refine wp_region_bel (by kernel_rfl) (by kernel_rfl) ?_
  repeat (first
    | go_big_quiet_skip
    | (go_big_quiet_want
       first
         | (refine BigFrame.quiet_move _ rfl ?_
            simp only [Act.put, Act.eval, List.setIfInBounds_toArray, List.set_cons_zero, List.set_cons_succ, List.getD_toArray, List.getD_cons_zero, List.getD_cons_succ]
            go_big_quiet_on)
         | (refine BigFrame.quiet_assign _ rfl ?_
            simp only [Act.put, Act.eval, List.setIfInBounds_toArray, List.set_cons_zero, List.set_cons_succ, List.getD_toArray, List.getD_cons_zero, List.getD_cons_succ]
            go_big_quiet_on)
         | (refine quiet_val ?_
            apply Exists.intro
            refine ⟨fun w' hC => ?_, ?_⟩
            · go_simp
              with_reducible rfl
            simp only [Act.put, List.setIfInBounds_toArray, List.set_cons_zero, List.set_cons_succ]
            go_big_quiet_on)))
  refine wpQuiet_nil ?_
  intro wq hq

  have hmk := (hg.out.bel hq)
  have hck := (marked_cell hmk).2
  rw [hn.out] at hck
  replace hck := Lib.hid hck
  have hq2 := Lib.hid hq
  clear cv1 cv2 m1 m2 m3 m4 hmk hq
  go_wp2_with fail
  go_loop [6] (fun i => ∃ k : Nat, k ≤ 6 ∧ i = .int .i64 k) (fun i => 6 - (intOf i).toNat)
  case atStart => exact ⟨0, by omega, rfl⟩
  case round =>
    obtain ⟨k, hk, rfl⟩ := hrel
    by_cases hlt : k < 6
    · have hc := hck.out k hlt
      go_wp2
      go_round
      case rel => exact ⟨k + 1, by omega, by go_num⟩
      case measure => simp [intOf]; omega
    · have e : k = 6 := by omega
      subst e
      go_wp2
      go_ret
      exact ⟨rfl, hq2.out⟩
end Go.Proofs.YtficnnlajpfkbaaDoor
