/- The program's frame of bytes: the bytes and their sum. -/
import Derived.Test.YtficnnlajpfkbaaDoorW4
import Derived.OwnWalk
import Derived.Maps.AppendAt
import Derived.Laws.AppendOwnNone
namespace Go.Proofs.YtficnnlajpfkbaaDoor
open Go.RowKit
theorem info5 : (Tryd.prog.info? 5).map (fun i => (i.zero, i.size, i.bytes)) = some (some (.int .u8 0), 1, 1) := by kernel_rfl
theorem cells4_new (w : World) (x0 x1 x2 x3 : Value) (t : TypeId) : ∀ j u, [x0, x1, x2, x3][j]? = some u → (w.alloc (.cells #[x0, x1, x2, x3] t)).cell? ((⟨w.heap.size, 0, none⟩ : Addr).add j) = some u := by
  intro j u hj
  match j, hj with
  | 0, hj => simp at hj; subst hj; simp [Addr.add]
  | 1, hj => simp at hj; subst hj; simp [Addr.add]
  | 2, hj => simp at hj; subst hj; simp [Addr.add]
  | 3, hj => simp at hj; subst hj; simp [Addr.add]
  | n + 4, hj => simp at hj
/-- Block g is l, whole. -/
def Row (w : World) (g : Nat) (l : List Nat) : Prop := w.heap[g]? = some (.cells (row l) 5 (0, 0))
theorem Row.lt {w : World} {g : Nat} {l : List Nat} (h : Row w g l) : g < w.heap.size := lt_of_block h
theorem Row.bel {w w' : World} {g : Nat} {l : List Nat} (h : Row w g l) (hb : Bel w w') : Row w' g l := (Below.block hb g h.lt).trans h
theorem Row.src {w : World} {g : Nat} {l : List Nat} (h : Row w g l) (hs : ∀ x ∈ l, x ≤ 255) : Src w (some ⟨g, 0, none⟩) l.length l.length l := Src.of_row rfl h row_get hs (Nat.le_refl _)
/-- A row of one's own, of full length. -/
theorem Row.of_owns {w : World} {base g n : Nat} {xs : List Value} {l : List Nat} (h : w.ownsRow base 5 1 (.slice (some ⟨g, 0, none⟩) n n) n xs) (hx : xs = l.map encN) (hl : l.length = n) : Row w g l := by
  rcases h.2 with ⟨h1, _⟩ | ⟨gg, cap, cur, hv, _, hh, _, _, hcs, htk⟩
  · simp at h1
  · simp only [Value.slice.injEq, Option.some.injEq, Addr.mk.injEq, and_true, true_and] at hv
    obtain ⟨rfl, rfl⟩ := hv
    have e : cur.toList = l.map encN := by
      rw [← hx, ← htk, List.take_of_length_le (by rw [Array.length_toList, hcs]; omega)]
    have e2 : cur = row l := by unfold row; rw [← e]
    rw [e2] at hh
    exact hh
def GivesFrame (w0 : World) (l : List Nat) (e : Ending) (w' : World) : Prop :=
  ∃ g, e = .returned (.slice (some ⟨g, 0, none⟩) (l.length + 4) (l.length + 4)) ∧ w0.heap.size ≤ g ∧ Row w' g (l ++ fourL (crcN 0 l)) ∧ Below w0.heap.size w0 w'
set_option maxRecDepth 100000 in
set_option maxHeartbeats 2000000 in
theorem framed_in (a : Option Addr) (c : Nat) (l : List Nat) (w : World) (hs : Src w a l.length c l) (hT : Tab w) (hm : l.length ≤ 10000) :
    Calls Tryd.prog 12 #[.slice a l.length c] w (GivesFrame w l) := by
  obtain ⟨i0, hi, hz0, hz1, hz2⟩ := info_parts info5
  have b1 := Bel.new w (.cells #[.slice a l.length c] 24)
  have hsum := sum_in _ 1 1 [l] _ (one_part (World.alloc_heap_new w (.cells #[.slice a l.length c] 24)) (hs.bel b1)) (hT.bel b1) (by decide) (by simpa using (by omega : l.length ≤ 100000))
  rw [show ([l] : List (List Nat)).flatten = l by simp] at hsum
  have hlt := crcN_lt (s := 0) l
  have hwr := fun w => written_in (crcN 0 l) hlt w
  have h4 : (row (fourL (crcN 0 l))).toList = (fourL (crcN 0 l)).map encN := rfl
  have hq : ∃ q0 q1 q2 q3 : Int, row (fourL (crcN 0 l)) = #[.int .u8 q0, .int .u8 q1, .int .u8 q2, .int .u8 q3] := ⟨_, _, _, _, rfl⟩
  obtain ⟨q0, q1, q2, q3, hq⟩ := hq
  rw [hq] at hwr h4
  unfold GivesFrame
  generalize hcr : fourL (crcN 0 l) = fl at *
  generalize crcN 0 l = cr at *
  have hfl : fl.length = 4 := by rw [← hcr]; rfl
  have hnil := hs.nil
  have hcl := hs.cells
  replace hnil := Lib.hid hnil
  replace hcl := Lib.hid hcl
  replace hs := Lib.hid hs
  replace h4 := Lib.hid h4
  replace hfl := Lib.hid hfl
  replace b1 := Lib.hid b1
  replace hwr := Lib.hid hwr
  replace hsum := Lib.hid hsum
  clear hq hcr hlt hT
  go_enter Tryd.func12, Tryd.ntmps12
  go_wp2_with (first
    | (go_at_call 8; refine hsum.out.mono ?_; rintro e w' ⟨rfl, rfl⟩)
    | (go_at_call 16; refine (hwr.out _).mono ?_; rintro e w2 ⟨rfl, hb2⟩; replace hb2 := Lib.hid (b1.out.trans (hb2.mono b1.out.size)))
    | (at_make; refine wpList_make_own _ rfl _ _ 24 rfl w.heap.size 5 i0 (.int .u8 0) 1 Tryd.underlying24 hi hz0 hz1 .i64 .i64 _ (l.length + 4) rfl rfl (by omega) (by rw [hz2]; omega) (by simp [maxLen]; omega) (by have := hb2.out.size; simp; omega) ?_; intro w4 hown hg4; simp only [World.size_alloc] at hown)
    | (at_builtin; refine wpList_append_fits_any _ rfl _ _ 24 rfl w.heap.size 5 i0 1 Tryd.underlying24 hi hz1 (w2.heap.size + 1) 0 (l.length + 4) [] rfl hown a l.length c (l.map encN) rfl (by simp) hnil.out (fun ad e j u hu => ?hcells) (by intro u hu; obtain ⟨x, _, rfl⟩ := List.mem_map.1 hu; rfl) (by omega) ?_; rotate_left; intro w5 hown5 hg5; clear hown; simp only [Nat.zero_add, List.nil_append] at hown5)
    | (at_builtin; refine wpList_append_fits _ rfl _ _ 24 rfl w.heap.size 5 i0 1 Tryd.underlying24 hi hz1 (w2.heap.size + 1) l.length (l.length + 4) (l.map encN) rfl hown5 ⟨w2.heap.size, 0, none⟩ 4 4 [.int .u8 q0, .int .u8 q1, .int .u8 q2, .int .u8 q3] rfl rfl ?hc4 (by simp [Value.oneCell']) (by omega) ?_; rotate_left; intro w6 hown6 hg6))
  case hcells =>
    have b5 := b1.out
    have hlt : (ad.add j).block < w.heap.size := World.block_lt_of_cell? _ _ (hcl.out ad e j u hu)
    have hs2 := hb2.out.size
    rw [World.cell?_of_block (hg4.block _ (by simp; omega) (by simp)), World.cell?_of_block ((Below.heap_alloc w2 _ _ (by omega)).trans (hb2.out.block _ hlt))]
    exact hcl.out ad e j u hu
  case hc4 =>
    intro j u hj
    have := cells4_new w2 (.int .u8 q0) (.int .u8 q1) (.int .u8 q2) (.int .u8 q3) 42 j u hj
    have hb : ((⟨w2.heap.size, 0, none⟩ : Addr).add j).block = w2.heap.size := by unfold Addr.add; split <;> rfl
    rw [World.cell?_of_block (hg5.block _ (by rw [hb]; have := hg4.size; simp at this; omega) (by rw [hb]; simp)), World.cell?_of_block (hg4.block _ (by rw [hb]; simp) (by simp))]
    exact this
  go_ret
  refine ⟨w2.heap.size + 1, rfl, by have := hb2.out.size; omega, ?_, ?_⟩
  · exact Row.of_owns hown6 (by rw [h4.out]; simp) (by rw [List.length_append, hfl.out])
  · have s2 := hb2.out.size
    have c1 := (hb2.out.alloc s2 (.cells #[.int .u8 q0, .int .u8 q1, .int .u8 q2, .int .u8 q3] 42)).grown hg4 (by simp; omega) (fun k e => by cases e)
    have c2 := c1.grown hg5 c1.size (fun k e => by cases e; omega)
    exact c2.grown hg6 c2.size (fun k e => by cases e; omega)
end Go.Proofs.YtficnnlajpfkbaaDoor
