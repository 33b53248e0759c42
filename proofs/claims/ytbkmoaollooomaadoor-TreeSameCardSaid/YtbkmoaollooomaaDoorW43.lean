/- TreeSame. -/
import Derived.Test.YtbkmoaollooomaaDoorW42
import Derived.Test.YtbkmoaollooomaaDoorW38
import Derived.Test.YtbkmoaollooomaaDoorW19
import Derived.Deep.RegionHeld3
namespace Go.Proofs.YtbkmoaollooomaaDoor
open Go.RowKit
open Go.Tree7
/-- What Of gives back where there is room. -/
def OfGives (t : T) (w : World) (e : Ending) (w' : World) : Prop := ∃ (m : T) (d : Int), e = .returned (.tuple #[.agg m.cells.toArray, .int .i64 d]) ∧ Below w.heap.size w w' ∧ T.In w' w'.heap.size m ∧ m.strip = t.strip
theorem of_small {w0 : World} {t : T} (hT : T.In w0 w0.heap.size t) (hsz : t.size < 2000) (w' : World) (h : Below w0.heap.size w0 w') : Calls Tryd.prog 9 #[.agg t.cells.toArray, .int .i64 2000] w' (OfGives t w') := by
  have := of_in (Nat.le_refl _) t 2000 w' (by decide) (by decide) hT h
  rw [show ((2000 : Nat) : Int) = 2000 from rfl] at this
  refine this.mono ?_
  rintro e w1 ⟨m, h1, h2, h3⟩
  exact ⟨m, _, h1, h2, (h3 hsz).1.toIn (fun b hb => hb.2), (h3 hsz).2⟩
theorem same_self (a : T) : sameT a a = rightB a := by
  unfold sameT
  rw [(eqT_iff a a).2 rfl, Bool.and_true]
theorem heavy_no2 {t : T} (h : heavyB t = false) : t.size < 2000 := by
  unfold heavyB at h
  simp only [Bool.or_eq_false_iff, decide_eq_false_iff_not] at h
  omega
/-- The node that the law lays. -/
def otherT : T := .mk 5 0 0 0 0 none 0 0 0 ⟨#[111, 116, 104, 101, 114]⟩ []
set_option maxRecDepth 100000 in
set_option maxHeartbeats 16000000 in
theorem treeSame_in {a b : T} {w : World} (hTa : T.In w w.heap.size a) (hTb : T.In w w.heap.size b) (hTab : S1.Tab w) : Calls Tryd.prog 4 #[.agg a.cells.toArray, .agg b.cells.toArray] w fun e w' => e = .returned (.bool true) ∧ Below w.heap.size w w' := by
  have hb0 : Below w.heap.size w ((w.alloc (.cells a.cells.toArray 27)).alloc (.cells b.cells.toArray 27)) := ((Below.refl w.heap.size w).alloc (Nat.le_refl _) _).alloc (by simp) _
  have hA0 := (hTa.keep hb0).mono hb0.size
  have hB0 := (hTb.keep hb0).mono hb0.size
  have hTab0 := hTab.below hb0 hTab.1
  have hbA : Hid (((w.alloc (.cells a.cells.toArray 27)).alloc (.cells b.cells.toArray 27)).heap[w.heap.size]? = some (.cells a.cells.toArray 27 (0, 0))) := Lib.hid ((Below.heap_alloc _ _ _ (by simp)).trans (World.alloc_heap_new _ _))
  have hbB : Hid (((w.alloc (.cells a.cells.toArray 27)).alloc (.cells b.cells.toArray 27)).heap[w.heap.size + 1]? = some (.cells b.cells.toArray 27 (0, 0))) := Lib.hid (by have := World.alloc_heap_new (w.alloc (.cells a.cells.toArray 27)) (.cells b.cells.toArray 27); rw [World.size_alloc] at this; exact this)
  have hlt0 : w.heap.size < ((w.alloc (.cells a.cells.toArray 27)).alloc (.cells b.cells.toArray 27)).heap.size := by simp; omega
  have hlt1 : w.heap.size + 1 < ((w.alloc (.cells a.cells.toArray 27)).alloc (.cells b.cells.toArray 27)).heap.size := by simp
  have hfa := all_fits hTa
  have hfb := all_fits hTb
  generalize hW0 : (w.alloc (.cells a.cells.toArray 27)).alloc (.cells b.cells.toArray 27) = W0 at *
  have AL := Lib.hid (fun w' (h : Below W0.heap.size W0 w') => alive_in w' (hTab0.below h hTab0.1))
  have HVA := Lib.hid (fun w' (h : Below W0.heap.size W0 w') => heavy_in ((hA0.keep h).mono h.size) (fun s hs => by have := (hfa s hs).1.2.2.2.2; unfold maxLen at this; omega))
  have HVB := Lib.hid (fun w' (h : Below W0.heap.size W0 w') => heavy_in ((hB0.keep h).mono h.size) (fun s hs => by have := (hfb s hs).1.2.2.2.2; unfold maxLen at this; omega))
  have hsa := heavy_no2 (t := a)
  have hsb := heavy_no2 (t := b)
  generalize heavyB a = Ha at *
  generalize heavyB b = Hb at *
  have hTA := Lib.hid (fun w' (h : Below W0.heap.size W0 w') => (hA0.keep h).mono h.size)
  have hTB := Lib.hid (fun w' (h : Below W0.heap.size W0 w') => (hB0.keep h).mono h.size)
  have OFA := fun h => of_small hA0 (hsa h)
  have OFB := fun h => of_small hB0 (hsb h)
  replace hb0 := Lib.hid hb0
  replace hW0 := Lib.hid hW0
  clear hTa hTb hTab hTab0 hfa hfb hA0 hB0 hsa hsb
  have hB := Lib.hid (Below.refl W0.heap.size W0)
  cases Ha with
  | true =>
    clear OFA OFB hTA hTB
    cases a with
    | mk k sw0 sw1 sw2 sw3 p cap mn mx tx ks =>
    cases b with
    | mk k' u0' u1' u2' u3' p' cap' mn' mx' tx' ks' =>
    simp only [T.cells] at *
    go_enter Tryd.func4, Tryd.ntmps4
    go_wp2_with fail
    rw [hW0.out]
    go_wp2_with (first | (go_at_call 7; (with_reducible refine (AL.out _ hB.out).mono ?_); rintro e w1 ⟨rfl, hb⟩; replace hB := Lib.hid (hB.out.trans (hb.mono hB.out.size)); clear hb; have hk := cells_of ((hB.out.block _ hlt0).trans hbA.out); have x0 := (hk 0 _ rfl).1; have x1 := (hk 1 _ rfl).1; have x2 := (hk 2 _ rfl).1; have x3 := (hk 3 _ rfl).1; have x4 := (hk 4 _ rfl).1; have x5 := (hk 5 _ rfl).1; have x6 := (hk 6 _ rfl).1; have x7 := (hk 7 _ rfl).1; have x8 := (hk 8 _ rfl).1; clear hk; have hk := cells_of ((hB.out.block _ hlt1).trans hbB.out); have y0 := (hk 0 _ rfl).1; have y1 := (hk 1 _ rfl).1; have y2 := (hk 2 _ rfl).1; have y3 := (hk 3 _ rfl).1; have y4 := (hk 4 _ rfl).1; have y5 := (hk 5 _ rfl).1; have y6 := (hk 6 _ rfl).1; have y7 := (hk 7 _ rfl).1; have y8 := (hk 8 _ rfl).1; clear hk) | (go_at_call 8; (with_reducible refine (HVA.out _ hB.out).mono ?_); rintro e w2 ⟨rfl, hb⟩; replace hB := Lib.hid (hB.out.trans (hb.mono hB.out.size)); clear hb; clear x0 x1 x2 x3 x4 x5 x6 x7 x8 y0 y1 y2 y3 y4 y5 y6 y7 y8; have hk := cells_of ((hB.out.block _ hlt0).trans hbA.out); have x0 := (hk 0 _ rfl).1; have x1 := (hk 1 _ rfl).1; have x2 := (hk 2 _ rfl).1; have x3 := (hk 3 _ rfl).1; have x4 := (hk 4 _ rfl).1; have x5 := (hk 5 _ rfl).1; have x6 := (hk 6 _ rfl).1; have x7 := (hk 7 _ rfl).1; have x8 := (hk 8 _ rfl).1; clear hk; have hk := cells_of ((hB.out.block _ hlt1).trans hbB.out); have y0 := (hk 0 _ rfl).1; have y1 := (hk 1 _ rfl).1; have y2 := (hk 2 _ rfl).1; have y3 := (hk 3 _ rfl).1; have y4 := (hk 4 _ rfl).1; have y5 := (hk 5 _ rfl).1; have y6 := (hk 6 _ rfl).1; have y7 := (hk 7 _ rfl).1; have y8 := (hk 8 _ rfl).1; clear hk))
    go_ret
    exact ⟨rfl, hb0.out.trans (hB.out.mono hb0.out.size)⟩
  | false =>
  cases Hb with
  | true =>
    clear OFA OFB hTA hTB
    cases a with
    | mk k sw0 sw1 sw2 sw3 p cap mn mx tx ks =>
    cases b with
    | mk k' u0' u1' u2' u3' p' cap' mn' mx' tx' ks' =>
    simp only [T.cells] at *
    go_enter Tryd.func4, Tryd.ntmps4
    go_wp2_with fail
    rw [hW0.out]
    go_wp2_with (first | (go_at_call 7; (with_reducible refine (AL.out _ hB.out).mono ?_); rintro e w1 ⟨rfl, hb⟩; replace hB := Lib.hid (hB.out.trans (hb.mono hB.out.size)); clear hb; have hk := cells_of ((hB.out.block _ hlt0).trans hbA.out); have x0 := (hk 0 _ rfl).1; have x1 := (hk 1 _ rfl).1; have x2 := (hk 2 _ rfl).1; have x3 := (hk 3 _ rfl).1; have x4 := (hk 4 _ rfl).1; have x5 := (hk 5 _ rfl).1; have x6 := (hk 6 _ rfl).1; have x7 := (hk 7 _ rfl).1; have x8 := (hk 8 _ rfl).1; clear hk; have hk := cells_of ((hB.out.block _ hlt1).trans hbB.out); have y0 := (hk 0 _ rfl).1; have y1 := (hk 1 _ rfl).1; have y2 := (hk 2 _ rfl).1; have y3 := (hk 3 _ rfl).1; have y4 := (hk 4 _ rfl).1; have y5 := (hk 5 _ rfl).1; have y6 := (hk 6 _ rfl).1; have y7 := (hk 7 _ rfl).1; have y8 := (hk 8 _ rfl).1; clear hk) | (go_at_call 8; (with_reducible refine (HVA.out _ hB.out).mono ?_); rintro e w2 ⟨rfl, hb⟩; replace hB := Lib.hid (hB.out.trans (hb.mono hB.out.size)); clear hb; clear x0 x1 x2 x3 x4 x5 x6 x7 x8 y0 y1 y2 y3 y4 y5 y6 y7 y8; have hk := cells_of ((hB.out.block _ hlt0).trans hbA.out); have x0 := (hk 0 _ rfl).1; have x1 := (hk 1 _ rfl).1; have x2 := (hk 2 _ rfl).1; have x3 := (hk 3 _ rfl).1; have x4 := (hk 4 _ rfl).1; have x5 := (hk 5 _ rfl).1; have x6 := (hk 6 _ rfl).1; have x7 := (hk 7 _ rfl).1; have x8 := (hk 8 _ rfl).1; clear hk; have hk := cells_of ((hB.out.block _ hlt1).trans hbB.out); have y0 := (hk 0 _ rfl).1; have y1 := (hk 1 _ rfl).1; have y2 := (hk 2 _ rfl).1; have y3 := (hk 3 _ rfl).1; have y4 := (hk 4 _ rfl).1; have y5 := (hk 5 _ rfl).1; have y6 := (hk 6 _ rfl).1; have y7 := (hk 7 _ rfl).1; have y8 := (hk 8 _ rfl).1; clear hk) | (go_at_call 8; (with_reducible refine (HVB.out _ hB.out).mono ?_); rintro e w2 ⟨rfl, hb⟩; replace hB := Lib.hid (hB.out.trans (hb.mono hB.out.size)); clear hb; clear x0 x1 x2 x3 x4 x5 x6 x7 x8 y0 y1 y2 y3 y4 y5 y6 y7 y8; have hk := cells_of ((hB.out.block _ hlt0).trans hbA.out); have x0 := (hk 0 _ rfl).1; have x1 := (hk 1 _ rfl).1; have x2 := (hk 2 _ rfl).1; have x3 := (hk 3 _ rfl).1; have x4 := (hk 4 _ rfl).1; have x5 := (hk 5 _ rfl).1; have x6 := (hk 6 _ rfl).1; have x7 := (hk 7 _ rfl).1; have x8 := (hk 8 _ rfl).1; clear hk; have hk := cells_of ((hB.out.block _ hlt1).trans hbB.out); have y0 := (hk 0 _ rfl).1; have y1 := (hk 1 _ rfl).1; have y2 := (hk 2 _ rfl).1; have y3 := (hk 3 _ rfl).1; have y4 := (hk 4 _ rfl).1; have y5 := (hk 5 _ rfl).1; have y6 := (hk 6 _ rfl).1; have y7 := (hk 7 _ rfl).1; have y8 := (hk 8 _ rfl).1; clear hk))
    go_ret
    exact ⟨rfl, hb0.out.trans (hB.out.mono hb0.out.size)⟩
  | false =>
  replace OFA := Lib.hid (OFA rfl)
  replace OFB := Lib.hid (OFB rfl)
  obtain ⟨R, hR⟩ : ∃ R, rightB a = R := ⟨_, rfl⟩
  obtain ⟨M, hM⟩ : ∃ M, sameT a b = M := ⟨_, rfl⟩
  have hRR := Lib.hid hR
  have hMM := Lib.hid hM
  clear hR hM
  have sameM : ∀ (w6 wa : World) (S : Nat → Prop) (m : T), T.InP w6 S m → m.strip = a.strip → (∀ b, S b → b < w6.heap.size) → R = true → Below w6.heap.size w6 wa → Below W0.heap.size W0 wa → Calls Tryd.prog 19 #[.agg m.cells.toArray, .agg a.cells.toArray] wa fun e w' => e = .returned (.bool true) ∧ Below wa.heap.size wa w' := fun w6 wa S m h1 h2 h3 h4 h5 h6 => by
    have hm := ((h1.toIn (B := w6.heap.size) h3).keep h5).mono h5.size
    have := same_in hm (hTA.out _ h6)
    rw [same_strip h2 rfl, same_self, hRR.out, h4] at this
    exact this
  have hsides : ∀ (x y : T), x.strip = a.strip → y.strip = b.strip → rsameT x y = M := fun x y h1 h2 => by rw [rsame_eq, same_strip h1 h2, hMM.out]
  have hrx : ∀ (x : T), x.strip = a.strip → rightB x = R := fun x h => by rw [right_of_strip h, hRR.out]
  have hzx : ∀ (z x : T), z.strip = a.strip → x.strip = a.strip → R = true → rsameT z x = true := fun z x h1 h2 h3 => by rw [rsame_eq, same_strip h1 h2, same_self, hRR.out, h3]
  replace sameM := Lib.hid sameM
  replace hsides := Lib.hid hsides
  replace hrx := Lib.hid hrx
  replace hzx := Lib.hid hzx
  have SAB0 := Lib.hid (fun w' (h : Below W0.heap.size W0 w') => by have := same_in (hTA.out w' h) (hTB.out w' h); rw [hMM.out] at this; exact this)
  have SAA0 := Lib.hid (fun w' (h : Below W0.heap.size W0 w') => by have := same_in (hTA.out w' h) (hTA.out w' h); rw [same_self, hRR.out] at this; exact this)
  obtain ⟨GG, hGG⟩ : ∃ GG, GG = fun wx => GivesCopied wx a R := ⟨_, rfl⟩
  have CP0 := Lib.hid (fun w' (h : Below W0.heap.size W0 w') => show Calls Tryd.prog 21 #[.agg a.cells.toArray] w' (GG w') by rw [hGG]; exact copy_in (hTA.out w' h) hRR.out)
  have GT : Hid (∀ wx e w6, R = true → GG wx e w6 → GivesCopy wx a e w6) := Lib.hid fun wx e w6 h1 h2 => by rw [hGG] at h2; unfold GivesCopied at h2; rw [if_pos h1] at h2; exact h2
  have GF : Hid (∀ wx e w6, R = false → GG wx e w6 → e = .returned (.agg #[.int .i64 0, .int .u64 0, .int .u64 0, .int .u64 0, .int .u64 0, .slice none 0 0, .int .i64 0, .int .i64 0, .string ⟨#[]⟩]) ∧ Below wx.heap.size wx w6) := Lib.hid fun wx e w6 h1 h2 => by rw [hGG] at h2; unfold GivesCopied at h2; rw [if_neg (by simp [h1])] at h2; exact h2
  clear hGG
  cases a with
  | mk k sw0 sw1 sw2 sw3 p cap mn mx tx ks =>
  cases b with
  | mk k' u0' u1' u2' u3' p' cap' mn' mx' tx' ks' =>
  simp only [T.cells] at *
  go_enter Tryd.func4, Tryd.ntmps4
  go_wp2_with fail
  rw [hW0.out]
  go_wp2_with (first | (go_at_call 7; (with_reducible refine (AL.out _ hB.out).mono ?_); rintro e w1 ⟨rfl, hb⟩; replace hB := Lib.hid (hB.out.trans (hb.mono hB.out.size)); clear hb; have hk := cells_of ((hB.out.block _ hlt0).trans hbA.out); have x0 := (hk 0 _ rfl).1; have x1 := (hk 1 _ rfl).1; have x2 := (hk 2 _ rfl).1; have x3 := (hk 3 _ rfl).1; have x4 := (hk 4 _ rfl).1; have x5 := (hk 5 _ rfl).1; have x6 := (hk 6 _ rfl).1; have x7 := (hk 7 _ rfl).1; have x8 := (hk 8 _ rfl).1; clear hk; have hk := cells_of ((hB.out.block _ hlt1).trans hbB.out); have y0 := (hk 0 _ rfl).1; have y1 := (hk 1 _ rfl).1; have y2 := (hk 2 _ rfl).1; have y3 := (hk 3 _ rfl).1; have y4 := (hk 4 _ rfl).1; have y5 := (hk 5 _ rfl).1; have y6 := (hk 6 _ rfl).1; have y7 := (hk 7 _ rfl).1; have y8 := (hk 8 _ rfl).1; clear hk) | (go_at_call 8; (with_reducible refine (HVA.out _ hB.out).mono ?_); rintro e w2 ⟨rfl, hb⟩; replace hB := Lib.hid (hB.out.trans (hb.mono hB.out.size)); clear hb; clear x0 x1 x2 x3 x4 x5 x6 x7 x8 y0 y1 y2 y3 y4 y5 y6 y7 y8; have hk := cells_of ((hB.out.block _ hlt0).trans hbA.out); have x0 := (hk 0 _ rfl).1; have x1 := (hk 1 _ rfl).1; have x2 := (hk 2 _ rfl).1; have x3 := (hk 3 _ rfl).1; have x4 := (hk 4 _ rfl).1; have x5 := (hk 5 _ rfl).1; have x6 := (hk 6 _ rfl).1; have x7 := (hk 7 _ rfl).1; have x8 := (hk 8 _ rfl).1; clear hk; have hk := cells_of ((hB.out.block _ hlt1).trans hbB.out); have y0 := (hk 0 _ rfl).1; have y1 := (hk 1 _ rfl).1; have y2 := (hk 2 _ rfl).1; have y3 := (hk 3 _ rfl).1; have y4 := (hk 4 _ rfl).1; have y5 := (hk 5 _ rfl).1; have y6 := (hk 6 _ rfl).1; have y7 := (hk 7 _ rfl).1; have y8 := (hk 8 _ rfl).1; clear hk) | (go_at_call 8; (with_reducible refine (HVB.out _ hB.out).mono ?_); rintro e w2 ⟨rfl, hb⟩; replace hB := Lib.hid (hB.out.trans (hb.mono hB.out.size)); clear hb; clear x0 x1 x2 x3 x4 x5 x6 x7 x8 y0 y1 y2 y3 y4 y5 y6 y7 y8; have hk := cells_of ((hB.out.block _ hlt0).trans hbA.out); have x0 := (hk 0 _ rfl).1; have x1 := (hk 1 _ rfl).1; have x2 := (hk 2 _ rfl).1; have x3 := (hk 3 _ rfl).1; have x4 := (hk 4 _ rfl).1; have x5 := (hk 5 _ rfl).1; have x6 := (hk 6 _ rfl).1; have x7 := (hk 7 _ rfl).1; have x8 := (hk 8 _ rfl).1; clear hk; have hk := cells_of ((hB.out.block _ hlt1).trans hbB.out); have y0 := (hk 0 _ rfl).1; have y1 := (hk 1 _ rfl).1; have y2 := (hk 2 _ rfl).1; have y3 := (hk 3 _ rfl).1; have y4 := (hk 4 _ rfl).1; have y5 := (hk 5 _ rfl).1; have y6 := (hk 6 _ rfl).1; have y7 := (hk 7 _ rfl).1; have y8 := (hk 8 _ rfl).1; clear hk) | (go_at_call 9; (with_reducible refine (OFA.out _ hB.out).mono ?_); rintro e w3 ⟨⟨kx, u0x, u1x, u2x, u3x, px, capx, mnx, mxx, txx, ksx⟩, dx, rfl, hb, hmx, hsx⟩; simp only [T.cells]; replace hB := Lib.hid (hB.out.trans (hb.mono hB.out.size)); clear hb; have hw3 : w.heap.size + 1 < w3.heap.size := (Nat.lt_of_lt_of_le hlt1 hB.out.size); clear x0 x1 x2 x3 x4 x5 x6 x7 x8 y0 y1 y2 y3 y4 y5 y6 y7 y8; have hk := cells_of ((hB.out.block _ hlt0).trans hbA.out); have x0 := (hk 0 _ rfl).1; have x1 := (hk 1 _ rfl).1; have x2 := (hk 2 _ rfl).1; have x3 := (hk 3 _ rfl).1; have x4 := (hk 4 _ rfl).1; have x5 := (hk 5 _ rfl).1; have x6 := (hk 6 _ rfl).1; have x7 := (hk 7 _ rfl).1; have x8 := (hk 8 _ rfl).1; clear hk; have hk := cells_of ((hB.out.block _ hlt1).trans hbB.out); have y0 := (hk 0 _ rfl).1; have y1 := (hk 1 _ rfl).1; have y2 := (hk 2 _ rfl).1; have y3 := (hk 3 _ rfl).1; have y4 := (hk 4 _ rfl).1; have y5 := (hk 5 _ rfl).1; have y6 := (hk 6 _ rfl).1; have y7 := (hk 7 _ rfl).1; have y8 := (hk 8 _ rfl).1; clear hk; have hmX := Lib.hid ((hmx.keep ((Below.refl w3.heap.size w3).alloc (Nat.le_refl _) (.cells #[.int .i64 kx, .int .u64 u0x, .int .u64 u1x, .int .u64 u2x, .int .u64 u3x, .slice px ksx.length capx, .int .i64 mnx, .int .i64 mxx, .string txx] 32))).mono (show w3.heap.size ≤ (w3.alloc (.cells #[.int .i64 kx, .int .u64 u0x, .int .u64 u1x, .int .u64 u2x, .int .u64 u3x, .slice px ksx.length capx, .int .i64 mnx, .int .i64 mxx, .string txx] 32)).heap.size by simp)); have hsX := Lib.hid hsx; have hbX := Lib.hid (World.alloc_heap_new w3 (.cells #[.int .i64 kx, .int .u64 u0x, .int .u64 u1x, .int .u64 u2x, .int .u64 u3x, .slice px ksx.length capx, .int .i64 mnx, .int .i64 mxx, .string txx] 32)); replace hB := Lib.hid (hB.out.alloc hB.out.size (.cells #[.int .i64 kx, .int .u64 u0x, .int .u64 u1x, .int .u64 u2x, .int .u64 u3x, .slice px ksx.length capx, .int .i64 mnx, .int .i64 mxx, .string txx] 32)); clear hmx hsx) | (go_at_call 9; (with_reducible refine (OFB.out _ hB.out).mono ?_); rintro e w4 ⟨⟨ky, u0y, u1y, u2y, u3y, py, capy, mny, mxy, txy, ksy⟩, dy, rfl, hb, hmy, hsy⟩; simp only [T.cells]; have hX4 := Lib.hid hb; replace hB := Lib.hid (hB.out.trans (hb.mono hB.out.size)); clear hb x0 x1 x2 x3 x4 x5 x6 x7 x8 y0 y1 y2 y3 y4 y5 y6 y7 y8; have hmY := Lib.hid ((hmy.keep ((Below.refl w4.heap.size w4).alloc (Nat.le_refl _) (.cells #[.int .i64 ky, .int .u64 u0y, .int .u64 u1y, .int .u64 u2y, .int .u64 u3y, .slice py ksy.length capy, .int .i64 mny, .int .i64 mxy, .string txy] 32))).mono (show w4.heap.size ≤ (w4.alloc (.cells #[.int .i64 ky, .int .u64 u0y, .int .u64 u1y, .int .u64 u2y, .int .u64 u3y, .slice py ksy.length capy, .int .i64 mny, .int .i64 mxy, .string txy] 32)).heap.size by simp)); have hsY := Lib.hid hsy; have hbY := Lib.hid (World.alloc_heap_new w4 (.cells #[.int .i64 ky, .int .u64 u0y, .int .u64 u1y, .int .u64 u2y, .int .u64 u3y, .slice py ksy.length capy, .int .i64 mny, .int .i64 mxy, .string txy] 32)); replace hB := Lib.hid (hB.out.alloc hB.out.size (.cells #[.int .i64 ky, .int .u64 u0y, .int .u64 u1y, .int .u64 u2y, .int .u64 u3y, .slice py ksy.length capy, .int .i64 mny, .int .i64 mxy, .string txy] 32)); clear hmy hsy))
  have hbAk := Lib.hid ((hB.out.block _ hlt0).trans hbA.out)
  have hbBk := Lib.hid ((hB.out.block _ hlt1).trans hbB.out)
  have hX5 : Below (w3.alloc (.cells #[.int .i64 kx, .int .u64 u0x, .int .u64 u1x, .int .u64 u2x, .int .u64 u3x, .slice px ksx.length capx, .int .i64 mnx, .int .i64 mxx, .string txx] 32)).heap.size (w3.alloc (.cells #[.int .i64 kx, .int .u64 u0x, .int .u64 u1x, .int .u64 u2x, .int .u64 u3x, .slice px ksx.length capx, .int .i64 mnx, .int .i64 mxx, .string txx] 32)) (w4.alloc (.cells #[.int .i64 ky, .int .u64 u0y, .int .u64 u1y, .int .u64 u2y, .int .u64 u3y, .slice py ksy.length capy, .int .i64 mny, .int .i64 mxy, .string txy] 32)) := hX4.out.trans (((Below.refl w4.heap.size w4).alloc (Nat.le_refl _) _).mono hX4.out.size)
  have hbXk := Lib.hid ((hX5.block w3.heap.size (by simp)).trans hbX.out)
  have hmXk := Lib.hid ((hmX.out.keep hX5).mono hX5.size)
  have hw34 : w3.heap.size < (w4.alloc (.cells #[.int .i64 ky, .int .u64 u0y, .int .u64 u1y, .int .u64 u2y, .int .u64 u3y, .slice py ksy.length capy, .int .i64 mny, .int .i64 mxy, .string txy] 32)).heap.size := Nat.lt_of_lt_of_le (by simp) hX5.size
  have hbYk := hbY
  have hmYk := hmY
  have hfin := Lib.hid (hb0.out.trans (hB.out.mono hb0.out.size))
  have hw0k : W0.heap.size ≤ (w4.alloc (.cells #[.int .i64 ky, .int .u64 u0y, .int .u64 u1y, .int .u64 u2y, .int .u64 u3y, .slice py ksy.length capy, .int .i64 mny, .int .i64 mxy, .string txy] 32)).heap.size := hB.out.size
  clear hX4 hX5 hbX hbY hmX hmY AL HVA HVB OFB hW0 hbA hbB hTB
  generalize w4.alloc (.cells #[.int .i64 ky, .int .u64 u0y, .int .u64 u1y, .int .u64 u2y, .int .u64 u3y, .slice py ksy.length capy, .int .i64 mny, .int .i64 mxy, .string txy] 32) = wk at *
  have SAB := Lib.hid (fun w' (h : Bel wk w') => SAB0.out w' (hB.out.trans (Below.mono h hB.out.size)))
  have SAA := Lib.hid (fun w' (h : Bel wk w') => SAA0.out w' (hB.out.trans (Below.mono h hB.out.size)))
  have CP := Lib.hid (fun w' (h : Bel wk w') => CP0.out w' (hB.out.trans (Below.mono h hB.out.size)))
  have SXY0 := fun w' (h : Bel wk w') => rsame_in ((hmXk.out.keep h).mono (Below.size h)) ((hmYk.out.keep h).mono (Below.size h))
  rw [hsides.out _ _ hsX.out hsY.out] at SXY0
  have RX0 := fun w' (h : Bel wk w') => rright_in ((hmXk.out.keep h).mono (Below.size h))
  rw [hrx.out _ hsX.out] at RX0
  simp only [T.cells] at SXY0 RX0
  have SXY := Lib.hid SXY0
  have RX := Lib.hid RX0
  clear SAB0 SAA0 CP0 SXY0 RX0 hsides hrx hmYk hsY
  refine wp_region_held_drew (S := Bel wk) (by kernel_rfl) (Bel.drew (Bel.refl _)) (fun hHeld => ?_)
  refine wpAnyH_take (i := 0) (v := ?v0u1) rfl (by kernel_rfl) (by kernel_rfl) (by kernel_rfl) (fun _ _ _ h => h) (Or.inl ⟨by rfl, ?h0u1⟩) hHeld ?r0u1
  case h0u1 => (intro wq hSw; have hk := cells_of (kept_row hbAk.out hSw); have y0 := (hk 0 _ rfl).1; have y1 := (hk 1 _ rfl).1; have y2 := (hk 2 _ rfl).1; have y3 := (hk 3 _ rfl).1; have y4 := (hk 4 _ rfl).1; have y5 := (hk 5 _ rfl).1; have y6 := (hk 6 _ rfl).1; have y7 := (hk 7 _ rfl).1; have y8 := (hk 8 _ rfl).1; clear hk; go_simp <;> with_reducible rfl)
  try simp only [Act.put, List.setIfInBounds_toArray]
  refine wpAnyH_take (i := 1) (v := ?v1u2) rfl (by kernel_rfl) (by kernel_rfl) (by kernel_rfl) (fun _ _ _ h => h) (Or.inl ⟨by rfl, ?h1u2⟩) hHeld ?r1u2
  case h1u2 => (intro wq hSw; have hk := cells_of (kept_row hbBk.out hSw); have y0 := (hk 0 _ rfl).1; have y1 := (hk 1 _ rfl).1; have y2 := (hk 2 _ rfl).1; have y3 := (hk 3 _ rfl).1; have y4 := (hk 4 _ rfl).1; have y5 := (hk 5 _ rfl).1; have y6 := (hk 6 _ rfl).1; have y7 := (hk 7 _ rfl).1; have y8 := (hk 8 _ rfl).1; clear hk; go_simp <;> with_reducible rfl)
  try simp only [Act.put]
  refine wpAnyH_take (i := 3) (v := ?v3u3) rfl (by kernel_rfl) (by kernel_rfl) (by kernel_rfl) (fun _ _ _ h => h) (Or.inl ⟨by rfl, ?h3u3⟩) hHeld ?r3u3
  case h3u3 => (intro wq hSw; have hk := cells_of (kept_row hbXk.out hSw); have y0 := (hk 0 _ rfl).1; have y1 := (hk 1 _ rfl).1; have y2 := (hk 2 _ rfl).1; have y3 := (hk 3 _ rfl).1; have y4 := (hk 4 _ rfl).1; have y5 := (hk 5 _ rfl).1; have y6 := (hk 6 _ rfl).1; have y7 := (hk 7 _ rfl).1; have y8 := (hk 8 _ rfl).1; clear hk; go_simp <;> with_reducible rfl)
  try simp only [Act.put]
  refine wpAnyH_take (i := 4) (v := ?v4u4) rfl (by kernel_rfl) (by kernel_rfl) (by kernel_rfl) (fun _ _ _ h => h) (Or.inl ⟨by rfl, ?h4u4⟩) hHeld ?r4u4
  case h4u4 => (intro wq hSw; have hk := cells_of (kept_row hbYk.out hSw); have y0 := (hk 0 _ rfl).1; have y1 := (hk 1 _ rfl).1; have y2 := (hk 2 _ rfl).1; have y3 := (hk 3 _ rfl).1; have y4 := (hk 4 _ rfl).1; have y5 := (hk 5 _ rfl).1; have y6 := (hk 6 _ rfl).1; have y7 := (hk 7 _ rfl).1; have y8 := (hk 8 _ rfl).1; clear hk; go_simp <;> with_reducible rfl)
  try simp only [Act.put]
  refine wpAnyH_ready (rs := [2]) (by kernel_rfl) (by simp) ?_
  refine AllReadyH.cons (o := _) rfl (fun K hK => ?_) AllReadyH.nil
  go_simp
  (go_at_call 19; (with_reducible refine (SAB.out _ hHeld).mono ?_); rintro e w9 ⟨rfl, hb⟩)
  try dsimp only
  refine hK.out _ _ (Bel.step hHeld hb) (fun hHeld2 => ?_)
  clear hK K hHeld
  have hHeld := hHeld2
  clear hHeld2
  try simp only [Act.put, List.setIfInBounds_toArray, List.set_cons_zero, List.set_cons_succ]
  refine wpAnyH_ready (rs := [5]) (by kernel_rfl) (by simp) ?_
  refine AllReadyH.cons (o := _) rfl (fun K hK => ?_) AllReadyH.nil
  go_simp
  (go_at_call 20; (with_reducible refine (SXY.out _ hHeld).mono ?_); rintro e w9 ⟨rfl, hb⟩)
  try dsimp only
  refine hK.out _ _ (Bel.step hHeld hb) (fun hHeld2 => ?_)
  clear hK K hHeld
  have hHeld := hHeld2
  clear hHeld2
  try simp only [Act.put, List.setIfInBounds_toArray, List.set_cons_zero, List.set_cons_succ]
  refine wpAnyH_take (i := 6) (v := ?v6u5) rfl (by kernel_rfl) (by kernel_rfl) (by kernel_rfl) (fun _ _ _ h => h) (Or.inl ⟨by rfl, ?h6u5⟩) hHeld ?r6u5
  case h6u5 => (intro wq hSw; go_simp <;> with_reducible rfl)
  try simp only [Act.put, List.setIfInBounds_toArray]
  refine wpAnyH_take (i := 7) (v := ?v7u6) rfl (by kernel_rfl) (by kernel_rfl) (by kernel_rfl) (fun _ _ _ h => h) (Or.inl ⟨by rfl, ?h7u6⟩) hHeld ?r7u6
  case h7u6 => (intro wq hSw; go_simp <;> with_reducible rfl)
  try simp only [Act.put]
  refine wpAnyH_take (i := 8) (v := ?v8u7) rfl (by kernel_rfl) (by kernel_rfl) (by kernel_rfl) (fun _ _ _ h => h) (Or.inl ⟨by rfl, ?h8u7⟩) hHeld ?r8u7
  case h8u7 => (intro wq hSw; have hk := cells_of (kept_row hbAk.out hSw); have y0 := (hk 0 _ rfl).1; have y1 := (hk 1 _ rfl).1; have y2 := (hk 2 _ rfl).1; have y3 := (hk 3 _ rfl).1; have y4 := (hk 4 _ rfl).1; have y5 := (hk 5 _ rfl).1; have y6 := (hk 6 _ rfl).1; have y7 := (hk 7 _ rfl).1; have y8 := (hk 8 _ rfl).1; clear hk; go_simp <;> with_reducible rfl)
  try simp only [Act.put]
  refine wpAnyH_take (i := 9) (v := ?v9u8) rfl (by kernel_rfl) (by kernel_rfl) (by kernel_rfl) (fun _ _ _ h => h) (Or.inl ⟨by rfl, ?h9u8⟩) hHeld ?r9u8
  case h9u8 => (intro wq hSw; have hk := cells_of (kept_row hbAk.out hSw); have y0 := (hk 0 _ rfl).1; have y1 := (hk 1 _ rfl).1; have y2 := (hk 2 _ rfl).1; have y3 := (hk 3 _ rfl).1; have y4 := (hk 4 _ rfl).1; have y5 := (hk 5 _ rfl).1; have y6 := (hk 6 _ rfl).1; have y7 := (hk 7 _ rfl).1; have y8 := (hk 8 _ rfl).1; clear hk; go_simp <;> with_reducible rfl)
  try simp only [Act.put]
  refine wpAnyH_take (i := 11) (v := ?v11u9) rfl (by kernel_rfl) (by kernel_rfl) (by kernel_rfl) (fun _ _ _ h => h) (Or.inl ⟨by rfl, ?h11u9⟩) hHeld ?r11u9
  case h11u9 => (intro wq hSw; have hk := cells_of (kept_row hbXk.out hSw); have y0 := (hk 0 _ rfl).1; have y1 := (hk 1 _ rfl).1; have y2 := (hk 2 _ rfl).1; have y3 := (hk 3 _ rfl).1; have y4 := (hk 4 _ rfl).1; have y5 := (hk 5 _ rfl).1; have y6 := (hk 6 _ rfl).1; have y7 := (hk 7 _ rfl).1; have y8 := (hk 8 _ rfl).1; clear hk; go_simp <;> with_reducible rfl)
  try simp only [Act.put]
  refine wpAnyH_ready (rs := [10]) (by kernel_rfl) (by simp) ?_
  refine AllReadyH.cons (o := _) rfl (fun K hK => ?_) AllReadyH.nil
  go_simp
  (go_at_call 19; (with_reducible refine (SAA.out _ hHeld).mono ?_); rintro e w9 ⟨rfl, hb⟩)
  try dsimp only
  refine hK.out _ _ (Bel.step hHeld hb) (fun hHeld2 => ?_)
  clear hK K hHeld
  have hHeld := hHeld2
  clear hHeld2
  try simp only [Act.put, List.setIfInBounds_toArray, List.set_cons_zero, List.set_cons_succ]
  refine wpAnyH_ready (rs := [12]) (by kernel_rfl) (by simp) ?_
  refine AllReadyH.cons (o := _) rfl (fun K hK => ?_) AllReadyH.nil
  go_simp
  (go_at_call 11; (with_reducible refine (RX.out _ hHeld).mono ?_); rintro e w9 ⟨rfl, hb⟩)
  try dsimp only
  refine hK.out _ _ (Bel.step hHeld hb) (fun hHeld2 => ?_)
  clear hK K hHeld
  have hHeld := hHeld2
  clear hHeld2
  try simp only [Act.put, List.setIfInBounds_toArray, List.set_cons_zero, List.set_cons_succ]
  refine wpAnyH_take (i := 13) (v := ?v13u10) rfl (by kernel_rfl) (by kernel_rfl) (by kernel_rfl) (fun _ _ _ h => h) (Or.inl ⟨by rfl, ?h13u10⟩) hHeld ?r13u10
  case h13u10 => (intro wq hSw; go_simp <;> with_reducible rfl)
  try simp only [Act.put, List.setIfInBounds_toArray]
  refine wpAnyH_take (i := 14) (v := ?v14u11) rfl (by kernel_rfl) (by kernel_rfl) (by kernel_rfl) (fun _ _ _ h => h) (Or.inl ⟨by rfl, ?h14u11⟩) hHeld ?r14u11
  case h14u11 => (intro wq hSw; go_simp <;> with_reducible rfl)
  try simp only [Act.put]
  refine wpAnyH_done (by kernel_rfl) ?_ _
  have hZ := Lib.hid hHeld
  have hk := cells_of (kept_row hbAk.out hZ.out); have x0 := (hk 0 _ rfl).1; have x1 := (hk 1 _ rfl).1; have x2 := (hk 2 _ rfl).1; have x3 := (hk 3 _ rfl).1; have x4 := (hk 4 _ rfl).1; have x5 := (hk 5 _ rfl).1; have x6 := (hk 6 _ rfl).1; have x7 := (hk 7 _ rfl).1; have x8 := (hk 8 _ rfl).1; clear hk; have hk := cells_of (kept_row hbXk.out hZ.out); have y0 := (hk 0 _ rfl).1; have y1 := (hk 1 _ rfl).1; have y2 := (hk 2 _ rfl).1; have y3 := (hk 3 _ rfl).1; have y4 := (hk 4 _ rfl).1; have y5 := (hk 5 _ rfl).1; have y6 := (hk 6 _ rfl).1; have y7 := (hk 7 _ rfl).1; have y8 := (hk 8 _ rfl).1; clear hk
  cases R with
  | false =>
    have CP2 := CP
    clear CP
    go_wp2_with (first
      | (go_at_call 21; (with_reducible refine (CP2.out _ hZ.out).mono ?_); intro e w6 hg; obtain ⟨rfl, hb⟩ := GF.out _ e w6 rfl hg; clear hg; replace hZ := Lib.hid (Bel.step hZ.out hb); clear hb x0 x1 x2 x3 x4 x5 x6 x7 x8 y0 y1 y2 y3 y4 y5 y6 y7 y8; have hk := cells_of (kept_row hbAk.out hZ.out); have x0 := (hk 0 _ rfl).1; have x1 := (hk 1 _ rfl).1; have x2 := (hk 2 _ rfl).1; have x3 := (hk 3 _ rfl).1; have x4 := (hk 4 _ rfl).1; have x5 := (hk 5 _ rfl).1; have x6 := (hk 6 _ rfl).1; have x7 := (hk 7 _ rfl).1; have x8 := (hk 8 _ rfl).1; clear hk; have hk := cells_of (kept_row hbXk.out hZ.out); have y0 := (hk 0 _ rfl).1; have y1 := (hk 1 _ rfl).1; have y2 := (hk 2 _ rfl).1; have y3 := (hk 3 _ rfl).1; have y4 := (hk 4 _ rfl).1; have y5 := (hk 5 _ rfl).1; have y6 := (hk 6 _ rfl).1; have y7 := (hk 7 _ rfl).1; have y8 := (hk 8 _ rfl).1; clear hk; have lt36 : w3.heap.size < w6.heap.size := (Nat.lt_of_lt_of_le hw34 (Below.size hZ.out)); have lt06 : w.heap.size < w6.heap.size := (Nat.lt_of_lt_of_le hlt0 (Nat.le_trans hw0k (Below.size hZ.out))); have hb9 := Lib.hid (World.alloc_heap_new w6 (.cells #[.int .i64 0, .int .u64 0, .int .u64 0, .int .u64 0, .int .u64 0, .slice none 0 0, .int .i64 0, .int .i64 0, .string ⟨#[]⟩] 27)); have hZ2 := Lib.hid (Bel.step hZ.out ((Below.refl w6.heap.size w6).alloc (Nat.le_refl _) (.cells #[.int .i64 0, .int .u64 0, .int .u64 0, .int .u64 0, .int .u64 0, .slice none 0 0, .int .i64 0, .int .i64 0, .string ⟨#[]⟩] 27))))
      | (go_at_call 11; (with_reducible refine (RX.out _ hZ2.out).mono ?_); rintro e w7 ⟨rfl, hb⟩; have hk := cells_of (kept_row hb9.out hb); have v0 := (hk 0 _ rfl).1; have v5 := (hk 5 _ rfl).1; clear hk; replace hZ2 := Lib.hid (Bel.step hZ2.out hb); clear hb))
    go_ret
    exact ⟨ret_bool (by simp), hfin.out.trans (Below.mono hZ2.out hfin.out.size)⟩
  | true =>
    have CP2 := CP
    clear CP
    go_wp2_with (first
      | (go_at_call 21; (with_reducible refine (CP2.out _ hZ.out).mono ?_); intro e w6 hg; obtain ⟨⟨km, u0m, u1m, u2m, u3m, pm, capm, mnm, mxm, txm, ksm⟩, rfl, hb, hm1, hm2, hm3⟩ := GT.out _ e w6 rfl hg; clear hg; simp only [T.cells]; have hkz := Below.size hZ.out; have hnm : ksm.length ≤ 9223372036854775807 := (by have := T.InP.length hm1; unfold maxLen at this; omega); replace hZ := Lib.hid (Bel.step hZ.out hb); clear hb x0 x1 x2 x3 x4 x5 x6 x7 x8 y0 y1 y2 y3 y4 y5 y6 y7 y8; have hk := cells_of (kept_row hbAk.out hZ.out); have x0 := (hk 0 _ rfl).1; have x1 := (hk 1 _ rfl).1; have x2 := (hk 2 _ rfl).1; have x3 := (hk 3 _ rfl).1; have x4 := (hk 4 _ rfl).1; have x5 := (hk 5 _ rfl).1; have x6 := (hk 6 _ rfl).1; have x7 := (hk 7 _ rfl).1; have x8 := (hk 8 _ rfl).1; clear hk; have hk := cells_of (kept_row hbXk.out hZ.out); have y0 := (hk 0 _ rfl).1; have y1 := (hk 1 _ rfl).1; have y2 := (hk 2 _ rfl).1; have y3 := (hk 3 _ rfl).1; have y4 := (hk 4 _ rfl).1; have y5 := (hk 5 _ rfl).1; have y6 := (hk 6 _ rfl).1; have y7 := (hk 7 _ rfl).1; have y8 := (hk 8 _ rfl).1; clear hk; have lt36 : w3.heap.size < w6.heap.size := (Nat.lt_of_lt_of_le hw34 (Below.size hZ.out)); have lt06 : w.heap.size < w6.heap.size := (Nat.lt_of_lt_of_le hlt0 (Nat.le_trans hw0k (Below.size hZ.out))); have hb9 := Lib.hid (World.alloc_heap_new w6 (.cells #[.int .i64 km, .int .u64 u0m, .int .u64 u1m, .int .u64 u2m, .int .u64 u3m, .slice pm ksm.length capm, .int .i64 mnm, .int .i64 mxm, .string txm] 27)); have hZ2 := Lib.hid (Bel.step hZ.out ((Below.refl w6.heap.size w6).alloc (Nat.le_refl _) (.cells #[.int .i64 km, .int .u64 u0m, .int .u64 u1m, .int .u64 u2m, .int .u64 u3m, .slice pm ksm.length capm, .int .i64 mnm, .int .i64 mxm, .string txm] 27))); have hV := Lib.hid (Below.refl (w6.alloc (.cells #[.int .i64 km, .int .u64 u0m, .int .u64 u1m, .int .u64 u2m, .int .u64 u3m, .slice pm ksm.length capm, .int .i64 mnm, .int .i64 mxm, .string txm] 27)).heap.size (w6.alloc (.cells #[.int .i64 km, .int .u64 u0m, .int .u64 u1m, .int .u64 u2m, .int .u64 u3m, .slice pm ksm.length capm, .int .i64 mnm, .int .i64 mxm, .string txm] 27))); replace hm1 := Lib.hid hm1; replace hm2 := Lib.hid hm2; replace hm3 := Lib.hid hm3; have SMA0 := (fun w' (h : Below (w6.alloc (.cells #[.int .i64 km, .int .u64 u0m, .int .u64 u1m, .int .u64 u2m, .int .u64 u3m, .slice pm ksm.length capm, .int .i64 mnm, .int .i64 mxm, .string txm] 27)).heap.size (w6.alloc (.cells #[.int .i64 km, .int .u64 u0m, .int .u64 u1m, .int .u64 u2m, .int .u64 u3m, .slice pm ksm.length capm, .int .i64 mnm, .int .i64 mxm, .string txm] 27)) w') (h2 : Bel wk w') => sameM.out w6 w' _ _ hm1.out hm2.out (fun b hb => hb.2) rfl (((Below.refl w6.heap.size w6).alloc (Nat.le_refl _) _).trans (h.mono (by simp))) (hB.out.trans (Below.mono h2 hB.out.size))); simp only at SMA0; have SMA := Lib.hid SMA0; clear SMA0)
      | (go_at_call 11; (with_reducible refine (RX.out _ hZ2.out).mono ?_); rintro e w7 ⟨rfl, hb⟩; have hk := cells_of (kept_row hb9.out hb); have v0 := (hk 0 _ rfl).1; have v1 := (hk 1 _ rfl).1; have v2 := (hk 2 _ rfl).1; have v3 := (hk 3 _ rfl).1; have v4 := (hk 4 _ rfl).1; have v5 := (hk 5 _ rfl).1; have v6 := (hk 6 _ rfl).1; have v7 := (hk 7 _ rfl).1; have v8 := (hk 8 _ rfl).1; clear hk; replace hZ2 := Lib.hid (Bel.step hZ2.out hb); replace hV := Lib.hid (hV.out.trans (hb.mono hV.out.size)); clear hb x0 x1 x2 x3 x4 x5 x6 x7 x8 y0 y1 y2 y3 y4 y5 y6 y7 y8; have hk := cells_of (kept_row hbAk.out hZ2.out); have x0 := (hk 0 _ rfl).1; have x1 := (hk 1 _ rfl).1; have x2 := (hk 2 _ rfl).1; have x3 := (hk 3 _ rfl).1; have x4 := (hk 4 _ rfl).1; have x5 := (hk 5 _ rfl).1; have x6 := (hk 6 _ rfl).1; have x7 := (hk 7 _ rfl).1; have x8 := (hk 8 _ rfl).1; clear hk)
      | (go_at_call 19; (with_reducible refine (SMA.out _ hV.out hZ2.out).mono ?_); rintro e w8 ⟨rfl, hb⟩; replace hV := Lib.hid (hV.out.trans (hb.mono hV.out.size)); replace hZ2 := Lib.hid (Bel.step hZ2.out hb); clear hb v0 v1 v2 v3 v4 v5 v6 v7 v8; have hk := cells_of (kept_row hb9.out hV.out); have v5 := (hk 5 _ rfl).1; clear hk))
    clear x0 x1 x2 x3 x4 x5 x6 x7 x8
    have hbx9 := Lib.hid (kept_row hb9.out hV.out)
    have hw68 : w6.heap.size < w8.heap.size := Nat.lt_of_lt_of_le (by simp) (Below.size hV.out)
    obtain ⟨g, hg1, hg2, hg3⟩ : ∃ g, wk.heap.size ≤ g ∧ g ≠ w6.heap.size ∧ (0 < ksm.length → pm = some ⟨g, 0, none⟩ ∧ NRowAt w8 g ksm) := by
      rcases Nat.eq_zero_or_pos ksm.length with h | h
      · exact ⟨w8.heap.size, Below.size hZ2.out, by omega, fun h2 => by omega⟩
      · obtain ⟨g, e, hr⟩ := hm3.out h
        cases hm1.out with
        | mk a1 a2 a3 a4 a5 =>
          obtain ⟨a, e2, hS, -⟩ := a4 0 h
          rw [e] at e2
          cases e2
          exact ⟨g, Nat.le_trans hkz hS.1, Nat.ne_of_lt hS.2, fun _ => ⟨e, (hr.bel ((Below.refl w6.heap.size w6).alloc (Nat.le_refl _) _)).bel hV.out⟩⟩
    replace hg3 := Lib.hid hg3
    have hst0 : Hid (Sg g w8 w8 ∧ (0 < ksm.length → ∃ l : List T, l.length = ksm.length ∧ NRowAt w8 g l)) := Lib.hid ⟨Sg.refl _ _, fun h => ⟨ksm, rfl, (hg3.out h).2⟩⟩
    have hgw : W0.heap.size ≤ g := Nat.le_trans hw0k hg1
    have hB8 := Lib.hid (hB.out.trans (Below.mono hZ2.out hB.out.size))
    have hbA8 := Lib.hid (kept_row hbAk.out hZ2.out)
    have hbX8 := Lib.hid (kept_row hbXk.out hZ2.out)
    have hne0 : w.heap.size ≠ g := by omega
    have hne3 : w3.heap.size ≠ g := by omega
    clear SAB SXY SAA RX CP2 SMA GT GF hm1 hm2 hm3 hV
    go_loopw [67] (fun i wr => ∃ j : Nat, j ≤ ksm.length ∧ i = .int .i64 j ∧ Hid (Sg g w8 wr ∧ (0 < ksm.length → ∃ l : List T, l.length = ksm.length ∧ NRowAt wr g l))) (fun i _ => ksm.length - (intOf i).toNat)
    case atStart => exact ⟨0, Nat.zero_le _, rfl, hst0⟩
    case round =>
      clear hst0 v5
      obtain ⟨j, hj, rfl, hst⟩ := hrel
      have hbx := Sg.block hst.out.1 (Ne.symm hg2) hbx9.out
      have v5 := (cells_of hbx 5 _ rfl).1
      clear hbx
      by_cases hlt : j < ksm.length
      · obtain ⟨hpm, -⟩ := hg3.out (by omega)
        obtain ⟨l, hl, hrow⟩ := hst.out.2 (by omega)
        subst hpm
        have hjl := Lib.hid (show j < l.length by omega)
        have hrow9 := Lib.hid hrow
        have hl' := Lib.hid hl
        clear hrow hl
        have f0 : wr.frozen? ⟨g, j * 9, none⟩ = false := hrow9.out.frozen (j * 9)
        obtain ⟨z0, hz0⟩ : ∃ z, wr.cell? ⟨g, j * 9, none⟩ = some z := row_some hrow9.out hjl.out (q := 0) (by decide)
        have f1 := hrow9.out.frozen (j * 9 + 1)
        obtain ⟨z1, hz1⟩ := row_some hrow9.out hjl.out (q := 1) (by decide)
        have f2 := hrow9.out.frozen (j * 9 + 2)
        obtain ⟨z2, hz2⟩ := row_some hrow9.out hjl.out (q := 2) (by decide)
        have f3 := hrow9.out.frozen (j * 9 + 3)
        obtain ⟨z3, hz3⟩ := row_some hrow9.out hjl.out (q := 3) (by decide)
        have f4 := hrow9.out.frozen (j * 9 + 4)
        obtain ⟨z4, hz4⟩ := row_some hrow9.out hjl.out (q := 4) (by decide)
        have f5 := hrow9.out.frozen (j * 9 + 5)
        obtain ⟨z5, hz5⟩ := row_some hrow9.out hjl.out (q := 5) (by decide)
        have f6 := hrow9.out.frozen (j * 9 + 6)
        obtain ⟨z6, hz6⟩ := row_some hrow9.out hjl.out (q := 6) (by decide)
        have f7 := hrow9.out.frozen (j * 9 + 7)
        obtain ⟨z7, hz7⟩ := row_some hrow9.out hjl.out (q := 7) (by decide)
        have f8 := hrow9.out.frozen (j * 9 + 8)
        obtain ⟨z8, hz8⟩ := row_some hrow9.out hjl.out (q := 8) (by decide)
        go_wp2
        go_roundw
        case rel =>
          have q := hrow9.out.set hjl.out otherT rfl _ rfl
          exact ⟨j + 1, by omega, by go_num, Lib.hid ⟨Sg.set hst.out.1 q.2.2.1 q.2.2.2, fun _ => ⟨_, by rw [List.length_set]; exact hl'.out, q.1⟩⟩⟩
        case measure => simp [intOf]; omega
      · obtain rfl : j = ksm.length := by omega
        have hBr := Lib.hid (hB8.out.trans (hst.out.1.bel.mono hgw))
        have hBkr := Lib.hid (Below.trans hZ2.out (hst.out.1.bel.mono hg1))
        have hk := cells_of (Sg.block hst.out.1 hne0 hbA8.out)
        have x0 := (hk 0 _ rfl).1; have x1 := (hk 1 _ rfl).1; have x2 := (hk 2 _ rfl).1; have x3 := (hk 3 _ rfl).1; have x4 := (hk 4 _ rfl).1; have x5 := (hk 5 _ rfl).1; have x6 := (hk 6 _ rfl).1; have x7 := (hk 7 _ rfl).1; have x8 := (hk 8 _ rfl).1
        clear hk
        have hbXr := Lib.hid (Sg.block hst.out.1 hne3 hbX8.out)
        go_wp2_with (first
          | (go_at_call 9; (with_reducible refine (OFA.out _ hBr.out).mono ?_); rintro e w10 ⟨⟨kz, u0z, u1z, u2z, u3z, pz, capz, mnz, mxz, txz, ksz⟩, dz, rfl, hb, hmz, hsz⟩; simp only [T.cells]; have hk := cells_of ((hb.block w3.heap.size (Array.getElem?_eq_some_iff.1 hbXr.out).1).trans hbXr.out); have y0 := (hk 0 _ rfl).1; have y1 := (hk 1 _ rfl).1; have y2 := (hk 2 _ rfl).1; have y3 := (hk 3 _ rfl).1; have y4 := (hk 4 _ rfl).1; have y5 := (hk 5 _ rfl).1; have y6 := (hk 6 _ rfl).1; have y7 := (hk 7 _ rfl).1; have y8 := (hk 8 _ rfl).1; clear hk; have lt310 : w3.heap.size < w10.heap.size := (Nat.lt_of_lt_of_le (Array.getElem?_eq_some_iff.1 hbXr.out).1 hb.size); have hbZ := (Below.refl w10.heap.size w10).alloc (Nat.le_refl _) (.cells #[.int .i64 kz, .int .u64 u0z, .int .u64 u1z, .int .u64 u2z, .int .u64 u3z, .slice pz ksz.length capz, .int .i64 mnz, .int .i64 mxz, .string txz] 32); have hX10 : Below wk.heap.size wk (w10.alloc (.cells #[.int .i64 kz, .int .u64 u0z, .int .u64 u1z, .int .u64 u2z, .int .u64 u3z, .slice pz ksz.length capz, .int .i64 mnz, .int .i64 mxz, .string txz] 32)) := (Below.trans hBkr.out (Below.mono (hb.trans (hbZ.mono hb.size)) (Below.size hBkr.out))); have SZ := rsame_in ((hmz.keep hbZ).mono hbZ.size) ((hmXk.out.keep hX10).mono hX10.size); rw [hzx.out _ _ hsz hsX.out (by trivial)] at SZ; simp only [T.cells] at SZ; replace SZ := Lib.hid SZ; replace hBr := Lib.hid (hBr.out.trans ((hb.trans (hbZ.mono hb.size)).mono hBr.out.size)); clear hb hmz hsz hbZ hX10)
          | (go_at_call 20; (with_reducible refine SZ.out.mono ?_); rintro e w11 ⟨rfl, hb⟩; replace hBr := Lib.hid (hBr.out.trans (hb.mono hBr.out.size)); clear hb))
        go_ret
        exact ⟨rfl, hb0.out.trans (hBr.out.mono hb0.out.size)⟩

end Go.Proofs.YtbkmoaollooomaaDoor
