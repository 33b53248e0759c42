/- Spans of package sets: a slice of its own that holds the spans of the set's bytes. It asks that math/bits' table lie in block 0. -/
import Derived.Test.YtaahefhiiggagaaDoorS1W8
import Derived.WalkSmall
namespace Go.Proofs.YtaahefhiiggagaaDoor.S1
open Go.RowKit Go.Shelf

attribute [local go_sem] Oper.semAt_some

/-- One byte more: it lengthens the last span, or begins one. -/
def spA (ps : List (Nat × Nat)) (c : Nat) : List (Nat × Nat) :=
  match ps.getLast? with
  | some (a, b) => if (b + 1) % 256 = c then ps.dropLast ++ [(a, c)] else ps ++ [(c, c)]
  | none => [(c, c)]
def spAll (l : List Nat) : List (Nat × Nat) := l.foldl (fun ps x => spA ps (x % 256)) []
def spCells (ps : List (Nat × Nat)) : List Value := ps.flatMap fun p => [.int .u8 (p.1 : Int), .int .u8 (p.2 : Int)]
theorem spAll_snoc (l : List Nat) (x : Nat) : spAll (l ++ [x]) = spA (spAll l) (x % 256) := by simp [spAll]
theorem spA_nil (c : Nat) : spA [] c = [(c, c)] := rfl
theorem spA_join {qs : List (Nat × Nat)} {a b c : Nat} (h : (b + 1) % 256 = c) : spA (qs ++ [(a, b)]) c = qs ++ [(a, c)] := by simp [spA, h]
theorem spA_new {qs : List (Nat × Nat)} {a b c : Nat} (h : (b + 1) % 256 ≠ c) : spA (qs ++ [(a, b)]) c = qs ++ [(a, b)] ++ [(c, c)] := by simp [spA, h]
theorem spA_len (ps : List (Nat × Nat)) (c : Nat) : (spA ps c).length ≤ ps.length + 1 := by
  rcases List.eq_nil_or_concat ps with rfl | ⟨qs, ⟨a, b⟩, rfl⟩
  · simp [spA_nil]
  · by_cases h : (b + 1) % 256 = c
    · rw [List.concat_eq_append, spA_join h]; simp
    · rw [List.concat_eq_append, spA_new h]; simp
theorem spAll_len (l : List Nat) : (spAll l).length ≤ l.length := by
  rcases List.eq_nil_or_concat l with rfl | ⟨m, x, rfl⟩
  · simp [spAll]
  · rw [List.concat_eq_append, spAll_snoc]
    have := spA_len (spAll m) (x % 256)
    have := spAll_len m
    simp; omega
  termination_by l.length
theorem spA_small {ps : List (Nat × Nat)} {c : Nat} (hc : c ≤ 255) (h : ∀ p ∈ ps, p.1 ≤ 255 ∧ p.2 ≤ 255) : ∀ p ∈ spA ps c, p.1 ≤ 255 ∧ p.2 ≤ 255 := by
  rcases List.eq_nil_or_concat ps with rfl | ⟨qs, ⟨a, b⟩, rfl⟩
  · simp [spA_nil, hc]
  · rw [List.concat_eq_append] at *
    have hab := h (a, b) (by simp)
    have hq : ∀ p ∈ qs, p.1 ≤ 255 ∧ p.2 ≤ 255 := fun p hp => h p (by simp [hp])
    by_cases hh : (b + 1) % 256 = c
    · rw [spA_join hh]
      intro p hp
      rcases List.mem_append.1 hp with hp | hp
      · exact hq p hp
      · simp at hp; subst hp; exact ⟨hab.1, hc⟩
    · rw [spA_new hh]
      intro p hp
      rcases List.mem_append.1 hp with hp | hp
      · exact h p hp
      · simp at hp; subst hp; exact ⟨hc, hc⟩
theorem spAll_small (l : List Nat) : ∀ p ∈ spAll l, p.1 ≤ 255 ∧ p.2 ≤ 255 := by
  rcases List.eq_nil_or_concat l with rfl | ⟨m, x, rfl⟩
  · simp [spAll]
  · rw [List.concat_eq_append, spAll_snoc]
    exact spA_small (by omega) (spAll_small m)
  termination_by l.length
theorem spCells_len (ps : List (Nat × Nat)) : (spCells ps).length = ps.length * 2 := by
  induction ps with
  | nil => rfl
  | cons p ps ih => simp only [spCells, List.flatMap_cons, List.length_append, List.length_cons, List.length_nil] at *; omega
theorem spCells_last (qs : List (Nat × Nat)) (a b : Nat) : (spCells (qs ++ [(a, b)]))[qs.length * 2 + 1]? = some (.int .u8 (b : Int)) := by
  have e : spCells (qs ++ [(a, b)]) = spCells qs ++ [.int .u8 (a : Int), .int .u8 (b : Int)] := by simp [spCells]
  rw [e, List.getElem?_append_right (by rw [spCells_len]; omega), spCells_len]
  have : qs.length * 2 + 1 - qs.length * 2 = 1 := by omega
  rw [this]; rfl
theorem spCells_set (qs : List (Nat × Nat)) (a b y : Nat) : (spCells (qs ++ [(a, b)])).set (qs.length * 2 + 1) (.int .u8 (y : Int)) = spCells (qs ++ [(a, y)]) := by
  have e (b : Nat) : spCells (qs ++ [(a, b)]) = spCells qs ++ [.int .u8 (a : Int), .int .u8 (b : Int)] := by simp [spCells]
  rw [e, e, List.set_append_right _ _ (by rw [spCells_len]; omega), spCells_len]
  have : qs.length * 2 + 1 - qs.length * 2 = 1 := by omega
  rw [this]; rfl
theorem info50 : (Tryd.prog.info? 56).map (fun i => (i.zero, i.size, i.bytes)) = some (some (.agg #[.int .u8 0, .int .u8 0]), 2, 2) := by kernel_rfl

def GivesSpans (w0 : World) (ps : List (Nat × Nat)) (e : Ending) (w' : World) : Prop := ∃ v, e = .returned v ∧ w'.ownsRow w0.heap.size 56 2 v ps.length (spCells ps) ∧ Below w0.heap.size w0 w'

set_option maxRecDepth 100000 in
set_option maxHeartbeats 2000000 in
theorem spans_wide (n : Nat) (hn : 3 ≤ n) (f : Nat → Bool) (w : World) (hT : Tab w) :
    CallsIn Fence.wide n Tryd.prog 22 #[(.agg #[.int .u64 (wd f 0), .int .u64 (wd f 1), .int .u64 (wd f 2), .int .u64 (wd f 3)])] w (GivesSpans w (spAll (el f 256))) := by
  have h1 : 1 ≤ n := by omega
  obtain ⟨i0, hi, hz0, hz1, hz2⟩ := info_parts info50
  have hlen := el_len f 256
  obtain ⟨W3, hW3, bO, bE, hB0, hs3⟩ : ∃ W3, ((w.alloc (.cells #[.int .u64 (wd f 0), .int .u64 (wd f 1), .int .u64 (wd f 2), .int .u64 (wd f 3)] 24)).alloc (.cells #[.slice none 0 0] 53)).alloc (.cells #[.int .u64 (wd f 0), .int .u64 (wd f 1), .int .u64 (wd f 2), .int .u64 (wd f 3)] 24) = W3 ∧ Boxed W3 (w.heap.size + 1) 53 (.slice none 0 0) ∧
      SetBox W3 (w.heap.size + 1 + 1) 24 f ∧ Below w.heap.size w W3 ∧ W3.heap.size = w.heap.size + 1 + 1 + 1 := by
    have b1 := Boxed.new (w.alloc (.cells #[.int .u64 (wd f 0), .int .u64 (wd f 1), .int .u64 (wd f 2), .int .u64 (wd f 3)] 24)) 53 (.slice none 0 0)
    have b2 := Blk4.new ((w.alloc (.cells #[.int .u64 (wd f 0), .int .u64 (wd f 1), .int .u64 (wd f 2), .int .u64 (wd f 3)] 24)).alloc (.cells #[.slice none 0 0] 53)) 24 (.int .u64 (wd f 0)) (.int .u64 (wd f 1)) (.int .u64 (wd f 2)) (.int .u64 (wd f 3))
    simp only [World.size_alloc] at b1 b2
    exact ⟨_, rfl, b1.alloc _, b2, (((Below.refl _ w).alloc (Nat.le_refl _) _).alloc (by simp) _).alloc (by simp <;> omega) _, by simp⟩
  have hT3 : Tab W3 := hT.below hB0 hT.1
  have hst := each_stops (n - 1) (by omega) (w.heap.size + 1 + 1) w.heap.size hT.1 f W3 hB0.size bE hT3
  have hE := each_in (n - 1) f ((w.alloc (.cells #[.int .u64 (wd f 0), .int .u64 (wd f 1), .int .u64 (wd f 2), .int .u64 (wd f 3)] 24)).alloc (.cells #[.slice none 0 0] 53))
  clear bE hT3 hT
  generalize el f 256 = ys0 at *
  replace hE := Lib.hid hE
  replace hst := Lib.hid hst
  replace hW3 := Lib.hid hW3
  replace hs3 := Lib.hid hs3
  refine callsIn_of_wp_marks Tryd.func22 rfl trivial ?_ rfl
  simp only [Tryd.ntmps22, List.size_toArray, List.length_cons, List.length_nil, Nat.reduceAdd, Nat.reduceSub, Array.replicate_succ, Array.replicate_zero, List.push_toArray, List.append_toArray, List.nil_append, List.cons_append]
  gi_wp2_with (refine ⟨trivial, ?_⟩; gi_at_call 38; refine hE.out.mono ?_; rintro e w' ⟨rfl, rfl⟩)
  rw [hW3.out]
  refine wpIn_rangeFunc_ownG rfl h1 (gf := 49) (lb := #[.pointer (some ⟨w.heap.size + 1 + 1, 0, none⟩)]) rfl trivial (enters_of Tryd.func49 (by kernel_rfl) rfl)
    hst.out belowK_t (belowK_b (by rw [hs3.out]; omega)) (Below.refl _ _) (fun _ => rfl)
    (fun (pre : List Nat) W => (∃ v, Boxed W (w.heap.size + 1) 53 v ∧ W.ownsRow w.heap.size 56 2 v (spAll pre).length (spCells (spAll pre)) ∧ (spAll pre = [] → v = .slice none 0 0)) ∧ Below w.heap.size w W)
    (fun _ _ _ => False)
    (OwnFrom.and (Own.from (holdsRow_own w.heap.size (w.heap.size + 1) 53 56 2 (fun pre : List Nat => (spAll pre).length) (fun pre : List Nat => spCells (spAll pre)) (fun pre v => spAll pre = [] → v = .slice none 0 0)) _) (ownFrom_below (Nat.le_refl _) (by rw [hs3.out]; omega)))
    (fun _ _ _ _ _ hs _ _ => hs)
    ⟨⟨_, bO, World.ownsRow_nil _ _ _ _, fun _ => rfl⟩, hB0⟩
    (fun x => { tmps := ((.agg #[.int .u64 (wd f 0), .int .u64 (wd f 1), .int .u64 (wd f 2), .int .u64 (wd f 3)]) :: .pointer (some ⟨w.heap.size, 0, none⟩) :: .slice none 0 0 :: .pointer (some ⟨w.heap.size + 1, 0, none⟩) :: .int .u8 ((x % 256 : Nat) : Int) :: undef :: (.agg #[.int .u64 (wd f 0), .int .u64 (wd f 1), .int .u64 (wd f 2), .int .u64 (wd f 3)]) :: .func (.func 49) #[] #[.pointer (some ⟨w.heap.size + 1 + 1, 0, none⟩)] :: .int .u8 ((x % 256 : Nat) : Int) :: undef :: undef :: undef :: undef :: undef :: undef :: undef :: undef :: undef :: undef :: undef :: undef :: undef :: undef :: undef :: undef :: undef :: undef :: undef :: undef :: undef :: undef :: undef :: undef :: undef :: undef :: undef :: []).toArray, defers := [] }) ?assign ?body ?done ?stop
  case assign =>
    intro l x W K hK
    gi_wp2
    exact hK
  case body =>
    rintro l pre x W ⟨⟨v, hv, hrow, hnl⟩, hB⟩ hlt
    have hc := hv.cell
    have hx8 : ((x % 256 : Nat) : Int) ≤ 255 := by omega
    have hsn := spAll_snoc pre x
    have hps := spAll_small pre
    have hpl := spAll_len pre
    generalize x % 256 = y at *
    replace hsn := Lib.hid hsn
    rcases List.eq_nil_or_concat (spAll pre) with hnil | ⟨qs, ⟨a, b⟩, hcon⟩
    · have hv0 := hnl hnil
      subst hv0
      rw [hnil] at hrow
      replace hnil := Lib.hid hnil
      clear hnl hps hpl
      gi_wp2_with (gi_at_builtin; refine wpListIn_append_own _ rfl _ _ 53 rfl w.heap.size 56 i0 (.agg #[.int .u8 0, .int .u8 0]) 2 2 Tryd.underlying53 hi hz0 hz1 hz2 rfl (by decide) _ _ _ rfl (hrow.alloc _) ⟨W.heap.size, 0, none⟩ 1 1 [.int .u8 (y : Int), .int .u8 (y : Int)] rfl rfl (cell_two_new _ _ _ _) (by simp [Value.oneCell']) (by simp [maxLen]; try omega) (by first | omega | simp) (by have := hB.size; simp; omega) ?_; intro v' w1 hown' hgrow _; obtain ⟨g', cap', rfl⟩ := ownsRow_succ hown'; obtain ⟨hv1, hv2, hr2, hk2, hb2⟩ := hv.appended (by decide) hrow hB.size (by omega) hown' hgrow; have hc1 := hv1.cell; have hf1 := hv1.frozen)
      refine ⟨hk2.from _, hb2, ⟨_, hv2, ?_, ?_⟩, hB.trans hb2⟩
      · rw [hsn.out, hnil.out, spA_nil]; simpa [spCells] using hr2
      · rw [hsn.out, hnil.out, spA_nil]; intro h; cases h
    · rw [List.concat_eq_append] at hcon
      rw [hcon] at hrow hps
      have hab := hps (a, b) (by simp)
      have hl : (qs ++ [(a, b)]).length = qs.length + 1 := by simp
      rw [hl] at hrow
      obtain ⟨g, cap, rfl⟩ := ownsRow_succ hrow
      have hcell : W.cell? ⟨g, qs.length * 2 + 1, none⟩ = some (.int .u8 (b : Int)) := by
        rw [hrow.cellAt (qs.length * 2 + 1) (by omega)]
        exact spCells_last qs a b
      have hfz := hrow.frozenAt (qs.length * 2 + 1)
      have hq : qs.length ≤ 256 := by rw [hcon, hl] at hpl; omega
      replace hps := Lib.hid hps
      replace hcon := Lib.hid hcon
      replace hl := Lib.hid hl
      have hb8 : (b : Int) ≤ 255 := by omega
      by_cases hj : (b + 1) % 256 = y
      · have ht : (((b : Int) + 1) % 256 == (y : Int)) = true := by simp; omega
        have hst2 := hrow.stored (qs.length * 2 + 1) (.int .u8 (y : Int))
        have hbx := hv.kept hst2.2 (hv.not_row (by decide) hrow)
        have hg := (hrow.lt g rfl).1
        rw [spCells_set] at hst2
        replace hst2 := Lib.hid hst2
        replace hbx := Lib.hid hbx
        clear hnl hrow hpl
        gi_wp2
        refine ⟨(KeepsOthers.setCell _ _ _).from _, (Below.refl _ W).setCell (p := ⟨g, _, none⟩) hg _, ⟨_, hbx.out, ?_, ?_⟩, hB.setCell (p := ⟨g, _, none⟩) hg _⟩
        · rw [hsn.out, hcon.out, spA_join hj]; simpa using hst2.out.1
        · rw [hsn.out, hcon.out, spA_join hj]; intro h; simp at h
      · have ht : (((b : Int) + 1) % 256 == (y : Int)) = false := by simp; omega
        clear hnl hpl
        gi_wp2_with (gi_at_builtin; refine wpListIn_append_own _ rfl _ _ 53 rfl w.heap.size 56 i0 (.agg #[.int .u8 0, .int .u8 0]) 2 2 Tryd.underlying53 hi hz0 hz1 hz2 rfl (by decide) _ _ _ rfl (hrow.alloc _) ⟨W.heap.size, 0, none⟩ 1 1 [.int .u8 (y : Int), .int .u8 (y : Int)] rfl rfl (cell_two_new _ _ _ _) (by simp [Value.oneCell']) (by simp [maxLen]; try omega) (by first | omega | simp) (by have := hB.size; simp; omega) ?_; intro v' w1 hown' hgrow _; obtain ⟨g', cap', rfl⟩ := ownsRow_succ hown'; obtain ⟨hv1, hv2, hr2, hk2, hb2⟩ := hv.appended (by decide) hrow hB.size (by omega) hown' hgrow; have hc1 := hv1.cell; have hf1 := hv1.frozen)
        refine ⟨hk2.from _, hb2, ⟨_, hv2, ?_, ?_⟩, hB.trans hb2⟩
        · rw [hsn.out, hcon.out, spA_new hj]; simpa [spCells] using hr2
        · rw [hsn.out, hcon.out, spA_new hj]; intro h; simp at h
  case done =>
    rintro D ys W hD rfl ⟨⟨v, hv, hrow, -⟩, hB⟩ hK
    have hc := hv.cell
    gi_wp2
    refine ⟨by simp, .inl ⟨_, _, rfl, run_takeDeferred hK, ?_⟩⟩
    exact ⟨_, results_tmp rfl _ _ _, v, rfl, ownsRow_putObj hrow _ hK rfl, hB.trans (belowK_b (w := w) (Nat.le_refl _) W D _ _ (by rw [hs3.out] at hD; omega) hK rfl rfl)⟩
  case stop =>
    rintro D c pre W _ _ h _
    exact h.elim
end Go.Proofs.YtaahefhiiggagaaDoor.S1
