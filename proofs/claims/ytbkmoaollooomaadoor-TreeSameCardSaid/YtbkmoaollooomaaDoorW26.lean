/- The walk's steps, one by one; heavy. -/
import Derived.Test.YtbkmoaollooomaaDoorW25
namespace Go.Proofs.YtbkmoaollooomaaDoor
open Go.RowKit
open Go.Tree7
theorem scells_length (s : Step) : (scells s).length = 11 := rfl
theorem flat11 : ∀ (l : List Step) (i j : Nat) (hi : i < l.length), j < 11 → (rcells l)[i * 11 + j]? = (scells l[i])[j]? := by
  intro l
  induction l with
  | nil => intro i j hi; simp at hi
  | cons t l ih =>
    intro i j hi hj
    unfold rcells at *
    rw [List.flatMap_cons]
    cases i with
    | zero => rw [List.getElem?_append_left (by rw [scells_length]; omega)]; simp
    | succ i =>
      rw [List.getElem?_append_right (by rw [scells_length]; omega), scells_length, show (i + 1) * 11 + j - 11 = i * 11 + j by omega]
      exact ih i j (by simpa using hi) hj
/-- The eleven cells of a step in a row of one's own. -/
theorem step_at {w : World} {base : Nat} {v : Value} {l : List Step} (h : w.ownsRow base 39 11 v l.length (rcells l)) : ∃ (p : Option Addr) (cap : Nat), v = .slice p l.length cap ∧ (0 < l.length → ∃ g, p = some ⟨g, 0, none⟩ ∧ base ≤ g ∧ g < w.heap.size) ∧ ∀ g, p = some ⟨g, 0, none⟩ → ∀ i (hi : i < l.length), ∀ q, q < 11 → w.cell? ⟨g, i * 11 + q, none⟩ = (scells l[i])[q]? := by
  obtain ⟨p, cap, rfl, hcap, hnil, hc⟩ := row_form h
  refine ⟨p, cap, rfl, fun hn => ?_, fun g hg i hi q hq => ?_⟩
  · obtain ⟨g, h1, h2, h3, -⟩ := hc hn
    exact ⟨g, h1, h2, h3⟩
  · obtain ⟨g', h1, -, -, h4⟩ := hc (by omega)
    rw [hg] at h1
    cases h1
    rw [h4 _ (by omega), flat11 l i q hi hq]
theorem eleven_of {w : World} {b o : Nat} {c0 c1 c2 c3 c4 c5 c6 c7 c8 c9 c10 : Value} (h : ∀ q, q < 11 → w.cell? ⟨b, o + q, none⟩ = [c0, c1, c2, c3, c4, c5, c6, c7, c8, c9, c10][q]?) :
    w.cell? ⟨b, o, none⟩ = some c0 ∧ w.cell? ⟨b, o + 1, none⟩ = some c1 ∧ w.cell? ⟨b, o + 2, none⟩ = some c2 ∧ w.cell? ⟨b, o + 3, none⟩ = some c3 ∧ w.cell? ⟨b, o + 4, none⟩ = some c4 ∧ w.cell? ⟨b, o + 5, none⟩ = some c5 ∧ w.cell? ⟨b, o + 6, none⟩ = some c6 ∧ w.cell? ⟨b, o + 7, none⟩ = some c7 ∧ w.cell? ⟨b, o + 8, none⟩ = some c8 ∧ w.cell? ⟨b, o + 9, none⟩ = some c9 ∧ w.cell? ⟨b, o + 10, none⟩ = some c10 :=
  ⟨h 0 (by decide), h 1 (by decide), h 2 (by decide), h 3 (by decide), h 4 (by decide), h 5 (by decide), h 6 (by decide), h 7 (by decide), h 8 (by decide), h 9 (by decide), h 10 (by decide)⟩
/-- What the document's walk comes to. -/
def allS (t : T) : List Step := (pre 24 1 t).take 601
theorem allS_len (t : T) : (allS t).length ≤ 601 := by unfold allS; simp; omega
theorem allS_of_strip {t t' : T} (h : t.strip = t'.strip) : allS t = allS t' := by unfold allS; rw [pre_of_strip h]
theorem walk_all {t : T} {w : World} (hT : T.In w w.heap.size t) : Calls Tryd.prog 10 #[.agg t.cells.toArray, .int .i64 1, .slice none 0 0] w (GivesSteps w.heap.size w (allS t)) := by
  have := refWalk_in 24 t 1 [] (.slice none 0 0) w.heap.size w rfl hT (World.ownsRow_nil _ _ _ _) (by decide) (Nat.le_refl _)
  rw [walk_pre 24 1 [] t (by decide), List.nil_append] at this
  exact this
/-- The tree has more than is asked. -/
def heavyB (t : T) : Bool := decide (2000 ≤ t.size) || (allS t).any fun s => decide (50 < s.tx.size)
set_option maxRecDepth 10000 in
set_option maxHeartbeats 4000000 in
theorem heavy_in {t : T} {w : World} (hT : T.In w w.heap.size t) (htx : ∀ s ∈ allS t, s.tx.size ≤ 9223372036854775807) : Calls Tryd.prog 8 #[.agg t.cells.toArray] w fun e w' => e = .returned (.bool (heavyB t)) ∧ Below w.heap.size w w' := by
  have cO := of_in (Nat.le_refl _) t 2000 (w.alloc (.cells t.cells.toArray 27)) (by decide) (by decide) hT ((Below.refl w.heap.size w).alloc (Nat.le_refl _) _)
  rw [show ((2000 : Nat) : Int) = 2000 from rfl] at cO
  unfold heavyB
  have hsz : Hid (t.size < 2000 ∨ 2000 ≤ t.size) := Lib.hid (by omega)
  obtain ⟨S, hS⟩ : ∃ S, allS t = S := ⟨_, rfl⟩
  have hS2 : ∀ m : T, m.strip = t.strip → allS m = S := fun m h => by rw [← hS]; exact allS_of_strip h
  rw [hS] at htx ⊢
  replace hS2 := Lib.hid hS2
  replace htx := Lib.hid htx
  obtain ⟨A, hA⟩ : ∃ A, (S.any fun s => decide (50 < s.tx.size)) = A := ⟨_, rfl⟩
  have hyes : Hid (∀ i (hi : i < S.length), 50 < S[i].tx.size → A = true) := Lib.hid fun i hi h => by rw [← hA, List.any_eq_true]; exact ⟨S[i], List.getElem_mem hi, by simpa using h⟩
  have hno : Hid ((∀ i (hi : i < S.length), ¬ 50 < S[i].tx.size) → A = false) := Lib.hid fun h => by
    rw [← hA, List.any_eq_false]
    intro s hs
    obtain ⟨i, hi, rfl⟩ := List.getElem_of_mem hs
    simpa using h i hi
  rw [hA]
  have hSl : S.length ≤ 601 := by rw [← hS]; exact allS_len t
  clear hA hS
  replace hT := Lib.hid hT
  obtain ⟨sz, hszv⟩ : ∃ sz, t.size = sz := ⟨_, rfl⟩
  have hG : ∃ G, G = GivesTree 2000 (w.alloc (.cells t.cells.toArray 27)) t := ⟨_, rfl⟩
  obtain ⟨G, hG⟩ := hG
  rw [← hG] at cO
  replace hG := Lib.hid hG
  rw [hszv]
  rw [hszv] at hsz
  have h18 : t.size = sz := hszv
  replace h18 := Lib.hid h18
  clear hszv
  cases t with
  | mk k u0 u1 u2 u3 p cap mn mx tx ks =>
    simp only [T.cells] at cO hG ⊢
    replace cO := Lib.hid cO
    have hB1 := Lib.hid ((Below.refl w.heap.size w).alloc (Nat.le_refl _) (.cells #[.int .i64 k, .int .u64 u0, .int .u64 u1, .int .u64 u2, .int .u64 u3, .slice p ks.length cap, .int .i64 mn, .int .i64 mx, .string tx] 27))
    have OA : Hid (∀ e w1, G e w1 → ∃ m : T, e = .returned (.tuple #[.agg m.cells.toArray, .int .i64 ((2000 - sz : Nat) : Int)]) ∧ Below w.heap.size w w1 ∧ (sz < 2000 → T.In w1 w1.heap.size m ∧ allS m = S)) := Lib.hid fun e w1 h => by
      rw [hG.out] at h
      obtain ⟨m, h1, h2, h3⟩ := h
      rw [h18.out] at h1 h3
      exact ⟨m, h1, hB1.out.trans (h2.mono hB1.out.size), fun hlt => ⟨(h3 hlt).1.toIn fun b hb => hb.2, hS2.out m (h3 hlt).2⟩⟩
    clear hG h18 hS2 hT
    by_cases hb : 2000 ≤ sz
    · have e0 : 2000 - sz = 0 := by omega
      rw [show (decide (2000 ≤ sz) || A) = true by simp [hb]]
      rw [e0] at OA
      clear hb e0 hsz hyes hno htx
      go_enter Tryd.func8, Tryd.ntmps8
      go_wp2_with (go_at_call 9; (with_reducible refine cO.out.mono ?_); intro e w1 hg; obtain ⟨⟨kx, u0x, u1x, u2x, u3x, px, capx, mnx, mxx, txx, ksx⟩, rfl, hb1, -⟩ := OA.out e w1 hg; clear hg; simp only [T.cells]; replace hb1 := Lib.hid hb1)
      go_ret
      exact ⟨rfl, hb1.out.alloc hb1.out.size _⟩
    · rw [show (decide (2000 ≤ sz) || A) = A by simp [hb]]
      obtain ⟨d, hd⟩ : ∃ d : Nat, 2000 - sz = d := ⟨_, rfl⟩
      have hd1 : 1 ≤ d := by omega
      rw [hd] at OA
      have hd2 : decide ((d : Int) ≤ 0) = false := by simp; omega
      have hlt : sz < 2000 := by omega
      replace OA : Hid (∀ e w1, G e w1 → ∃ m : T, e = .returned (.tuple #[.agg m.cells.toArray, .int .i64 (d : Int)]) ∧ Below w.heap.size w w1 ∧ (T.In w1 w1.heap.size m ∧ allS m = S)) := Lib.hid fun e w1 h => by
        obtain ⟨m, h1, h2, h3⟩ := OA.out e w1 h
        exact ⟨m, h1, h2, h3 hlt⟩
      clear hlt hb hsz hd
      go_enter Tryd.func8, Tryd.ntmps8
      go_wp2_with (first
        | (go_at_call 9; (with_reducible refine cO.out.mono ?_); intro e w1 hg; obtain ⟨⟨kx, u0x, u1x, u2x, u3x, px, capx, mnx, mxx, txx, ksx⟩, rfl, hb1, hm1, hm2⟩ := OA.out e w1 hg; clear hg; have cW := walk_all ((hm1.keep ((Below.refl w1.heap.size w1).alloc (Nat.le_refl _) (.cells #[.int .i64 kx, .int .u64 u0x, .int .u64 u1x, .int .u64 u2x, .int .u64 u3x, .slice px ksx.length capx, .int .i64 mnx, .int .i64 mxx, .string txx] 32))).mono (by simp)); rw [hm2] at cW; simp only [T.cells] at cW ⊢; replace cW := Lib.hid cW; replace hb1 := Lib.hid (hb1.alloc hb1.size (.cells #[.int .i64 kx, .int .u64 u0x, .int .u64 u1x, .int .u64 u2x, .int .u64 u3x, .slice px ksx.length capx, .int .i64 mnx, .int .i64 mxx, .string txx] 32)); clear hm1 hm2)
        | (go_at_call 10; (with_reducible refine cW.out.mono ?_); rintro e w2 ⟨v, rfl, hrow, hb2⟩; obtain ⟨pv, cv, rfl, hpg, hpc⟩ := step_at hrow; clear hrow; replace hpg := Lib.hid hpg; replace hpc := Lib.hid hpc; replace hb2 := Lib.hid (hb1.out.trans (hb2.mono hb1.out.size))))
      have htx2 := htx.out
      go_loopw [17] (fun i wr => ∃ j : Nat, j ≤ S.length ∧ i = .int .i64 j ∧ Hid (Below w2.heap.size w2 wr) ∧ Hid (∀ i (hi : i < S.length), i < j → ¬ 50 < S[i].tx.size)) (fun i _ => S.length - (intOf i).toNat)
      case atStart => exact ⟨0, Nat.zero_le _, rfl, Lib.hid (Below.refl _ _), Lib.hid fun i hi h => by omega⟩
      case round =>
        obtain ⟨j, hj, rfl, hB, hso⟩ := hrel
        by_cases hlt : j < S.length
        · obtain ⟨g, hpv, hbase, hgl⟩ := hpg.out (by omega)
          have hc := hpc.out g hpv j hlt
          subst hpv
          have hcl : ∀ q, q < 11 → wr.cell? ⟨g, j * 11 + q, none⟩ = (scells S[j])[q]? := fun q hq => by
            rw [← hc q hq]
            exact hB.out.cell (p := ⟨g, j * 11 + q, none⟩) hgl
          have hx := htx2 S[j] (List.getElem_mem hlt)
          have hy := Lib.hid (hyes.out j hlt)
          have hso2 : ¬ 50 < S[j].tx.size → Hid (∀ i (hi : i < S.length), i < j + 1 → ¬ 50 < S[i].tx.size) := fun h => Lib.hid fun i hi h2 => by
            by_cases e : i = j
            · subst e; exact h
            · exact hso.out i hi (by omega)
          clear hc htx2 hso
          have hsw := hB.out.size
          generalize S[j] = s at *
          obtain ⟨sk, ⟨su0, su1, su2, su3⟩, smn, smx, stx, slv, skids⟩ := s
          simp only [scells] at hcl
          obtain ⟨c0, c1, c2, c3, c4, c5, c6, c7, c8, c9, c10⟩ := eleven_of hcl
          clear hcl
          simp only at hx hy hso2
          by_cases h50 : 50 < stx.size
          · have hA := Lib.hid (hy.out h50)
            have d1 : decide ((stx.size : Int) > 50) = true := by simp; omega
            clear hy hso2
            go_wp2
            go_ret
            exact ⟨by rw [hA.out]; rfl, hb2.out.trans ((hB.out.alloc hsw _).mono hb2.out.size)⟩
          · have hso3 := hso2 h50
            have d1 : decide ((stx.size : Int) > 50) = false := by simp; omega
            clear hy hso2
            go_wp2
            go_roundw
            case rel => exact ⟨j + 1, by omega, by go_num, Lib.hid (hB.out.alloc hsw _), hso3⟩
            case measure => simp [intOf]; omega
        · have hA := Lib.hid (hno.out fun i hi => hso.out i hi (by omega))
          clear hso htx2
          go_wp2
          go_ret
          exact ⟨by rw [hA.out]; rfl, hb2.out.trans (hB.out.mono hb2.out.size)⟩
end Go.Proofs.YtbkmoaollooomaaDoor
