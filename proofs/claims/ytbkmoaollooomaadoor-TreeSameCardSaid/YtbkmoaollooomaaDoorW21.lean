/- Trees whose nodes lie in chosen blocks; chains and wide trees: mathematics. -/
import Derived.Test.YtbkmoaollooomaaDoorW19
namespace Go.Tree7
open Go.RowKit
/-- Its nodes lie in w, in blocks of S. -/
inductive T.InP (w : World) (S : Nat → Prop) : T → Prop
  | mk {k u0 u1 u2 u3 : Int} {p : Option Addr} {cap : Nat} {mn mx : Int} {tx : ByteArray} {kids : List T} (hb : kids.length ≤ cap) (hm : cap ≤ maxLen) (hf : fits k u0 u1 u2 u3 mn mx tx)
      (h : ∀ i (_ : i < kids.length), ∃ a, p = some a ∧ S a.block ∧ ∀ j, j < 9 → w.cell? (a.add (i * 9 + j)) = (kids[i].cells)[j]?) (hk : ∀ t ∈ kids, T.InP w S t) : T.InP w S (.mk k u0 u1 u2 u3 p cap mn mx tx kids)
theorem T.InP.keep {w w' : World} {S : Nat → Prop} (hk : ∀ b, S b → w'.heap[b]? = w.heap[b]?) {t : T} (h : T.InP w S t) : T.InP w' S t := by
  induction h with
  | mk hl hm hf h _ ih =>
    refine .mk hl hm hf (fun i hi => ?_) ih
    obtain ⟨a, rfl, ha, hc⟩ := h i hi
    refine ⟨a, rfl, ha, fun j hj => ?_⟩
    rw [← hc j hj]
    refine World.cell?_of_block ?_
    have e : (a.add (i * 9 + j)).block = a.block := by unfold Addr.add; split <;> rfl
    rw [e]
    exact hk _ ha
theorem T.InP.imp {w : World} {S S' : Nat → Prop} (hS : ∀ b, S b → S' b) {t : T} (h : T.InP w S t) : T.InP w S' t := by
  induction h with
  | mk hl hm hf h _ ih =>
    refine .mk hl hm hf (fun i hi => ?_) ih
    obtain ⟨a, rfl, ha, hc⟩ := h i hi
    exact ⟨a, rfl, hS _ ha, hc⟩
theorem T.InP.toIn {w : World} {S : Nat → Prop} {B : Nat} (hS : ∀ b, S b → b < B) {t : T} (h : T.InP w S t) : T.In w B t := by
  induction h with
  | mk hl hm hf h _ ih =>
    refine .mk hl hm hf (fun i hi => ?_) ih
    obtain ⟨a, rfl, ha, hc⟩ := h i hi
    exact ⟨a, rfl, hS _ ha, hc⟩
theorem T.In.toP {w : World} {B : Nat} {t : T} (h : T.In w B t) : T.InP w (fun b => b < B) t := by
  induction h with
  | mk hl hm hf h _ ih =>
    refine .mk hl hm hf (fun i hi => ?_) ih
    obtain ⟨a, rfl, ha, hc⟩ := h i hi
    exact ⟨a, rfl, ha, hc⟩
end Go.Tree7
namespace Go.Proofs.YtbkmoaollooomaaDoor
open Go.RowKit
open Go.Tree7
/-- A chain: a leaf, so many levels above it. -/
inductive IsChain (l : T) : Nat → T → Prop
  | zero : IsChain l 0 l
  | succ {j : Nat} {t : T} (g : Nat) (h : IsChain l j t) : IsChain l (j + 1) (.mk 2 0 0 0 0 (some ⟨g, 0, none⟩) 1 0 0 ⟨#[]⟩ [t])
theorem cat_ok (p : Option Addr) (cap : Nat) (ks : List T) : T.ok (.mk 2 0 0 0 0 p cap 0 0 ⟨#[]⟩ ks) = true := by
  show okB _ 2 _ 0 0 ⟨#[]⟩ = true
  have h0 : S1.eqB (S1.mem4 0 0 0 0) S1.noS = true := S1.eqB_true fun c _ => by simp [S1.mem4, S1.noS]
  have e : (⟨#[]⟩ : ByteArray).toList.isEmpty = true := by rw [ByteArray.toList_eq]; rfl
  unfold okB
  rw [if_neg (by decide), if_pos rfl]
  unfold plainB T.f
  simp only [Int.toNat_zero]
  rw [h0, e]
  rfl
theorem leaf_pre (f : Nat → Bool) (d lv : Nat) : preT d lv (leafT f) = [(lv, leafT f)] := by cases d <;> simp [preT, leafT, T.kids]
theorem chain_pre {f : Nat → Bool} {j : Nat} {t : T} (h : IsChain (leafT f) j t) : ∀ d lv, (∀ x ∈ preT d lv t, T.ok x.2 = true) ∧ (preT d lv t).map Prod.fst = (List.range (min j d + 1)).map (lv + ·) := by
  induction h with
  | zero =>
    intro d lv
    rw [leaf_pre]
    exact ⟨fun x hx => by simp at hx; subst hx; exact leaf_ok f, by simp⟩
  | @succ j t g h ih =>
    intro d lv
    cases d with
    | zero => exact ⟨fun x hx => by simp only [preT, List.mem_cons, List.not_mem_nil, or_false] at hx; subst hx; exact cat_ok _ _ _, by simp [preT]⟩
    | succ d =>
      obtain ⟨h1, h2⟩ := ih d (lv + 1)
      simp only [preT, T.kids, List.flatMap_cons, List.flatMap_nil, List.append_nil]
      refine ⟨fun x hx => ?_, ?_⟩
      · rcases List.mem_cons.1 hx with rfl | hx
        · exact cat_ok _ _ _
        · exact h1 x hx
      · rw [List.map_cons, h2, show min (j + 1) (d + 1) + 1 = (min j d + 1) + 1 by omega, List.range_succ_eq_map (n := min j d + 1), List.map_cons, List.map_map]
        congr 1
        refine List.map_congr_left fun x _ => ?_
        simp only [Function.comp_apply]
        omega
theorem chain_all {f : Nat → Bool} {j : Nat} {t : T} (h : IsChain (leafT f) j t) : allT t = preT 24 1 t ∧ (allT t).length = min j 24 + 1 := by
  have h2 := (chain_pre h 24 1).2
  have hl : (preT 24 1 t).length = min j 24 + 1 := by have := congrArg List.length h2; simpa using this
  have e : allT t = preT 24 1 t := by unfold allT; exact List.take_of_length_le (by omega)
  exact ⟨e, by rw [e, hl]⟩
theorem chain_right {f : Nat → Bool} {j : Nat} {t : T} (h : IsChain (leafT f) j t) : rightB t = decide (j < 24) := by
  obtain ⟨h1, h2⟩ := chain_pre h 24 1
  obtain ⟨h3, h4⟩ := chain_all h
  rw [Bool.eq_iff_iff, rightB_iff, decide_eq_true_eq]
  unfold RightP
  rw [h4, h3]
  constructor
  · rintro ⟨h5, -⟩
    rcases Nat.lt_or_ge j 24 with h6 | h6
    · exact h6
    · exfalso
      have hm : (25 : Nat) ∈ (preT 24 1 t).map Prod.fst := by
        rw [h2]
        exact List.mem_map.2 ⟨24, List.mem_range.2 (by omega), rfl⟩
      obtain ⟨x, hx, e⟩ := List.mem_map.1 hm
      have := (h5 x hx).1
      omega
  · intro h6
    refine ⟨fun x hx => ⟨?_, h1 x hx⟩, by omega⟩
    have hm : x.1 ∈ (preT 24 1 t).map Prod.fst := List.mem_map.2 ⟨x, hx, rfl⟩
    rw [h2] at hm
    obtain ⟨y, hy, e⟩ := List.mem_map.1 hm
    have := List.mem_range.1 hy
    omega
theorem fold_range (n : Nat) : ((List.range (n + 1)).map (1 + ·)).foldl max 0 = n + 1 := by
  induction n with
  | zero => rfl
  | succ n ih =>
    rw [List.range_succ, List.map_append, List.foldl_append, ih]
    simp
    omega
theorem chain_deep {f : Nat → Bool} {j : Nat} {t : T} (h : IsChain (leafT f) j t) : deepOf (allT t) = min (j + 1) 25 := by
  unfold deepOf
  rw [(chain_all h).1, (chain_pre h 24 1).2, fold_range]
  omega
/-- A wide tree: so many leaves. -/
def wideT (f : Nat → Bool) (m : Nat) (p : Option Addr) (cap : Nat) : T := .mk 2 0 0 0 0 p cap 0 0 ⟨#[]⟩ (List.replicate m (leafT f))
theorem wide_all (f : Nat → Bool) (m : Nat) (p : Option Addr) (cap : Nat) : allT (wideT f m p cap) = ((1, wideT f m p cap) :: List.replicate m (2, leafT f)).take 601 := by
  unfold allT
  congr 1
  rw [show (24 : Nat) = 23 + 1 by rfl, preT]
  congr 1
  simp only [wideT, T.kids]
  have : ∀ m : Nat, (List.replicate m (leafT f)).flatMap (preT 23 (1 + 1)) = List.replicate m (2, leafT f) := by
    intro m
    induction m with
    | zero => rfl
    | succ m ih => rw [List.replicate_succ, List.flatMap_cons, ih, leaf_pre, List.replicate_succ]; rfl
  exact this m
theorem wide_len (f : Nat → Bool) (m : Nat) (p : Option Addr) (cap : Nat) : (allT (wideT f m p cap)).length = min (m + 1) 601 := by
  rw [wide_all]
  simp
  omega
theorem wide_right (f : Nat → Bool) (m : Nat) (p : Option Addr) (cap : Nat) : rightB (wideT f m p cap) = decide (m < 600) := by
  rw [Bool.eq_iff_iff, rightB_iff, decide_eq_true_eq]
  unfold RightP
  rw [wide_len]
  constructor
  · rintro ⟨-, h⟩; omega
  · intro h
    refine ⟨fun x hx => ?_, by omega⟩
    rw [wide_all] at hx
    have := List.mem_of_mem_take hx
    rcases List.mem_cons.1 this with rfl | h1
    · exact ⟨by simp, cat_ok _ _ _⟩
    · obtain ⟨-, rfl⟩ := List.mem_replicate.1 h1
      exact ⟨by simp, leaf_ok f⟩
/-- A wide tree's kids lie in a row of one's own. -/
theorem wide_in {w : World} {base m : Nat} {f : Nat → Bool} {v : Value} (h : w.ownsRow base 27 9 v m (List.replicate m (leafT f).cells).flatten) : ∃ p cap, v = .slice p m cap ∧ T.In w w.heap.size (wideT f m p cap) := by
  have h9 : ∀ m : Nat, ∀ i j : Nat, i < m → j < 9 → (List.replicate m (leafT f).cells).flatten[i * 9 + j]? = (leafT f).cells[j]? := by
    intro m
    induction m with
    | zero => intro i j h1; omega
    | succ m ih =>
      intro i j h1 h2
      rw [List.replicate_succ, List.flatten_cons]
      cases i with
      | zero => rw [List.getElem?_append_left (by rw [T.cells_length]; omega)]; simp
      | succ i =>
        rw [List.getElem?_append_right (by rw [T.cells_length]; omega), T.cells_length, show (i + 1) * 9 + j - 9 = i * 9 + j by omega]
        exact ih i j (by omega) h2
  obtain ⟨p, cap, rfl, hcap, hnil, hc⟩ := row_form h
  have hmax : cap ≤ maxLen := by
    rcases h.2 with ⟨e, -⟩ | ⟨g, cap', cur, e, -, -, -, hm, -⟩
    · cases e; exact Nat.zero_le _
    · cases e; exact hm
  refine ⟨p, cap, rfl, .mk (by simpa using hcap) hmax ⟨by decide, ⟨by decide, by decide, by decide, by decide⟩, by decide, by decide, by decide⟩ (fun i hi => ?_) (fun t ht => ?_)⟩
  · have hi' : i < m := by simpa using hi
    obtain ⟨g, rfl, hb, hg, hcell⟩ := hc (by omega)
    refine ⟨⟨g, 0, none⟩, rfl, hg, fun j hj => ?_⟩
    have e : (⟨g, 0, none⟩ : Addr).add (i * 9 + j) = ⟨g, i * 9 + j, none⟩ := by unfold Addr.add; split <;> simp_all
    rw [e, hcell _ (by omega), h9 m i j hi' hj]
    simp
  · obtain ⟨-, rfl⟩ := List.mem_replicate.1 ht
    exact leaf_in f _ _
end Go.Proofs.YtbkmoaollooomaaDoor
