/- What the condition on the error values gives the walks: their variables and cells. -/
import Derived.Test.YtficnnlajpfkbaaDoorP1
import Derived.Test.YtficnnlajpfkbaaDoorW11
import Derived.Stop.LaidTwo
namespace Go.Proofs.YtficnnlajpfkbaaDoor
open Go.ChangeShapes Go.WideShapes Go.ChangeAt Go.WideMaps Go.WideElems Go.RowKit

/-- A list of error values of errors.New's make, ahead of whatever follows. -/
theorem sentinels {P : Program} {W : World} {tp te ts ti : TypeId} {ms : Array (String × TypeId)} {nm : String} {f : Field} {rest : List (String × DataW Unit)}
    (hi : P.underlying ti = some (.interface ms)) (hrow : ∀ u, P.typeName? 3 u = some nm → u = tp)
    (hp : P.underlying tp = some (.pointer te)) (he : P.underlying te = some (.struct #[f])) (hft : f.type = ts) (hfo : f.offset = 0) (hs : P.underlying ts = some .string) (hc : P.cellsOf te = 1) (hcs : P.cellsOf ts = 1) :
    ∀ (sent : List (String × DataW Unit)) (ps : List MemPlace), (∀ x ∈ sent, ∃ text, x.2 = .iface nm (.ptr (.agg [.lit (.string text)]))) → (∀ x ∈ sent, ∃ g, P.globalNamed x.1 = some g ∧ (P.globals[g]?).map (·.type) = some ti) →
      DataW.LaidVars P W (sent ++ rest) ps →
      (∀ b off, MemPlace.cell b off ∈ ps → (∃ c t, W.heap[b]? = some (.cells c t (0, 0))) ∧ ∀ u v, W.cell? ⟨b, off, none⟩ = some (.iface u v) → Value.okWide P W .any 0 u v) →
      ∃ al : List Addr, al.length = sent.length ∧ (∀ (k : Nat) (x : String × DataW Unit) (a : Addr), sent[k]? = some x → al[k]? = some a → ∃ g, P.globalNamed x.1 = some g ∧ W.cell? ⟨g, 0, none⟩ = some (.iface tp (.pointer (some a)))) ∧
        (al.map fun a => MemPlace.cell a.block a.off).Sublist ps ∧ (∀ a ∈ al, ∃ c t, W.heap[a.block]? = some (.cells c t (0, 0))) ∧ ∃ q, DataW.LaidVars P W rest q := by
  intro sent
  induction sent with
  | nil => intro ps _ _ h _; exact ⟨[], rfl, fun k x a hx => by simp at hx, by simp, by simp, ps, h⟩
  | cons x r ih =>
    intro ps ht hg h hrows
    obtain ⟨n, d⟩ := x
    obtain ⟨g0, t0, cs0, f0, p0, q0, hg0, ht0, hv0, hd0, hr, e0⟩ := h
    obtain ⟨text, hdt⟩ := ht (n, d) (by simp)
    obtain ⟨g1, hg1, ht1⟩ := hg (n, d) (by simp)
    simp only at hdt hg1
    subst hdt
    obtain rfl := Option.some.inj (hg1.symm.trans hg0)
    obtain rfl := Option.some.inj (ht1.symm.trans ht0)
    subst e0
    obtain ⟨l0⟩ := cs0
    have ok0 : ∀ u v, l0 = [.iface u v] → Value.okWide P W .any 0 u v := fun u v e => by
      subst e
      exact (hrows g1 0 (by simp [MemPlace.row])).2 u v (by simpa using World.var?_cell hg0 hv0 0)
    obtain ⟨a0, s0, rfl, hc0, hs0, hz0, rfl⟩ := errorString_of_trod hi hrow hp he hft hfo hs hc hcs hd0 ok0
    obtain ⟨al, hl, hvar, hsub, hcell, hq⟩ := ih q0 (fun y hy => ht y (by simp [hy])) (fun y hy => hg y (by simp [hy])) hr (fun b off hb => hrows b off (by simp [hb]))
    refine ⟨a0 :: al, by simp [hl], ?_, ?_, ?_, hq⟩
    · intro k x a hx ha
      cases k with
      | zero =>
        simp only [List.getElem?_cons_zero, Option.some.injEq] at hx ha
        subst hx ha
        exact ⟨g1, hg0, by simpa using World.var?_cell hg0 hv0 0⟩
      | succ k => exact hvar k x a (by simpa using hx) (by simpa using ha)
    · have e : MemPlace.row a0 1 = [MemPlace.cell a0.block a0.off] := by simp [MemPlace.row]
      rw [e, List.map_cons]
      rw [List.append_assoc]
      exact List.Sublist.trans (List.Sublist.cons_cons _ hsub) (List.sublist_append_right _ _)
    · intro a ha
      rcases List.mem_cons.1 ha with rfl | h
      · exact (hrows a.block a.off (by simp [MemPlace.row])).1
      · exact hcell a h

theorem getD_at {al : List Addr} {k : Nat} {d : Addr} (h : k < al.length) : al.getD k d = al[k] := by simp [List.getD, h]
def sent : List (String × DataW Unit) := [("doffer/api.ErrRange", Rows.laid_doffer_api_ErrRange), ("doffer/api.ErrShort", Rows.laid_doffer_api_ErrShort), ("doffer/api.ErrLong", Rows.laid_doffer_api_ErrLong), ("doffer/api.ErrForm", Rows.laid_doffer_api_ErrForm), ("doffer/api.ErrName", Rows.laid_doffer_api_ErrName), ("doffer/api.ErrDup", Rows.laid_doffer_api_ErrDup), ("doffer/api.ErrDepth", Rows.laid_doffer_api_ErrDepth), ("doffer/api.ErrLoop", Rows.laid_doffer_api_ErrLoop), ("doffer/api.ErrLimit", Rows.laid_doffer_api_ErrLimit), ("doffer/api.ErrSum", Rows.laid_doffer_api_ErrSum), ("doffer/api.ErrVersion", Rows.laid_doffer_api_ErrVersion), ("doffer/api.ErrIndex", Rows.laid_doffer_api_ErrIndex), ("doffer/api.ErrFull", Rows.laid_doffer_api_ErrFull), ("doffer/api.ErrCredit", Rows.laid_doffer_api_ErrCredit), ("doffer/api.ErrNone", Rows.laid_doffer_api_ErrNone), ("doffer/api.ErrState", Rows.laid_doffer_api_ErrState), ("doffer/api.ErrParked", Rows.laid_doffer_api_ErrParked), ("doffer/api.ErrTag", Rows.laid_doffer_api_ErrTag)]
theorem u34 : ∃ ms, Tryd.prog.underlying 34 = some (.interface ms) := ⟨_, Tryd.underlying34⟩
theorem cells85 : Tryd.prog.cellsOf 85 = 1 := by kernel_rfl
theorem cells9 : Tryd.prog.cellsOf 9 = 1 := by kernel_rfl
theorem star : "*" ++ "errors.errorString" = "*errors.errorString" := by decide
theorem row60 (u : TypeId) (h : Tryd.prog.typeName? 3 u = some "*errors.errorString") : u = 60 :=
  typeName_ptr_named (nm := "errors.errorString") (by rw [star]; kernel_rfl) (by kernel_rfl) (by decide) u (by rw [star]; exact h)
theorem sent_text : ∀ x ∈ sent, ∃ text, x.2 = .iface "*errors.errorString" (.ptr (.agg [.lit (.string text)])) := by
  intro x hx
  simp only [sent, List.mem_cons, List.not_mem_nil, or_false] at hx
  rcases hx with rfl | rfl | rfl | rfl | rfl | rfl | rfl | rfl | rfl | rfl | rfl | rfl | rfl | rfl | rfl | rfl | rfl | rfl <;> exact ⟨_, rfl⟩
theorem sent_at : ∀ k, k < 18 → ∃ x, sent[k]? = some x ∧ Tryd.prog.globalNamed x.1 = some (ord k) ∧ (Tryd.prog.globals[ord k]?).map (·.type) = some 34 := by
  intro k hk
  match k, hk with
  | 0, _ => exact ⟨_, rfl, by kernel_rfl, by kernel_rfl⟩
  | 1, _ => exact ⟨_, rfl, by kernel_rfl, by kernel_rfl⟩
  | 2, _ => exact ⟨_, rfl, by kernel_rfl, by kernel_rfl⟩
  | 3, _ => exact ⟨_, rfl, by kernel_rfl, by kernel_rfl⟩
  | 4, _ => exact ⟨_, rfl, by kernel_rfl, by kernel_rfl⟩
  | 5, _ => exact ⟨_, rfl, by kernel_rfl, by kernel_rfl⟩
  | 6, _ => exact ⟨_, rfl, by kernel_rfl, by kernel_rfl⟩
  | 7, _ => exact ⟨_, rfl, by kernel_rfl, by kernel_rfl⟩
  | 8, _ => exact ⟨_, rfl, by kernel_rfl, by kernel_rfl⟩
  | 9, _ => exact ⟨_, rfl, by kernel_rfl, by kernel_rfl⟩
  | 10, _ => exact ⟨_, rfl, by kernel_rfl, by kernel_rfl⟩
  | 11, _ => exact ⟨_, rfl, by kernel_rfl, by kernel_rfl⟩
  | 12, _ => exact ⟨_, rfl, by kernel_rfl, by kernel_rfl⟩
  | 13, _ => exact ⟨_, rfl, by kernel_rfl, by kernel_rfl⟩
  | 14, _ => exact ⟨_, rfl, by kernel_rfl, by kernel_rfl⟩
  | 15, _ => exact ⟨_, rfl, by kernel_rfl, by kernel_rfl⟩
  | 16, _ => exact ⟨_, rfl, by kernel_rfl, by kernel_rfl⟩
  | 17, _ => exact ⟨_, rfl, by kernel_rfl, by kernel_rfl⟩
  | n + 18, h => omega
theorem errs_of_laid {W : World} (h : laidMet Tryd.prog (sent ++ [("doffer/crc.halves", Rows.laid_doffer_crc_halves)]) W) : (∃ A, Errs W A) ∧ Tab W := by
  obtain ⟨ps, hv, hnd, hrows⟩ := h
  have hg : ∀ x ∈ sent, ∃ g, Tryd.prog.globalNamed x.1 = some g ∧ (Tryd.prog.globals[g]?).map (·.type) = some 34 := by
    intro x hx
    obtain ⟨k, hk, rfl⟩ := List.getElem_of_mem hx
    obtain ⟨y, h1, h2, h3⟩ := sent_at k (by simpa [sent] using hk)
    rw [List.getElem?_eq_getElem hk] at h1
    cases h1
    exact ⟨_, h2, h3⟩
  obtain ⟨al, hl, hvar, hsub, hcell, q, hq⟩ := sentinels Tryd.underlying34 row60 Tryd.underlying60 Tryd.underlying85 rfl rfl Tryd.underlying9 cells85 cells9 sent ps sent_text hg hv hrows
  have hl18 : al.length = 18 := hl
  refine ⟨⟨fun k => al.getD k ⟨0, 0, none⟩, ?_, ?_, ?_⟩, ?_⟩
  · intro k hk
    obtain ⟨x, h1, h2, _⟩ := sent_at k hk
    have ha : al[k]? = some (al.getD k ⟨0, 0, none⟩) := by
      rw [List.getElem?_eq_getElem (by omega), getD_at (by omega)]
    obtain ⟨g, hg1, hc⟩ := hvar k x _ h1 ha
    obtain rfl := Option.some.inj (h2.symm.trans hg1)
    exact hc
  · intro i j hij hj e
    have hn := hnd.sublist hsub
    rw [List.nodup_iff_pairwise_ne, List.pairwise_iff_getElem] at hn
    have := hn i j (by simp; omega) (by simp; omega) hij
    apply this
    rw [getD_at (by omega), getD_at (by omega)] at e
    simp only [List.getElem_map, e]
  · intro k hk
    exact hcell _ (by rw [getD_at (by omega)]; exact List.getElem_mem _)
  · obtain ⟨g0, t0, cs0, f0, p0, q0, hg0, ht0, hv0, hd0, _, _⟩ := hq
    obtain rfl := Option.some.inj (gTab.symm.trans hg0)
    obtain rfl := Option.some.inj (tTab.symm.trans ht0)
    exact tab_of_read hv0 hd0
end Go.Proofs.YtficnnlajpfkbaaDoor
