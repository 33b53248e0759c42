/- The reference's Text, whole. -/
import Derived.Test.YtbkmoaollooomaaDoorW29b
import Derived.Test.YtbkmoaollooomaaDoorW29c
namespace Go.Proofs.YtbkmoaollooomaaDoor
open Go.RowKit
open Go.Tree7
open S5 (nl nl_length nl_small at_nl nl_at nl_strN nl_inj)
theorem rtext_all {w0 : World} {B0 : Nat} (hn0 : B0 ≤ w0.heap.size) {t : T} (h : T.All (fun t => T.ok t = true) t) : T.In w0 B0 t → t.size ≤ 600 → RTextOf w0 B0 t := by
  induction h with
  | @mk k u0 u1 u2 u3 p cap mn mx tx ks h hk ih =>
    intro hT hsz
    rw [T.size_mk] at hsz
    have hfit : fits k u0 u1 u2 u3 mn mx tx := by cases hT with | mk h1 h2 h3 => exact h3
    have ihT : ∀ t ∈ ks, RTextOf w0 B0 t := fun t ht => ih t ht (by cases hT with | mk h1 h2 h3 h4 h5 => exact h5 t ht) (by have := size_kid ht; omega)
    rcases ok5 h with rfl | rfl | ⟨rfl, h2⟩ | ⟨rfl, h2, hb⟩ | ⟨rfl, hn⟩
    · intro w hB
      rw [txt_mk, if_pos rfl]
      obtain ⟨e0, e1, e2, e3⟩ := wd_f hfit.2.1
      exact rtext1 (S1.mem4 u0.toNat u1.toNat u2.toNat u3.toNat) e0 e1 e2 e3 p ks.length cap mn mx tx w
    · by_cases hz : ks.length = 0
      · intro w hB
        rw [txt_mk, if_neg (by decide), if_pos rfl, if_pos hz, litP]
        simp only [T.cells, hz]
        exact rtext20 p cap mn mx tx w
      · exact rtext_k2 hn0 hT hk ihT hsz hz
    · exact rtext_k3 hn0 hT hk ihT hsz (by omega)
    · exact rtext_k4 hn0 hT hk ihT hsz (by omega) hb
    · intro w hB
      have htx : tx.size ≤ 12 := by rw [← nl_length]; exact hn.2.1
      rw [txt_mk, if_neg (by decide), if_neg (by decide), if_neg (by decide), if_neg (by decide), S6.strN_app, S6.strN_app, lit123, lit125, strN_nl]
      exact rtext5 p ks.length cap mn mx tx htx w
/-- The reference's Text of a right tree. -/
theorem rtext_in {t : T} {w : World} (hT : T.In w w.heap.size t) (hr : rightB t = true) : Calls Tryd.prog 12 #[.agg t.cells.toArray] w fun e w' => e = .returned (.string (strN (T.txt t))) ∧ Below w.heap.size w w' := by
  obtain ⟨ha, hs⟩ := right_all ((rightB_iff t).1 hr)
  exact rtext_all (Nat.le_refl _) ha hT hs w (Below.refl _ _)
end Go.Proofs.YtbkmoaollooomaaDoor
