/- A tree without its places: what is told of it does not turn on where it lies. -/
import Derived.Test.YtbkmoaollooomaaDoorW21
import Derived.Test.YtbkmoaollooomaaDoorW14
namespace Go.Tree7
open Go.RowKit
/-- A tree without its places. -/
def T.strip : T → T
  | .mk k u0 u1 u2 u3 _ _ mn mx tx ks => .mk k u0 u1 u2 u3 none 0 mn mx tx (ks.attach.map fun ⟨t, _⟩ => t.strip)
theorem T.strip_mk (k u0 u1 u2 u3 : Int) (p : Option Addr) (cap : Nat) (mn mx : Int) (tx : ByteArray) (ks : List T) : (T.mk k u0 u1 u2 u3 p cap mn mx tx ks).strip = .mk k u0 u1 u2 u3 none 0 mn mx tx (ks.map T.strip) := by
  rw [T.strip]
  simp
/-- A proof over the kids first. -/
theorem T.ind {P : T → Prop} (h : ∀ k u0 u1 u2 u3 p cap mn mx tx ks, (∀ t ∈ ks, P t) → P (.mk k u0 u1 u2 u3 p cap mn mx tx ks)) : ∀ t, P t
  | .mk k u0 u1 u2 u3 p cap mn mx tx ks => h k u0 u1 u2 u3 p cap mn mx tx ks fun t _ => T.ind h t
theorem T.size_pos (t : T) : 1 ≤ t.size := by
  cases t
  rw [T.size_mk]
  omega
theorem strip_parts {k u0 u1 u2 u3 k' u0' u1' u2' u3' : Int} {p p' : Option Addr} {cap cap' : Nat} {mn mx mn' mx' : Int} {tx tx' : ByteArray} {ks ks' : List T} (h : (T.mk k u0 u1 u2 u3 p cap mn mx tx ks).strip = (T.mk k' u0' u1' u2' u3' p' cap' mn' mx' tx' ks').strip) :
    k = k' ∧ u0 = u0' ∧ u1 = u1' ∧ u2 = u2' ∧ u3 = u3' ∧ mn = mn' ∧ mx = mx' ∧ tx = tx' ∧ ks.map T.strip = ks'.map T.strip := by
  rw [T.strip_mk, T.strip_mk] at h
  injection h with h1 h2 h3 h4 h5 h6 h7 h8 h9 h10 h11
  exact ⟨h1, h2, h3, h4, h5, h8, h9, h10, h11⟩
theorem map_of_strip {α : Type} {F : T → α} (hF : ∀ t, F t.strip = F t) {ks ks' : List T} (h : ks.map T.strip = ks'.map T.strip) : ks.map F = ks'.map F := by
  have e : ∀ l : List T, l.map F = (l.map T.strip).map F := fun l => by
    rw [List.map_map]
    exact List.map_congr_left fun t _ => (hF t).symm
  rw [e ks, e ks', h]
theorem size_strip : ∀ t : T, t.strip.size = t.size := by
  refine T.ind fun k u0 u1 u2 u3 p cap mn mx tx ks ih => ?_
  rw [T.strip_mk, T.size_mk, T.size_mk, List.map_map]
  congr 2
  exact List.map_congr_left fun t ht => ih t ht
theorem pre_strip : ∀ (d lv : Nat) (t : T), pre d lv t.strip = pre d lv t := by
  intro d
  induction d with
  | zero => intro lv t; cases t; rw [T.strip_mk]; simp [pre, T.step]
  | succ d ih =>
    intro lv t
    cases t
    rw [T.strip_mk]
    simp only [pre, T.kids, T.step, List.length_map, List.flatMap_map]
    congr 1
    congr 1
    funext t
    exact ih _ _
theorem pre_of_strip {t t' : T} (h : t.strip = t'.strip) (d lv : Nat) : pre d lv t = pre d lv t' := by rw [← pre_strip d lv t, h, pre_strip]
theorem size_of_strip {t t' : T} (h : t.strip = t'.strip) : t.size = t'.size := by rw [← size_strip t, h, size_strip]
theorem T.InP.length {w : World} {S : Nat → Prop} {k u0 u1 u2 u3 : Int} {p : Option Addr} {cap : Nat} {mn mx : Int} {tx : ByteArray} {ks : List T} (h : T.InP w S (.mk k u0 u1 u2 u3 p cap mn mx tx ks)) : ks.length ≤ maxLen := by
  cases h with | mk h1 h2 => omega
end Go.Tree7
namespace Go.Proofs.YtbkmoaollooomaaDoor
open Go.RowKit
open Go.Tree7
theorem k_strip (t : T) : T.k t.strip = T.k t := by cases t; rw [T.strip_mk]; rfl
theorem ok_strip (t : T) : T.ok t.strip = T.ok t := by cases t; rw [T.strip_mk]; simp only [T.ok, T.f, List.length_map]
theorem its_of {cl : List Int} {ks : List T} (h : ∀ t ∈ ks, T.txt t.strip = T.txt t) : its cl (ks.map T.strip) = its cl ks := by
  unfold its
  rw [List.map_map]
  exact List.map_congr_left fun t ht => by simp only [Function.comp_apply]; rw [k_strip, h t ht]
theorem txt_strip : ∀ t : T, T.txt t.strip = T.txt t := by
  refine T.ind fun k u0 u1 u2 u3 p cap mn mx tx ks ih => ?_
  rw [T.strip_mk, txt_mk, txt_mk, its_of ih, its_of ih, its_of ih, List.length_map]
theorem txt_of_strip {t t' : T} (h : t.strip = t'.strip) : T.txt t = T.txt t' := by rw [← txt_strip t, h, txt_strip]
theorem preT_strip : ∀ (d lv : Nat) (t : T), preT d lv t.strip = (preT d lv t).map fun x => (x.1, x.2.strip) := by
  intro d
  induction d with
  | zero => intro lv t; simp [preT]
  | succ d ih =>
    intro lv t
    cases t
    simp only [preT, List.map_cons, List.map_flatMap]
    rw [T.strip_mk]
    simp only [T.kids, List.flatMap_map]
    congr 1
    congr 1
    funext t
    exact ih _ _
theorem allT_strip (t : T) : allT t.strip = (allT t).map fun x => (x.1, x.2.strip) := by
  unfold allT
  rw [preT_strip, List.map_take]
theorem right_strip (t : T) : rightB t.strip = rightB t := by
  rw [Bool.eq_iff_iff, rightB_iff, rightB_iff]
  unfold RightP
  rw [allT_strip]
  simp only [List.length_map, List.mem_map]
  constructor
  · rintro ⟨h1, h2⟩
    refine ⟨fun x hx => ?_, h2⟩
    have := h1 _ ⟨x, hx, rfl⟩
    rw [ok_strip] at this
    exact this
  · rintro ⟨h1, h2⟩
    refine ⟨fun x hx => ?_, h2⟩
    obtain ⟨y, hy, rfl⟩ := hx
    have := h1 _ hy
    rw [← ok_strip] at this
    exact this
theorem right_of_strip {t t' : T} (h : t.strip = t'.strip) : rightB t = rightB t' := by rw [← right_strip t, h, right_strip]
end Go.Proofs.YtbkmoaollooomaaDoor
