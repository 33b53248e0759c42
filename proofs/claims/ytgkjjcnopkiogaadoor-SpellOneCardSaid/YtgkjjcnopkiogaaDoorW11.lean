/- Bytes of a text; SameBytes; texts differ where bytes do. -/
import Derived.Test.YtgkjjcnopkiogaaDoorW10
namespace Go.Proofs.YtgkjjcnopkiogaaDoor
open Go.RowKit
/-! ### Texts differ where bytes do -/
def uh (p : Nat) : Nat := if p < 58 then p - 48 else p - 87
def un : List Nat → Nat
  | 92 :: c :: l => if c = 110 then 10 else if c = 116 then 9 else if c = 114 then 13 else if c = 115 then 32 else if c = 120 then (match l with | p :: q :: _ => 16 * uh p + uh q | _ => 0) else c
  | c :: _ => c
  | [] => 0
theorem uh_hx {d : Nat} (h : d < 16) : uh (hx d) = d := by
  unfold hx uh
  split <;> split <;> omega
theorem un_pl {c : Nat} (hc : c ≤ 255) (x : List Nat) : un (pl c ++ x) = c := by
  have h := pl_sp hc
  generalize pl c = l at h
  cases h with
  | blank k hk =>
    simp at hk
    rcases hk with ⟨rfl, rfl⟩ | ⟨rfl, rfl⟩ | ⟨rfl, rfl⟩ | ⟨rfl, rfl⟩ <;> rfl
  | esc h1 h2 h3 =>
    simp only [out, List.mem_cons, List.not_mem_nil, or_false] at h1
    rcases h1 with rfl | rfl | rfl | rfl | rfl | rfl | rfl | rfl | rfl | rfl | rfl | rfl | rfl <;> rfl
  | self h1 h2 h3 =>
    have : c ≠ 92 := fun e => h1 (by subst e; decide)
    unfold un
    simp only [List.cons_append, List.nil_append]
    split
    · rename_i h; simp at h; omega
    · rename_i h; simp at h; exact h.1.symm
    · rename_i h; simp at h
  | hex h1 h2 h3 h4 h5 h6 h7 =>
    show 16 * uh (hx (c / 16)) + uh (hx (c % 16)) = c
    rw [uh_hx (by omega), uh_hx (by omega)]
    omega
theorem txt_cons (c : Nat) (l : List Nat) : txt (c :: l) = pl c ++ txt l := by simp [txt]
theorem txt_append (a b : List Nat) : txt (a ++ b) = txt a ++ txt b := by simp [txt]
theorem txt_inj : ∀ (a b : List Nat), (∀ x ∈ a, x ≤ 255) → (∀ x ∈ b, x ≤ 255) → txt a = txt b → a = b := by
  intro a
  induction a with
  | nil =>
    intro b _ hb e
    have h := (txt_len hb).1
    rw [← e] at h
    exact (List.length_eq_zero_iff.1 (by simpa [txt] using h)).symm
  | cons c a ih =>
    intro b ha hb e
    cases b with
    | nil =>
      have h := (txt_len ha).1
      rw [e] at h
      simp [txt] at h
    | cons d b =>
      rw [txt_cons, txt_cons] at e
      have h1 := congrArg un e
      rw [un_pl (ha c (by simp)), un_pl (hb d (by simp))] at h1
      subst h1
      rw [ih b (fun x hx => ha x (by simp [hx])) (fun x hx => hb x (by simp [hx])) (List.append_cancel_left e)]
theorem below_grown {a w w1 : World} {B : Nat} {e : TypeId} {size : Nat} {v : Value} {n : Nat} {xs : List Value} {tmp : Obj} (h : Below B a w) (hB : B ≤ w.heap.size)
    (hrow : w.ownsRow B e size v n xs) (hg : (w.alloc tmp).grownBy w1 v.ownBlock) : Below B a w1 :=
  (h.alloc hB tmp).grown hg (by simp; omega) fun k ek => (hrow.lt k ek).1
/-! ### Bytes -/
def GivesBytes (w : World) (l : List Nat) (z : Nat) (e : Ending) (w' : World) : Prop :=
  ∃ p cap, e = .returned (.tuple #[.slice p l.length cap, .int .i64 z, .nilIface]) ∧ Src w' p l.length cap l ∧ Below w.heap.size w w'
set_option maxRecDepth 10000 in
theorem bytes_in {s : ByteArray} {l : List Nat} (hs : nl s = txt l) (hsm : ∀ x ∈ l, x ≤ 255) (hn : l.length ≤ 1000) {E2 E4 : Value} (w : World) (hT : Two w E2 E4) :
    Calls Tryd.prog 16 #[.string s] w (GivesBytes w l s.size) := by
  have hlen := txt_len hsm
  have hsz : s.size = (txt l).length := by rw [← nl_length, hs]
  have hsb : s.size ≤ 4000 := by omega
  -- where the k-th byte begins
  obtain ⟨at_, hat⟩ : ∃ at_ : Nat → Nat, ∀ k, at_ k = (txt (l.take k)).length := ⟨_, fun _ => rfl⟩
  have at0 : at_ 0 = 0 := by rw [hat]; rfl
  have atn : at_ l.length = s.size := by rw [hat, List.take_length, hsz]
  have hstep : ∀ k (hk : k < l.length), at_ (k + 1) = at_ k + (pl l[k]).length := fun k hk => by
    rw [hat, hat, List.take_succ_eq_append_getElem hk, txt_snoc, List.length_append]
  have hlt : ∀ k, k < l.length → at_ k < at_ (k + 1) ∧ at_ (k + 1) ≤ s.size := fun k hk => by
    have h1 := hstep k hk
    have h2 := sp_length (pl_sp (hsm l[k] (List.getElem_mem hk)))
    refine ⟨by omega, ?_⟩
    rw [hat, hsz]
    have e : txt l = txt (l.take (k + 1)) ++ txt (l.drop (k + 1)) := by rw [← txt_append, List.take_append_drop]
    rw [e, List.length_append]
    omega
  have hrd : ∀ k (hk : k < l.length), Rd (nl s) (at_ k) l[k] (at_ (k + 1)) 0 := fun k hk => by
    have h1 := sp_read (.inl rfl) (pl_sp (hsm l[k] (List.getElem_mem hk))) (txt (l.take k)) (txt (l.drop (k + 1)))
    have e : txt (l.take k) ++ pl l[k] ++ txt (l.drop (k + 1)) = nl s := by
      rw [← txt_snoc, ← List.take_succ_eq_append_getElem hk, ← txt_append, List.take_append_drop, hs]
    rw [e] at h1
    rw [hstep k hk, hat k]
    exact h1
  obtain ⟨i0, hi, hz0, hz1, hz2⟩ := info_parts info5
  have cR := Lib.hid (fun k (hk : k < l.length) w' (hb : Bel w w') => read_in (hrd k hk) (by omega) w' (hT.bel hb))
  unfold Gives at cR
  have hE : errV E2 E4 0 = .nilIface := rfl
  rw [hE] at cR
  have hown0 := own_empty (w := w.alloc (.cells #[] 5)) (base := w.heap.size) (g := w.heap.size) (World.alloc_heap_new w _) (Nat.le_refl _)
  have htk : ∀ k (hk : k < l.length), (l.take (k + 1)).map encN = (l.take k).map encN ++ [encN l[k]] := fun k hk => by
    rw [List.take_succ_eq_append_getElem hk, List.map_append]; rfl
  have hfin : ∀ w' v, Bel w w' → w'.ownsRow w.heap.size 5 1 v l.length ((l.take l.length).map encN) → ∃ p cap, v = .slice p l.length cap ∧ Src w' p l.length cap l := fun w' v _ ho => by
    rw [List.take_length] at ho
    exact Src.of_owns ho rfl hsm
  replace hi := Lib.hid hi
  replace hz0 := Lib.hid hz0
  replace hz1 := Lib.hid hz1
  replace hz2 := Lib.hid hz2
  replace htk := Lib.hid htk
  replace hlt := Lib.hid hlt
  replace hfin := Lib.hid hfin
  replace at0 := Lib.hid at0
  replace atn := Lib.hid atn
  have hown1 : Hid ((w.alloc (.cells #[] 5)).ownsRow w.heap.size 5 1 (.slice (some ⟨w.heap.size, 0, none⟩) 0 0) 0 ((l.take 0).map encN)) := Lib.hid hown0
  have hbel0 := Lib.hid (Bel.new w (.cells #[] 5))
  clear hT hat hsz hstep hrd hsm hE hs hlen hown0
  go_enter Tryd.func16, Tryd.ntmps16
  go_wp2
  go_loopw [5, 6] (fun v i w' => ∃ k : Nat, k ≤ l.length ∧ i = .int .i64 (at_ k) ∧ Hid (Bel w w') ∧ Hid (w'.ownsRow w.heap.size 5 1 v k ((l.take k).map encN))) (fun _ i _ => s.size - (intOf i).toNat)
  case atStart => exact ⟨0, Nat.zero_le _, by rw [at0.out]; rfl, hbel0, hown1⟩
  case round =>
    clear hbel0 hown1
    obtain ⟨k, hk, rfl, hq, hrow⟩ := hrel
    by_cases hkl : k < l.length
    · obtain ⟨g1, g2⟩ := hlt.out k hkl
      have p1 := Lib.hid (cR.out k hkl _ hq.out)
      have p2 := Lib.hid (htk.out k hkl)
      generalize l[k] = y at *
      obtain ⟨a1, ha1⟩ : ∃ a1, at_ (k + 1) = a1 := ⟨_, rfl⟩
      obtain ⟨a0, ha0⟩ : ∃ a0, at_ k = a0 := ⟨_, rfl⟩
      rw [ha1] at p1 g1 g2
      rw [ha0] at p1 g1 ⊢
      replace ha0 := Lib.hid ha0
      replace ha1 := Lib.hid ha1
      go_wp2_with (first
        | (go_at_call 12; (with_reducible refine p1.out.mono ?_); rintro e w1 ⟨rfl, hb⟩; replace hrow := Lib.hid (ownsRow_bel hrow.out hb); replace hq := Lib.hid (hq.out.step hb); clear hb)
        | (at_builtin; refine wpList_append_own _ rfl _ _ 34 rfl w.heap.size 5 i0 (.int .u8 0) 1 1 Tryd.underlying34 hi.out hz0.out hz1.out hz2.out rfl (by decide) _ _ _ rfl (hrow.out.alloc _) ⟨_, 0, none⟩ 1 1 [_] rfl rfl (cell_one_new _ _ _) (by simp [Value.oneCell']) (by simp [maxLen]; omega) (by omega) (by have := Below.size hq.out; simp; omega) ?_; intro v' w3 ho3 hg3 _; replace hq := Lib.hid (below_grown hq.out (Below.size hq.out) hrow.out hg3); replace ho3 := Lib.hid ho3; clear hg3))
      go_roundw
      case rel => exact ⟨k + 1, by omega, by rw [ha1.out], hq, Lib.hid (by rw [p2.out]; exact ho3.out)⟩
      case measure => simp [intOf]; omega
    · obtain rfl : k = l.length := by omega
      obtain ⟨p, cap, rfl, hsr⟩ := hfin.out _ _ hq.out hrow.out
      have hat1 : (at_ l.length : Int) = (s.size : Int) := by rw [atn.out]
      replace hsr := Lib.hid hsr
      clear hrow
      go_wp2
      refine bodyPost_ret (v := .tuple #[.slice p l.length cap, .int .i64 s.size, .nilIface]) (by simp [results, Tryd.results16, go_sem]) rfl ?_
      exact ⟨p, cap, rfl, hsr.out, hq.out⟩
theorem sameBytes_in {w : World} {a a' : Option Addr} {n n' c c' : Nat} {l : List Nat} (h : Src w a n c l) (h' : Src w a' n' c' l) :
    Calls Tryd.prog 17 #[.slice a n c, .slice a' n' c'] w fun e w' => e = .returned (.bool true) ∧ w = w' := by
  have h1 := h.conv
  have h2 := h'.conv
  clear h h'
  go_enter Tryd.func17, Tryd.ntmps17
  go_wp2
  go_ret
  exact ⟨ret_bool (by first | rfl | simp), rfl⟩
end Go.Proofs.YtgkjjcnopkiogaaDoor
