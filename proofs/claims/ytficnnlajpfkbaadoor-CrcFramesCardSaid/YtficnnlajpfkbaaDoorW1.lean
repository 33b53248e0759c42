/- Bytes that came in; the reference's sum of bytes behind a sum. -/
import Derived.Test.YtficnnlajpfkbaaDoorProg
import Derived.Test.YtficnnlajpfkbaaDoorM
import Derived.Test.YtficnnlajpfkbaaDoorQ
import Derived.WalkKit
import Derived.WalkLawsBesides
import Derived.WalkSpells
import Derived.Laws.BitsAllLaws
import Derived.Laws.BytesArg
import Derived.Lib.Hide
namespace Go.Proofs.YtficnnlajpfkbaaDoor
open Go.RowKit
theorem ret_bool {a b : Bool} (h : a = b) : Ending.returned (.bool a) = .returned (.bool b) := by rw [h]
theorem ret_int {k : IntKind} {a b : Int} (h : a = b) : Ending.returned (.int k a) = .returned (.int k b) := by rw [h]
def encN (c : Nat) : Value := .int .u8 (c : Int)
/-- A slice of bytes that lies in memory: it holds l. -/
structure Src (w : World) (a : Option Addr) (n c : Nat) (l : List Nat) : Prop where
  len : l.length = n
  small : ∀ x ∈ l, x ≤ 255
  nil : a = none → n = 0 ∧ c = 0
  cells : ∀ ad, a = some ad → ∀ j u, (l.map encN)[j]? = some u → w.cell? (ad.add j) = some u
  cap : n ≤ c
theorem Src.bel {w w' : World} {a : Option Addr} {n c : Nat} {l : List Nat} (h : Src w a n c l) (hb : Bel w w') : Src w' a n c l :=
  ⟨h.len, h.small, h.nil, fun ad e j u hu => (Below.cell hb (World.block_lt_of_cell? _ _ (h.cells ad e j u hu))).trans (h.cells ad e j u hu), h.cap⟩
theorem Src.at {w : World} {a : Option Addr} {n c : Nat} {l : List Nat} (h : Src w a n c l) (hn : 0 < n) : ∃ b off, a = some ⟨b, off, none⟩ ∧ ∀ j (hj : j < l.length), w.cell? ⟨b, off + j, none⟩ = some (.int .u8 ((l[j] : Nat) : Int)) := by
  cases ha : a with
  | none => have := (h.nil ha).1; omega
  | some ad =>
    have hl := h.len
    have h0 := h.cells ad ha 0 (encN (l[0]'(by omega))) (by rw [List.getElem?_map, List.getElem?_eq_getElem (by omega)]; rfl)
    obtain ⟨b, off, spot⟩ := ad
    have hspot : spot = none := by simpa [Addr.add] using World.cell?_spot h0
    subst hspot
    refine ⟨b, off, rfl, fun j hj => ?_⟩
    have := h.cells _ ha j (encN l[j]) (by rw [List.getElem?_map, List.getElem?_eq_getElem hj]; rfl)
    have e : (⟨b, off, none⟩ : Addr).add j = ⟨b, off + j, none⟩ := by unfold Addr.add; split <;> simp_all
    rw [e] at this
    exact this

theorem xor32 {a b : Nat} (ha : a < 2 ^ 32) (hb : b < 2 ^ 32) : bits .xor .u32 (a : Int) (b : Int) = ((a ^^^ b : Nat) : Int) := u32_xor_nat a b ha hb
theorem div_cast (a k : Nat) : ((a : Int) / 2 ^ k) = ((a / 2 ^ k : Nat) : Int) := by simp

theorem bit_step {z y m : Nat} (hz : z < 2 ^ 32) (hy : y < 256) : (((bits .xor .u32 (z : Int) ((y : Int) / 2 ^ m)).tmod 2 == 1) = decide ((z ^^^ y / 2 ^ m) % 2 = 1)) ∧
    bits .xor .u32 ((z / 2 : Nat) : Int) 3988292384 = ((z / 2 ^^^ poly : Nat) : Int) := by
  have hq : y / 2 ^ m < 2 ^ 32 := Nat.lt_of_le_of_lt (Nat.div_le_self _ _) (by omega)
  refine ⟨?_, xor32 (a := z / 2) (b := poly) (by omega) poly_lt⟩
  rw [div_cast, xor32 hz hq, Bool.eq_iff_iff]
  generalize z ^^^ y / 2 ^ m = v
  have e : (v : Int).tmod 2 = ((v % 2 : Nat) : Int) := by rw [Int.tmod_eq_emod_of_nonneg (by omega)]; simp
  rw [e]
  simp only [beq_iff_eq, decide_eq_true_eq]
  omega
theorem half_mod {z : Nat} (hz : z < 2 ^ 32) : ((z : Int) / 2) % 4294967296 = ((z / 2 : Nat) : Int) := by omega
theorem sub_mod {z : Nat} (hz : z < 2 ^ 32) : (4294967295 - (z : Int)) % 4294967296 = ((4294967295 - z : Nat) : Int) := by omega
set_option maxRecDepth 100000 in
set_option maxHeartbeats 1000000 in
theorem rsum_in (s : Nat) (hs : s < 2 ^ 32) (a : Option Addr) (c : Nat) (l : List Nat) (w : World) (h : Src w a l.length c l) (hm : l.length ≤ 100000) :
    Calls Tryd.prog 9 #[.int .u32 s, .slice a l.length c] w fun e w' => e = .returned (.int .u32 (crcN s l : Nat)) ∧ w = w' := by
  have hw1 := sub_mod hs
  have hx0 : 4294967295 - s < 2 ^ 32 := by omega
  have hend : crcN s l = 4294967295 - rall (4294967295 - s) l := rfl
  have hsm : ∀ x ∈ l, x < 256 := fun x hx => by have := h.small x hx; omega
  have hrl := fun k => rall_lt (l := l.take k) hx0 fun x hx => hsm x (List.mem_of_mem_take hx)
  rw [hend]
  clear hend
  generalize 4294967295 - s = x0 at *
  clear hs hx0
  replace hrl := Lib.hid hrl
  replace hsm := Lib.hid hsm
  replace h := Lib.hid h
  go_enter Tryd.func9, Tryd.ntmps9
  go_wp2
  go_loop [5, 14] (fun x i => ∃ k : Nat, k ≤ l.length ∧ i = .int .i64 k ∧ x = .int .u32 (rall x0 (l.take k) : Nat)) (fun _ i => l.length - (intOf i).toNat)
  case atStart => exact ⟨0, Nat.zero_le _, rfl, by rw [hw1]; rfl⟩
  case round =>
    obtain ⟨k, hk, rfl, rfl⟩ := hrel
    by_cases hlt : k < l.length
    · obtain ⟨b, off, rfl, hcl⟩ := h.out.at (by omega)
      have hcell := hcl k hlt
      have hx8 := hsm.out l[k] (List.getElem_mem hlt)
      have hxk := hrl.out k
      have hstep := Lib.hid (rall_take (x := x0) hlt)
      have hcap := h.out.cap
      have hee := Lib.hid (rb_eight (rall x0 (l.take k)) l[k] hx8)
      clear hcl
      generalize l[k] = y at *
      generalize rall x0 (l.take k) = x at *
      have hy1 : IntKind.u32.wrap (y : Int) = y := by rw [IntKind.wrap_u32]; omega
      go_wp2
      go_loop [5, 8] (fun v i => ∃ m : Nat, m ≤ 8 ∧ i = .int .i64 m ∧ v = .int .u32 (rb x y m : Nat)) (fun _ i => 8 - (intOf i).toNat)
      case atStart => exact ⟨0, by omega, rfl, rfl⟩
      case round =>
        obtain ⟨m, hm8, rfl, rfl⟩ := hrel
        by_cases hlt8 : m < 8
        · have hz := rb_lt (c := y) hxk m
          have hsucc := Lib.hid (show rb x y (m + 1) = rbit (rb x y m) y m from rfl)
          generalize rb x y m = z at *
          obtain ⟨hB, hC⟩ := bit_step (m := m) hz hx8
          replace hB := Lib.hid hB
          replace hC := Lib.hid hC
          have hz3 := Lib.hid (half_mod hz)
          clear hz hxk hee hstep
          go_wp2
          · rename_i hbit
            rw [hB.out] at hbit
            have hr := hsucc.out.trans (if_pos (of_decide_eq_true hbit))
            clear hbit
            refine ⟨⟨m + 1, by omega, by go_num, ?_⟩, by simp [intOf]; omega⟩
            rw [hz3.out, hC.out, hr]
          · rename_i hbit
            rw [hB.out] at hbit
            have hr := hsucc.out.trans (if_neg (of_decide_eq_false hbit))
            clear hbit
            refine ⟨⟨m + 1, by omega, by go_num, ?_⟩, by simp [intOf]; omega⟩
            rw [hz3.out, hr]
        · have e : m = 8 := by omega
          subst e
          have hr := hstep.out.trans hee.out.symm
          replace hr := Lib.hid hr
          clear hee hstep hxk
          go_wp2
          go_round
          case rel => refine ⟨_, _, _, _, _, ⟨k + 1, by omega, ?_, ?_⟩, rfl, rfl, rfl, rfl, rfl⟩ <;> first | rfl | (rw [hr.out]) | go_num
          case measure => simp [intOf]; omega
    · have e : l.take k = l := List.take_of_length_le (by omega)
      have hf := hrl.out k
      rw [e] at hf ⊢
      clear e
      have hz3 := Lib.hid (sub_mod hf)
      clear hf hrl hsm
      go_wp2
      go_ret
      exact ⟨ret_int hz3.out, rfl⟩
end Go.Proofs.YtficnnlajpfkbaaDoor
