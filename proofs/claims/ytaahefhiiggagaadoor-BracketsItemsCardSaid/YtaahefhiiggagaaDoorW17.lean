/- BracketsItems. -/
import Derived.Test.YtaahefhiiggagaaDoorW16
import Derived.BigQuiet
import Derived.Deep.QuietTactic
import Derived.IntWalk
namespace Go.Proofs.YtaahefhiiggagaaDoor
open Go.RowKit
open S5 (nl nl_length nl_small at_nl nl_at Rd Sp Gives Two errV nl_strN nl_inj nl_append sp_small Bld)
open S1 (Blk4 SetBox wd noS oneS spanS orS notS minusS listS spU eqB el spAll spCells)
/-- A list turned by K places. -/
def rot (K : Nat) (l : List Nat) : List Nat := (List.range l.length).map fun i => l.getD ((i + K) % l.length) 0
theorem rot_len (K : Nat) (l : List Nat) : (rot K l).length = l.length := by simp [rot]
theorem rot_at {K : Nat} {l : List Nat} {i : Nat} (h : i < l.length) (hj : (i + K) % l.length < l.length) : (rot K l)[i]'(by rw [rot_len]; exact h) = l[(i + K) % l.length] := by
  simp [rot, List.getD, hj]
theorem rot_get {K : Nat} {l : List Nat} {i j : Nat} (h : i < l.length) (hjl : j < l.length) (hj : (i + K) % l.length = j) : (rot K l)[i]'(by rw [rot_len]; exact h) = l[j] := by
  subst hj
  exact rot_at h hjl
theorem rot_mem {K : Nat} {l : List Nat} (x : Nat) : x ∈ rot K l ↔ x ∈ l := by
  constructor
  · intro hx
    obtain ⟨i, hi, rfl⟩ := List.getElem_of_mem hx
    have hi' : i < l.length := by rw [rot_len] at hi; exact hi
    have hj : (i + K) % l.length < l.length := Nat.mod_lt _ (by omega)
    rw [rot_at hi' hj]
    exact List.getElem_mem _
  · intro hx
    obtain ⟨j, hj, rfl⟩ := List.getElem_of_mem hx
    have hn : 0 < l.length := by omega
    have hi : (j + (l.length - K % l.length)) % l.length < l.length := Nat.mod_lt _ hn
    have e : ((j + (l.length - K % l.length)) % l.length + K) % l.length = j := by
      have h1 : K % l.length < l.length := Nat.mod_lt _ hn
      rw [Nat.mod_add_mod]
      have h2 : j + (l.length - K % l.length) + K = j + l.length + (K - K % l.length) := by
        have := Nat.mod_le K l.length
        omega
      have h3 : (K - K % l.length) % l.length = 0 := by
        have := Nat.div_add_mod K l.length
        have h4 : K - K % l.length = l.length * (K / l.length) := by omega
        rw [h4, Nat.mul_mod_right]
      rw [h2, Nat.add_mod, h3, Nat.add_mod_right]
      simp
      exact Nat.mod_eq_of_lt hj
    have := rot_at (K := K) hi (by rw [e]; exact hj)
    simp only [e] at this
    rw [← this]
    exact List.getElem_mem _
theorem rot_set (K : Nat) (l : List Nat) : ∀ c, c < 256 → listS (rot K l) c = listS l c := fun c _ => by
  unfold listS
  rw [Bool.eq_iff_iff, List.contains_iff_mem, List.contains_iff_mem]
  exact rot_mem c
theorem itms_single (m : List Nat) : itms (m.map fun c => (c, c)) = cati m := by
  induction m with
  | nil => rfl
  | cons c m ih =>
    have e : itms ((c :: m).map fun c => (c, c)) = itm (c, c) ++ itms (m.map fun c => (c, c)) := by simp [itms]
    have e2 : cati (c :: m) = pi c ++ cati m := by simp [cati]
    rw [e, ih, e2]
    unfold itm
    rw [if_neg (by simp), if_neg (by simp)]
    simp
theorem single_set (m : List Nat) (c : Nat) : spU ((m.map fun c => (c, c)).flatMap rdp) c = listS m c := by
  rw [flat_spU (by intro p hp; obtain ⟨x, _, rfl⟩ := List.mem_map.1 hp; exact Nat.le_refl _)]
  unfold spU listS
  rw [Bool.eq_iff_iff, List.contains_iff_mem]
  simp
  constructor
  · rintro ⟨x, hx, h1, h2⟩
    obtain rfl : x = c := by omega
    exact hx
  · intro hx
    exact ⟨c, hx, Nat.le_refl _, Nat.le_refl _⟩
/-- The items of a list of bytes behind '[^' are read as what is not in it. -/
theorem br_inner {m : List Nat} (hm : ∀ x ∈ m, x ≤ 255) (hne : m ≠ []) : ∃ f' t, (∀ c, c < 256 → f' c = notS (listS m) c) ∧ Br ([91, 94] ++ cati m ++ [93]) 0 f' t 0 := by
  have h := its_read (ps := m.map fun c => (c, c)) (by intro p hp; obtain ⟨x, hx, rfl⟩ := List.mem_map.1 hp; exact ⟨Nat.le_refl _, hm x hx⟩) true [91, 94] [] (fun _ => by simpa using hne)
  rw [itms_single] at h
  refine ⟨_, _, fun c _ => ?_, Br.okNot 0 _ _ (by simp) (by simp) h⟩
  simp only [res, if_true, notS, single_set]
theorem listS_el' (l : List Nat) (hl : ∀ x ∈ l, x ≤ 255) (c : Nat) (hc : c < 256) : listS (el (listS l) 256) c = listS l c := S1.listS_el _ c hc
theorem el_ne {l : List Nat} (hl : ∀ x ∈ l, x ≤ 255) (hne : l ≠ []) : el (listS l) 256 ≠ [] := by
  obtain ⟨x, r, rfl⟩ := List.exists_cons_of_ne_nil hne
  intro e
  have : x ∈ el (listS (x :: r)) 256 := S1.el_mem.2 ⟨by have := hl x (by simp); omega, by simp [listS]⟩
  rw [e] at this
  simp at this
set_option maxRecDepth 100000 in
set_option maxHeartbeats 16000000 in
theorem bracketsItems_in {w : World} {a : Option Addr} {n cc : Nat} {l : List Nat} (hs : Src w a n cc l) (hn : n ≤ 9223372036854775807) {turn : Int} (ht : -9223372036854775808 ≤ turn ∧ turn ≤ 9223372036854775807) {E1 E2 E4 : Value} (hT : Thr w E1 E2 E4) (hTab : S1.Tab w) :
    Calls Tryd.prog 5 #[.slice a n cc, .int .i64 turn] w fun e w' => e = .returned (.bool true) ∧ Below w.heap.size w w' := by
  have cA := Lib.hid (fun w' (hb : Below w.heap.size w w') => alive_in w' (hT.bel hb))
  by_cases h1 : 40 < n
  · clear hT hs hTab
    have hB := Lib.hid (Below.refl w.heap.size w)
    go_enter Tryd.func5, Tryd.ntmps5
    go_wp2_with (go_at_call 6; (with_reducible refine (cA.out _ hB.out).mono ?_); rintro e w1 ⟨rfl, h1⟩; replace hB := Lib.hid (hB.out.trans (h1.mono hB.out.size)); clear h1)
    go_ret
    exact ⟨rfl, hB.out⟩
  by_cases h0 : n = 0
  · subst h0
    clear hT hs hTab
    have hB := Lib.hid (Below.refl w.heap.size w)
    go_enter Tryd.func5, Tryd.ntmps5
    go_wp2_with (go_at_call 6; (with_reducible refine (cA.out _ hB.out).mono ?_); rintro e w1 ⟨rfl, h1⟩; replace hB := Lib.hid (hB.out.trans (h1.mono hB.out.size)); clear h1)
    go_ret
    exact ⟨rfl, hB.out⟩
  have hn40 : n ≤ 40 := by omega
  have hn0 : 0 < n := by omega
  clear hn h1 h0
  have hsm := hs.small
  have hlen := hs.len
  have hlne : l ≠ [] := by intro e; rw [e] at hlen; simp at hlen; omega
  have hcap9 := hs.cap
  obtain ⟨bb, off, rfl, hcell⟩ := hs.at hn0
  -- the number of places
  obtain ⟨X, hX⟩ : ∃ X : Nat, IntKind.u64.wrap turn = (X : Int) := ⟨(IntKind.u64.wrap turn).toNat, by rw [IntKind.wrap_u64]; omega⟩
  have hXb : (X : Int) < 18446744073709551616 := by rw [← hX, IntKind.wrap_u64]; omega
  obtain ⟨K, hK⟩ : ∃ K, X % n = K := ⟨_, rfl⟩
  have hKn : K < n := by rw [← hK]; exact Nat.mod_lt _ hn0
  have cX := Lib.hid (fun w' (hb : Below w.heap.size w w') => together_in (ys := l) (by omega) w' (hT.bel hb))
  have cY := fun w' (hb : Below w.heap.size w w') => together_in (ys := rot K l) (by rw [rot_len]; omega) w' (hT.bel hb)
  obtain ⟨r0, r1, r2, r3⟩ := wd_same (rot_set K l)
  rw [r0, r1, r2, r3] at cY
  clear r0 r1 r2 r3
  replace cY := Lib.hid cY
  have cOf := Lib.hid (fun w' (hb : Below w.heap.size w w') => of_src (hs.bel hb) (by omega))
  have cIn := Lib.hid (fun w' (hb : Below w.heap.size w w') => inner_in (listS l) (el_ne hsm hlne) w' (hTab.below hb hTab.1))
  have cN := Lib.hid (fun w => S1.not_in (listS l) w)
  have hm8 : ∀ x ∈ el (listS l) 256, x ≤ 255 := fun x hx => by have := (S1.el_mem.1 hx).1; omega
  obtain ⟨f', t0, hf, hR⟩ := br_inner hm8 (el_ne hsm hlne)
  have hf2 : ∀ c, c < 256 → f' c = notS (listS l) c := fun c hc => by rw [hf c hc]; simp only [notS, S1.listS_el _ c hc]
  have hnl : nl (⟨#[91, 94]⟩ ++ strN (cati (el (listS l) 256)) ++ ⟨#[93]⟩) = [91, 94] ++ cati (el (listS l) 256) ++ [93] := by
    rw [nl_append, nl_append, nl_strN (cati_small hm8)]
    rfl
  rw [← hnl] at hR
  have hQs : (⟨#[91, 94]⟩ ++ strN (cati (el (listS l) 256)) ++ ⟨#[93]⟩ : ByteArray).size ≤ 99990 := by
    rw [← nl_length, hnl]
    have h1 := cati_len hm8
    have h2 := S1.el_len (listS l) 256
    simp
    omega
  have cR := fun w' (hb : Below w.heap.size w w') => bread_in hQs hR w' (hT.bel hb)
  simp only [outV_ok _ _ _ hf2, Gives] at cR
  replace cR := Lib.hid cR
  have eqA := fun w => S1.eq28 (wd (listS l) 0) (wd (listS l) 1) (wd (listS l) 2) (wd (listS l) 3) (wd (listS l) 0) (wd (listS l) 1) (wd (listS l) 2) (wd (listS l) 3) w
  have eqN := fun w => S1.eq28 (wd (notS (listS l)) 0) (wd (notS (listS l)) 1) (wd (notS (listS l)) 2) (wd (notS (listS l)) 3) (wd (notS (listS l)) 0) (wd (notS (listS l)) 1) (wd (notS (listS l)) 2) (wd (notS (listS l)) 3) w
  simp only [beq_self_eq_true, Bool.and_true] at eqA eqN
  replace eqA := Lib.hid eqA
  replace eqN := Lib.hid eqN
  generalize strN (cati (el (listS l) 256)) = Q at *
  have hcA : ∀ k (hk : k < l.length) w', Below w.heap.size w w' → w'.cell? ⟨bb, off + k, none⟩ = some (.int .u8 (l[k] : Nat)) := fun k hk w' hb => (Below.cell hb (World.block_lt_of_cell? _ _ (hcell k hk))).trans (hcell k hk)
  replace hcA := Lib.hid hcA
  have cTx := Lib.hid (fun f w' (hb : Below w.heap.size w w') => text_in f w' (hTab.below hb hTab.1))
  have szQ : Q.size ≤ 99990 := by simp [ByteArray.size_append] at hQs; omega
  clear hcell hT hTab hs hR hf hf2 hnl hQs hm8
  replace hlen := Lib.hid hlen
  replace hsm := Lib.hid hsm
  replace hlne := Lib.hid hlne
  replace hK := Lib.hid hK
  clear hXb ht
  have hne0 : ((n : Int) == 0) = false := by simp; omega
  have hB := Lib.hid (Below.refl w.heap.size w)
  go_enter Tryd.func5, Tryd.ntmps5
  go_wp2_with (go_at_call 6; (with_reducible refine (cA.out _ hB.out).mono ?_); rintro e w1 ⟨rfl, h1⟩; replace hB := Lib.hid (hB.out.trans (h1.mono hB.out.size)); clear h1)
  have hKe : wrap64 ((X : Int) % n) = (K : Int) := by
    have h1 : (X : Int) % n = (K : Int) := by rw [← hK.out]; omega
    rw [h1]
    unfold wrap64
    omega
  rw [hKe]
  clear hKe hX hK
  have hroteq := Lib.hid (fun k (hk : k < l.length) j (hjl : j < l.length) (hj : (k + K) % n = j) => rot_get (K := K) hk hjl (by rw [hlen.out]; exact hj))
  go_loopw [5, 6, 35] (fun A B i wr => ∃ k : Nat, k ≤ n ∧ i = .int .i64 k ∧ A = .string (strN (cat (l.take k))) ∧ B = .string (strN (cat ((rot K l).take k))) ∧ Hid (Below w.heap.size w wr)) (fun _ _ i _ => n - (intOf i).toNat)
  case atStart => exact ⟨0, Nat.zero_le _, rfl, by rw [show strN (cat (l.take 0)) = ⟨#[]⟩ from rfl], by rw [show strN (cat ((rot K l).take 0)) = ⟨#[]⟩ from rfl], hB⟩
  case round =>
    clear hB
    obtain ⟨k, hk, rfl, rfl, rfl, hB⟩ := hrel
    by_cases hlt : k < n
    · obtain ⟨j, hj⟩ : ∃ j, (k + K) % n = j := ⟨_, rfl⟩
      have hjn : j < n := by rw [← hj]; exact Nat.mod_lt _ hn0
      have hkl : k < l.length := by have := hlen.out; omega
      have hjl : j < l.length := by have := hlen.out; omega
      have e1 := hcA.out k hkl _ hB.out
      have hcl2 := Lib.hid (hcA.out j hjl)
      have hc8 := hsm.out l[k] (List.getElem_mem hkl)
      have hd8 := hsm.out l[j] (List.getElem_mem hjl)
      have hvA : strN (cat (l.take (k + 1))) = strN (cat (l.take k)) ++ strN (txtB (oneS l[k])) := by rw [cat_take hkl, strN_app]
      have hvB : strN (cat ((rot K l).take (k + 1))) = strN (cat ((rot K l).take k)) ++ strN (txtB (oneS l[j])) := by
        rw [cat_take (by rw [rot_len]; exact hkl), strN_app, hroteq.out k hkl j hjl hj]
      replace hvA := Lib.hid hvA
      replace hvB := Lib.hid hvB
      have szA : (strN (cat (l.take k))).size ≤ 96000 := by rw [strN_size]; have := cat_len (ys := l.take k); have := hlen.out; simp at *; omega
      have szB : (strN (cat ((rot K l).take k))).size ≤ 96000 := by rw [strN_size]; have := cat_len (ys := (rot K l).take k); have := hlen.out; have := rot_len K l; simp at *; omega
      generalize l[k] = c at *
      generalize l[j] = d at *
      have cO := Lib.hid (fun w => S1.one_in c hc8 w)
      have cO2 := Lib.hid (fun w => S1.one_in d hd8 w)
      have cT := Lib.hid (cTx.out (oneS c))
      have cT2 := Lib.hid (cTx.out (oneS d))
      have szP : (strN (txtB (oneS c))).size ≤ 2400 := by rw [strN_size]; exact txtB_len _
      have szP2 : (strN (txtB (oneS d))).size ≤ 2400 := by rw [strN_size]; exact txtB_len _
      generalize strN (txtB (oneS c)) = P1 at *
      generalize strN (txtB (oneS d)) = P2 at *
      generalize strN (cat (l.take k)) = SA at *
      generalize strN (cat ((rot K l).take k)) = SB at *
      have hrem : ((k : Int) + K) % n = (j : Int) := by rw [← hj, Int.natCast_emod, Int.natCast_add]
      clear hj
      go_wp2_with (first | (go_at_call 15; first | ((with_reducible refine (cO.out _).mono ?_); rintro e w2 ⟨rfl, h1⟩; replace hB := Lib.hid (hB.out.trans (h1.mono hB.out.size)); clear h1) | ((with_reducible refine (cO2.out _).mono ?_); rintro e w2 ⟨rfl, h1⟩; replace hB := Lib.hid (hB.out.trans (h1.mono hB.out.size)); clear h1)) | (go_at_call 7; first | ((with_reducible refine (cT.out _ hB.out).mono ?_); rintro e w3 ⟨rfl, h1⟩; replace hB := Lib.hid (hB.out.trans (h1.mono hB.out.size)); clear h1; have e3 := hcl2.out _ hB.out) | ((with_reducible refine (cT2.out _ hB.out).mono ?_); rintro e w3 ⟨rfl, h1⟩; replace hB := Lib.hid (hB.out.trans (h1.mono hB.out.size)); clear h1)))
      go_roundw
      case rel => exact ⟨k + 1, by omega, by go_num, by rw [hvA.out], by rw [hvB.out], hB⟩
      case measure => simp [intOf]; omega
    · obtain rfl : k = n := by omega
      have hall : l.take k = l := List.take_of_length_le (by rw [hlen.out]; exact Nat.le_refl _)
      have hall2 : (rot K l).take k = rot K l := List.take_of_length_le (by rw [rot_len, hlen.out]; exact Nat.le_refl _)
      rw [hall, hall2]
      clear hall hall2 hroteq hcA cTx
      go_wp2_with (go_at_call 16; first | ((with_reducible refine (cX.out _ hB.out).mono ?_); rintro e w4 ⟨rfl, h1⟩; have b9 := S1.Blk4.new w4 24 (.int .u64 (S1.wd (listS l) 0)) (.int .u64 (S1.wd (listS l) 1)) (.int .u64 (S1.wd (listS l) 2)) (.int .u64 (S1.wd (listS l) 3)); replace hB := Lib.hid ((hB.out.trans (h1.mono hB.out.size)).alloc (hB.out.trans (h1.mono hB.out.size)).size (.cells #[.int .u64 (S1.wd (listS l) 0), .int .u64 (S1.wd (listS l) 1), .int .u64 (S1.wd (listS l) 2), .int .u64 (S1.wd (listS l) 3)] 24)); clear h1) | ((with_reducible refine (cY.out _ hB.out).mono ?_); rintro e w5 ⟨rfl, h1⟩; replace b9 := S1.Blk4.alloc (S1.Blk4.bel b9 h1) (.cells #[.int .u64 (S1.wd (listS l) 0), .int .u64 (S1.wd (listS l) 1), .int .u64 (S1.wd (listS l) 2), .int .u64 (S1.wd (listS l) 3)] 24); have b11 := S1.Blk4.new w5 24 (.int .u64 (S1.wd (listS l) 0)) (.int .u64 (S1.wd (listS l) 1)) (.int .u64 (S1.wd (listS l) 2)) (.int .u64 (S1.wd (listS l) 3)); replace hB := Lib.hid ((hB.out.trans (h1.mono hB.out.size)).alloc (hB.out.trans (h1.mono hB.out.size)).size (.cells #[.int .u64 (S1.wd (listS l) 0), .int .u64 (S1.wd (listS l) 1), .int .u64 (S1.wd (listS l) 2), .int .u64 (S1.wd (listS l) 3)] 24)); clear h1))
      generalize hWc : w5.alloc (.cells #[.int .u64 (S1.wd (listS l) 0), .int .u64 (S1.wd (listS l) 1), .int .u64 (S1.wd (listS l) 2), .int .u64 (S1.wd (listS l) 3)] 24) = Wc at *
      have x0 : ∀ w', Bel Wc w' → w'.cell? ⟨w4.heap.size, 0, none⟩ = some (.int .u64 (wd (listS l) 0)) := (S1.Blk4.all b9).1
      have x1 : ∀ w', Bel Wc w' → w'.cell? ⟨w4.heap.size, 1, none⟩ = some (.int .u64 (wd (listS l) 1)) := (S1.Blk4.all b9).2.1
      have x2 : ∀ w', Bel Wc w' → w'.cell? ⟨w4.heap.size, 2, none⟩ = some (.int .u64 (wd (listS l) 2)) := (S1.Blk4.all b9).2.2.1
      have x3 : ∀ w', Bel Wc w' → w'.cell? ⟨w4.heap.size, 3, none⟩ = some (.int .u64 (wd (listS l) 3)) := (S1.Blk4.all b9).2.2.2
      have z0 : ∀ w', Bel Wc w' → w'.cell? ⟨w5.heap.size, 0, none⟩ = some (.int .u64 (wd (listS l) 0)) := (S1.Blk4.all b11).1
      have z1 : ∀ w', Bel Wc w' → w'.cell? ⟨w5.heap.size, 1, none⟩ = some (.int .u64 (wd (listS l) 1)) := (S1.Blk4.all b11).2.1
      have z2 : ∀ w', Bel Wc w' → w'.cell? ⟨w5.heap.size, 2, none⟩ = some (.int .u64 (wd (listS l) 2)) := (S1.Blk4.all b11).2.2.1
      have z3 : ∀ w', Bel Wc w' → w'.cell? ⟨w5.heap.size, 3, none⟩ = some (.int .u64 (wd (listS l) 3)) := (S1.Blk4.all b11).2.2.2
      have eq := eqA.out
      have cOf2 := Lib.hid (fun w' (hb : Bel Wc w') => cOf.out w' (hB.out.trans (Below.mono hb hB.out.size)))
      replace hWc := Lib.hid hWc
      refine wp_region_bel (by kernel_rfl) (by kernel_rfl) ?_
      repeat (first
        | go_big_quiet_skip
        | (go_big_quiet_want
           first
             | (refine BigFrame.quiet_move _ rfl ?_
                simp only [Act.put, Act.eval, List.setIfInBounds_toArray, List.set_cons_zero, List.set_cons_succ, List.getD_toArray, List.getD_cons_zero, List.getD_cons_succ]
                go_big_quiet_on)
             | (refine BigFrame.quiet_assign _ rfl ?_
                simp only [Act.put, Act.eval, List.setIfInBounds_toArray, List.set_cons_zero, List.set_cons_succ, List.getD_toArray, List.getD_cons_zero, List.getD_cons_succ]
                go_big_quiet_on)
             | (refine quiet_call 17 ?_
                apply Exists.intro
                refine ⟨fun w' hC => ?_, ?_⟩
                · go_simp
                  with_reducible rfl
                refine ⟨_, fun w' hC => Calls.bel hC (by with_reducible exact cOf2.out _ hC), ?_⟩
                simp only [Act.put, List.setIfInBounds_toArray, List.set_cons_zero, List.set_cons_succ]
                go_big_quiet_on)
             | (refine quiet_val ?_
                apply Exists.intro
                refine ⟨fun w' hC => ?_, ?_⟩
                · go_simp
                  with_reducible rfl
                simp only [Act.put, List.setIfInBounds_toArray, List.set_cons_zero, List.set_cons_succ]
                go_big_quiet_on)))
      refine wpQuiet_nil ?_
      intro wq hq
      replace hB := Lib.hid (hB.out.trans (Below.mono hq hB.out.size))
      replace b9 := S1.Blk4.bel b9 hq
      obtain ⟨⟨g0, g1, g2, g3⟩, -⟩ := S1.Blk4.facts b9
      clear x0 x1 x2 x3 z0 z1 z2 z3 hWc hq b11 cOf2
      go_wp2_with (first | (go_at_call 18; (with_reducible refine (cIn.out _ hB.out).mono ?_); rintro e w6 ⟨rfl, h1⟩; replace b9 := S1.Blk4.bel b9 h1; replace hB := Lib.hid (hB.out.trans (h1.mono hB.out.size)); clear h1) | (go_at_call 8; (with_reducible refine (cR.out _ hB.out).mono ?_); rintro e w7 ⟨rfl, h1⟩; replace b9 := S1.Blk4.alloc (S1.Blk4.bel b9 h1) (.cells #[.int .u64 (S1.wd (notS (listS l)) 0), .int .u64 (S1.wd (notS (listS l)) 1), .int .u64 (S1.wd (notS (listS l)) 2), .int .u64 (S1.wd (notS (listS l)) 3)] 24); have b13 := S1.Blk4.new w7 24 (.int .u64 (S1.wd (notS (listS l)) 0)) (.int .u64 (S1.wd (notS (listS l)) 1)) (.int .u64 (S1.wd (notS (listS l)) 2)) (.int .u64 (S1.wd (notS (listS l)) 3)); replace hB := Lib.hid ((hB.out.trans (h1.mono hB.out.size)).alloc (hB.out.trans (h1.mono hB.out.size)).size (.cells #[.int .u64 (S1.wd (notS (listS l)) 0), .int .u64 (S1.wd (notS (listS l)) 1), .int .u64 (S1.wd (notS (listS l)) 2), .int .u64 (S1.wd (notS (listS l)) 3)] 24)); clear h1))
      generalize hWd : w7.alloc (.cells #[.int .u64 (S1.wd (notS (listS l)) 0), .int .u64 (S1.wd (notS (listS l)) 1), .int .u64 (S1.wd (notS (listS l)) 2), .int .u64 (S1.wd (notS (listS l)) 3)] 24) = Wd at *
      have x0 : ∀ w', Bel Wd w' → w'.cell? ⟨w4.heap.size, 0, none⟩ = some (.int .u64 (wd (listS l) 0)) := (S1.Blk4.all b9).1
      have x1 : ∀ w', Bel Wd w' → w'.cell? ⟨w4.heap.size, 1, none⟩ = some (.int .u64 (wd (listS l) 1)) := (S1.Blk4.all b9).2.1
      have x2 : ∀ w', Bel Wd w' → w'.cell? ⟨w4.heap.size, 2, none⟩ = some (.int .u64 (wd (listS l) 2)) := (S1.Blk4.all b9).2.2.1
      have x3 : ∀ w', Bel Wd w' → w'.cell? ⟨w4.heap.size, 3, none⟩ = some (.int .u64 (wd (listS l) 3)) := (S1.Blk4.all b9).2.2.2
      have z0 : ∀ w', Bel Wd w' → w'.cell? ⟨w7.heap.size, 0, none⟩ = some (.int .u64 (wd (notS (listS l)) 0)) := (S1.Blk4.all b13).1
      have z1 : ∀ w', Bel Wd w' → w'.cell? ⟨w7.heap.size, 1, none⟩ = some (.int .u64 (wd (notS (listS l)) 1)) := (S1.Blk4.all b13).2.1
      have z2 : ∀ w', Bel Wd w' → w'.cell? ⟨w7.heap.size, 2, none⟩ = some (.int .u64 (wd (notS (listS l)) 2)) := (S1.Blk4.all b13).2.2.1
      have z3 : ∀ w', Bel Wd w' → w'.cell? ⟨w7.heap.size, 3, none⟩ = some (.int .u64 (wd (notS (listS l)) 3)) := (S1.Blk4.all b13).2.2.2
      have eq2 := eqN.out
      clear eq g0 g1 g2 g3
      replace hWd := Lib.hid hWd
      refine wp_region_bel (by kernel_rfl) (by kernel_rfl) ?_
      repeat (first
        | go_big_quiet_skip
        | (go_big_quiet_want
           first
             | (refine BigFrame.quiet_move _ rfl ?_
                simp only [Act.put, Act.eval, List.setIfInBounds_toArray, List.set_cons_zero, List.set_cons_succ, List.getD_toArray, List.getD_cons_zero, List.getD_cons_succ]
                go_big_quiet_on)
             | (refine BigFrame.quiet_assign _ rfl ?_
                simp only [Act.put, Act.eval, List.setIfInBounds_toArray, List.set_cons_zero, List.set_cons_succ, List.getD_toArray, List.getD_cons_zero, List.getD_cons_succ]
                go_big_quiet_on)
             | (refine quiet_call 19 ?_
                apply Exists.intro
                refine ⟨fun w' hC => ?_, ?_⟩
                · go_simp
                  with_reducible rfl
                refine ⟨_, fun w' hC => Calls.bel hC (by with_reducible exact cN.out _), ?_⟩
                simp only [Act.put, List.setIfInBounds_toArray, List.set_cons_zero, List.set_cons_succ]
                go_big_quiet_on)
             | (refine quiet_val ?_
                apply Exists.intro
                refine ⟨fun w' hC => ?_, ?_⟩
                · go_simp
                  with_reducible rfl
                simp only [Act.put, List.setIfInBounds_toArray, List.set_cons_zero, List.set_cons_succ]
                go_big_quiet_on)))
      refine wpQuiet_nil ?_
      intro wq hq
      clear x0 x1 x2 x3 z0 z1 z2 z3
      go_wp2
      go_ret
      exact ⟨rfl, hB.out.trans (Below.mono hq hB.out.size)⟩
end Go.Proofs.YtaahefhiiggagaaDoor
