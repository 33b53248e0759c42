/- CrcSum returns true at every slice of slices of bytes and every number; it asks that the parts lie in memory and that the table of halves lie in block 0. -/
import Derived.Test.YtficnnlajpfkbaaDoorW9
import Derived.OwnWalk
namespace Go.Proofs.YtficnnlajpfkbaaDoor
open Go.RowKit
/-- Appended to a row of one's own: a slice that lies in memory, nil too. -/
theorem wpList_append_src {P : Program} (w : World) {ops : Array Oper} {rest : List Oper} {o : Oper} {a : Act} {Q : Exit → Act → World → Prop} (hgd : o.guard = none) (s x : Operand) (t : TypeId)
    (ho : o.op = .call { callee := .builtin .append, args := #[s, x], argTypes := #[t, t] })
    (base : Nat) (e : TypeId) (i : TypeInfo) (z : Value) (size bytes : Nat) (ht : P.underlying t = some (.slice e)) (hi : P.info? e = some i) (hz : i.zero = some z)
    (hsize : i.size = size) (hby : i.bytes = bytes) (hzs : z.cells.size = size) (hsz : 0 < size)
    (v : Value) (n : Nat) (xs : List Value) (hs : a.eval s = v) (hown : w.ownsRow base e size v n xs)
    (ao : Option Addr) (m c : Nat) (news : List Value) (hx : a.eval x = .slice ao m c) (hl : news.length = m * size) (hnone : ao = none → m = 0 ∧ c = 0)
    (hnews : ∀ ad, ao = some ad → ∀ j u, news[j]? = some u → w.cell? (ad.add j) = some u) (h1 : ∀ u ∈ news, u.oneCell' = true)
    (h63 : n + m ≤ maxLen) (hbytes : (n + m) * bytes ≤ 140737488355328) (hbase : base ≤ w.heap.size)
    (h : ∀ v' w', w'.ownsRow base e size v' (n + m) (xs ++ news) → w.grownBy w' v.ownBlock → wpList P ops Q rest (a.put o.dst v') w') : wpList P ops Q (o :: rest) a w := by
  cases ao with
  | some ad => exact wpList_append_own w hgd s x t ho base e i z size bytes ht hi hz hsize hby hzs hsz v n xs hs hown ad m c news hx hl (hnews ad rfl) h1 h63 hbytes hbase fun v' w' h1 h2 _ => h v' w' h1 h2
  | none =>
    obtain ⟨rfl, rfl⟩ := hnone rfl
    obtain rfl : news = [] := List.eq_nil_of_length_eq_zero (by simpa using hl)
    refine wpList_append_own_none hgd s x t ho base e i size ht hi v n xs hs hown hx (h v w (by simpa using hown) ?_)
    exact World.grownBy.refl w _
theorem row_form {w : World} {base : Nat} {e : TypeId} {size : Nat} {v : Value} {n : Nat} {xs : List Value} (h : w.ownsRow base e size v n xs) :
    ∃ (p : Option Addr) (cap : Nat), v = .slice p n cap ∧ n ≤ cap ∧ (p = none → n = 0 ∧ cap = 0) ∧ (0 < n → ∃ g, p = some ⟨g, 0, none⟩ ∧ base ≤ g ∧ g < w.heap.size ∧ ∀ j, j < n * size → w.cell? ⟨g, j, none⟩ = xs[j]?) := by
  rcases h.2 with ⟨h1, h2⟩ | ⟨g, cap, cur, hv2, hg, hh, hcap, r⟩
  · exact ⟨none, 0, by rw [h1, h2], by omega, fun _ => ⟨h2, rfl⟩, fun h => by omega⟩
  · subst hv2
    exact ⟨some ⟨g, 0, none⟩, cap, rfl, hcap, fun e => by (cases e), fun _ => ⟨g, rfl, hg, (Array.getElem?_eq_some_iff.1 hh).1, fun j hj => h.cellAt j hj⟩⟩
/-- A row of one's own is a slice that lies in memory. -/
theorem Src.of_owns {w : World} {base n : Nat} {v : Value} {l : List Nat} (h : w.ownsRow base 5 1 v n (l.map encN)) (hl : l.length = n) (hs : ∀ x ∈ l, x ≤ 255) : ∃ (p : Option Addr) (cap : Nat), v = .slice p n cap ∧ Src w p n cap l := by
  obtain ⟨p, cap, rfl, hcap, hnil, hc⟩ := row_form h
  refine ⟨p, cap, rfl, hl, hs, hnil, fun ad e j u hu => ?_, hcap⟩
  have hj : j < l.length := by have := (List.getElem?_eq_some_iff.1 hu).1; simpa using this
  obtain ⟨g, e2, _, _, hcell⟩ := hc (by omega)
  subst e
  cases e2
  have e3 : (⟨g, 0, none⟩ : Addr).add j = ⟨g, j, none⟩ := by unfold Addr.add; split <;> simp_all
  rw [e3, hcell j (by omega), hu]
theorem ownsRow_bel {w w' : World} {base : Nat} {e : TypeId} {size : Nat} {v : Value} {n : Nat} {xs : List Value} (h : w.ownsRow base e size v n xs) (hb : Below w.heap.size w w') : w'.ownsRow base e size v n xs := by
  refine ⟨h.1, ?_⟩
  rcases h.2 with h1 | ⟨g, cap, cur, hv, hg, hh, r⟩
  · exact .inl h1
  · exact .inr ⟨g, cap, cur, hv, hg, (hb.block g (Array.getElem?_eq_some_iff.1 hh).1).trans hh, r⟩
theorem Marked.src {w : World} {g : Nat} {l : List Nat} (h : Marked w g l) (hs : ∀ x ∈ l, x ≤ 255) : Src w (some ⟨g, 0, none⟩) l.length (l.length + 6) l :=
  Src.of_row rfl h (fun j hj => by rw [List.getElem?_toArray, List.getElem?_append_left (by simpa using hj)]; simp [hj]) hs (by omega)
set_option maxRecDepth 100000 in
set_option maxHeartbeats 4000000 in
theorem sumlaw_in (p : Option Addr) (n c : Nat) (ls : List (List Nat)) (sum : Int) (w : World) (hP : Parts w p n c ls) (hT : Tab w) (hn : n ≤ 9223372036854775807) (hm : ∀ l ∈ ls, l.length ≤ 9223372036854775807) :
    Calls Tryd.prog 3 #[.slice p n c, .int .i64 sum] w fun e w' => e = .returned (.bool true) ∧ Below w.heap.size w w' := by
  obtain ⟨i0, hi, hz0, hz1, hz2⟩ := info_parts info5
  have hlen := hP.len
  subst hlen
  have hA := alive_in w hT
  replace hP := Lib.hid hP
  replace hT := Lib.hid hT
  replace hA := Lib.hid hA
  by_cases h20 : ls.length ≤ 20
  · have h20' : ¬ (20 < (ls.length : Int)) := by omega
    clear hn
    go_enter Tryd.func3, Tryd.ntmps3
    go_wp2_with (go_at_call 6; refine hA.out.mono ?_; rintro e w1 ⟨rfl, hb1⟩; replace hP := Lib.hid (hP.out.bel hb1); replace hT := Lib.hid (hT.out.bel hb1); replace hb1 := Lib.hid hb1)
    have hrow0 : (w1.alloc (.cells #[] 5)).ownsRow w1.heap.size 5 1 (.slice (some ⟨w1.heap.size, 0, none⟩) 0 0) 0 [] := by
      have := World.ownsRow_lit (base := w1.heap.size) (e := 5) (size := 1) w1 #[] 0 (Nat.le_refl _) (by decide) rfl
      simpa using this
    have hb2 := Bel.new w1 (.cells #[] 5)
    clear hA
    revert hrow0 hb2
    generalize w1.alloc (.cells #[] 5) = w2
    intro hrow0 hb2
    go_loopw [5, 17] (fun v i wr => ∃ k : Nat, k ≤ ls.length ∧ i = .int .i64 k ∧ Hid (∀ l ∈ ls.take k, l.length ≤ 1000) ∧ (ls.take k).flatten.length ≤ 1000 * k ∧
      Hid (wr.ownsRow w1.heap.size 5 1 v (ls.take k).flatten.length ((ls.take k).flatten.map encN)) ∧ Hid (Bel w1 wr)) (fun _ i _ => ls.length - (intOf i).toNat)
    case atStart => exact ⟨0, Nat.zero_le _, rfl, Lib.hid (by simp), by simp, Lib.hid (by simpa using hrow0), Lib.hid hb2⟩
    case round =>
      clear hrow0 hb2
      obtain ⟨k, hk, rfl, hle, hfl, hrow, hBel⟩ := hrel
      replace hP := Lib.hid (hP.out.bel hBel.out)
      replace hT := Lib.hid (hT.out.bel hBel.out)
      by_cases hlt : k < ls.length
      · obtain ⟨b, off, a, c', rfl, hcell, hsrc⟩ := hP.out.each k hlt
        have hbig := hm ls[k] (List.getElem_mem hlt)
        by_cases h1k : ls[k].length ≤ 1000
        · have hf := Lib.hid (flat_take hlt)
          have hle2 : Hid (∀ l ∈ ls.take (k + 1), l.length ≤ 1000) := Lib.hid (by
            intro l hl
            rw [List.take_succ_eq_append_getElem hlt] at hl
            rcases List.mem_append.1 hl with h | h
            · exact hle.out l h
            · rw [List.mem_singleton.1 h]; exact h1k)
          have hnl := Lib.hid hsrc.nil
          have hcs := Lib.hid hsrc.cells
          have hone : Hid (∀ u ∈ ls[k].map encN, u.oneCell' = true) := Lib.hid (by intro u hu; obtain ⟨x, _, rfl⟩ := List.mem_map.1 hu; rfl)
          have hlc : Hid ((ls[k].map encN).length = ls[k].length * 1) := Lib.hid (by simp)
          clear hsrc hbig hle hP hT
          generalize (ls.take k).flatten = fk at *
          generalize ls[k] = y at *
          have hny : ¬ (1000 < (y.length : Int)) := by omega
          go_wp2_with (at_builtin; refine wpList_append_src _ rfl _ _ 24 rfl w1.heap.size 5 i0 (.int .u8 0) 1 1 Tryd.underlying24 hi hz0 hz1 hz2 rfl (by decide) _ _ _ rfl hrow.out a y.length c' (y.map encN) rfl hlc.out hnl.out hcs.out hone.out (by simp [maxLen]; omega) (by omega) hBel.out.size ?_; intro v' w4 hown' hgrow; replace hBel := Lib.hid (Below.grown hBel.out hgrow hBel.out.size (fun k ek => (hrow.out.lt k ek).1)); replace hown' := Lib.hid hown')
          go_roundw
          case rel =>
            refine ⟨k + 1, by omega, by go_num, hle2, ?_, ?_, hBel⟩
            · rw [hf.out, List.length_append]; omega
            · rw [hf.out, List.length_append, List.map_append]; exact hown'
          case measure => simp [intOf]; omega
        · have h1k' : (1000 < (ls[k].length : Int)) := by omega
          clear hsrc
          generalize ls[k] = y at *
          go_wp2
          go_ret
          exact ⟨rfl, hb1.out.trans (hBel.out.mono hb1.out.size)⟩
      · have e : ls.take k = ls := List.take_of_length_le (by omega)
        rw [e] at hle hfl hrow
        clear e
        have hle' : ∀ l ∈ ls, l.length ≤ 100000 := fun l hl => Nat.le_trans (hle.out l hl) (by decide)
        have hsm : ∀ x ∈ ls.flatten, x ≤ 255 := by
          intro x hx
          obtain ⟨l, hl, hxl⟩ := List.mem_flatten.1 hx
          obtain ⟨m, hm', rfl⟩ := List.getElem_of_mem hl
          obtain ⟨_, _, _, _, _, _, hs2⟩ := hP.out.each m hm'
          exact hs2.small x hxl
        have hp1 : Hid (Bel w1 wr) := hBel
        obtain ⟨q, cap, rfl, hsa⟩ := Src.of_owns hrow.out rfl hsm
        have hcapq := hsa.cap
        have hS1 : ∀ w', Bel wr w' → Calls Tryd.prog 8 #[.slice p ls.length c] w' fun e w'' => e = .returned (.int .i64 (crcN 0 ls.flatten : Nat)) ∧ w' = w'' :=
          fun w' hb => sum_in p ls.length c ls w' (hP.out.bel hb) (hT.out.bel hb) (by omega) hle'
        have hfl2 : ls.flatten.length ≤ 20000 := by omega
        clear hfl hle hle' hrow hm
        generalize ls.flatten = L at *
        have hR0 : ∀ w', Bel wr w' → Calls Tryd.prog 9 #[.int .u32 0, .slice q L.length cap] w' fun e w'' => e = .returned (.int .u32 (crcN 0 L : Nat)) ∧ w' = w'' :=
          fun w' hb => rsum_in 0 (by decide) q cap L w' (hsa.bel hb) (by omega)
        obtain ⟨sn, hsn⟩ : ∃ sn : Nat, sum % 4294967296 = (sn : Int) := ⟨(sum % 4294967296).toNat, by omega⟩
        have hsn32 : sn < 2 ^ 32 := by omega
        have hRs : ∀ w', Bel wr w' → Calls Tryd.prog 9 #[.int .u32 sn, .slice q L.length cap] w' fun e w'' => e = .returned (.int .u32 (crcN sn L : Nat)) ∧ w' = w'' :=
          fun w' hb => rsum_in sn hsn32 q cap L w' (hsa.bel hb) (by omega)
        have hMo : ∀ w', Bel wr w' → Calls Tryd.prog 11 #[.int .i64 sum, .slice q L.length cap] w' fun e w'' => e = .returned (.int .i64 (crcN sn L : Nat)) ∧ w' = w'' :=
          fun w' hb => more_in sum sn hsn q cap L w' (hsa.bel hb) (hT.out.bel hb) (by omega)
        have hBy := bytes_in q L.length cap L (by omega) wr hsa
        have hS2 : ∀ g w5, Bel wr w5 → Marked w5 g L → Calls Tryd.prog 8 #[.slice (some ⟨w5.heap.size, 0, none⟩) 1 1] (w5.alloc (.cells #[.slice (some ⟨g, 0, none⟩) L.length (L.length + 6)] 24)) fun e w'' => e = .returned (.int .i64 (crcN 0 L : Nat)) ∧ w5.alloc (.cells #[.slice (some ⟨g, 0, none⟩) L.length (L.length + 6)] 24) = w'' := by
          intro g w5 hb hmk
          have b1 := Bel.new w5 (.cells #[.slice (some ⟨g, 0, none⟩) L.length (L.length + 6)] 24)
          have hx := sum_in _ 1 1 [L] _ (one_part (World.alloc_heap_new w5 (.cells #[.slice (some ⟨g, 0, none⟩) L.length (L.length + 6)] 24)) ((hmk.src hsm).bel b1)) ((hT.out.bel hb).bel b1) (by decide) (by simpa using (by omega : L.length ≤ 100000))
          rw [show ([L] : List (List Nat)).flatten = L by simp] at hx
          exact hx
        have hKe : ∀ g w5, Bel wr w5 → Marked w5 g L → Calls Tryd.prog 10 #[.slice (some ⟨g, 0, none⟩) L.length (L.length + 6), .slice q L.length cap] (w5.alloc (.cells #[.slice (some ⟨g, 0, none⟩) L.length (L.length + 6)] 24)) fun e w' => e = .returned (.bool true) ∧ Below (w5.alloc (.cells #[.slice (some ⟨g, 0, none⟩) L.length (L.length + 6)] 24)).heap.size (w5.alloc (.cells #[.slice (some ⟨g, 0, none⟩) L.length (L.length + 6)] 24)) w' := by
          intro g w5 hb hmk
          have b1 := Bel.new w5 (.cells #[.slice (some ⟨g, 0, none⟩) L.length (L.length + 6)] 24)
          exact kept_in q cap g L (by omega) _ ((hsa.bel hb).bel b1) (hmk.bel b1)
        have hz1' := crcN_lt (s := 0) L
        have hz2' := crcN_lt (s := sn) L
        have hu : IntKind.u32.wrap sum = (sn : Int) := by rw [IntKind.wrap_u32]; exact hsn
        clear hsn hsn32 hsa hP hT hsm
        generalize crcN 0 L = z0 at *
        generalize crcN sn L = zs at *
        have hw0 : wrap64 (z0 : Int) = z0 := by unfold wrap64; omega
        have hw1 : wrap64 (zs : Int) = zs := by unfold wrap64; omega
        clear hz1' hz2'
        replace hS1 := Lib.hid hS1
        replace hS2 := Lib.hid hS2
        replace hR0 := Lib.hid hR0
        replace hRs := Lib.hid hRs
        replace hMo := Lib.hid hMo
        replace hKe := Lib.hid hKe
        replace hBy := Lib.hid hBy
        have hq := Lib.hid (Bel.refl wr)
        go_wp2_with (first
          | (go_at_call 7; (with_reducible refine hBy.out.mono ?_); rintro e w5 ⟨g, rfl, _, hmk, hb5⟩; replace hmk := Lib.hid hmk; replace hq := Lib.hid (Bel.step hq.out hb5); clear hb5)
          | (go_at_call 8; (with_reducible refine (hS1.out _ hq.out).mono ?_); rintro e w' ⟨rfl, rfl⟩)
          | (go_at_call 9; (with_reducible refine (hR0.out _ hq.out).mono ?_); rintro e w' ⟨rfl, rfl⟩)
          | (go_at_call 8; (with_reducible refine (hS2.out g w5 hq.out hmk.out).mono ?_); rintro e w' ⟨rfl, rfl⟩)
          | (go_at_call 9; (with_reducible refine (hR0.out _ (Bel.alloc hq.out _)).mono ?_); rintro e w' ⟨rfl, rfl⟩)
          | (go_at_call 10; (with_reducible refine (hKe.out g w5 hq.out hmk.out).mono ?_); rintro e w7 ⟨rfl, hb7⟩; replace hq := Lib.hid (Bel.step (Bel.alloc hq.out _) hb7); clear hb7)
          | (go_at_call 11; (with_reducible refine (hMo.out _ hq.out).mono ?_); rintro e w' ⟨rfl, rfl⟩)
          | (go_at_call 9; (with_reducible refine (hRs.out _ hq.out).mono ?_); rintro e w' ⟨rfl, rfl⟩))
        go_ret
        exact ⟨rfl, hb1.out.trans ((hp1.out.trans (hq.out.mono hp1.out.size)).mono hb1.out.size)⟩
  · have h20' : (20 < (ls.length : Int)) := by omega
    go_enter Tryd.func3, Tryd.ntmps3
    go_wp2_with (go_at_call 6; refine hA.out.mono ?_; rintro e w1 ⟨rfl, hb1⟩; replace hb1 := Lib.hid hb1)
    go_ret
    exact ⟨rfl, hb1.out⟩
end Go.Proofs.YtficnnlajpfkbaaDoor
