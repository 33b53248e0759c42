/- Slices of bytes that lie in memory; rows of one's own; strings of rows; appends; doffernum.Bytes and Kept. -/
import Derived.Test.YtjlmeegaiagfpaaDoorProg
import Derived.Test.YtjlmeegaiagfpaaDoorLQ
import Derived.WalkKit
import Derived.WalkLawsBesides
import Derived.WalkSpells
import Derived.Laws.BitsAllLaws
import Derived.Laws.BytesArg
import Derived.Laws.Rows
import Derived.Laws.AppendOwnNone
import Derived.Lib.Hide
import Derived.Lib.SlBytesConst
import Derived.OneCell
import Derived.OwnWalk
import Derived.RangeFuncRecord
import Derived.Maps.AppendAt
import Derived.Deep.RegionHeld3
namespace Go.Proofs.YtjlmeegaiagfpaaDoor
open Go.RowKit
theorem ret_bool {a b : Bool} (h : a = b) : Ending.returned (.bool a) = .returned (.bool b) := by rw [h]
theorem ret_int {k : IntKind} {a b : Int} (h : a = b) : Ending.returned (.int k a) = .returned (.int k b) := by rw [h]
def encN (c : Nat) : Value := .int .u8 (c : Int)
/-- A slice of bytes that lies in memory: it holds l. -/
structure Src (w : World) (a : Option Addr) (n c : Nat) (l : List Nat) : Prop where
  len : l.length = n
  small : ∀ x ∈ l, x ≤ 255
  nil : a = none → n = 0 ∧ c = 0
  cells : ∀ ad, a = some ad → ∀ j u, (l.map encN)[j]? = some u → w.cell? (ad.add j) = some u
  cap : n ≤ c
theorem Src.bel {w w' : World} {a : Option Addr} {n c : Nat} {l : List Nat} (h : Src w a n c l) (hb : Bel w w') : Src w' a n c l :=
  ⟨h.len, h.small, h.nil, fun ad e j u hu => (Below.cell hb (World.block_lt_of_cell? _ _ (h.cells ad e j u hu))).trans (h.cells ad e j u hu), h.cap⟩
theorem Src.at {w : World} {a : Option Addr} {n c : Nat} {l : List Nat} (h : Src w a n c l) (hn : 0 < n) : ∃ b off, a = some ⟨b, off, none⟩ ∧ ∀ j (hj : j < l.length), w.cell? ⟨b, off + j, none⟩ = some (.int .u8 ((l[j] : Nat) : Int)) := by
  cases ha : a with
  | none => have := (h.nil ha).1; omega
  | some ad =>
    have hl := h.len
    have h0 := h.cells ad ha 0 (encN (l[0]'(by omega))) (by rw [List.getElem?_map, List.getElem?_eq_getElem (by omega)]; rfl)
    obtain ⟨b, off, spot⟩ := ad
    have hspot : spot = none := by simpa [Addr.add] using World.cell?_spot h0
    subst hspot
    refine ⟨b, off, rfl, fun j hj => ?_⟩
    have := h.cells _ ha j (encN l[j]) (by rw [List.getElem?_map, List.getElem?_eq_getElem hj]; rfl)
    have e : (⟨b, off, none⟩ : Addr).add j = ⟨b, off + j, none⟩ := by unfold Addr.add; split <;> simp_all
    rw [e] at this
    exact this

/-- A block that holds l and more behind. -/
theorem Src.of_row {w : World} {b : Nat} {l : List Nat} {cs : Array Value} {t : TypeId} {fr : Nat × Nat} {n c : Nat} (hn : l.length = n) (hb : w.heap[b]? = some (.cells cs t fr)) (he : ∀ j (hj : j < l.length), cs[j]? = some (encN l[j])) (hs : ∀ x ∈ l, x ≤ 255) (hc : n ≤ c) :
    Src w (some ⟨b, 0, none⟩) n c l := by
  refine ⟨hn, hs, (fun e => by cases e), fun ad e j u hu => ?_, hc⟩
  cases e
  have e2 : (⟨b, 0, none⟩ : Addr).add j = ⟨b, j, none⟩ := by unfold Addr.add; split <;> simp_all
  rw [e2, cell_of_row w b j _ _ _ hb]
  rw [List.getElem?_map] at hu
  cases hl : l[j]? with
  | none => rw [hl] at hu; cases hu
  | some x =>
    rw [hl] at hu
    obtain ⟨hj, rfl⟩ := List.getElem?_eq_some_iff.1 hl
    rw [he j hj]; exact hu
def row (l : List Nat) : Array Value := (l.map encN).toArray
theorem row_get {l : List Nat} : ∀ j (hj : j < l.length), (row l)[j]? = some (encN l[j]) := by
  intro j hj
  simp [row, hj]
/-- A block that was just made holds l. -/
theorem Src.new (w : World) (l : List Nat) (t : TypeId) (fr : Nat × Nat) (hs : ∀ x ∈ l, x ≤ 255) : Src (w.alloc (.cells (row l) t fr)) (some ⟨w.heap.size, 0, none⟩) l.length l.length l :=
  Src.of_row rfl (World.alloc_heap_new w _) row_get hs (Nat.le_refl _)
theorem Bel.new (w : World) (o : Obj) : Bel w (w.alloc o) := (Below.refl _ _).alloc (Nat.le_refl _) _
theorem info5 : (Tryd.prog.info? 5).map (fun i => (i.zero, i.size, i.bytes)) = some (some (.int .u8 0), 1, 1) := by kernel_rfl
theorem cells4_new (w : World) (x0 x1 x2 x3 : Value) (t : TypeId) : ∀ j u, [x0, x1, x2, x3][j]? = some u → (w.alloc (.cells #[x0, x1, x2, x3] t)).cell? ((⟨w.heap.size, 0, none⟩ : Addr).add j) = some u := by
  intro j u hj
  match j, hj with
  | 0, hj => simp at hj; subst hj; simp [Addr.add]
  | 1, hj => simp at hj; subst hj; simp [Addr.add]
  | 2, hj => simp at hj; subst hj; simp [Addr.add]
  | 3, hj => simp at hj; subst hj; simp [Addr.add]
  | n + 4, hj => simp at hj
/-- Block g is l, whole. -/
def Row (w : World) (g : Nat) (l : List Nat) : Prop := w.heap[g]? = some (.cells (row l) 5 (0, 0))
theorem Row.lt {w : World} {g : Nat} {l : List Nat} (h : Row w g l) : g < w.heap.size := lt_of_block h
theorem Row.bel {w w' : World} {g : Nat} {l : List Nat} (h : Row w g l) (hb : Bel w w') : Row w' g l := (Below.block hb g h.lt).trans h
theorem Row.src {w : World} {g : Nat} {l : List Nat} (h : Row w g l) (hs : ∀ x ∈ l, x ≤ 255) : Src w (some ⟨g, 0, none⟩) l.length l.length l := Src.of_row rfl h row_get hs (Nat.le_refl _)
/-- A row of one's own, of full length. -/
theorem Row.of_owns {w : World} {base g n : Nat} {xs : List Value} {l : List Nat} (h : w.ownsRow base 5 1 (.slice (some ⟨g, 0, none⟩) n n) n xs) (hx : xs = l.map encN) (_ : l.length = n) : Row w g l := by
  rcases h.2 with ⟨h1, _⟩ | ⟨gg, cap, cur, hv, _, hh, _, _, hcs, htk⟩
  · simp at h1
  · simp only [Value.slice.injEq, Option.some.injEq, Addr.mk.injEq, and_true, true_and] at hv
    obtain ⟨rfl, rfl⟩ := hv
    have e : cur.toList = l.map encN := by
      rw [← hx, ← htk, List.take_of_length_le (by rw [Array.length_toList, hcs]; omega)]
    have e2 : cur = row l := by unfold row; rw [← e]
    rw [e2] at hh
    exact hh
theorem i5 : ∃ i, Tryd.prog.info? 5 = some i := by
  obtain ⟨i0, hi0, _⟩ := info_parts info5
  exact ⟨i0, hi0⟩
theorem u5 : Tryd.prog.underlying 5 = some (.int .u8) := by kernel_rfl
theorem Bel.alloc {w w' : World} (h : Bel w w') (o : Obj) : Bel w (w'.alloc o) := Below.alloc h h.size o
theorem Src.head {w : World} {a : Option Addr} {c : Nat} {x y : List Nat} {n : Nat} (h : Src w a n c (x ++ y)) : Src w a x.length c x :=
  ⟨rfl, fun q hq => h.small q (by simp [hq]), fun e => by
      have h2 := h.nil e
      have h3 := h.len
      simp at h3
      exact ⟨by omega, h2.2⟩,
    fun ad e j u hu => h.cells ad e j u (by rw [List.map_append, List.getElem?_append_left (List.getElem?_eq_some_iff.1 hu).1]; exact hu),
    by have := h.len; have := h.cap; simp at *; omega⟩
theorem bytes_inj {a b : ByteArray} (h : a.toList = b.toList) : a = b := by
  rw [ByteArray.toList_eq, ByteArray.toList_eq] at h
  apply ByteArray.ext
  exact Array.toList_inj.1 h
theorem Src.tail {w : World} {bb off c : Nat} {x y : List Nat} {n : Nat} (h : Src w (some ⟨bb, off, none⟩) n c (x ++ y)) : Src w (some ⟨bb, off + x.length, none⟩) y.length (c - x.length) y := by
  refine ⟨rfl, fun q hq => h.small q (by simp [hq]), fun e => (by cases e), fun ad e j u hu => ?_, by have := h.len; have := h.cap; simp at *; omega⟩
  cases e
  have hj : j < y.length := by have := (List.getElem?_eq_some_iff.1 hu).1; simpa using this
  have := h.cells _ rfl (x.length + j) u (by rw [List.map_append, List.getElem?_append_right (by simp)]; simpa using hu)
  have e1 : (⟨bb, off, none⟩ : Addr).add (x.length + j) = ⟨bb, off + (x.length + j), none⟩ := by unfold Addr.add; split <;> simp_all
  have e2 : (⟨bb, off + x.length, none⟩ : Addr).add j = ⟨bb, off + x.length + j, none⟩ := by unfold Addr.add; split <;> simp_all
  rw [e1] at this
  rw [e2, Nat.add_assoc]
  exact this
def strN (ys : List Nat) : ByteArray := strOfNums (ys.map fun c : Nat => (c : Int))
theorem strN_size (ys : List Nat) : (strN ys).size = ys.length := by simp [strN, strOfNums_size]
theorem strN_inj {a b : List Nat} (ha : ∀ x ∈ a, x < 256) (hb : ∀ x ∈ b, x < 256) (h : strN a = strN b) : a = b := by
  have h1 : (strN a).data.toList = (strN b).data.toList := by rw [h]
  unfold strN at h1
  rw [strOfNums_data, strOfNums_data, List.map_map, List.map_map] at h1
  have hl : a.length = b.length := by simpa using congrArg List.length h1
  apply List.ext_getElem hl
  intro i hi hj
  have := congrArg (fun l => l[i]?) h1
  simp only [List.getElem?_map, List.getElem?_eq_getElem hi, List.getElem?_eq_getElem hj, Option.map_some, Function.comp_apply, Int.toNat_natCast, Option.some.injEq] at this
  have h3 := congrArg UInt8.toNat this
  rw [UInt8.toNat_ofNat', UInt8.toNat_ofNat'] at h3
  have := ha _ (List.getElem_mem hi)
  have := hb _ (List.getElem_mem hj)
  omega
theorem u24 : Tryd.prog.underlying 136 = some (.slice 5) := by kernel_rfl
theorem u9 : Tryd.prog.underlying 9 = some .string := by kernel_rfl
theorem Src.conv {w : World} {a : Option Addr} {n c : Nat} {l : List Nat} (h : Src w a n c l) : (convert 136 9 (.slice a n c)).run Tryd.prog w = .ok (.string (strN l)) w := by
  have hl := h.len
  rcases Nat.eq_zero_or_pos n with h0 | h0
  · subst h0
    obtain rfl : l = [] := List.length_eq_zero_iff.1 hl
    cases a with
    | none => rw [run_convert_bytes_nil w 136 5 u24 u5 _ _ 9 u9]; rfl
    | some a =>
      rw [run_convert_bytes_string w 136 9 5 (some a) _ c u24 u5 u9]
      exact run_bytesToString (P := Tryd.prog) w a 0 c [] (by simp [loadCells, loadCellsFrom])
  · obtain ⟨b, off, rfl, hc⟩ := h.at h0
    refine run_convert_bytes_arg w 136 5 u24 u5 b off n c _ (by simpa using hl) (fun i hi => ?_) 9 u9
    rw [hc i (by omega)]
    simp [show i < l.length by omega]

/-- Appended to a row of one's own: a slice that lies in memory, nil too. -/
theorem wpList_append_src {P : Program} (w : World) {ops : Array Oper} {rest : List Oper} {o : Oper} {a : Act} {Q : Exit → Act → World → Prop} (hgd : o.guard = none) (s x : Operand) (t : TypeId)
    (ho : o.op = .call { callee := .builtin .append, args := #[s, x], argTypes := #[t, t] })
    (base : Nat) (e : TypeId) (i : TypeInfo) (z : Value) (size bytes : Nat) (ht : P.underlying t = some (.slice e)) (hi : P.info? e = some i) (hz : i.zero = some z)
    (hsize : i.size = size) (hby : i.bytes = bytes) (hzs : z.cells.size = size) (hsz : 0 < size)
    (v : Value) (n : Nat) (xs : List Value) (hs : a.eval s = v) (hown : w.ownsRow base e size v n xs)
    (ao : Option Addr) (m c : Nat) (news : List Value) (hx : a.eval x = .slice ao m c) (hl : news.length = m * size) (hnone : ao = none → m = 0 ∧ c = 0)
    (hnews : ∀ ad, ao = some ad → ∀ j u, news[j]? = some u → w.cell? (ad.add j) = some u) (h1 : ∀ u ∈ news, u.oneCell' = true)
    (h63 : n + m ≤ maxLen) (hbytes : (n + m) * bytes ≤ 140737488355328) (hbase : base ≤ w.heap.size)
    (h : ∀ v' w', w'.ownsRow base e size v' (n + m) (xs ++ news) → w.grownBy w' v.ownBlock → wpList P ops Q rest (a.put o.dst v') w') : wpList P ops Q (o :: rest) a w := by
  cases ao with
  | some ad => exact wpList_append_own w hgd s x t ho base e i z size bytes ht hi hz hsize hby hzs hsz v n xs hs hown ad m c news hx hl (hnews ad rfl) h1 h63 hbytes hbase fun v' w' h1 h2 _ => h v' w' h1 h2
  | none =>
    obtain ⟨rfl, rfl⟩ := hnone rfl
    obtain rfl : news = [] := List.eq_nil_of_length_eq_zero (by simpa using hl)
    refine wpList_append_own_none hgd s x t ho base e i size ht hi v n xs hs hown hx (h v w (by simpa using hown) ?_)
    exact World.grownBy.refl w _
theorem row_form {w : World} {base : Nat} {e : TypeId} {size : Nat} {v : Value} {n : Nat} {xs : List Value} (h : w.ownsRow base e size v n xs) :
    ∃ (p : Option Addr) (cap : Nat), v = .slice p n cap ∧ n ≤ cap ∧ (p = none → n = 0 ∧ cap = 0) ∧ (0 < n → ∃ g, p = some ⟨g, 0, none⟩ ∧ base ≤ g ∧ g < w.heap.size ∧ ∀ j, j < n * size → w.cell? ⟨g, j, none⟩ = xs[j]?) := by
  rcases h.2 with ⟨h1, h2⟩ | ⟨g, cap, cur, hv2, hg, hh, hcap, r⟩
  · exact ⟨none, 0, by rw [h1, h2], by omega, fun _ => ⟨h2, rfl⟩, fun h => by omega⟩
  · subst hv2
    exact ⟨some ⟨g, 0, none⟩, cap, rfl, hcap, fun e => by (cases e), fun _ => ⟨g, rfl, hg, (Array.getElem?_eq_some_iff.1 hh).1, fun j hj => h.cellAt j hj⟩⟩
/-- A row of one's own is a slice that lies in memory. -/
theorem Src.of_owns {w : World} {base n : Nat} {v : Value} {l : List Nat} (h : w.ownsRow base 5 1 v n (l.map encN)) (hl : l.length = n) (hs : ∀ x ∈ l, x ≤ 255) : ∃ (p : Option Addr) (cap : Nat), v = .slice p n cap ∧ Src w p n cap l := by
  obtain ⟨p, cap, rfl, hcap, hnil, hc⟩ := row_form h
  refine ⟨p, cap, rfl, hl, hs, hnil, fun ad e j u hu => ?_, hcap⟩
  have hj : j < l.length := by have := (List.getElem?_eq_some_iff.1 hu).1; simpa using this
  obtain ⟨g, e2, _, _, hcell⟩ := hc (by omega)
  subst e
  cases e2
  have e3 : (⟨g, 0, none⟩ : Addr).add j = ⟨g, j, none⟩ := by unfold Addr.add; split <;> simp_all
  rw [e3, hcell j (by omega), hu]
theorem ownsRow_bel {w w' : World} {base : Nat} {e : TypeId} {size : Nat} {v : Value} {n : Nat} {xs : List Value} (h : w.ownsRow base e size v n xs) (hb : Below w.heap.size w w') : w'.ownsRow base e size v n xs := by
  refine ⟨h.1, ?_⟩
  rcases h.2 with h1 | ⟨g, cap, cur, hv, hg, hh, r⟩
  · exact .inl h1
  · exact .inr ⟨g, cap, cur, hv, hg, (hb.block g (Array.getElem?_eq_some_iff.1 hh).1).trans hh, r⟩
/-- An append to a row of one's own, at a step of a region that draws its order. -/
theorem step_append_src {P : Program} {w : World} {ops : Array Oper} {o : Oper} {a : Act} {K : Act → World → Prop} {Q : Exit → Act → World → Prop} {E : Prop} (hgd : o.guard = none) (s x : Operand) (t : TypeId)
    (ho : o.op = .call { callee := .builtin .append, args := #[s, x], argTypes := #[t, t] })
    (base : Nat) (e : TypeId) (i : TypeInfo) (z : Value) (size bytes : Nat) (ht : P.underlying t = some (.slice e)) (hi : P.info? e = some i) (hz : i.zero = some z)
    (hsize : i.size = size) (hby : i.bytes = bytes) (hzs : z.cells.size = size) (hsz : 0 < size)
    (v : Value) (n : Nat) (xs : List Value) (hs : a.eval s = v) (hown : w.ownsRow base e size v n xs)
    (ao : Option Addr) (m c : Nat) (news : List Value) (hx : a.eval x = .slice ao m c) (hl : news.length = m * size) (hnone : ao = none → m = 0 ∧ c = 0)
    (hnews : ∀ ad, ao = some ad → ∀ j u, news[j]? = some u → w.cell? (ad.add j) = some u) (h1 : ∀ u ∈ news, u.oneCell' = true)
    (h63 : n + m ≤ maxLen) (hbytes : (n + m) * bytes ≤ 140737488355328) (hbase : base ≤ w.heap.size)
    (h : ∀ v' w', w'.ownsRow base e size v' (n + m) (xs ++ news) → w.grownBy w' v.ownBlock → K (a.put o.dst v') w') :
    if Region.wanted o (yielded ops a.tmps) = true then Oper.wp P o a w K Q else E := by
  rw [if_pos (by simp [Region.wanted, hgd])]
  cases ao with
  | some ad => exact wp_append_own w s x t ho base e i z size bytes ht hi hz hsize hby hzs hsz v n xs hs hown ad m c news hx hl (hnews ad rfl) h1 h63 hbytes hbase fun v' w' h1 h2 _ => h v' w' h1 h2
  | none =>
    obtain ⟨rfl, rfl⟩ := hnone rfl
    obtain rfl : news = [] := List.eq_nil_of_length_eq_zero (by simpa using hl)
    have hrun := run_append_owned_none (P := P) (w := w) base t o.type e i size ht hi v n xs hown
    unfold Oper.wp
    simp [execOp, ho, resolve, invoke, builtin, hs, hx, hrun, Result.andThen]
    exact h v w (by simpa using hown) (World.grownBy.refl w _)
/-- A row of one's own as a string. -/
theorem conv_own {w : World} {base : Nat} {v : Value} {n : Nat} {ys : List Nat} (hn : ys.length = n) (hs : ∀ x ∈ ys, x ≤ 255) (h : w.ownsRow base 5 1 v n (ys.map encN)) :
    (convert 136 9 v).run Tryd.prog w = .ok (.string (strN ys)) w := by
  obtain ⟨p, cap, rfl, hsr⟩ := Src.of_owns h hn hs
  exact hsr.conv
theorem own_empty {w : World} {base g : Nat} (h : w.heap[g]? = some (.cells #[] 5 (0, 0))) (hb : base ≤ g) : w.ownsRow base 5 1 (.slice (some ⟨g, 0, none⟩) 0 0) 0 [] :=
  ⟨rfl, .inr ⟨g, 0, #[], rfl, hb, h, by simp, Nat.zero_le _, rfl, rfl⟩⟩
end Go.Proofs.YtjlmeegaiagfpaaDoor
