/- Texts merged: S7RF, S7T, S7M, S7W1, S7W2. -/
import Derived.RangeFuncNested
import Derived.RangeFuncBound
import Derived.RangeFuncCalls
import Derived.RangeFuncLeaves
import Derived.ChangeArms
import Derived.OpenShut
import Derived.DataReads
import Derived.RowKit
import Derived.Laws.IdiomArrays
import Derived.ChangeSame
import Derived.Deep.Slices
import Derived.Below
import Derived.Test.YtobbifhflnlplaaDoorLB
import Derived.Test.YtobbifhflnlplaaDoorS5A
namespace Go.Tree7
open Go.RowKit
variable {n : Nat} {P : Program}
def Stays {β : Type} (B : Nat) (I : β → World → Prop) : Prop := ∀ s X Y row, I s X → X.grownBy Y row → (∀ r, row = some r → B ≤ r ∧ r < B + 3) → I s Y
theorem Stays.and {β : Type} {B : Nat} {I J : β → World → Prop} (h : Stays B I) (k : Stays B J) : Stays B (fun s W => I s W ∧ J s W) :=
 fun s X Y row hs hg hr => ⟨h s X Y row hs.1 hg hr, k s X Y row hs.2 hg hr⟩
theorem Stays.pure {β : Type} (B : Nat) (p : β → Prop) : Stays B (fun s (_ : World) => p s) := fun _ _ _ _ hs _ _ => hs
theorem Stays.block {β : Type} {B k : Nat} (hk : k < B) (o : β → Obj) : Stays B (fun s W => W.heap[k]? = some (o s)) := fun s X Y row hs hg hr =>
 (hg.block k (Array.getElem?_eq_some_iff.1 hs).1 (fun e => by have := (hr k e.symm).1; omega)).trans hs
theorem Stays.below {β : Type} {B n₀ : Nat} {w : World} (hn : n₀ ≤ B) (hn' : n₀ ≤ w.heap.size) : Stays B (fun (_ : β) W => Below n₀ w W) := fun _ _ _ _ hs hg hr =>
 hs.grown hg (Nat.le_trans hn' hs.size) (fun k e => Nat.le_trans hn (hr k e).1)
theorem Stays.putObj {β : Type} {B : Nat} {I : β → World → Prop} (h : Stays B I) {s : β} {W : World} {l : Nat} (o : Obj) (hs : I s W) (hl : B ≤ l) (hl' : l < B + 3) : I s (W.putObj l o) :=
 h s W _ (some l) hs (grownBy_putObj' W l o) (fun r e => by cases e; exact ⟨hl, hl'⟩)
theorem Stays.alloc {β : Type} {B : Nat} {I : β → World → Prop} (h : Stays B I) {s : β} {W : World} (o : Obj) (hs : I s W) : I s (W.alloc o) :=
 h s W _ none hs (World.grownBy_alloc W o none) (fun r e => by cases e)
def SeqV {α : Type} (n : Nat) (P : Program) (g : Nat) (lb : Array Value) (ok : α → Prop) (encs : α → Array Value) (Kp : World → World → Prop) (S Sp : List α → Prop) (N : Nat) (w : World) : Prop :=
 ∀ (l : Nat) (J Jx : List α → World → Prop) (W : World), Below w.heap.size w W →
  (∀ s X Y row, J s X → X.grownBy Y row → (∀ r, row = some r → r = W.heap.size) → J s Y) → (∀ s X Y row, Jx s X → X.grownBy Y row → (∀ r, row = some r → r = W.heap.size) → Jx s Y) →
  (∀ m pre x W1, ok x → J pre W1 → pre.length < N → YieldAt Fence.wide m P l (encs x) W1 fun e W' => (e = .returned (.bool true) ∧ J (pre ++ [x]) W' ∧ Kp W1 W') ∨ (e = .returned (.bool false) ∧ Jx (pre ++ [x]) W')) →
  J [] W →
  CallsIn Fence.wide n P g (#[.func (.yield l) #[] #[]] ++ lb) W fun e W' => (∃ v, e = .returned v) ∧ ((∃ xs, S xs ∧ J xs W') ∨ (∃ pre, Sp pre ∧ Jx pre W'))
theorem room_any (m : Nat) : Fence.wide.room m := fun d h => by cases h
theorem round_any {m m' : Nat} {l : Nat} {f : FuncId} {tmps : Array Value} {assign body : Code} {w : World} {R : Ending → World → Prop} (h : RoundIn Fence.wide m P l f tmps assign body w R) : RoundIn Fence.wide m' P l f tmps assign body w R :=
 ⟨h.1, fun c cs _ => h.2 c cs (room_any _)⟩
theorem YieldAt.any {m m' : Nat} {l : Nat} {args : Array Value} {W : World} {R : Ending → World → Prop} (h : YieldAt Fence.wide m P l args W R) : YieldAt Fence.wide m' P l args W R := by
 obtain ⟨fn, tmps, assign, body, hy, hR⟩ := h
 exact ⟨fn, tmps, assign, body, hy, round_any hR⟩
set_option maxHeartbeats 1000000 in
theorem rangeV {α : Type} {g : Operand} {ps : Array Tmp} {assign body : Code} {Q : Exit → Act → World → Prop} {a : Act} {w : World} (h1 : 1 ≤ n) {gf : Nat} {lb : Array Value}
  (hg : a.eval g = .func (.func gf) #[] lb) (eg : ∀ args w, (callFunc gf args).run P w = .ok (.enter gf args) w)
  {ok : α → Prop} {encs : α → Array Value} {Kp : World → World → Prop} {S Sp : List α → Prop} {N : Nat} {w0 : World} (hseq : SeqV (n - 1) P gf lb ok encs Kp S Sp N w0)
  (hKt : ∀ {A B C : World}, Kp A B → Kp B C → Kp A C) (hKb : ∀ (W : World) (l : Nat) (o o' : Obj), w.heap.size ≤ l → W.heap[l]? = some o → o.isCells = false → o.isWalk = false → Kp W (W.putObj l o'))
  (hb0 : Below w0.heap.size w0 w) (hps : ∀ x, (encs x).size = ps.size)
  (I : List α → World → Prop) (Ix : Code → List α → World → Prop) (hI : Stays w.heap.size I) (hIx : ∀ c, Stays w.heap.size (Ix c)) (h0 : I [] w)
  (Ax : α → Act → World → Prop) (hAx : ∀ x a' W o, Ax x a' W → Ax x a' (W.putObj (w.heap.size + 1) o))
  (hassign : ∀ (l : Nat) (pre : List α) (x : α) (W : World) (K : Act → World → Prop), ok x → w.heap.size + 2 ≤ W.heap.size → I pre W → (∀ a' W', KeepsFrom w.heap.size W W' → Kp W W' → I pre W' → Ax x a' W' → K a' W') →
   assign.wpIn (Fence.wide.inRound l) (n - 1 - 1) P (Exit.then K (fun _ _ _ => False)) { tmps := (ps.zip (encs x)).foldl (fun t (p, v) => t.setIfInBounds p v) a.tmps, defers := [] } W)
  (hbody : ∀ (l : Nat) (pre : List α) (x : α) (a' : Act) (W : World), ok x → w.heap.size + 2 ≤ W.heap.size → I pre W → Ax x a' W → pre.length < N → body.wpIn (Fence.wide.inRound l) (n - 1 - 1) P (ownPostG w.heap.size Kp I Ix (pre ++ [x]) W) a' W)
  (hdone : ∀ (D : Nat) (xs : List α) (W : World), w.heap.size ≤ D → S xs → I xs W → W.heap[D]? = some (.deferred (some [])) → Q .normal { a with defers := { target := .collected D, args := #[] } :: a.defers } W)
  (hstop : ∀ (D : Nat) (c : Code) (pre : List α) (W : World), w.heap.size ≤ D → Sp pre → Ix c pre W → W.heap[D]? = some (.deferred (some [])) → c.wpIn Fence.wide n P Q { a with defers := { target := .collected D, args := #[] } :: a.defers } W) :
  (Code.rangeFunc g ps assign body).wpIn Fence.wide n P Q a w := by
 refine wpIn_rangeFunc fun fn hfn => ?_
 -- the record at block B + 1, the rounds' deferred calls at block B
 obtain ⟨B, hB⟩ : ∃ B, w.heap.size = B := ⟨_, rfl⟩
 obtain ⟨rec, hrec⟩ : ∃ rec : LoopState → Option Code → Loop, rec = fun st pe => { state := st, pending := pe, fn, tmps := a.tmps, params := ps, assign, body, defers := B } := ⟨_, rfl⟩
 obtain ⟨V, hV⟩ : ∃ V, (w.alloc (.deferred (some []))).alloc (.loop (rec .ready none)) = V := ⟨_, rfl⟩
 have sV : V.heap.size = B + 2 := by rw [← hV, ← hB]; simp
 have rV : V.heap[B + 1]? = some (.loop (rec .ready none)) := by
  have := World.alloc_heap_new (w.alloc (.deferred (some []))) (.loop (rec .ready none))
  rw [World.size_alloc, hV, hB] at this
  exact this
 have dV : V.heap[B]? = some (.deferred (some [])) := by
  have := World.alloc_heap_new w (.deferred (some []))
  rw [hB] at this
  rw [← hV]
  exact (Below.heap_alloc _ _ _ (by simp; omega)).trans this
 have bV : Below w0.heap.size w0 V := by
  rw [← hV]; exact hb0.trans ((((Below.refl _ w).alloc (Nat.le_refl _) _).alloc (by simp) _).mono hb0.size)
 have iV : I [] V := by rw [← hV]; exact hI.alloc _ (hI.alloc _ h0)
 rw [hB] at hI hIx hAx hKb hdone hstop hbody hassign
 refine ⟨B + 1, [{ target := .collected B, args := #[] }], V, { target := .fn (.func gf) lb, args := #[.func (.yield (B + 1)) #[] #[]] }, V, gf, #[.func (.yield (B + 1)) #[] #[]] ++ lb, V, ?_, ?_, ?_, ?_, fun _ => h1, ?_⟩
 ·have := run_enterLoop_outer (P := P) (w := w) fn a.tmps ps assign body
  rw [← hV, hrec, ← hB]
  exact this
 ·simp only [resolve, hg]
  simp [go_sem]
 ·intro f' _; trivial
 ·simp [invoke, go_sem, eg]
 have two : ∀ {X Y : World} {row : Option Nat} {k : Nat} {o : Obj}, k < B + 2 → X.heap[k]? = some o → X.grownBy Y row → (∀ r, row = some r → r = V.heap.size) → Y.heap[k]? = some o := fun {X Y row k o} hk ho hg hr =>
  (hg.block k (Array.getElem?_eq_some_iff.1 ho).1 (fun e => by have := hr k e.symm; omega)).trans ho
 have in3 : ∀ {row : Option Nat}, (∀ r, row = some r → r = V.heap.size) → ∀ r, row = some r → B ≤ r ∧ r < B + 3 := fun hr r e => by have := hr r e; omega
 refine (hseq (B + 1) (fun pre W => I pre W ∧ W.heap[B + 1]? = some (.loop (rec .ready none)) ∧ W.heap[B]? = some (.deferred (some [])))
  (fun pre W => ∃ c, Ix c pre W ∧ W.heap[B + 1]? = some (.loop (rec .done (some c))) ∧ W.heap[B]? = some (.deferred (some []))) V bV
  (fun s X Y row hs hg' hr => ⟨hI s X Y row hs.1 hg' (in3 hr), two (by omega) hs.2.1 hg' hr, two (by omega) hs.2.2 hg' hr⟩)
  (fun s X Y row ⟨c, hs⟩ hg' hr => ⟨c, hIx c s X Y row hs.1 hg' (in3 hr), two (by omega) hs.2.1 hg' hr, two (by omega) hs.2.2 hg' hr⟩) ?_ ⟨iV, rV, dV⟩).mono ?_
 ·-- one round
  rintro m pre x W hok ⟨hi, hl, hd⟩ hlen
  have hlt : B + 1 < W.heap.size := (Array.getElem?_eq_some_iff.1 hl).1
  have hy := run_yield (P := P) (args := encs x) hl (by rw [hrec]; exact hps x)
  rw [hrec] at hy
  refine YieldAt.any (m := n - 1 - 1) ⟨fn, _, assign, body, hy, roundIn_of_wpIn hfn (hassign _ pre x W _ hok (by omega) hi ?_)⟩
  intro a' U hfU hkU hiU hax
  have hlU := hfU.same _ _ (by omega) hl rfl
  have hdU := hfU.same _ _ (Nat.le_refl _) hd rfl
  have hltU : B + 1 < U.heap.size := (Array.getElem?_eq_some_iff.1 hlU).1
  refine ⟨_, run_beginRound hlU (by rw [hrec]), ?_⟩
  obtain ⟨X, hX⟩ : ∃ X, U.putObj (B + 1) (.loop { rec .ready none with state := .busy }) = X := ⟨_, rfl⟩
  have hlX : X.heap[B + 1]? = some (.loop { rec .ready none with state := .busy }) := by rw [← hX]; exact World.putObj_heap_same hltU
  have hdX : X.heap[B]? = some (.deferred (some [])) := by rw [← hX]; exact (World.putObj_heap_other (by omega)).trans hdU
  have hkX : Kp W X := by rw [← hX]; exact hKt hkU (hKb _ _ _ _ (by omega) hlU rfl rfl)
  have hiX : I pre X := by rw [← hX]; exact hI.putObj _ hiU (by omega) (by omega)
  have haX : Ax x a' X := by rw [← hX]; exact hAx x a' U _ hax
  have hsX : B + 2 ≤ X.heap.size := by have := (Array.getElem?_eq_some_iff.1 hlX).1; omega
  rw [hX]
  refine wpIn_mono (hbody _ pre x a' X hok hsX hiX haX hlen) ?_
  have fin : ∀ (jump : Option Code) (Z : World), KeepsFrom B X Z → ∃ Z', (Instr.endRound (B + 1) jump).run P Z = .ok (.bool jump.isNone) Z' ∧ Z' = Z.putObj (B + 1) (.loop (rec (if jump.isNone then .ready else .done) jump)) ∧
    Z'.heap[B + 1]? = some (.loop (rec (if jump.isNone then .ready else .done) jump)) ∧ Z'.heap[B]? = some (.deferred (some [])) ∧ Kp Z Z' := fun jump Z hZ => by
   have hlZ := hZ.same _ _ (by omega) hlX rfl
   have hdZ := hZ.same _ _ (Nat.le_refl _) hdX rfl
   have hr := run_endRound (P := P) jump hlZ
   refine ⟨_, ?_, rfl, World.putObj_heap_same (Array.getElem?_eq_some_iff.1 hlZ).1, (World.putObj_heap_other (by omega)).trans hdZ, hKb _ _ _ _ (by omega) hlZ rfl rfl⟩
   rw [hrec] at hr ⊢
   exact hr
  have out : ∀ (c : Code) (Z : World), KeepsFrom B X Z → Ix c (pre ++ [x]) Z → ∃ v Z', (Instr.endRound (B + 1) (some c)).run P Z = .ok v Z' ∧ v = .bool false ∧ ∃ c, Ix c (pre ++ [x]) Z' ∧ Z'.heap[B + 1]? = some (.loop (rec .done (some c))) ∧ Z'.heap[B]? = some (.deferred (some [])) := fun c Z hZ hz => by
   obtain ⟨Z', hr, rfl, h1, h2, -⟩ := fin (some c) Z hZ
   exact ⟨_, _, hr, rfl, c, (hIx c).putObj _ hz (by omega) (by omega), h1, h2⟩
  rintro e a3 Z hp
  cases e with
  | normal =>
   obtain ⟨hZ, hkZ, hiZ⟩ := hp
   obtain ⟨Z', hr, rfl, h1, h2, h3⟩ := fin none Z hZ
   exact ⟨_, _, hr, .inl ⟨rfl, ⟨hI.putObj _ hiZ (by omega) (by omega), h1, h2⟩, hKt hkX (hKt hkZ h3)⟩⟩
  | ret => obtain ⟨v, Z', hr, rfl, h⟩ := out .ret Z hp.1 hp.2; exact ⟨_, _, hr, .inr ⟨rfl, h⟩⟩
  | exit id => obtain ⟨v, Z', hr, rfl, h⟩ := out (.exit id) Z hp.1 hp.2; exact ⟨_, _, hr, .inr ⟨rfl, h⟩⟩
  | goto t => obtain ⟨v, Z', hr, rfl, h⟩ := out (.goto t) Z hp.1 hp.2; exact ⟨_, _, hr, .inr ⟨rfl, h⟩⟩
  | panic ch => exact hp.elim
  | outgrown => exact hp.elim
 ·-- behind the iterator
  have fin : ∀ (st : LoopState) (pe : Option Code) (Z : World), st ≠ .busy → Z.heap[B + 1]? = some (.loop (rec st pe)) → (Instr.endLoop (B + 1)).run P Z = .ok pe (Z.putObj (B + 1) (.loop (rec .exhausted pe))) := fun st pe Z hst hl => by
   have := run_endLoop (P := P) hl (by rw [hrec]; exact hst)
   rw [hrec] at this ⊢
   exact this
  rintro e Z ⟨⟨v, rfl⟩, (⟨xs, hS, hi, hl, hd⟩ | ⟨pre, hSp, c, hi, hl, hd⟩)⟩
  ·exact ⟨none, _, fin _ _ Z (by simp) hl, hdone B xs _ (Nat.le_refl _) hS (hI.putObj _ hi (by omega) (by omega)) ((World.putObj_heap_other (by omega)).trans hd)⟩
  ·exact ⟨some c, _, fin _ _ Z (by simp) hl, hstop B c pre _ (Nat.le_refl _) hSp ((hIx c).putObj _ hi (by omega) (by omega)) ((World.putObj_heap_other (by omega)).trans hd)⟩
end Go.Tree7
namespace Go.Tree7
open Go.ChangeShapes Go.WideShapes Go.RowKit

inductive T where
 | mk (k : Int) (u0 u1 u2 u3 : Int) (p : Option Addr) (cap : Nat) (mn mx : Int) (tx : ByteArray) (kids : List T)
def T.cells : T → List Value
 | .mk k u0 u1 u2 u3 p cap mn mx tx kids => [.int .i64 k, .int .u64 u0, .int .u64 u1, .int .u64 u2, .int .u64 u3, .slice p kids.length cap, .int .i64 mn, .int .i64 mx, .string tx]
theorem T.cells_length (t : T) : t.cells.length = 9 := by cases t; rfl
def fits (k u0 u1 u2 u3 mn mx : Int) (tx : ByteArray) : Prop :=
 (Lit.int .i64 k).wf = true ∧ ((Lit.int .u64 u0).wf = true ∧ (Lit.int .u64 u1).wf = true ∧ (Lit.int .u64 u2).wf = true ∧ (Lit.int .u64 u3).wf = true) ∧ (Lit.int .i64 mn).wf = true ∧ (Lit.int .i64 mx).wf = true ∧ tx.size ≤ maxLen
inductive T.In (w : World) (B : Nat) : T → Prop
 | mk {k u0 u1 u2 u3 : Int} {p : Option Addr} {cap : Nat} {mn mx : Int} {tx : ByteArray} {kids : List T} (hb : kids.length ≤ cap) (hm : cap ≤ maxLen) (hf : fits k u0 u1 u2 u3 mn mx tx)
   (h : ∀ i (_ : i < kids.length), ∃ a, p = some a ∧ a.block < B ∧ ∀ j, j < 9 → w.cell? (a.add (i * 9 + j)) = (kids[i].cells)[j]?) (hk : ∀ t ∈ kids, T.In w B t) : T.In w B (.mk k u0 u1 u2 u3 p cap mn mx tx kids)
structure Shape (P : Program) (tn ti tset tu ts tstr : TypeId) (f0 f1 f2 f3 f4 f5 : Field) : Prop where
 hn : P.underlying tn = some (.struct #[f0, f1, f2, f3, f4, f5])
 hc : P.cellsOf tn = 9
 y0 : f0.type = ti ∧ f0.offset = 0
 y1 : f1.type = tset ∧ f1.offset = 1
 y2 : f2.type = ts ∧ f2.offset = 5
 y3 : f3.type = ti ∧ f3.offset = 6
 y4 : f4.type = ti ∧ f4.offset = 7
 y5 : f5.type = tstr ∧ f5.offset = 8
 ui : P.underlying ti = some (.int .i64)
 ci : P.cellsOf ti = 1
 us : P.underlying tset = some (.array 4 tu)
 cs : P.cellsOf tset = 4
 uu : P.underlying tu = some (.int .u64)
 cu : P.cellsOf tu = 1
 uk : P.underlying ts = some (.slice tn)
 ck : P.cellsOf ts = 1
 ut : P.underlying tstr = some .string
 ct : P.cellsOf tstr = 1
theorem nine {cs : List Value} (h : cs.length = 9) : ∃ c0 c1 c2 c3 c4 c5 c6 c7 c8, cs = [c0, c1, c2, c3, c4, c5, c6, c7, c8] := by
 match cs, h with
 | [c0, c1, c2, c3, c4, c5, c6, c7, c8], _ => exact ⟨c0, c1, c2, c3, c4, c5, c6, c7, c8, rfl⟩
set_option maxRecDepth 10000 in
theorem open_tree {H : Type} {enc : TypeId × Value → H} {P : Program} {tn ti tset tu ts tstr : TypeId} {f0 f1 f2 f3 f4 f5 : Field} (S : Shape P tn ti tset tu ts tstr f0 f1 f2 f3 f4 f5) {w : World} {base : Nat} {sp : Nat → Bool} {hd : Bool} :
  ∀ (fuel : Nat) (cs : List Value) (x : DataW H × List MemPlace), DataW.trod enc P w base sp hd fuel tn cs = some x → ∃ t : T, cs = t.cells ∧ T.In w w.heap.size t := by
 intro fuel
 induction fuel using Nat.strongRecOn with
 | ind fuel ih =>
  intro cs x hx
  obtain ⟨xs, n, hfu, -, hlen, hxl, hf⟩ := DataW.trod_struct S.hn hx
  rw [S.hc] at hlen
  obtain ⟨c0, c1, c2, c3, c4, c5, c6, c7, c8, rfl⟩ := nine hlen
  have g0 := hf 0 f0 rfl
  have g1 := hf 1 f1 rfl
  have g2 := hf 2 f2 rfl
  have g3 := hf 3 f3 rfl
  have g4 := hf 4 f4 rfl
  have g5 := hf 5 f5 rfl
  obtain ⟨z0, z1, z2, z3, z4, z5, rfl⟩ : ∃ z0 z1 z2 z3 z4 z5, xs = [z0, z1, z2, z3, z4, z5] := by
   match xs, hxl with
   | [z0, z1, z2, z3, z4, z5], _ => exact ⟨z0, z1, z2, z3, z4, z5, rfl⟩
  rw [S.y0.1, S.y0.2, S.ci] at g0
  rw [S.y1.1, S.y1.2, S.cs] at g1
  rw [S.y2.1, S.y2.2, S.ck] at g2
  rw [S.y3.1, S.y3.2, S.ci] at g3
  rw [S.y4.1, S.y4.2, S.ci] at g4
  rw [S.y5.1, S.y5.2, S.ct] at g5
  simp only [List.drop_zero, List.drop_succ_cons, List.take_succ_cons, List.take_zero, List.getElem?_cons_zero, List.getElem?_cons_succ] at g0 g1 g2 g3 g4 g5
  clear hf hlen hxl hx
  obtain ⟨k, e0, -, w0⟩ := DataW.trod_int S.ui g0
  obtain ⟨mn, e3, -, w3⟩ := DataW.trod_int S.ui g3
  obtain ⟨mx, e4, -, w4⟩ := DataW.trod_int S.ui g4
  obtain ⟨tx, e5, -, w5⟩ := DataW.trod_string S.ut g5
  obtain ⟨v0, v1, v2, v3, m, -, q0, q1, q2, q3⟩ := Go.ChangeShapes.trod_array4 S.us S.cu g1
  obtain ⟨u0, a0, -, x0⟩ := DataW.trod_int S.uu q0
  obtain ⟨u1, a1, -, x1⟩ := DataW.trod_int S.uu q1
  obtain ⟨u2, a2, -, x2⟩ := DataW.trod_int S.uu q2
  obtain ⟨u3, a3, -, x3⟩ := DataW.trod_int S.uu q3
  simp only [List.cons.injEq, and_true] at e0 e3 e4 e5 a0 a1 a2 a3
  subst e0 e3 e4 e5 a0 a1 a2 a3
  have hfit : fits k u0 u1 u2 u3 mn mx tx := ⟨w0, ⟨x0, x1, x2, x3⟩, w3, w4, w5⟩
  rcases DataW.trod_slice S.uk g2 with ⟨e2, -⟩ | ⟨a, len, cap, elems, rest, n', hn', e2, -, hb, hl, hm, hel, hat, -, -⟩
  ·simp only [List.cons.injEq, and_true] at e2
   subst e2
   exact ⟨.mk k u0 u1 u2 u3 none 0 mn mx tx [], rfl, .mk (Nat.le_refl _) (Nat.zero_le _) hfit (fun i hi => by simp at hi) (fun t ht => by simp at ht)⟩
  ·simp only [List.cons.injEq, and_true] at e2
   subst e2
   have each : ∀ i, i < len → ∃ t : T, (∀ j, j < 9 → w.cell? (a.add (i * 9 + j)) = t.cells[j]?) ∧ T.In w w.heap.size t := by
    intro i hi
    have h1 := hat i hi
    rw [List.getElem?_eq_getElem (by omega), S.hc] at h1
    obtain ⟨cs', h2, h3⟩ := Option.bind_eq_some_iff.1 h1
    obtain ⟨t, rfl, ht⟩ := ih n' (by omega) cs' _ h3
    obtain ⟨-, -, h4⟩ := World.cells?_some h2
    refine ⟨t, fun j hj => ?_, ht⟩
    rw [← h4 j hj, Go.Deep.add_add]
   obtain ⟨F, hF⟩ : ∃ F : Nat → T, ∀ i, i < len → (∀ j, j < 9 → w.cell? (a.add (i * 9 + j)) = (F i).cells[j]?) ∧ T.In w w.heap.size (F i) := by
    have : Inhabited T := ⟨.mk 0 0 0 0 0 none 0 0 0 ⟨#[]⟩ []⟩
    exact Go.Deep.choose_lt each
   have hkl : ((List.range len).map F).length = len := by simp
   refine ⟨.mk k u0 u1 u2 u3 (some a) cap mn mx tx ((List.range len).map F), by simp [T.cells], .mk (by rw [hkl]; exact hl) hm hfit (fun i hi => ⟨a, rfl, ?_, fun j hj => ?_⟩) (fun t ht => ?_)⟩
   ·have hi' : i < len := by rw [hkl] at hi; exact hi
    have h1 := (hF i hi').1 0 (by omega)
    rw [List.getElem?_eq_getElem (by rw [T.cells_length]; omega)] at h1
    have := World.block_lt_of_cell? _ _ h1
    unfold Addr.add at this
    split at this <;> simpa using this
   ·have hi' : i < len := by rw [hkl] at hi; exact hi
    rw [(hF i hi').1 j hj]
    simp
   ·obtain ⟨i, hi, rfl⟩ := List.mem_map.1 ht
    exact (hF i (List.mem_range.1 hi)).2
end Go.Tree7
namespace Go.Tree7
open Go.RowKit

def T.kids : T → List T
 | .mk _ _ _ _ _ _ _ _ _ _ ks => ks
structure Step where
 k : Int
 u : Int × Int × Int × Int
 mn : Int
 mx : Int
 tx : ByteArray
 level : Nat
 kids : Nat
def T.step (lv : Nat) : T → Step
 | .mk k u0 u1 u2 u3 _ _ mn mx tx ks => ⟨k, (u0, u1, u2, u3), mn, mx, tx, lv, ks.length⟩
def pre : Nat → Nat → T → List Step
 | 0, lv, t => [t.step lv]
 | d + 1, lv, t => t.step lv :: t.kids.flatMap (pre d (lv + 1))
def walk : Nat → Nat → List Step → T → List Step
 | 0, lv, l, t => if 601 ≤ l.length then l else l ++ [t.step lv]
 | d + 1, lv, l, t => if 601 ≤ l.length then l else t.kids.foldl (walk d (lv + 1)) (l ++ [t.step lv])
theorem take_take_app {α : Type} (n : Nat) (x y : List α) : (x.take n ++ y).take n = (x ++ y).take n := by
 rcases Nat.lt_or_ge x.length n with h | h
 ·rw [List.take_of_length_le (Nat.le_of_lt h)]
 ·have h1 : (x.take n).length = n := by simp; omega
  rw [List.take_append_of_le_length (by omega), List.take_append_of_le_length h, List.take_take, Nat.min_self]
theorem walk_pre : ∀ (d lv : Nat) (l : List Step) (t : T), l.length ≤ 601 → walk d lv l t = (l ++ pre d lv t).take 601 := by
 intro d
 induction d with
 | zero =>
  intro lv l t hl
  unfold walk pre
  split
  ·have : l.length = 601 := by omega
   rw [List.take_append_of_le_length (by omega), List.take_of_length_le (by omega)]
  ·rw [List.take_of_length_le (by simp; omega)]
 | succ d ih =>
  intro lv l t hl
  unfold walk pre
  split
  ·rw [List.take_append_of_le_length (by omega), List.take_of_length_le (by omega)]
  ·have key : ∀ (ks : List T) (l : List Step), l.length ≤ 601 → ks.foldl (walk d (lv + 1)) l = (l ++ ks.flatMap (pre d (lv + 1))).take 601 := by
    intro ks
    induction ks with
    | nil => intro l hl; simp [List.take_of_length_le hl]
    | cons k ks ihk =>
     intro l hl
     rw [List.foldl_cons, ih _ _ _ hl, ihk _ (by simp; omega), List.flatMap_cons, take_take_app, List.append_assoc]
   rw [key _ _ (by simp; omega)]
   congr 1
   simp
theorem walk_len (d lv : Nat) (l : List Step) (t : T) (hl : l.length ≤ 601) : (walk d lv l t).length ≤ 601 := by
 rw [walk_pre d lv l t hl]
 simp
 omega
theorem T.In.keep {w w' : World} {B : Nat} (hb : Below B w w') {t : T} (h : T.In w B t) : T.In w' B t := by
 induction h with
 | mk hl hm hf h _ ih =>
  refine .mk hl hm hf (fun i hi => ?_) ih
  obtain ⟨a, rfl, ha, hc⟩ := h i hi
  refine ⟨a, rfl, ha, fun j hj => ?_⟩
  rw [← hc j hj]
  exact hb.cell (p := a.add (i * 9 + j)) (by unfold Addr.add; split <;> simpa using ha)
theorem T.In.mono {w : World} {B C : Nat} (hBC : B ≤ C) {t : T} (h : T.In w B t) : T.In w C t := by
 induction h with
 | mk hl hm hf h _ ih =>
  refine .mk hl hm hf (fun i hi => ?_) ih
  obtain ⟨a, rfl, ha, hc⟩ := h i hi
  exact ⟨a, rfl, by omega, hc⟩
def T.size : T → Nat
 | .mk _ _ _ _ _ _ _ _ _ _ ks => 1 + (ks.attach.map fun ⟨k, _⟩ => k.size).sum
theorem T.size_mk (k u0 u1 u2 u3 : Int) (p : Option Addr) (cap : Nat) (mn mx : Int) (tx : ByteArray) (ks : List T) : (T.mk k u0 u1 u2 u3 p cap mn mx tx ks).size = 1 + (ks.map T.size).sum := by
 rw [T.size]
 congr 1
 simp
end Go.Tree7
namespace Go.Proofs.YtobbifhflnlplaaDoor.S7
open Lib (hid)
open Go.RowKit
open Go.Tree7
theorem infoS : (Tryd.prog.info? 81).map (fun i => (i.zero, i.size, i.bytes)) = some (some (.agg #[.int .i64 0, .int .u64 0, .int .u64 0, .int .u64 0, .int .u64 0, .slice none 0 0, .int .i64 0, .int .i64 0, .string ⟨#[]⟩, .int .i64 0, .int .i64 0]), 11, 112) := by kernel_rfl
def scells (s : Step) : List Value := [.int .i64 s.k, .int .u64 s.u.1, .int .u64 s.u.2.1, .int .u64 s.u.2.2.1, .int .u64 s.u.2.2.2, .slice none 0 0, .int .i64 s.mn, .int .i64 s.mx, .string s.tx, .int .i64 s.level, .int .i64 s.kids]
def rcells (l : List Step) : List Value := l.flatMap scells
theorem rcells_snoc (l : List Step) (s : Step) : rcells (l ++ [s]) = rcells l ++ scells s := by simp [rcells]
theorem cells_new {w : World} {cs : Array Value} {t : TypeId} {b : Nat} (hb : w.heap.size = b) : ∀ j u, cs.toList[j]? = some u → (w.alloc (.cells cs t)).cell? ((⟨b, 0, none⟩ : Addr).add j) = some u := by
 subst hb
 intro j u h
 have e : (⟨w.heap.size, 0, none⟩ : Addr).add j = ⟨w.heap.size, j, none⟩ := by unfold Addr.add; split <;> simp_all
 rw [e, cell_of_row (w.alloc (.cells cs t)) w.heap.size j cs t (0, 0) (World.alloc_heap_new w _)]
 simpa using h
theorem T.kid {w : World} {B : Nat} {k u0 u1 u2 u3 : Int} {p : Option Addr} {cap : Nat} {mn mx : Int} {tx : ByteArray} {ks : List T} (h : T.In w B (.mk k u0 u1 u2 u3 p cap mn mx tx ks)) {j : Nat} (hj : j < ks.length) :
  ∃ b o, T.In w B ks[j] ∧ p = some ⟨b, o, none⟩ ∧ b < B ∧ ∀ q, q < 9 → w.cell? ⟨b, o + j * 9 + q, none⟩ = (ks[j].cells)[q]? := by
 cases h with
 | mk hb hm hf h hk =>
  obtain ⟨⟨b, o, sp⟩, rfl, hB, hc⟩ := h j hj
  have hsp : sp = none := by
   obtain ⟨a0, e0, -, hc0⟩ := h 0 (by omega)
   obtain rfl := Option.some.inj e0
   have h0 := hc0 0 (by decide)
   rw [List.getElem?_eq_getElem (by rw [T.cells_length]; decide)] at h0
   simpa [Addr.add] using World.cell?_spot h0
  subst hsp
  refine ⟨b, o, hk _ (List.getElem_mem hj), rfl, hB, fun q hq => ?_⟩
  rw [← hc q hq]
  congr 1
  unfold Addr.add
  split <;> simp_all <;> omega
theorem nine_of {w : World} {b o : Nat} {c0 c1 c2 c3 c4 c5 c6 c7 c8 : Value} (h : ∀ q, q < 9 → w.cell? ⟨b, o + q, none⟩ = [c0, c1, c2, c3, c4, c5, c6, c7, c8][q]?) :
  w.cell? ⟨b, o, none⟩ = some c0 ∧ w.cell? ⟨b, o + 1, none⟩ = some c1 ∧ w.cell? ⟨b, o + 2, none⟩ = some c2 ∧ w.cell? ⟨b, o + 3, none⟩ = some c3 ∧ w.cell? ⟨b, o + 4, none⟩ = some c4 ∧ w.cell? ⟨b, o + 5, none⟩ = some c5 ∧ w.cell? ⟨b, o + 6, none⟩ = some c6 ∧ w.cell? ⟨b, o + 7, none⟩ = some c7 ∧ w.cell? ⟨b, o + 8, none⟩ = some c8 :=
 ⟨h 0 (by decide), h 1 (by decide), h 2 (by decide), h 3 (by decide), h 4 (by decide), h 5 (by decide), h 6 (by decide), h 7 (by decide), h 8 (by decide)⟩
def GivesSteps (base : Nat) (w : World) (ls : List Step) (e : Ending) (w' : World) : Prop := ∃ v', e = .returned v' ∧ w'.ownsRow base 81 11 v' ls.length (rcells ls) ∧ Below base w w'
theorem fold_full (d lv : Nat) (ks : List T) (l : List Step) (h : 601 ≤ l.length) : ks.foldl (walk d lv) l = l := by
 induction ks with
 | nil => rfl
 | cons k ks ih =>
  rw [List.foldl_cons]
  have : walk d lv l k = l := by cases d <;> (unfold walk; rw [if_pos h])
  rw [this, ih]
set_option maxRecDepth 10000 in
set_option maxHeartbeats 2000000 in
theorem refWalk_in : ∀ (d : Nat) (t : T) (lv : Nat) (l : List Step) (v : Value) (base : Nat) (w : World), lv + d = 25 → T.In w base t → w.ownsRow base 81 11 v l.length (rcells l) → l.length ≤ 601 → base ≤ w.heap.size →
  Calls Tryd.prog 38 #[.agg t.cells.toArray, .int .i64 lv, v] w (GivesSteps base w (walk d lv l t)) := by
 intro d
 induction d with
 | zero =>
  intro t lv l v base w hd hT hrow hl hbase
  obtain ⟨i0, hi, hz0, hz1, hz2⟩ := info_parts infoS
  cases t with
  | mk k u0 u1 u2 u3 p cap mn mx tx ks =>
   obtain ⟨pv, cv, rfl, -⟩ := row_form hrow
   unfold walk GivesSteps T.cells
   by_cases hfull : 601 ≤ l.length
   ·rw [if_pos hfull]
    have hr := hid hrow
    clear hrow hT
    go_enter Tryd.func38, Tryd.ntmps38
    go_wp2
    go_ret
    exact ⟨_, rfl, hr.out.alloc _, (Below.refl _ _).alloc hbase _⟩
   ·rw [if_neg hfull]
    have hr := hid hrow
    replace hi := hid hi
    replace hz0 := hid hz0
    replace hz1 := hid hz1
    replace hz2 := hid hz2
    have hks : ks.length ≤ 9223372036854775807 := by cases hT with | mk h1 h2 => unfold maxLen at h2; omega
    have hll : decide ((l.length : Int) ≥ 601) = false := by simp; omega
    have hlv : decide ((24 : Int) < lv) = true := by simp; omega
    clear hrow hfull
    go_enter Tryd.func38, Tryd.ntmps38
    go_wp2_with (at_builtin; refine wpList_append_own _ rfl _ _ 78 rfl base 81 i0 (.agg #[.int .i64 0, .int .u64 0, .int .u64 0, .int .u64 0, .int .u64 0, .slice none 0 0, .int .i64 0, .int .i64 0, .string ⟨#[]⟩, .int .i64 0, .int .i64 0]) 11 112 Tryd.underlying78 hi.out hz0.out hz1.out hz2.out rfl (by decide) _ _ _ rfl ((hr.out.alloc _).alloc _) ⟨_, 0, none⟩ 1 1 [.int .i64 k, .int .u64 u0, .int .u64 u1, .int .u64 u2, .int .u64 u3, .slice none 0 0, .int .i64 mn, .int .i64 mx, .string tx, .int .i64 lv, .int .i64 ks.length] rfl rfl (cells_new (by simp)) (by simp [Value.oneCell']) (by simp [maxLen]; omega) (by omega) (by simp; omega) ?_; intro v' w1 hown' hgrow _; replace hown' := hid hown'; obtain ⟨pv2, cv2, rfl, -⟩ := row_form hown'.out; replace hgrow := hid hgrow)
    go_ret
    exact ⟨_, rfl, by rw [List.length_append, rcells_snoc]; exact hown'.out, (((Below.refl base w).alloc hbase _).alloc (by simp; omega) _).grown hgrow.out (by simp; omega) (fun k hk => (hr.out.lt k hk).1)⟩
 | succ d ih =>
  intro t lv l v base w hd hT hrow hl hbase
  obtain ⟨i0, hi, hz0, hz1, hz2⟩ := info_parts infoS
  cases t with
  | mk k u0 u1 u2 u3 p cap mn mx tx ks =>
   obtain ⟨pv, cv, rfl, -⟩ := row_form hrow
   unfold walk GivesSteps T.cells
   by_cases hfull : 601 ≤ l.length
   ·rw [if_pos hfull]
    have hr := hid hrow
    clear hrow hT
    go_enter Tryd.func38, Tryd.ntmps38
    go_wp2
    go_ret
    exact ⟨_, rfl, hr.out.alloc _, (Below.refl _ _).alloc hbase _⟩
   ·rw [if_neg hfull]
    have hr := hid hrow
    replace hi := hid hi
    replace hz0 := hid hz0
    replace hz1 := hid hz1
    replace hz2 := hid hz2
    have hks : ks.length ≤ 9223372036854775807 := by cases hT with | mk h1 h2 => unfold maxLen at h2; omega
    have hll : decide ((l.length : Int) ≥ 601) = false := by simp; omega
    have hlv : decide ((24 : Int) < lv) = false := by simp; omega
    obtain ⟨L, hL⟩ : ∃ L : Nat → List Step, ∀ j, L j = (ks.take j).foldl (walk d (lv + 1)) (l ++ [T.step lv (T.mk k u0 u1 u2 u3 p cap mn mx tx ks)]) := ⟨_, fun _ => rfl⟩
    have hL0 : L 0 = l ++ [T.step lv (T.mk k u0 u1 u2 u3 p cap mn mx tx ks)] := hL 0
    have hLs : ∀ j (hj : j < ks.length), L (j + 1) = walk d (lv + 1) (L j) ks[j] := fun j hj => by
     rw [hL, hL, List.take_succ_eq_append_getElem hj, List.foldl_append]
     rfl
    have hLe : (T.mk k u0 u1 u2 u3 p cap mn mx tx ks).kids.foldl (walk d (lv + 1)) (l ++ [T.step lv (T.mk k u0 u1 u2 u3 p cap mn mx tx ks)]) = L ks.length := by
     rw [hL, List.take_of_length_le (Nat.le_refl _)]
     rfl
    have hLf : ∀ j, j ≤ ks.length → 601 ≤ (L j).length → L ks.length = L j := fun j hj h => by
     have e : ks = ks.take j ++ ks.drop j := (List.take_append_drop _ _).symm
     have : L ks.length = (ks.drop j).foldl (walk d (lv + 1)) (L j) := by
      rw [hL ks.length, hL j, List.take_of_length_le (Nat.le_refl _), ← List.foldl_append, List.take_append_drop]
     rw [this, fold_full _ _ _ _ h]
    have hLl : ∀ j, j ≤ ks.length → (L j).length ≤ 601 := fun j => by
     induction j with
     | zero => intro _; rw [hL0]; simp; omega
     | succ j ihj => intro hj; rw [hLs j (by omega)]; exact walk_len _ _ _ _ (ihj (by omega))
    rw [hLe]
    replace hLs := hid hLs
    replace hLf := hid hLf
    replace hLl := hid hLl
    have hT' := hid hT
    have hln1 : (L 0).length = l.length + 1 := by rw [hL0]; simp
    replace hL0 := hid hL0
    replace hln1 := hid hln1
    clear hrow hfull hL hLe hT
    go_enter Tryd.func38, Tryd.ntmps38
    go_wp2_with (at_builtin; refine wpList_append_own _ rfl _ _ 78 rfl base 81 i0 (.agg #[.int .i64 0, .int .u64 0, .int .u64 0, .int .u64 0, .int .u64 0, .slice none 0 0, .int .i64 0, .int .i64 0, .string ⟨#[]⟩, .int .i64 0, .int .i64 0]) 11 112 Tryd.underlying78 hi.out hz0.out hz1.out hz2.out rfl (by decide) _ _ _ rfl ((hr.out.alloc _).alloc _) ⟨_, 0, none⟩ 1 1 [.int .i64 k, .int .u64 u0, .int .u64 u1, .int .u64 u2, .int .u64 u3, .slice none 0 0, .int .i64 mn, .int .i64 mx, .string tx, .int .i64 lv, .int .i64 ks.length] rfl rfl (cells_new (by simp)) (by simp [Value.oneCell']) (by simp [maxLen]; omega) (by omega) (by simp; omega) ?_; intro v' w1 hown' hgrow _; replace hown' := hid hown'; obtain ⟨pv2, cv2, rfl, -⟩ := row_form hown'.out; replace hgrow := hid hgrow; have hbk : w1.heap[w.heap.size]? = some (.cells #[.int .i64 k, .int .u64 u0, .int .u64 u1, .int .u64 u2, .int .u64 u3, .slice p ks.length cap, .int .i64 mn, .int .i64 mx, .string tx] 32 (0, 0)) := (hgrow.out.block _ (by simp; omega) (fun e => absurd (hr.out.lt _ e.symm).2 (by omega))).trans ((Below.heap_alloc _ _ _ (by simp)).trans (World.alloc_heap_new w _)); have hbx : w1.cell? ⟨w.heap.size, 5, none⟩ = some (.slice p ks.length cap) := (by rw [cell_of_row _ _ _ _ _ (0, 0) hbk]; rfl); clear hbk)
    have hr2 : Hid (w1.ownsRow base 81 11 (.slice pv2 (L 0).length cv2) (L 0).length (rcells (L 0))) := hid (by rw [hln1.out, hL0.out, rcells_snoc]; exact hown'.out)
    have hB := hid ((((Below.refl base w).alloc hbase _).alloc (by simp; omega) _).grown hgrow.out (by simp; omega) (fun k hk => (hr.out.lt k hk).1))
    go_loopw [2, 38] (fun v2 i wr => ∃ (j : Nat) (pv3 : Option Addr) (cv3 : Nat), j ≤ ks.length ∧ i = .int .i64 j ∧ v2 = .slice pv3 (L j).length cv3 ∧ Hid (wr.ownsRow base 81 11 (.slice pv3 (L j).length cv3) (L j).length (rcells (L j))) ∧ Hid (Below base w wr)) (fun _ i _ => ks.length - (intOf i).toNat)
    case atStart => exact ⟨0, pv2, cv2, Nat.zero_le _, rfl, by rw [hln1.out], hr2, hB⟩
    case round =>
     clear hr2 hB hown' hgrow hr
     obtain ⟨j, pv3, cv3, hj, rfl, rfl, hr, hB⟩ := hrel
     by_cases hlt : j < ks.length
     ·obtain ⟨b, o, hkid, hp, hb, hc⟩ := T.kid hT'.out hlt
      have hLs2 := hLs.out j hlt
      have hLl2 := hLl.out j hj
      have hbs : base ≤ wr.heap.size := Nat.le_trans hbase hB.out.size
      have hkid2 := hid (hkid.keep hB.out)
      have hcl : ∀ q, q < 9 → wr.cell? ⟨b, o + j * 9 + q, none⟩ = (ks[j].cells)[q]? := fun q hq => by
       rw [← hc q hq]
       exact hB.out.cell (p := ⟨b, o + j * 9 + q, none⟩) hb
      have hfl := hLf.out j hj
      clear hkid hc
      generalize ks[j] = kd at *
      cases kd with
      | mk k' u0' u1' u2' u3' p' cap' mn' mx' tx' ks' =>
       simp only [T.cells] at hcl
       obtain ⟨c0, c1, c2, c3, c4, c5, c6, c7, c8⟩ := nine_of hcl
       subst hp
       clear hcl
       by_cases hfull : 601 ≤ (L j).length
       ·have e := hid (hfl hfull)
        have hf9 : decide (((L j).length : Int) ≥ 601) = true := by simp; omega
        clear hfl hLs2 hkid2
        go_wp2
        go_ret
        exact ⟨_, rfl, by rw [e.out]; exact hr.out.alloc _, hB.out.alloc hbs _⟩
       ·have hf9 : decide (((L j).length : Int) ≥ 601) = false := by simp; omega
        have cW : Calls Tryd.prog 38 #[.agg #[.int .i64 k', .int .u64 u0', .int .u64 u1', .int .u64 u2', .int .u64 u3', .slice p' ks'.length cap', .int .i64 mn', .int .i64 mx', .string tx'], .int .i64 ((lv : Int) + 1), .slice pv3 (L j).length cv3] (wr.alloc (.cells #[.int .i64 k', .int .u64 u0', .int .u64 u1', .int .u64 u2', .int .u64 u3', .slice p' ks'.length cap', .int .i64 mn', .int .i64 mx', .string tx'] 32)) (GivesSteps base (wr.alloc (.cells #[.int .i64 k', .int .u64 u0', .int .u64 u1', .int .u64 u2', .int .u64 u3', .slice p' ks'.length cap', .int .i64 mn', .int .i64 mx', .string tx'] 32)) (L (j + 1))) := by
         have h9 := ih (T.mk k' u0' u1' u2' u3' p' cap' mn' mx' tx' ks') (lv + 1) (L j) (.slice pv3 (L j).length cv3) base (wr.alloc (.cells #[.int .i64 k', .int .u64 u0', .int .u64 u1', .int .u64 u2', .int .u64 u3', .slice p' ks'.length cap', .int .i64 mn', .int .i64 mx', .string tx'] 32)) (by omega) (hkid2.out.keep ((Below.refl base wr).alloc hbs _)) (hr.out.alloc _) hLl2 (by simp; have := hbs; omega)
         rw [← hLs2, show ((lv + 1 : Nat) : Int) = (lv : Int) + 1 by omega] at h9
         exact h9
        replace cW := hid cW
        clear hfl hLs2 hkid2
        go_wp2_with (go_at_call 38; (with_reducible refine cW.out.mono ?_); rintro e w2 ⟨v4, rfl, hr4, hb4⟩; obtain ⟨pv4, cv4, rfl, -⟩ := row_form hr4; replace hr4 := hid hr4; replace hb4 := hid hb4)
        go_roundw
        case rel => exact ⟨j + 1, pv4, cv4, by omega, by go_num, rfl, hr4, hid ((hB.out.alloc hbs _).trans hb4.out)⟩
        case measure => simp [intOf]; omega
     ·obtain rfl : j = ks.length := by omega
      go_wp2
      go_ret
      exact ⟨_, rfl, hr.out, hB.out⟩
end Go.Proofs.YtobbifhflnlplaaDoor.S7
namespace Go.Proofs.YtobbifhflnlplaaDoor.S7
open Lib (hid)
open Go.RowKit
open S5 (nl nl_length nl_small at_nl nl_at)
def NameChar (x : Nat) : Prop := (97 ≤ x ∧ x ≤ 122) ∨ (48 ≤ x ∧ x ≤ 57)
def NameOk (l : List Nat) : Prop := 1 ≤ l.length ∧ l.length ≤ 12 ∧ (∀ c, l[0]? = some c → 97 ≤ c ∧ c ≤ 122) ∧ ∀ (j x : Nat), l[j]? = some x → NameChar x
set_option maxRecDepth 10000 in
set_option maxHeartbeats 2000000 in
theorem risName_in {s : ByteArray} (hs : s.size ≤ 9223372036854775807) {r : Bool} (hr : r = true ↔ NameOk (nl s)) (w : World) :
  Calls Tryd.prog 65 #[.string s] w fun e w' => e = .returned (.bool r) ∧ w = w' := by
 have hn := nl_length s
 have no : ¬ NameOk (nl s) → r = false := fun h => by cases r; rfl; exact absurd (hr.1 rfl) h
 by_cases h0 : s.size < 1
 ·have hno := hid (no fun h => by have := h.1; omega)
  clear hr no hn
  go_enter Tryd.func65, Tryd.ntmps65
  go_wp2
  go_ret
  exact ⟨ret_bool hno.out.symm, rfl⟩
 by_cases h1 : 12 < s.size
 ·have hno := hid (no fun h => by have := h.2.1; omega)
  clear hr no hn
  go_enter Tryd.func65, Tryd.ntmps65
  go_wp2
  go_ret
  exact ⟨ret_bool hno.out.symm, rfl⟩
 have hk0 : 0 < s.size := by omega
 have hat0 := nl_at s 0 hk0
 obtain ⟨c, hc⟩ : ∃ c, (s[0]).toNat = c := ⟨_, rfl⟩
 rw [hc] at hat0
 by_cases h2 : c < 97
 ·have hno := hid (no fun h => by have := h.2.2.1 c hat0; omega)
  have d1 : decide ((c : Int) < 97) = true := by simp; omega
  clear hr no hn hat0
  go_enter Tryd.func65, Tryd.ntmps65
  go_wp2
  go_ret
  exact ⟨ret_bool hno.out.symm, rfl⟩
 by_cases h3 : 122 < c
 ·have hno := hid (no fun h => by have := h.2.2.1 c hat0; omega)
  have d1 : decide ((c : Int) < 97) = false := by simp; omega
  have d2 : decide ((122 : Int) < c) = true := by simp; omega
  clear hr no hn hat0
  go_enter Tryd.func65, Tryd.ntmps65
  go_wp2
  go_ret
  exact ⟨ret_bool hno.out.symm, rfl⟩
 have e1 : decide ((c : Int) < 97) = false := by simp; omega
 have e2 : decide ((122 : Int) < c) = false := by simp; omega
 have yes : (∀ j, j < s.size → ∀ x : Nat, (nl s)[j]? = some x → NameChar x) → r = true := fun h => hr.2 ⟨by omega, by omega, fun c' h' => by rw [hat0] at h'; cases h'; omega, fun j x hx => h j (by rw [← hn]; exact (List.getElem?_eq_some_iff.1 hx).1) x hx⟩
 have no2 : ∀ (k x : Nat), (nl s)[k]? = some x → ¬ NameChar x → r = false := fun k x hx hc => no fun h => hc (h.2.2.2 k x hx)
 replace yes := hid yes
 replace no2 := hid no2
 have hat := hid (fun k (hk : k < s.size) => nl_at s k hk)
 clear hr no hn hat0
 go_enter Tryd.func65, Tryd.ntmps65
 go_wp2
 go_loop [3] (fun i => ∃ k : Nat, k ≤ s.size ∧ i = .int .i64 k ∧ Hid (∀ j, j < k → ∀ x : Nat, (nl s)[j]? = some x → NameChar x)) (fun i => s.size - (intOf i).toNat)
 case atStart => exact ⟨0, Nat.zero_le _, rfl, hid fun j hj => by omega⟩
 case round =>
  clear e1 e2
  obtain ⟨k, hk, rfl, hok⟩ := hrel
  by_cases hlt : k < s.size
  ·have hx0 := hat.out k hlt
   obtain ⟨x, hx⟩ : ∃ x, (s[k]).toNat = x := ⟨_, rfl⟩
   rw [hx] at hx0
   by_cases hch : NameChar x
   ·have hok2 : Hid (∀ j, j < k + 1 → ∀ x : Nat, (nl s)[j]? = some x → NameChar x) := hid fun j hj y hy => by
     by_cases e : j = k
     ·subst e; rw [hx0] at hy; cases hy; exact hch
     ·exact hok.out j (by omega) y hy
    clear hx0 hok
    rcases hch with ⟨q1, q2⟩ | ⟨q1, q2⟩
    ·have d1 : decide ((x : Int) < 97) = false := by simp; omega
     have d2 : decide ((122 : Int) < x) = false := by simp; omega
     go_wp2
     go_round
     case rel => exact ⟨k + 1, by omega, by go_num, hok2⟩
     case measure => simp [intOf]; omega
    ·have d1 : decide ((x : Int) < 97) = true := by simp; omega
     have d2 : decide ((x : Int) < 48) = false := by simp; omega
     have d3 : decide ((57 : Int) < x) = false := by simp; omega
     go_wp2
     go_round
     case rel => exact ⟨k + 1, by omega, by go_num, hok2⟩
     case measure => simp [intOf]; omega
   ·have hno := hid (no2.out k x hx0 hch)
    unfold NameChar at hch
    clear hx0 hok
    by_cases q1 : 122 < x
    ·have d1 : decide ((x : Int) < 97) = false := by simp; omega
     have d2 : decide ((122 : Int) < x) = true := by simp; omega
     have d3 : decide ((x : Int) < 48) = false := by simp; omega
     have d4 : decide ((57 : Int) < x) = true := by simp; omega
     clear hch
     go_wp2
     go_ret
     exact ⟨ret_bool hno.out.symm, rfl⟩
    ·have d1 : decide ((x : Int) < 97) = true := by simp; omega
     by_cases q2 : x < 48
     ·have d2 : decide ((x : Int) < 48) = true := by simp; omega
      clear hch
      go_wp2
      go_ret
      exact ⟨ret_bool hno.out.symm, rfl⟩
     ·have d2 : decide ((x : Int) < 48) = false := by simp; omega
      have d3 : decide ((57 : Int) < x) = true := by simp; omega
      clear hch
      go_wp2
      go_ret
      exact ⟨ret_bool hno.out.symm, rfl⟩
  ·have hyes := hid (yes.out fun j hj => hok.out j (by omega))
   clear hok
   go_wp2
   go_ret
   exact ⟨ret_bool hyes.out.symm, rfl⟩
end Go.Proofs.YtobbifhflnlplaaDoor.S7
