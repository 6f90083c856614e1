/-
  Apply: several texts in one file: Loops, LoopsF, Back, Apply.
-/
import Derived.RangeFuncNested
import Derived.RangeFuncCalls
import Derived.RangeFuncLeaves
import Derived.Test.YtckagmagjogmnaaSize
import Derived.RangeFuncBound
import Derived.Shelf.Abstract
import Derived.WalkKit
import Derived.OwnWalkIn
import Derived.TacticsInMore
import Derived.LoopNIn
import Derived.LoopIn
import Derived.WalkSpells
import Derived.Test.YtckagmagjogmnaaMade
namespace Go.Proofs.Ytckagmagjogmnaa
open Go Go.RowKit

/-- The record of a loop over a function. -/
def lrec (fn : FuncId) (tmps : Array Value) (ps : Array Tmp) (assign body : Code) (D : Nat) (st : LoopState) (pe : Option Code) : Loop :=
  { state := st, pending := pe, fn := fn, tmps := tmps, params := ps, assign := assign, body := body, defers := D }

/-- The statement: what is owed is the iterator's call, with the record laid. -/
theorem range_enter {F : Fence} {n : Nat} {P : Program} {g : Operand} {ps : Array Tmp} {assign body : Code} {Q : Exit → Act → World → Prop} {a : Act} {w : World}
    (hro : F.round = none) (h1 : 1 ≤ n) {gf : Nat} {lb : Array Value} (hg : a.eval g = .func (.func gf) #[] lb) (hFg : F.fn gf) (eg : ∀ args w, (callFunc gf args).run P w = .ok (.enter gf args) w)
    (h : ∀ fn L, F.fn fn → L = lrec fn a.tmps ps assign body w.heap.size → CallsIn F (n - 1) P gf (#[.func (.yield (w.heap.size + 1)) #[] #[]] ++ lb) ((w.alloc (.deferred (some []))).alloc (.loop (L .ready none))) fun e W' => (∃ v, e = .returned v) ∧
      ((W'.heap[w.heap.size + 1]? = some (.loop (L .ready none)) ∧ Q .normal { a with defers := { target := .collected w.heap.size, args := #[] } :: a.defers } (W'.putObj (w.heap.size + 1) (.loop (L .exhausted none))))
      ∨ ∃ c : Code, W'.heap[w.heap.size + 1]? = some (.loop (L .done (some c))) ∧ c.wpIn F n P Q { a with defers := { target := .collected w.heap.size, args := #[] } :: a.defers } (W'.putObj (w.heap.size + 1) (.loop (L .exhausted (some c)))))) :
    (Code.rangeFunc g ps assign body).wpIn F n P Q a w := by
  refine wpIn_rangeFunc ?_
  intro fn hfn
  rw [hro]
  obtain ⟨L, hL⟩ : ∃ L : LoopState → Option Code → Loop, L = lrec fn a.tmps ps assign body w.heap.size := ⟨_, rfl⟩
  obtain ⟨W1, hW1⟩ : ∃ W1, (w.alloc (.deferred (some []))).alloc (.loop (L .ready none)) = W1 := ⟨_, rfl⟩
  have hc := h fn L hfn hL
  rw [hW1] at hc
  refine ⟨w.heap.size + 1, [{ target := .collected w.heap.size, args := #[] }], W1, { target := .fn (.func gf) lb, args := #[.func (.yield (w.heap.size + 1)) #[] #[]] }, W1, gf, #[.func (.yield (w.heap.size + 1)) #[] #[]] ++ lb, W1, ?_, ?_, ?_, ?_, fun _ => h1, ?_⟩
  · rw [← hW1, hL]
    exact run_enterLoop_outer _ _ _ _ _
  · simp only [resolve, hg]
    simp [go_sem]
  · intro f' hf'
    simp [Target.leads] at hf'
    subst hf'
    exact hFg
  · simp [invoke, go_sem, eg]
  · refine hc.mono ?_
    rintro e W2 ⟨⟨v, rfl⟩, ⟨hl, hq⟩ | ⟨c, hl, hq⟩⟩
    · refine ⟨none, W2.putObj (w.heap.size + 1) (.loop (L .exhausted none)), ?_, hq⟩
      have := run_endLoop (P := P) hl (by rw [hL]; simp [lrec])
      rw [hL] at this ⊢
      exact this
    · refine ⟨some c, W2.putObj (w.heap.size + 1) (.loop (L .exhausted (some c))), ?_, hq⟩
      have := run_endLoop (P := P) hl (by rw [hL]; simp [lrec])
      rw [hL] at this ⊢
      exact this

/-- How a round's body may be left. -/
def roundEnds (l : Nat) (L : LoopState → Option Code → Loop) (R : Ending → World → Prop) : Exit → Act → World → Prop
  | .normal, _, W => W.heap[l]? = some (.loop (L .busy none)) ∧ R (.returned (.bool true)) (W.putObj l (.loop (L .ready none)))
  | .exit id, _, W => W.heap[l]? = some (.loop (L .busy none)) ∧ R (.returned (.bool false)) (W.putObj l (.loop (L .done (some (.exit id)))))
  | _, _, _ => False

/-- One round. -/
theorem yield_round {F : Fence} {m : Nat} {P : Program} {l D : Nat} {fn : FuncId} {tmps : Array Value} {ps : Array Tmp} {assign body : Code} {args : Array Value} {W : World} {R : Ending → World → Prop} {L : LoopState → Option Code → Loop}
    (hL : L = lrec fn tmps ps assign body D) (hF : F.fn fn) (hl : W.heap[l]? = some (.loop (L .ready none))) (hs : args.size = ps.size)
    (h : assign.wpIn (F.inRound l) m P (Exit.then (fun a' W' => W'.heap[l]? = some (.loop (L .ready none)) ∧
      body.wpIn (F.inRound l) m P (roundEnds l L R) a' (W'.putObj l (.loop (L .busy none)))) (fun _ _ _ => False))
      { tmps := (ps.zip args).foldl (fun t (p, v) => t.setIfInBounds p v) tmps, defers := [] } W) :
    YieldAt F m P l args W R := by
  subst hL
  refine ⟨fn, _, assign, body, run_yield hl hs, roundIn_of_wpIn hF (wpIn_mono h ?_)⟩
  intro e a' W' he
  cases e with
  | normal =>
    obtain ⟨hl', hb⟩ := he
    refine ⟨_, run_beginRound hl' rfl, wpIn_mono hb ?_⟩
    intro e3 a3 W3 h3
    cases e3 with
    | normal => exact ⟨_, _, run_endRound none h3.1, h3.2⟩
    | exit id => exact ⟨_, _, run_endRound (some (.exit id)) h3.1, h3.2⟩
    | ret => exact h3.elim
    | goto t => exact h3.elim
    | panic c => exact h3.elim
    | outgrown => exact h3.elim
  | ret => exact he.elim
  | exit id => exact he.elim
  | goto t => exact he.elim
  | panic c => exact he.elim
  | outgrown => exact he.elim

theorem YieldAt.inRound {F : Fence} {m : Nat} {P : Program} {l : Nat} {args : Array Value} {W : World} {R : Ending → World → Prop} (l' : Nat) (h : YieldAt F m P l args W R) : YieldAt (F.inRound l') m P l args W R := h
theorem KeepsFrom.up {B B' : Nat} {W W' : World} (h : KeepsFrom B W W') (hB : B ≤ B') : KeepsFrom B' W W' := ⟨h.size, fun k o hk h1 h2 => h.same k o (Nat.le_trans hB hk) h1 h2⟩

end Go.Proofs.Ytckagmagjogmnaa

namespace Go.Proofs.Ytckagmagjogmnaa
open Go Go.RowKit

/-- What may be turned from B on: what is no cells. -/
def Turned (B : Nat) (W : World) (row : Option Nat) : Prop := ∀ r, row = some r → B ≤ r ∧ ∃ o : Obj, W.heap[r]? = some o ∧ o.isCells = false
/-- What abides where blocks from B on are made, or what is no cells is turned. -/
def FreeFrom {β : Type} (B : Nat) (I : β → World → Prop) : Prop := ∀ s W W' row, I s W → W.grownBy W' row → Turned B W row → I s W'
theorem FreeFrom.alloc {β : Type} {B : Nat} {I : β → World → Prop} (h : FreeFrom B I) {s : β} {W : World} (o : Obj) (hs : I s W) : I s (W.alloc o) := h s W _ none hs (World.grownBy_alloc W o none) (fun r e => by cases e)
theorem FreeFrom.put {β : Type} {B : Nat} {I : β → World → Prop} (h : FreeFrom B I) {s : β} {W : World} {b : Nat} {o0 : Obj} (hb : B ≤ b) (ho : W.heap[b]? = some o0) (hc : o0.isCells = false) (o : Obj) (hs : I s W) : I s (W.putObj b o) := h s W _ (some b) hs (grownBy_putObj' W b o) (fun r e => by
  cases e
  exact ⟨hb, _, ho, hc⟩)
theorem FreeFrom.and {β : Type} {B : Nat} {I J : β → World → Prop} (h : FreeFrom B I) (k : FreeFrom B J) : FreeFrom B (fun s W => I s W ∧ J s W) := fun s W W' row hs hg hr => ⟨h s W W' row hs.1 hg hr, k s W W' row hs.2 hg hr⟩
theorem FreeFrom.mono {β : Type} {B B' : Nat} {I : β → World → Prop} (h : FreeFrom B I) (hB : B ≤ B') : FreeFrom B' I := fun s W W' row hs hg hr => h s W W' row hs hg (fun r e => ⟨Nat.le_trans hB (hr r e).1, (hr r e).2⟩)
theorem freeFrom_below {β : Type} {n0 B : Nat} {w0 : World} (hn : n0 ≤ w0.heap.size) (hB : n0 ≤ B) : FreeFrom B (fun (_ : β) W => Below n0 w0 W) :=
  fun _ _ _ _ hs hg hr => hs.grown hg (Nat.le_trans hn hs.size) (fun k e => Nat.le_trans hB (hr k e).1)

/-- AN ITERATOR THAT GIVES JUST THESE, OR IS LEFT AHEAD. -/
def SeqStopsF {α : Type} (F : Fence) (n : Nat) (P : Program) (g : Nat) (lb : Array Value) (encs : α → Array Value) (G : α → Prop) (Kp : World → World → Prop) (S Sp : List α → Prop) (N : Nat) (w : World) : Prop :=
  ∀ (l : Nat) (J Jx : List α → World → Prop) (W : World), Below w.heap.size w W → FreeFrom W.heap.size J → FreeFrom W.heap.size Jx →
    (∀ m pre x W1, W.heap.size ≤ W1.heap.size → J pre W1 → pre.length < N → G x → YieldAt F m P l (encs x) W1 fun e W' =>
      (e = .returned (.bool true) ∧ J (pre ++ [x]) W' ∧ Kp W1 W') ∨ (e = .returned (.bool false) ∧ Jx (pre ++ [x]) W')) →
    J [] W →
    CallsIn F n P g (#[.func (.yield l) #[] #[]] ++ lb) W fun e W' => (∃ v, e = .returned v) ∧ ((∃ xs, S xs ∧ J xs W') ∨ (∃ pre, Sp pre ∧ Jx pre W'))

/-- How a round's body may be left. -/
def endsF {α : Type} (B : Nat) (Kp : World → World → Prop) (I : List α → World → Prop) (Ix : Code → List α → World → Prop) (xs : List α) (W0 W : World) : Exit → Act → World → Prop
  | .normal, _, W' => KeepsFrom B W W' ∧ Kp W0 W' ∧ I xs W'
  | .ret, _, W' => KeepsFrom B W W' ∧ Ix .ret xs W'
  | .exit id, _, W' => KeepsFrom B W W' ∧ Ix (.exit id) xs W'
  | _, _, _ => False

theorem room_none {F : Fence} (hd : F.depth = none) (k : Nat) : F.room k := fun d h => by rw [hd] at h; cases h
theorem round_any {F : Fence} (hd : F.depth = none) {m m' : Nat} {P : Program} {l : Nat} {f : FuncId} {tmps : Array Value} {assign body : Code} {w : World} {R : Ending → World → Prop}
    (h : RoundIn F m P l f tmps assign body w R) : RoundIn F m' P l f tmps assign body w R := ⟨h.1, fun c cs _ => h.2 c cs (room_none hd _)⟩
theorem yield_any {F : Fence} (hd : F.depth = none) {m : Nat} (m' : Nat) {P : Program} {l : Nat} {args : Array Value} {W : World} {R : Ending → World → Prop} (h : YieldAt F m P l args W R) : YieldAt F m' P l args W R := by
  obtain ⟨fn, tmps, assign, body, hy, hR⟩ := h
  exact ⟨fn, tmps, assign, body, hy, round_any hd hR⟩

/-- THE STATEMENT. -/
theorem range_free {α : Type} {F : Fence} {n : Nat} {P : Program} {g : Operand} {ps : Array Tmp} {assign body : Code} {Q : Exit → Act → World → Prop} {a : Act} {w : World}
    (hro : F.round = none) (h1 : 1 ≤ n) {gf : Nat} {lb : Array Value} (hg : a.eval g = .func (.func gf) #[] lb) (hFg : F.fn gf) (eg : ∀ args w, (callFunc gf args).run P w = .ok (.enter gf args) w)
    {encs : α → Array Value} {G : α → Prop} {Kp : World → World → Prop} {S Sp : List α → Prop} {N : Nat} {w0 : World} (hseq : SeqStopsF F (n - 1) P gf lb encs G Kp S Sp N w0) (hb0 : Below w0.heap.size w0 w)
    (hKt : ∀ {A B C : World}, Kp A B → Kp B C → Kp A C) (hKb : ∀ (W : World) (l : Nat) (o o' : Obj), w.heap.size ≤ l → W.heap[l]? = some o → o.isCells = false → Kp W (W.putObj l o')) (hps : ∀ x, (encs x).size = ps.size)
    (I : List α → World → Prop) (Ix : Code → List α → World → Prop) (hI : FreeFrom w.heap.size I) (hIx : ∀ c, FreeFrom w.heap.size (Ix c)) (h0 : I [] w)
    (hround : ∀ (l m : Nat) (pre : List α) (x : α) (W : World) (K : Act → World → Prop), w.heap.size ≤ W.heap.size → w.heap.size ≤ l → I pre W → pre.length < N → G x →
      (∀ a' W', KeepsFrom w.heap.size W W' → (∀ (o o' : Obj), W'.heap[l]? = some o → o.isCells = false → o'.isCells = false → body.wpIn (F.inRound l) m P (endsF w.heap.size Kp I Ix (pre ++ [x]) W (W'.putObj l o')) a' (W'.putObj l o')) → K a' W') →
      assign.wpIn (F.inRound l) m P (Exit.then K (fun _ _ _ => False)) { tmps := (ps.zip (encs x)).foldl (fun t (p, v) => t.setIfInBounds p v) a.tmps, defers := [] } W)
    (hdone : ∀ (D : Nat) (xs : List α) (W : World), w.heap.size ≤ D → S xs → I xs W → W.heap[D]? = some (.deferred (some [])) → Q .normal { a with defers := { target := .collected D, args := #[] } :: a.defers } W)
    (hstop : ∀ (D : Nat) (c : Code) (pre : List α) (W : World), w.heap.size ≤ D → Sp pre → Ix c pre W → W.heap[D]? = some (.deferred (some [])) → c.wpIn F n P Q { a with defers := { target := .collected D, args := #[] } :: a.defers } W) :
    (Code.rangeFunc g ps assign body).wpIn F n P Q a w := by
  refine range_enter hro h1 hg hFg eg ?_
  intro fn L hfn hL
  obtain ⟨W1, hW1⟩ : ∃ W1, (w.alloc (.deferred (some []))).alloc (.loop (L .ready none)) = W1 := ⟨_, rfl⟩
  rw [hW1]
  have hs1 : W1.heap.size = w.heap.size + 2 := by rw [← hW1]; simp
  have hk1 : W1.heap[w.heap.size]? = some (.deferred (some [])) := by
    rw [← hW1]
    exact (Below.heap_alloc _ _ _ (by simp)).trans (World.alloc_heap_new w _)
  have hl1 : W1.heap[w.heap.size + 1]? = some (.loop (L .ready none)) := by
    rw [← hW1]
    have := World.alloc_heap_new (w.alloc (.deferred (some []))) (.loop (L .ready none))
    rwa [World.size_alloc] at this
  have hi1 : I [] W1 := by rw [← hW1]; exact hI.alloc _ (hI.alloc _ h0)
  have hb1 : Below w0.heap.size w0 W1 := by
    rw [← hW1]
    exact hb0.trans ((((Below.refl _ w).alloc (Nat.le_refl _) _).alloc (by simp) _).mono hb0.size)
  have far : ∀ (c : Prop) (A B : World) (row : Option Nat), A.grownBy B row → (∀ r, row = some r → W1.heap.size ≤ r) → ∀ (k : Nat) (o : Obj), k < W1.heap.size → A.heap[k]? = some o → B.heap[k]? = some o := fun _ A B row hgr hr k o hk ho =>
    (hgr.block k (Array.getElem?_eq_some_iff.1 ho).1 (fun e => by have := hr k e.symm; omega)).trans ho
  refine (hseq (w.heap.size + 1)
    (fun pre W => I pre W ∧ W.heap[w.heap.size + 1]? = some (.loop (L .ready none)) ∧ W.heap[w.heap.size]? = some (.deferred (some [])))
    (fun pre W => ∃ c, Ix c pre W ∧ W.heap[w.heap.size + 1]? = some (.loop (L .done (some c))) ∧ W.heap[w.heap.size]? = some (.deferred (some [])))
    W1 hb1 (fun s A B row hs hgr hr => ⟨hI s A B row hs.1 hgr (fun r e => ⟨by have := (hr r e).1; omega, (hr r e).2⟩), far True A B row hgr (fun r e => (hr r e).1) _ _ (by omega) hs.2.1, far True A B row hgr (fun r e => (hr r e).1) _ _ (by omega) hs.2.2⟩)
    (fun s A B row hs hgr hr => by
      obtain ⟨c, h2, h3, h4⟩ := hs
      exact ⟨c, hIx c s A B row h2 hgr (fun r e => ⟨by have := (hr r e).1; omega, (hr r e).2⟩), far True A B row hgr (fun r e => (hr r e).1) _ _ (by omega) h3, far True A B row hgr (fun r e => (hr r e).1) _ _ (by omega) h4⟩)
    ?_ ⟨hi1, hl1, hk1⟩).mono ?_
  · rintro m pre x W hsW ⟨hi, hl, hk⟩ hlen hGx
    have hy := run_yield (P := P) (args := encs x) hl (by rw [hL]; exact hps x)
    rw [hL] at hy
    refine ⟨fn, _, assign, body, hy, roundIn_of_wpIn hfn (hround (w.heap.size + 1) m pre x W _ (by omega) (by omega) hi hlen hGx ?_)⟩
    intro a' W' hkf hbody
    have hl2 := hkf.same _ _ (by omega) hl rfl
    have hk2 := hkf.same _ _ (Nat.le_refl _) hk rfl
    have hlt := (Array.getElem?_eq_some_iff.1 hl2).1
    have hbg := run_beginRound (P := P) hl2 (by rw [hL]; rfl)
    refine ⟨_, hbg, wpIn_mono (hbody _ _ hl2 rfl rfl) ?_⟩
    have hl3 : (W'.putObj (w.heap.size + 1) (.loop { L .ready none with state := .busy })).heap[w.heap.size + 1]? = some (.loop { L .ready none with state := .busy }) := World.putObj_heap_same hlt
    have hk3 : (W'.putObj (w.heap.size + 1) (.loop { L .ready none with state := .busy })).heap[w.heap.size]? = some (.deferred (some [])) := (World.putObj_heap_other (by omega)).trans hk2
    have fin : ∀ (jump : Option Code) (W3 : World), KeepsFrom w.heap.size (W'.putObj (w.heap.size + 1) (.loop { L .ready none with state := .busy })) W3 →
        (Instr.endRound (w.heap.size + 1) jump).run P W3 = .ok (.bool jump.isNone) (W3.putObj (w.heap.size + 1) (.loop (L (if jump.isNone then .ready else .done) jump))) ∧
        W3.heap[w.heap.size + 1]? = some (.loop { L .ready none with state := .busy }) ∧
        (W3.putObj (w.heap.size + 1) (.loop (L (if jump.isNone then .ready else .done) jump))).heap[w.heap.size + 1]? = some (.loop (L (if jump.isNone then .ready else .done) jump)) ∧
        (W3.putObj (w.heap.size + 1) (.loop (L (if jump.isNone then .ready else .done) jump))).heap[w.heap.size]? = some (.deferred (some [])) := fun jump W3 hk9 => by
      have h3 := hk9.same _ _ (by omega) hl3 rfl
      have h4 := run_endRound (P := P) jump h3
      rw [hL] at h4 ⊢
      exact ⟨h4, by rw [hL] at h3; exact h3, World.putObj_heap_same (Array.getElem?_eq_some_iff.1 h3).1, (World.putObj_heap_other (by omega)).trans (hk9.same _ _ (Nat.le_refl _) hk3 rfl)⟩
    rintro e a3 W3 hp
    cases e with
    | normal =>
      obtain ⟨hk9, hkp, hi3⟩ := hp
      obtain ⟨hr, hl4, hl5, hk5⟩ := fin none W3 hk9
      exact ⟨_, _, hr, .inl ⟨rfl, ⟨hI.put (by omega) hl4 rfl _ hi3, hl5, hk5⟩, hKt hkp (hKb _ _ _ _ (by omega) hl4 rfl)⟩⟩
    | ret =>
      obtain ⟨hk9, hi3⟩ := hp
      obtain ⟨hr, hl4, hl5, hk5⟩ := fin (some .ret) W3 hk9
      exact ⟨_, _, hr, .inr ⟨rfl, .ret, (hIx _).put (by omega) hl4 rfl _ hi3, hl5, hk5⟩⟩
    | exit id =>
      obtain ⟨hk9, hi3⟩ := hp
      obtain ⟨hr, hl4, hl5, hk5⟩ := fin (some (.exit id)) W3 hk9
      exact ⟨_, _, hr, .inr ⟨rfl, .exit id, (hIx _).put (by omega) hl4 rfl _ hi3, hl5, hk5⟩⟩
    | goto t => exact hp.elim
    | panic c => exact hp.elim
    | outgrown => exact hp.elim
  · rintro e W2 ⟨hv, ⟨xs, hS, hi, hl, hk⟩ | ⟨pre, hSp, c, hi, hl, hk⟩⟩
    · exact ⟨hv, .inl ⟨hl, hdone _ xs _ (Nat.le_refl _) hS (hI.put (by omega) hl rfl _ hi) ((World.putObj_heap_other (by omega)).trans hk)⟩⟩
    · exact ⟨hv, .inr ⟨c, hl, hstop _ c pre _ (Nat.le_refl _) hSp ((hIx c).put (by omega) hl rfl _ hi) ((World.putObj_heap_other (by omega)).trans hk)⟩⟩

end Go.Proofs.Ytckagmagjogmnaa

namespace Go.Proofs.Ytckagmagjogmnaa
open Go Go.RowKit Go.Shelf

attribute [local go_sem] Oper.semAt_some

theorem Holds.own {w w' : World} {row : Option Nat} {ok : Nat → Prop} {ts : List Ty} {v : Value} (h : Holds w ok ts v) (hg : w.grownBy w' row) (hr : ∀ r, row = some r → ∃ o : Obj, w.heap[r]? = some o ∧ o.isCells = false) : Holds w' ok ts v := by
  induction h with
  | mk ts a cap f hcap hnil hc hrr ih =>
    refine .mk ts a cap f hcap hnil (fun i t ht => ?_) ih
    obtain ⟨g, o, h1, h2, h3, h4⟩ := hc i t ht
    exact ⟨g, o, h1, h2, cell_kept h3 hg hr, cell_kept h4 hg hr⟩
theorem HoldsR.own {w w' : World} {row : Option Nat} {ok : Nat → Prop} {ts : List Rw} {v : Value} (h : HoldsR w ok ts v) (hg : w.grownBy w' row) (hr : ∀ r, row = some r → ∃ o : Obj, w.heap[r]? = some o ∧ o.isCells = false) : HoldsR w' ok ts v := by
  induction h with
  | mk ts a cap f r hcap hnil hc hb hrr ih =>
    refine .mk ts a cap f r hcap hnil (fun i t ht => ?_) (fun i t ht => (hb i t ht).own hg hr) ih
    obtain ⟨g, o, h1, h2, h3, h4, h5, h6, h7⟩ := hc i t ht
    exact ⟨g, o, h1, h2, cell_kept h3 hg hr, cell_kept h4 hg hr, cell_kept h5 hg hr, cell_kept h6 hg hr, cell_kept h7 hg hr⟩

/-- What a round is handed: an index and a type, which lies in memory that the loop found. -/
structure BItem (w0 : World) (n0 : Nat) where
  d : Int
  s : Value
  t : Ty
  h : Holds w0 (fun b => b < n0) t.args s
  z : t.size ≤ 1000000
abbrev encB {w0 : World} {n0 : Nat} (x : BItem w0 n0) : Array Value := #[.int .i64 x.d, tv x.s x.t.base]
def keysB {w0 : World} {n0 : Nat} (l : List (BItem w0 n0)) : List Ty := l.map (fun x => x.t)
theorem keysB_append {w0 : World} {n0 : Nat} (a b : List (BItem w0 n0)) : keysB (a ++ b) = keysB a ++ keysB b := List.map_append

/-- What a round that goes on keeps: all that lay below n0, and the blocks that hold slices of types. -/
def KpB (n0 : Nat) (W W' : World) : Prop := Below n0 W W' ∧ ∀ j vs, Blk W j 30 vs → Blk W' j 30 vs
theorem KpB.trans {n0 : Nat} {A B C : World} (h : KpB n0 A B) (k : KpB n0 B C) : KpB n0 A C := ⟨h.1.trans k.1, fun j vs hb => k.2 j vs (h.2 j vs hb)⟩
theorem KpB.put {w : World} {n0 : Nat} (hn : n0 ≤ w.heap.size) (W : World) (l : Nat) (o o' : Obj) (hl : w.heap.size ≤ l) (h : W.heap[l]? = some o) (hc : o.isCells = false) : KpB n0 W (W.putObj l o') :=
  ⟨(Below.refl n0 W).grown (grownBy_putObj' W l o') (Nat.le_trans hn (by have := (Array.getElem?_eq_some_iff.1 h).1; omega)) (fun k e => by cases e; omega), fun _ _ hb => hb.put o' h hc⟩
theorem KpB.set {n0 : Nat} {W : World} {j : Nat} {t : TypeId} {vs : Array Value} (hb : Blk W j t vs) (hn : n0 ≤ j) (h1 : t ≠ 30) (i : Nat) (u : Value) : KpB n0 W (W.setCell ⟨j, i, none⟩ u) :=
  ⟨bset (Below.refl _ _) hn _, fun k vs' hk => hk.other (fun e => by subst e; have := hb.symm.trans hk; cases this; exact h1 rfl) _ _⟩
theorem KpB.of_below {n0 : Nat} {A B : World} (h : Below A.heap.size A B) (hn : n0 ≤ A.heap.size) : KpB n0 A B := ⟨h.mono hn, fun _ _ hb => hb.below h hb.lt⟩

set_option maxRecDepth 100000 in
set_option maxHeartbeats 2000000 in
theorem back1_stops (w0 : World) (n0 n B : Nat) (hn : 1 ≤ n) (ts : List Ty) (a : Option Addr) (cap : Nat) (w : World) (hB : Blk w B 30 #[.slice a ts.length cap]) (hh : Holds w0 (fun b => b < n0) ts (.slice a ts.length cap)) (hls : sizeL ts ≤ 1000000) (hn0 : n0 ≤ w.heap.size) (hb : Below n0 w0 w) :
    SeqStopsF Fence.wide n Try.prog 90 #[.pointer (some ⟨B, 0, none⟩)] (encB (w0 := w0) (n0 := n0)) (fun _ => True) (KpB n0) (fun ys => keysB ys = ts.reverse) (fun pre => keysB pre <+: ts.reverse) ts.length w := fun l J Jx W hW _ _ hY h0 => by
  have hl := Nat.le_trans (sizeL_length ts) hls
  have hB' := hB.below hW hB.lt
  have hbW : Below n0 w0 W := hb.trans (hW.mono hn0)
  obtain ⟨a', cap', e1, hcap, hat⟩ := hh.shape
  cases e1
  have HA : Hid _ := hat
  have c0 := hB'.cell 0
  have hw1 : IntKind.i64.wrap ((ts.length : Int) - 1) = (ts.length : Int) - 1 := by rw [IntKind.wrap_i64]; omega
  refine callsIn_of_wp Try.func90 rfl trivial ?_ rfl
  simp only [Try.ntmps90, List.size_toArray, List.length_cons, List.length_nil, Nat.reduceAdd, Nat.reduceSub, Array.replicate_succ, Array.replicate_zero, List.push_toArray, List.append_toArray, List.nil_append, List.cons_append]
  gi_wp2
  clear c0
  gi_loopw [3] (fun i wr => ∃ k : Nat, ∃ pre, k ≤ ts.length ∧ i = .int .i64 ((k : Int) - 1) ∧ Hid (keysB pre = (ts.drop k).reverse) ∧ pre.length + k = ts.length ∧ J pre wr ∧ Blk wr B 30 #[.slice a ts.length cap] ∧ Below n0 w0 wr ∧ W.heap.size ≤ wr.heap.size)
    (fun i _ => (intOf i + 1).toNat)
  case atStart => exact ⟨ts.length, [], Nat.le_refl _, by go_num, by show _ = _; simp [keysB], by simp, h0, hB', hbW, Nat.le_refl _⟩
  case round =>
    clear hB' hbW hw1
    obtain ⟨k, pre, hk, rfl, hall, hpl, hJs, hcx, hbx, hsw⟩ := hrel
    have c0 := hcx.cell 0
    by_cases hk0 : k = 0
    · subst hk0
      have e9 : (((0 : Nat) : Int) - 1) = -1 := by simp
      rw [e9]
      have z : decide ((-1 : Int) ≥ 0) = false := by decide
      have z' : decide (0 ≤ (-1 : Int)) = false := by decide
      have hfin : Hid (keysB pre = ts.reverse) := by have := hall.out; show _ = _; rw [this]; simp
      gi_wp2
      go_end0
      exact ⟨⟨_, rfl⟩, .inl ⟨_, hfin.out, hJs⟩⟩
    · obtain ⟨j, rfl⟩ : ∃ j, k = j + 1 := ⟨k - 1, by omega⟩
      have e9 : (((j + 1 : Nat) : Int) - 1) = (j : Int) := by omega
      rw [e9]
      have z : decide ((j : Int) ≥ 0) = true := by simp
      have z' : decide (0 ≤ (j : Int)) = true := by simp
      obtain ⟨u, hu⟩ : ∃ u, ts[j]? = some u := ⟨_, List.getElem?_eq_getElem (by omega)⟩
      obtain ⟨g, o, s, rfl, hgo, hg, a0, a1, hs⟩ := HA.out j u hu
      have q0 := (hbx.cell (p := ⟨g, o + j * 2, none⟩) hgo).trans a0
      have q1 := (hbx.cell (p := ⟨g, o + j * 2 + 1, none⟩) hgo).trans a1
      have huz : u.size ≤ 1000000 := by have := size_mem (List.mem_of_getElem? hu); omega
      have y1 : (0 : Int) ≤ (j : Int) := by omega
      have y2 : (j : Int) < (ts.length : Int) := by omega
      have hfin : Hid (keysB (pre ++ [(⟨(j : Int), s, u, hs, huz⟩ : BItem w0 n0)]) = (ts.drop j).reverse) := by
        have h8 := hall.out
        show _ = _
        rw [keysB_append, h8]
        have hd : ts.drop j = u :: ts.drop (j + 1) := by
          obtain ⟨hl, he⟩ := List.getElem?_eq_some_iff.1 hu
          rw [List.drop_eq_getElem_cons hl, he]
        rw [hd, List.reverse_cons]
        rfl
      have hpre : Hid (keysB (pre ++ [(⟨(j : Int), s, u, hs, huz⟩ : BItem w0 n0)]) <+: ts.reverse) := by
        show _ <+: _
        rw [hfin.out]
        refine ⟨(ts.take j).reverse, ?_⟩
        rw [← List.reverse_append, List.take_append_drop]
      obtain ⟨fn, tmps, assign, body, hy, hR⟩ := hY (n - 1) pre ⟨(j : Int), s, u, hs, huz⟩ wr hsw hJs (by omega) trivial
      dsimp only [encB] at hy
      have hsl := hs
      obtain ⟨sa, sc, hss, _⟩ := hsl.shape
      generalize u.args.length = un at hss
      subst hss
      have HJ9 : Hid (pre.length + (j + 1) = ts.length) := hpl
      have hwj : IntKind.i64.wrap ((j : Int) - 1) = (j : Int) - 1 := by rw [IntKind.wrap_i64]; omega
      clear hall hpl hu a0 a1 hsl e9
      gi_wp2
      refine hR.mono ?_
      rintro e W3 (⟨rfl, hJ3, hk3⟩ | ⟨rfl, hJx3⟩)
      · have hcx3 := hk3.2 _ _ hcx
        have hbx3 := hbx.trans hk3.1
        have hsw3 : W.heap.size ≤ W3.heap.size := Nat.le_trans hsw hk3.1.size
        clear c0 q0 q1 hk3
        gi_wp2
        go_roundw
        case rel => exact ⟨j, _, by omega, by first | rfl | go_num, hfin, by have := HJ9.out; simp; omega, hJ3, hcx3, hbx3, hsw3⟩
        case measure => simp [intOf]
      · gi_wp2
        refine bodyPost_ret (results_none rfl _ _ _) rfl ?_
        exact ⟨⟨_, rfl⟩, .inr ⟨_, hpre.out, hJx3⟩⟩

theorem Backward_in (n : Nat) (a : Option Addr) (m c : Nat) (w : World) :
    CallsIn Fence.wide n Try.prog 71 #[.slice a m c] w fun e w' => e = .returned (.func (.func 90) #[] #[.pointer (some ⟨w.heap.size, 0, none⟩)]) ∧ w' = w.alloc (.cells #[.slice a m c] 30) := by
  refine callsIn_of_wp Try.func71 rfl trivial ?_ rfl
  simp only [Try.ntmps71, List.size_toArray, List.length_cons, List.length_nil, Nat.reduceAdd, Nat.reduceSub, Array.replicate_succ, Array.replicate_zero, List.push_toArray, List.append_toArray, List.nil_append, List.cons_append]
  gi_wp2
  go_ret
  exact ⟨rfl, rfl⟩

end Go.Proofs.Ytckagmagjogmnaa

namespace Go.Proofs.Ytckagmagjogmnaa
open Go Go.RowKit

/-- What is told of a raw term, from a block on that lay ahead. -/
def MadeL (L : Nat) (S : List Nat) (cur : World) (v : Rw) (e : Ending) (w' : World) : Prop := ∃ vb vr, e = .returned (rwv v.kind vb v.ty.base v.idx vr) ∧ Holds w' (fun b => L ≤ b) v.ty.args vb ∧ HoldsR w' (fun b => L ≤ b) v.kids vr ∧ Only S cur w'

/-- What is told of a raw term, in blocks that ok lets by. -/
def MadeO (ok : Nat → Prop) (S : List Nat) (cur : World) (v : Rw) (e : Ending) (w' : World) : Prop := ∃ vb vr, e = .returned (rwv v.kind vb v.ty.base v.idx vr) ∧ Holds w' ok v.ty.args vb ∧ HoldsR w' ok v.kids vr ∧ Only S cur w'

set_option maxRecDepth 100000 in
set_option maxHeartbeats 300000 in
theorem apply_calls (f a : Rw) (ok : Nat → Prop) (sb sr sb' sr' : Value) (w : World) (hL : ∀ b, w.heap.size ≤ b → ok b) (h1 : Holds w ok f.ty.args sb) (h2 : HoldsR w ok f.kids sr) (h3 : Holds w ok a.ty.args sb') (h4 : HoldsR w ok a.kids sr') :
    Calls Try.prog 52 #[rwv f.kind sb f.ty.base f.idx sr, rwv a.kind sb' a.ty.base a.idx sr'] w (MadeO ok [] w (appR f a)) := by
  obtain ⟨x1, x2, rfl, _⟩ := h1.shape
  obtain ⟨x3, x4, rfl, _⟩ := h2.shape
  obtain ⟨y1, y2, rfl, _⟩ := h3.shape
  obtain ⟨y3, y4, rfl, _⟩ := h4.shape
  generalize f.ty.args.length = n1 at *
  generalize f.kids.length = n2 at *
  generalize a.ty.args.length = n3 at *
  generalize a.kids.length = n4 at *
  obtain ⟨N, hN⟩ : ∃ N, w.heap.size = N := ⟨_, rfl⟩
  rw [hN] at hL
  obtain ⟨W0, hW0⟩ : ∃ W0, (((w.alloc (.cells #[.int .i64 f.kind, .slice x1 n1 x2, .int .i64 f.ty.base, .int .i64 f.idx, .slice x3 n2 x4] 35)).alloc (.cells #[.int .i64 a.kind, .slice y1 n3 y2, .int .i64 a.ty.base, .int .i64 a.idx, .slice y3 n4 y4] 35)).alloc (.cells #[.int .i64 0, .slice none 0 0, .int .i64 0, .int .i64 0, .slice none 0 0] 35)) = W0 := ⟨_, rfl⟩
  have b0 : Blk W0 N 35 #[.int .i64 f.kind, .slice x1 n1 x2, .int .i64 f.ty.base, .int .i64 f.idx, .slice x3 n2 x4] := by rw [← hW0]; exact ((Blk.new' w N 35 _ hN).alloc _).alloc _
  have b1 : Blk W0 (N + 1) 35 #[.int .i64 a.kind, .slice y1 n3 y2, .int .i64 a.ty.base, .int .i64 a.idx, .slice y3 n4 y4] := by rw [← hW0]; exact (Blk.new' _ (N + 1) 35 _ (by simp [hN])).alloc _
  have b2 : Blk W0 (N + 1 + 1) 35 #[.int .i64 0, .slice none 0 0, .int .i64 0, .int .i64 0, .slice none 0 0] := by rw [← hW0]; exact Blk.new' _ (N + 1 + 1) 35 _ (by simp [hN])
  have hz : W0.heap.size = N + 1 + 1 + 1 := by rw [← hW0]; simp [hN]
  have bl : Below N w W0 := by rw [← hW0]; exact (((Below.refl N w).alloc (by omega) _).alloc (by simp; omega) _).alloc (by simp; omega) _
  have hO : Only [] w W0 := Only.of_below' (by rw [hN]; exact bl)
  have c0 := b0.cell 0
  have c1 := b0.cell 1
  have c2 := b0.cell 2
  have c3 := b0.cell 3
  have c4 := b0.cell 4
  have d0 := b1.cell 0
  have d1 := b1.cell 1
  have d2 := b1.cell 2
  have d3 := b1.cell 3
  have d4 := b1.cell 4
  have HW : Hid _ := hW0
  have f0 := b2.frozen 0
  have f1 := b2.frozen 1
  have f2 := b2.frozen 2
  have f3 := b2.frozen 3
  have f4 := b2.frozen 4
  have e0 := b2.cell 0
  have e1 := b2.cell 1
  have e2 := b2.cell 2
  have e3 := b2.cell 3
  have e4 := b2.cell 4
  have hg9 : w.heap.size ≤ N + 1 + 1 := by omega
  have hO1 := ((((hO.setNew hg9 0 (.int .i64 4)).setNew hg9 1 (.slice none 0 0)).setNew hg9 2 (.int .i64 0)).setNew hg9 3 (.int .i64 0)).setNew hg9 4 (.slice (some ⟨N + 1 + 1 + 1, 0, none⟩) 2 2)
  have b5 := ((((b2.set 0 (.int .i64 4)).set 1 (.slice none 0 0)).set 2 (.int .i64 0)).set 3 (.int .i64 0)).set 4 (.slice (some ⟨N + 1 + 1 + 1, 0, none⟩) 2 2)
  obtain ⟨W1, hW1⟩ : ∃ W1, ((((W0.setCell ⟨N + 1 + 1, 0, none⟩ (.int .i64 4)).setCell ⟨N + 1 + 1, 1, none⟩ (.slice none 0 0)).setCell ⟨N + 1 + 1, 2, none⟩ (.int .i64 0)).setCell ⟨N + 1 + 1, 3, none⟩ (.int .i64 0)).setCell ⟨N + 1 + 1, 4, none⟩ (.slice (some ⟨N + 1 + 1 + 1, 0, none⟩) 2 2) = W1 := ⟨_, rfl⟩
  have hs1 : W1.heap.size = N + 1 + 1 + 1 := by rw [← hW1]; simp [World.setCell, hz]
  rw [hW1] at hO1 b5
  have hO2 : Only [] w (W1.alloc (.cells #[.int .i64 f.kind, .slice x1 n1 x2, .int .i64 f.ty.base, .int .i64 f.idx, .slice x3 n2 x4, .int .i64 a.kind, .slice y1 n3 y2, .int .i64 a.ty.base, .int .i64 a.idx, .slice y3 n4 y4] 35)) := hO1.alloc _
  have b6 := b5.alloc (.cells #[.int .i64 f.kind, .slice x1 n1 x2, .int .i64 f.ty.base, .int .i64 f.idx, .slice x3 n2 x4, .int .i64 a.kind, .slice y1 n3 y2, .int .i64 a.ty.base, .int .i64 a.idx, .slice y3 n4 y4] 35)
  have b3 : Blk (W1.alloc (.cells #[.int .i64 f.kind, .slice x1 n1 x2, .int .i64 f.ty.base, .int .i64 f.idx, .slice x3 n2 x4, .int .i64 a.kind, .slice y1 n3 y2, .int .i64 a.ty.base, .int .i64 a.idx, .slice y3 n4 y4] 35)) (N + 1 + 1 + 1) 35 #[.int .i64 f.kind, .slice x1 n1 x2, .int .i64 f.ty.base, .int .i64 f.idx, .slice x3 n2 x4, .int .i64 a.kind, .slice y1 n3 y2, .int .i64 a.ty.base, .int .i64 a.idx, .slice y3 n4 y4] := Blk.new' W1 (N + 1 + 1 + 1) 35 _ hs1
  have hk2 : HoldsR (W1.alloc (.cells #[.int .i64 f.kind, .slice x1 n1 x2, .int .i64 f.ty.base, .int .i64 f.idx, .slice x3 n2 x4, .int .i64 a.kind, .slice y1 n3 y2, .int .i64 a.ty.base, .int .i64 a.idx, .slice y3 n4 y4] 35)) ok [f, a] (.slice (some ⟨N + 1 + 1 + 1, 0, none⟩) 2 2) := by
    have hkp : ∀ b, b < w.heap.size → ok b → (W1.alloc (.cells #[.int .i64 f.kind, .slice x1 n1 x2, .int .i64 f.ty.base, .int .i64 f.idx, .slice x3 n2 x4, .int .i64 a.kind, .slice y1 n3 y2, .int .i64 a.ty.base, .int .i64 a.idx, .slice y3 n4 y4] 35)).heap[b]? = w.heap[b]? ∧ ok b := fun b hb ho => ⟨hO2.block b hb (by simp), ho⟩
    exact holdsR_two b3 (hL _ (by omega)) (h1.keep hkp) (h2.keep hkp) (h3.keep hkp) (h4.keep hkp)
  obtain ⟨W5, hW5⟩ : ∃ W5, W1.alloc (.cells #[.int .i64 f.kind, .slice x1 n1 x2, .int .i64 f.ty.base, .int .i64 f.idx, .slice x3 n2 x4, .int .i64 a.kind, .slice y1 n3 y2, .int .i64 a.ty.base, .int .i64 a.idx, .slice y3 n4 y4] 35) = W5 := ⟨_, rfl⟩
  rw [hW5] at hO2 b6 hk2
  have HW5 : Hid (((((((W0.setCell ⟨N + 1 + 1, 0, none⟩ (.int .i64 4)).setCell ⟨N + 1 + 1, 1, none⟩ (.slice none 0 0)).setCell ⟨N + 1 + 1, 2, none⟩ (.int .i64 0)).setCell ⟨N + 1 + 1, 3, none⟩ (.int .i64 0)).setCell ⟨N + 1 + 1, 4, none⟩ (.slice (some ⟨N + 1 + 1 + 1, 0, none⟩) 2 2)).alloc (.cells #[.int .i64 f.kind, .slice x1 n1 x2, .int .i64 f.ty.base, .int .i64 f.idx, .slice x3 n2 x4, .int .i64 a.kind, .slice y1 n3 y2, .int .i64 a.ty.base, .int .i64 a.idx, .slice y3 n4 y4] 35)) = W5) := by show _ = _; rw [hW1, hW5]
  clear hW0 hW1 hW5 h1 h2 h3 h4 b5 b3 hO1 hO bl b0 b1 b2
  go_enter Try.func52, Try.ntmps52
  go_upto_region 1 with fail
  rw [HW.out]
  clear HW
  go_wp2_with fail
  rw [HW5.out]
  have g0 : W5.cell? ⟨N + 1 + 1, 0, none⟩ = some (.int .i64 4) := b6.cell 0
  have g1 : W5.cell? ⟨N + 1 + 1, 1, none⟩ = some (.slice none 0 0) := b6.cell 1
  have g2 : W5.cell? ⟨N + 1 + 1, 2, none⟩ = some (.int .i64 0) := b6.cell 2
  have g3 : W5.cell? ⟨N + 1 + 1, 3, none⟩ = some (.int .i64 0) := b6.cell 3
  have g4 : W5.cell? ⟨N + 1 + 1, 4, none⟩ = some (.slice (some ⟨N + 1 + 1 + 1, 0, none⟩) 2 2) := b6.cell 4
  exact bodyPost_ret (v := rwv 4 (.slice none 0 0) 0 0 (.slice (some ⟨N + 1 + 1 + 1, 0, none⟩) 2 2)) (by simp [results, Try.results52, go_sem, g0, g1, g2, g3, g4]) rfl ⟨_, _, rfl, Holds.nil _ _ _ _ (fun _ => rfl), hk2, hO2⟩

end Go.Proofs.Ytckagmagjogmnaa

