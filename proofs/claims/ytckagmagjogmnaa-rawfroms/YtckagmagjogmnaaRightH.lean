/-
  RightH: several texts in one file: LoopsQ, WalkT, SizeH, RightH.
-/
import Derived.Test.YtckagmagjogmnaaApply
import Derived.Test.YtckagmagjogmnaaSize
import Derived.Test.YtckagmagjogmnaaTm
import Derived.Test.YtckagmagjogmnaaHeadsS
import Derived.Test.YtckagmagjogmnaaFew
import Derived.Test.YtckagmagjogmnaaWalk
namespace Go.Proofs.Ytckagmagjogmnaa
open Go Go.RowKit

/-- What may be turned from B on: a block of the iterator's own, or what is no cells. -/
def TurnedQ (B : Nat) (W : World) (row : Option Nat) : Prop := ∀ r, row = some r → B ≤ r ∧ ∀ t vs, Blk W r t vs → t = 76 ∨ t = 136 ∨ t = 147
/-- What abides where blocks from B on are made, or the iterator's own are turned. -/
def FreeFromQ {β : Type} (B : Nat) (I : β → World → Prop) : Prop := ∀ s W W' row, I s W → W.grownBy W' row → TurnedQ B W row → I s W'
theorem FreeFromQ.alloc {β : Type} {B : Nat} {I : β → World → Prop} (h : FreeFromQ B I) {s : β} {W : World} (o : Obj) (hs : I s W) : I s (W.alloc o) := h s W _ none hs (World.grownBy_alloc W o none) (fun r e => by cases e)
theorem FreeFromQ.set {β : Type} {B : Nat} {I : β → World → Prop} (h : FreeFromQ B I) {s : β} {W : World} {b : Nat} {t : TypeId} {vs : Array Value} (hk : Blk W b t vs) (ht : t = 76 ∨ t = 136 ∨ t = 147) (hb : B ≤ b) (i : Nat) (v : Value) (hs : I s W) : I s (W.setCell ⟨b, i, none⟩ v) := h s W _ (some b) hs (grownBy_setCell_at W b i v) (fun r e => by
  cases e
  refine ⟨hb, fun t' vs' h' => ?_⟩
  have h2 := (show W.heap[b]? = _ from hk).symm.trans h'
  simp at h2
  rw [← h2.2]
  exact ht)
theorem FreeFromQ.put {β : Type} {B : Nat} {I : β → World → Prop} (h : FreeFromQ B I) {s : β} {W : World} {b : Nat} {o0 : Obj} (hb : B ≤ b) (ho : W.heap[b]? = some o0) (hc : o0.isCells = false) (o : Obj) (hs : I s W) : I s (W.putObj b o) := h s W _ (some b) hs (grownBy_putObj' W b o) (fun r e => by
  cases e
  refine ⟨hb, fun t' vs' h' => ?_⟩
  rw [show W.heap[b]? = _ from h'] at ho
  cases ho
  cases hc)
theorem FreeFromQ.and {β : Type} {B : Nat} {I J : β → World → Prop} (h : FreeFromQ B I) (k : FreeFromQ B J) : FreeFromQ B (fun s W => I s W ∧ J s W) := fun s W W' row hs hg hr => ⟨h s W W' row hs.1 hg hr, k s W W' row hs.2 hg hr⟩
theorem FreeFromQ.mono {β : Type} {B B' : Nat} {I : β → World → Prop} (h : FreeFromQ B I) (hB : B ≤ B') : FreeFromQ B' I := fun s W W' row hs hg hr => h s W W' row hs hg (fun r e => ⟨Nat.le_trans hB (hr r e).1, (hr r e).2⟩)
theorem freeFrom_belowQ {β : Type} {n0 B : Nat} {w0 : World} (hn : n0 ≤ w0.heap.size) (hB : n0 ≤ B) : FreeFromQ B (fun (_ : β) W => Below n0 w0 W) :=
  fun _ _ _ _ hs hg hr => hs.grown hg (Nat.le_trans hn hs.size) (fun k e => Nat.le_trans hB (hr k e).1)

/-- AN ITERATOR THAT GIVES JUST THESE, OR IS LEFT AHEAD. -/
def SeqStopsFQ {α : Type} (F : Fence) (n : Nat) (P : Program) (g : Nat) (lb : Array Value) (encs : α → Array Value) (G : α → Prop) (Kp : World → World → Prop) (S Sp : List α → Prop) (N : Nat) (w : World) : Prop :=
  ∀ (l : Nat) (J Jx : List α → World → Prop) (W : World), Below w.heap.size w W → FreeFromQ W.heap.size J → FreeFromQ W.heap.size Jx →
    (∀ m pre x W1, W.heap.size ≤ W1.heap.size → J pre W1 → pre.length < N → G x → YieldAt F m P l (encs x) W1 fun e W' =>
      (e = .returned (.bool true) ∧ J (pre ++ [x]) W' ∧ Kp W1 W') ∨ (e = .returned (.bool false) ∧ Jx (pre ++ [x]) W')) →
    J [] W →
    CallsIn F n P g (#[.func (.yield l) #[] #[]] ++ lb) W fun e W' => (∃ v, e = .returned v) ∧ ((∃ xs, S xs ∧ J xs W') ∨ (∃ pre, Sp pre ∧ Jx pre W'))

/-- How a round's body may be left. -/
def endsFQ {α : Type} (B : Nat) (Kp : World → World → Prop) (I : List α → World → Prop) (Ix : Code → List α → World → Prop) (xs : List α) (W0 W : World) : Exit → Act → World → Prop
  | .normal, _, W' => KeepsFrom B W W' ∧ Kp W0 W' ∧ I xs W'
  | .ret, _, W' => KeepsFrom B W W' ∧ Ix .ret xs W'
  | .exit id, _, W' => KeepsFrom B W W' ∧ Ix (.exit id) xs W'
  | _, _, _ => False

theorem room_noneQ {F : Fence} (hd : F.depth = none) (k : Nat) : F.room k := fun d h => by rw [hd] at h; cases h
theorem round_anyQ {F : Fence} (hd : F.depth = none) {m m' : Nat} {P : Program} {l : Nat} {f : FuncId} {tmps : Array Value} {assign body : Code} {w : World} {R : Ending → World → Prop}
    (h : RoundIn F m P l f tmps assign body w R) : RoundIn F m' P l f tmps assign body w R := ⟨h.1, fun c cs _ => h.2 c cs (room_noneQ hd _)⟩
theorem yield_anyQ {F : Fence} (hd : F.depth = none) {m : Nat} (m' : Nat) {P : Program} {l : Nat} {args : Array Value} {W : World} {R : Ending → World → Prop} (h : YieldAt F m P l args W R) : YieldAt F m' P l args W R := by
  obtain ⟨fn, tmps, assign, body, hy, hR⟩ := h
  exact ⟨fn, tmps, assign, body, hy, round_anyQ hd hR⟩

/-- THE STATEMENT. -/
theorem range_freeQ {α : Type} {F : Fence} {n : Nat} {P : Program} {g : Operand} {ps : Array Tmp} {assign body : Code} {Q : Exit → Act → World → Prop} {a : Act} {w : World}
    (hro : F.round = none) (h1 : 1 ≤ n) {gf : Nat} {lb : Array Value} (hg : a.eval g = .func (.func gf) #[] lb) (hFg : F.fn gf) (eg : ∀ args w, (callFunc gf args).run P w = .ok (.enter gf args) w)
    {encs : α → Array Value} {G : α → Prop} {Kp : World → World → Prop} {S Sp : List α → Prop} {N : Nat} {w0 : World} (hseq : SeqStopsFQ F (n - 1) P gf lb encs G Kp S Sp N w0) (hb0 : Below w0.heap.size w0 w)
    (hKt : ∀ {A B C : World}, Kp A B → Kp B C → Kp A C) (hKb : ∀ (W : World) (l : Nat) (o o' : Obj), w.heap.size ≤ l → W.heap[l]? = some o → o.isCells = false → Kp W (W.putObj l o')) (hps : ∀ x, (encs x).size = ps.size)
    (I : List α → World → Prop) (Ix : Code → List α → World → Prop) (hI : FreeFromQ w.heap.size I) (hIx : ∀ c, FreeFromQ w.heap.size (Ix c)) (h0 : I [] w)
    (hround : ∀ (l m : Nat) (pre : List α) (x : α) (W : World) (K : Act → World → Prop), w.heap.size ≤ W.heap.size → w.heap.size ≤ l → I pre W → pre.length < N → G x →
      (∀ a' W', KeepsFrom w.heap.size W W' → (∀ (o o' : Obj), W'.heap[l]? = some o → o.isCells = false → o'.isCells = false → body.wpIn (F.inRound l) m P (endsFQ w.heap.size Kp I Ix (pre ++ [x]) W (W'.putObj l o')) a' (W'.putObj l o')) → K a' W') →
      assign.wpIn (F.inRound l) m P (Exit.then K (fun _ _ _ => False)) { tmps := (ps.zip (encs x)).foldl (fun t (p, v) => t.setIfInBounds p v) a.tmps, defers := [] } W)
    (hdone : ∀ (D : Nat) (xs : List α) (W : World), w.heap.size ≤ D → S xs → I xs W → W.heap[D]? = some (.deferred (some [])) → Q .normal { a with defers := { target := .collected D, args := #[] } :: a.defers } W)
    (hstop : ∀ (D : Nat) (c : Code) (pre : List α) (W : World), w.heap.size ≤ D → Sp pre → Ix c pre W → W.heap[D]? = some (.deferred (some [])) → c.wpIn F n P Q { a with defers := { target := .collected D, args := #[] } :: a.defers } W) :
    (Code.rangeFunc g ps assign body).wpIn F n P Q a w := by
  refine range_enter hro h1 hg hFg eg ?_
  intro fn L hfn hL
  obtain ⟨W1, hW1⟩ : ∃ W1, (w.alloc (.deferred (some []))).alloc (.loop (L .ready none)) = W1 := ⟨_, rfl⟩
  rw [hW1]
  have hs1 : W1.heap.size = w.heap.size + 2 := by rw [← hW1]; simp
  have hk1 : W1.heap[w.heap.size]? = some (.deferred (some [])) := by
    rw [← hW1]
    exact (Below.heap_alloc _ _ _ (by simp)).trans (World.alloc_heap_new w _)
  have hl1 : W1.heap[w.heap.size + 1]? = some (.loop (L .ready none)) := by
    rw [← hW1]
    have := World.alloc_heap_new (w.alloc (.deferred (some []))) (.loop (L .ready none))
    rwa [World.size_alloc] at this
  have hi1 : I [] W1 := by rw [← hW1]; exact hI.alloc _ (hI.alloc _ h0)
  have hb1 : Below w0.heap.size w0 W1 := by
    rw [← hW1]
    exact hb0.trans ((((Below.refl _ w).alloc (Nat.le_refl _) _).alloc (by simp) _).mono hb0.size)
  have far : ∀ (c : Prop) (A B : World) (row : Option Nat), A.grownBy B row → (∀ r, row = some r → W1.heap.size ≤ r) → ∀ (k : Nat) (o : Obj), k < W1.heap.size → A.heap[k]? = some o → B.heap[k]? = some o := fun _ A B row hgr hr k o hk ho =>
    (hgr.block k (Array.getElem?_eq_some_iff.1 ho).1 (fun e => by have := hr k e.symm; omega)).trans ho
  refine (hseq (w.heap.size + 1)
    (fun pre W => I pre W ∧ W.heap[w.heap.size + 1]? = some (.loop (L .ready none)) ∧ W.heap[w.heap.size]? = some (.deferred (some [])))
    (fun pre W => ∃ c, Ix c pre W ∧ W.heap[w.heap.size + 1]? = some (.loop (L .done (some c))) ∧ W.heap[w.heap.size]? = some (.deferred (some [])))
    W1 hb1 (fun s A B row hs hgr hr => ⟨hI s A B row hs.1 hgr (fun r e => ⟨by have := (hr r e).1; omega, (hr r e).2⟩), far True A B row hgr (fun r e => (hr r e).1) _ _ (by omega) hs.2.1, far True A B row hgr (fun r e => (hr r e).1) _ _ (by omega) hs.2.2⟩)
    (fun s A B row hs hgr hr => by
      obtain ⟨c, h2, h3, h4⟩ := hs
      exact ⟨c, hIx c s A B row h2 hgr (fun r e => ⟨by have := (hr r e).1; omega, (hr r e).2⟩), far True A B row hgr (fun r e => (hr r e).1) _ _ (by omega) h3, far True A B row hgr (fun r e => (hr r e).1) _ _ (by omega) h4⟩)
    ?_ ⟨hi1, hl1, hk1⟩).mono ?_
  · rintro m pre x W hsW ⟨hi, hl, hk⟩ hlen hGx
    have hy := run_yield (P := P) (args := encs x) hl (by rw [hL]; exact hps x)
    rw [hL] at hy
    refine ⟨fn, _, assign, body, hy, roundIn_of_wpIn hfn (hround (w.heap.size + 1) m pre x W _ (by omega) (by omega) hi hlen hGx ?_)⟩
    intro a' W' hkf hbody
    have hl2 := hkf.same _ _ (by omega) hl rfl
    have hk2 := hkf.same _ _ (Nat.le_refl _) hk rfl
    have hlt := (Array.getElem?_eq_some_iff.1 hl2).1
    have hbg := run_beginRound (P := P) hl2 (by rw [hL]; rfl)
    refine ⟨_, hbg, wpIn_mono (hbody _ _ hl2 rfl rfl) ?_⟩
    have hl3 : (W'.putObj (w.heap.size + 1) (.loop { L .ready none with state := .busy })).heap[w.heap.size + 1]? = some (.loop { L .ready none with state := .busy }) := World.putObj_heap_same hlt
    have hk3 : (W'.putObj (w.heap.size + 1) (.loop { L .ready none with state := .busy })).heap[w.heap.size]? = some (.deferred (some [])) := (World.putObj_heap_other (by omega)).trans hk2
    have fin : ∀ (jump : Option Code) (W3 : World), KeepsFrom w.heap.size (W'.putObj (w.heap.size + 1) (.loop { L .ready none with state := .busy })) W3 →
        (Instr.endRound (w.heap.size + 1) jump).run P W3 = .ok (.bool jump.isNone) (W3.putObj (w.heap.size + 1) (.loop (L (if jump.isNone then .ready else .done) jump))) ∧
        W3.heap[w.heap.size + 1]? = some (.loop { L .ready none with state := .busy }) ∧
        (W3.putObj (w.heap.size + 1) (.loop (L (if jump.isNone then .ready else .done) jump))).heap[w.heap.size + 1]? = some (.loop (L (if jump.isNone then .ready else .done) jump)) ∧
        (W3.putObj (w.heap.size + 1) (.loop (L (if jump.isNone then .ready else .done) jump))).heap[w.heap.size]? = some (.deferred (some [])) := fun jump W3 hk9 => by
      have h3 := hk9.same _ _ (by omega) hl3 rfl
      have h4 := run_endRound (P := P) jump h3
      rw [hL] at h4 ⊢
      exact ⟨h4, by rw [hL] at h3; exact h3, World.putObj_heap_same (Array.getElem?_eq_some_iff.1 h3).1, (World.putObj_heap_other (by omega)).trans (hk9.same _ _ (Nat.le_refl _) hk3 rfl)⟩
    rintro e a3 W3 hp
    cases e with
    | normal =>
      obtain ⟨hk9, hkp, hi3⟩ := hp
      obtain ⟨hr, hl4, hl5, hk5⟩ := fin none W3 hk9
      exact ⟨_, _, hr, .inl ⟨rfl, ⟨hI.put (by omega) hl4 rfl _ hi3, hl5, hk5⟩, hKt hkp (hKb _ _ _ _ (by omega) hl4 rfl)⟩⟩
    | ret =>
      obtain ⟨hk9, hi3⟩ := hp
      obtain ⟨hr, hl4, hl5, hk5⟩ := fin (some .ret) W3 hk9
      exact ⟨_, _, hr, .inr ⟨rfl, .ret, (hIx _).put (by omega) hl4 rfl _ hi3, hl5, hk5⟩⟩
    | exit id =>
      obtain ⟨hk9, hi3⟩ := hp
      obtain ⟨hr, hl4, hl5, hk5⟩ := fin (some (.exit id)) W3 hk9
      exact ⟨_, _, hr, .inr ⟨rfl, .exit id, (hIx _).put (by omega) hl4 rfl _ hi3, hl5, hk5⟩⟩
    | goto t => exact hp.elim
    | panic c => exact hp.elim
    | outgrown => exact hp.elim
  · rintro e W2 ⟨hv, ⟨xs, hS, hi, hl, hk⟩ | ⟨pre, hSp, c, hi, hl, hk⟩⟩
    · exact ⟨hv, .inl ⟨hl, hdone _ xs _ (Nat.le_refl _) hS (hI.put (by omega) hl rfl _ hi) ((World.putObj_heap_other (by omega)).trans hk)⟩⟩
    · exact ⟨hv, .inr ⟨c, hl, hstop _ c pre _ (Nat.le_refl _) hSp ((hIx c).put (by omega) hl rfl _ hi) ((World.putObj_heap_other (by omega)).trans hk)⟩⟩

end Go.Proofs.Ytckagmagjogmnaa

namespace Go.Proofs.Ytckagmagjogmnaa
open Go Go.RowKit Go.Shelf

theorem sizeT_take' {ts : List Tm} {k : Nat} {t : Tm} (h : ts[k]? = some t) : sizeT (ts.take (k + 1)) = sizeT (ts.take k) + t.size := by
  rw [List.take_add_one, h, sizeT_append]; simp [sizeT]
theorem sizeT_take_le' (ts : List Tm) (k : Nat) : sizeT (ts.take k) ≤ sizeT ts := by
  have h := sizeT_append (ts.take k) (ts.drop k)
  rw [List.take_append_drop] at h
  omega

attribute [local go_sem] Oper.semAt_some

/-- The blocks that P names lie as they lay. -/
def KeepP (P : Nat → Prop) (W W' : World) : Prop := W.heap.size ≤ W'.heap.size ∧ ∀ b, P b → b < W.heap.size → W'.heap[b]? = W.heap[b]?
theorem KeepP.refl (P : Nat → Prop) (W : World) : KeepP P W W := ⟨Nat.le_refl _, fun _ _ _ => rfl⟩
theorem KeepP.trans {P : Nat → Prop} {A B C : World} (h : KeepP P A B) (k : KeepP P B C) : KeepP P A C := ⟨Nat.le_trans h.1 k.1, fun b hb hl => (k.2 b hb (Nat.lt_of_lt_of_le hl h.1)).trans (h.2 b hb hl)⟩
theorem KeepP.of_below {P : Nat → Prop} {A B : World} (h : Below A.heap.size A B) : KeepP P A B := ⟨h.size, fun b _ hl => h.block b hl⟩
theorem KeepP.alloc {P : Nat → Prop} (W : World) (o : Obj) : KeepP P W (W.alloc o) := KeepP.of_below ((Below.refl _ _).alloc (Nat.le_refl _) o)
theorem KeepP.cell {P : Nat → Prop} {A B : World} (h : KeepP P A B) {g i : Nat} (hg : P g) (hl : g < A.heap.size) : B.cell? ⟨g, i, none⟩ = A.cell? ⟨g, i, none⟩ := World.cell?_of_block (w := A) (h.2 g hg hl)
theorem Holds.keepP {P : Nat → Prop} {A B : World} {ts : List Ty} {v : Value} (h : Holds A P ts v) (k : KeepP P A B) : Holds B P ts v := h.keep fun b hl hb => ⟨k.2 b hb hl, hb⟩
theorem HoldsT.keepP {P : Nat → Prop} {A B : World} {ts : List Tm} {v : Value} (h : HoldsT A P ts v) (k : KeepP P A B) : HoldsT B P ts v := h.keep fun b hl hb => ⟨k.2 b hb hl, hb⟩

/-- What a round that goes on keeps. -/
def KpT (P : Nat → Prop) (W W' : World) : Prop := KeepP P W W' ∧ ∀ j t vs, (t = 76 ∨ t = 136 ∨ t = 147) → Blk W j t vs → Blk W' j t vs
theorem KpT.refl (P : Nat → Prop) (W : World) : KpT P W W := ⟨KeepP.refl P W, fun _ _ _ _ h => h⟩
theorem KpT.trans {P : Nat → Prop} {A B C : World} (h : KpT P A B) (k : KpT P B C) : KpT P A C := ⟨h.1.trans k.1, fun j t vs ht hb => k.2 j t vs ht (h.2 j t vs ht hb)⟩
theorem KpT.of_below {P : Nat → Prop} {A B : World} (h : Below A.heap.size A B) : KpT P A B := ⟨KeepP.of_below h, fun _ _ _ _ hb => hb.below h hb.lt⟩
theorem KpT.alloc {P : Nat → Prop} (W : World) (o : Obj) : KpT P W (W.alloc o) := KpT.of_below ((Below.refl _ _).alloc (Nat.le_refl _) o)
theorem KpT.put {P : Nat → Prop} {n0 : Nat} (hP : ∀ b, P b → b < n0) (W : World) (l : Nat) (o o' : Obj) (hl : n0 ≤ l) (h : W.heap[l]? = some o) (hc : o.isCells = false) : KpT P W (W.putObj l o') :=
  ⟨⟨by simp, fun b hb _ => World.putObj_heap_other (by have := hP b hb; omega)⟩, fun _ _ _ _ hb => hb.put o' h hc⟩
/-- a store into a block that is new -/
theorem KpT.setNew {P : Nat → Prop} {n0 : Nat} (hP : ∀ b, P b → b < n0) {A W : World} (h : KpT P A W) {b : Nat} (hb : A.heap.size ≤ b) (hn : n0 ≤ b) (i : Nat) (v : Value) : KpT P A (W.setCell ⟨b, i, none⟩ v) :=
  ⟨⟨by simpa [World.setCell] using h.1.1, fun c hc hl => (Below.heap_setCell W ⟨b, i, none⟩ v c (show c ≠ b by have := hP c hc; omega)).trans (h.1.2 c hc hl)⟩, fun j t vs ht hj => (h.2 j t vs ht hj).other (by have := hj.lt; omega) i v⟩
/-- a store into a block that holds none of these -/
theorem KpT.set {P : Nat → Prop} {n0 : Nat} (hP : ∀ b, P b → b < n0) {W : World} {j : Nat} {t : TypeId} {vs : Array Value} (hb : Blk W j t vs) (hn : n0 ≤ j) (h1 : t ≠ 76) (h2 : t ≠ 136) (h3 : t ≠ 147) (i : Nat) (u : Value) : KpT P W (W.setCell ⟨j, i, none⟩ u) :=
  ⟨⟨by simp [World.setCell], fun c hc _ => Below.heap_setCell W ⟨j, i, none⟩ u c (show c ≠ j by have := hP c hc; omega)⟩, fun k t' vs' ht hk => hk.other (fun e => by
    subst e
    have := hb.symm.trans hk
    simp at this
    rcases ht with h | h | h
    · exact h1 (this.2.trans h)
    · exact h2 (this.2.trans h)
    · exact h3 (this.2.trans h)) i u⟩
theorem KpT.blk {P : Nat → Prop} {W W' : World} (h : KpT P W W') {j : Nat} {vs : Array Value} (hb : Blk W j 76 vs) : Blk W' j 76 vs := h.2 j 76 vs (.inl rfl) hb
theorem KpT.at {P : Nat → Prop} {W W' : World} (h : KpT P W W') {j : Nat} {vs : Array Value} (hb : Blk W j 136 vs) : Blk W' j 136 vs := h.2 j 136 vs (.inr (.inl rfl)) hb

abbrev wv (d b : Nat) : Value := .agg #[.int .i64 (d : Int), .int .i64 (b : Int)]
abbrev encH (x : Hd) : Array Value := #[wv x.deep x.around, .agg #[.int .i64 x.kind, .int .i64 x.idx]]

theorem headsT_take {d b : Nat} {ts : List Tm} {k : Nat} {u : Tm} (h : ts[k]? = some u) : headsT d b (ts.take (k + 1)) = headsT d b (ts.take k) ++ u.heads d b := by
  rw [List.take_add_one, h, headsT_append]; simp [headsT]
theorem headsT_prefix (d b : Nat) (ts : List Tm) (k : Nat) : headsT d b (ts.take k) <+: headsT d b ts := by
  conv => rhs; rw [← List.take_append_drop k ts, headsT_append]
  exact List.prefix_append _ _
theorem headsT_len (d b : Nat) (a : List Tm) : (headsT d b a).length = sizeT a := headsT_length d b a (fun t _ d b => t.heads_length d b)

set_option maxRecDepth 100000 in
set_option maxHeartbeats 2000000 in
theorem walkT_in (w0 : World) (P : Nat → Prop) (n0 n1 l N : Nat) (hP : ∀ b, P b → b < n0) (hn01 : n0 ≤ n1) (G : Hd → Prop) (J Jx : List Hd → World → Prop) (hJ : FreeFromQ n1 J)
    (hY : ∀ m pre x W, n1 ≤ W.heap.size → J pre W → pre.length < N → G x → YieldAt Fence.wide m Try.prog l (encH x) W fun e W' => (e = .returned (.bool true) ∧ J (pre ++ [x]) W' ∧ KpT P W W') ∨ (e = .returned (.bool false) ∧ Jx (pre ++ [x]) W'))
    (t : Tm) : ∀ (n d b : Nat) (sb sl : Value) (pre : List Hd) (W : World), Holds w0 P t.binds sb → HoldsT w0 P t.args sl → t.total ≤ 1000000 → d + t.total ≤ 10000000 → b + t.total ≤ 10000000 → n1 ≤ W.heap.size → KeepP P w0 W → J pre W → pre.length + t.size ≤ N → (∀ p ∈ t.heads d b, G p) →
    CallsIn Fence.wide n Try.prog 100 #[tmv sb t.kind t.idx sl, wv d b, .func (.yield l) #[] #[]] W fun e W' =>
      (e = .returned (.bool true) ∧ J (pre ++ t.heads d b) W' ∧ KpT P W W') ∨ (e = .returned (.bool false) ∧ ∃ q, q <+: t.heads d b ∧ Jx (pre ++ q) W') := by
  induction t using Tm.ind with
  | h t ih =>
  intro n d b sb sl pre W hb hh hsz hdp hbp hn1 hW0 hJ0 hN hG
  have hsz2 := t.size_eq
  have htt := t.total_eq
  have hst := t.size_le_total
  have hlb := sizeL_length t.binds
  have hla := totalT_length t.args
  have hwi := t.heads_eq d b
  obtain ⟨x1, x2, rfl, _⟩ := hb.shape
  obtain ⟨bn, hbn⟩ : ∃ n, t.binds.length = n := ⟨_, rfl⟩
  rw [hbn] at hb hlb hwi ⊢
  obtain ⟨ts, hts⟩ : ∃ ts, t.args = ts := ⟨_, rfl⟩
  rw [hts] at hh ih hsz2 htt hla hwi
  have HWI : Hid _ := hwi
  rw [hwi] at hG
  have HG1 : Hid (G ⟨d, b + bn, t.kind, t.idx⟩) := hG _ (by simp)
  have HG2 : Hid (∀ p ∈ headsT (d + 1) (b + bn) ts, G p) := fun p hp => hG p (by simp [hp])
  clear hwi hG
  obtain ⟨a, cap, rfl, hcap, hat⟩ := hh.shape
  have HA : Hid _ := hat
  clear hat hh hb hbn
  have hln := sizeT_length ts
  obtain ⟨B, hB⟩ : ∃ B, W.heap.size = B := ⟨_, rfl⟩
  have hdd : ∀ k : Nat, (Fence.wide.depth.isSome = true → 1 ≤ k) := fun k h => by cases h
  have hf51 : Fence.wide.fn 100 := trivial
  obtain ⟨W1, hW1⟩ : ∃ W1, ((W.alloc (.cells #[.slice x1 bn x2, .int .i64 t.kind, .int .i64 t.idx, .slice a ts.length cap] 76)).alloc (.cells #[.int .i64 (d : Int), .int .i64 (b : Int)] 136)) = W1 := ⟨_, rfl⟩
  have b0 : Blk W1 B 76 #[.slice x1 bn x2, .int .i64 t.kind, .int .i64 t.idx, .slice a ts.length cap] := by rw [← hW1]; exact (Blk.new' W B 76 _ hB).alloc _
  have b1 : Blk W1 (B + 1) 136 #[.int .i64 (d : Int), .int .i64 (b : Int)] := by rw [← hW1]; exact Blk.new' _ (B + 1) 136 _ (by simp [hB])
  have hJ1 : J pre W1 := by rw [← hW1]; exact hJ.alloc _ (hJ.alloc _ hJ0)
  have k1 : KpT P W W1 := by rw [← hW1]; exact (KpT.alloc W _).trans (KpT.alloc _ _)
  have b2 := b1.set 1 (.int .i64 ((b : Int) + (bn : Int)))
  have a2 := b0.other (B' := B + 1) (by omega) 1 (.int .i64 ((b : Int) + (bn : Int)))
  have hJ2 : J pre (W1.setCell ⟨B + 1, 1, none⟩ (.int .i64 ((b : Int) + (bn : Int)))) := hJ.set b1 (.inr (.inl rfl)) (by omega) _ _ hJ1
  have k2 : KpT P W (W1.setCell ⟨B + 1, 1, none⟩ (.int .i64 ((b : Int) + (bn : Int)))) := k1.setNew hP (by omega) (by omega) 1 _
  have e0 := b0.cell 0
  have e1 := b1.cell 1
  have f1 := b1.frozen 1
  have z1 := b1.cell 0
  generalize hW2 : W1.setCell ⟨B + 1, 1, none⟩ (.int .i64 ((b : Int) + (bn : Int))) = W2 at *
  have hs2 : n1 ≤ W2.heap.size := Nat.le_trans hn1 k2.1.1
  obtain ⟨fn, tmps, assign, body, hy, hR⟩ := hY (n - 1) pre ⟨d, b + bn, t.kind, t.idx⟩ W2 hs2 hJ2 (by omega) HG1.out
  dsimp only [encH, wv] at hy
  rw [show ((b + bn : Nat) : Int) = (b : Int) + (bn : Int) by omega] at hy
  have c0 := b2.cell 0
  have c1 := b2.cell 1
  have g1 := a2.cell 1
  have g2 := a2.cell 2
  have g3 := a2.cell 3
  have y8 : (bn : Int) ≤ 1000000 := by omega
  have y9 : (b : Int) ≤ 10000000 := by omega
  have HW1 : Hid _ := hW1
  have HW2 : Hid _ := hW2
  refine callsIn_of_wp Try.func100 rfl trivial ?_ rfl
  simp only [Try.ntmps100, List.size_toArray, List.length_cons, List.length_nil, Nat.reduceAdd, Nat.reduceSub, Array.replicate_succ, Array.replicate_zero, List.push_toArray, List.append_toArray, List.nil_append, List.cons_append]
  gi_wp2
  refine ⟨hdd _, ?_⟩
  refine hR.mono ?_
  clear hR hy HW1 HW2
  rintro e W3 (⟨rfl, hJ3, k3⟩ | ⟨rfl, hJx3⟩)
  · have b3 := k3.at b2
    have a3 := k3.blk a2
    have kw := k2.trans k3
    have b4 := b3.set 0 (.int .i64 ((d : Int) + 1))
    have a4 := a3.other (B' := B + 1) (by omega) 0 (.int .i64 ((d : Int) + 1))
    have hs3 : n1 ≤ W3.heap.size := Nat.le_trans hn1 kw.1.1
    have hJ4 := hJ.set b3 (.inr (.inl rfl)) (by omega) 0 (.int .i64 ((d : Int) + 1)) hJ3
    have k4 := kw.setNew hP (b := B + 1) (by omega) (by omega) 0 (.int .i64 ((d : Int) + 1))
    have r0 := b3.cell 0
    have s0 := b3.frozen 0
    have r3 := a4.cell 3
    have y7 : (d : Int) ≤ 10000000 := by omega
    clear b0 b1 a2 b2 a3 b3 c0 c1 e0 e1 f1 z1 g1 g2 g3 k1 k2 k3 hJ0 hJ1 hJ2 hJ3 kw hW1 hW2
    generalize hW4 : W3.setCell ⟨B + 1, 0, none⟩ (.int .i64 ((d : Int) + 1)) = W4 at *
    gi_wp2
    gi_loopw [29] (fun i wr => ∃ k : Nat, k ≤ ts.length ∧ i = .int .i64 k ∧ J (pre ++ ⟨d, b + bn, t.kind, t.idx⟩ :: headsT (d + 1) (b + bn) (ts.take k)) wr ∧ KpT P W wr ∧ Blk wr (B + 1) 136 #[.int .i64 ((d : Int) + 1), .int .i64 ((b : Int) + (bn : Int))])
      (fun i _ => ts.length - (intOf i).toNat)
    case atStart => exact ⟨0, Nat.zero_le _, rfl, by simpa [headsT] using hJ4, k4, b4⟩
    case round =>
      clear hJ4 k4 b4 a4 r0 s0 r3 hW4 hs3
      obtain ⟨k, hk, rfl, hJk, kw, bk⟩ := hrel
      by_cases hlt : k < ts.length
      · obtain ⟨u, hu⟩ : ∃ u, ts[k]? = some u := ⟨_, List.getElem?_eq_getElem hlt⟩
        obtain ⟨g, o, s, r, rfl, hg, hgl, q0, q1, q2, q3, hs, hr⟩ := HA.out k u hu
        have hwr : KeepP P w0 wr := hW0.trans kw.1
        have a0 := (hwr.cell hg hgl).trans q0
        have a1 := (hwr.cell hg hgl).trans q1
        have a2 := (hwr.cell hg hgl).trans q2
        have a3 := (hwr.cell hg hgl).trans q3
        have hm := List.mem_of_getElem? hu
        have hus := total_mem hm
        have huz := tsize_mem hm
        have y1 : (0 : Int) ≤ (k : Int) := by omega
        have y2 : (k : Int) < (ts.length : Int) := by omega
        have hle : sizeT (ts.take k) + u.size ≤ sizeT ts := by rw [← sizeT_take' hu]; exact sizeT_take_le' ts (k + 1)
        have hlk : (pre ++ (⟨d, b + bn, t.kind, t.idx⟩ :: headsT (d + 1) (b + bn) (ts.take k))).length = pre.length + 1 + sizeT (ts.take k) := by rw [List.length_append, List.length_cons, headsT_len]; omega
        have HK2 : Hid (pre ++ (⟨d, b + bn, t.kind, t.idx⟩ :: headsT (d + 1) (b + bn) (ts.take k)) ++ u.heads (d + 1) (b + bn) = pre ++ ⟨d, b + bn, t.kind, t.idx⟩ :: headsT (d + 1) (b + bn) (ts.take (k + 1))) := by show _ = _; rw [headsT_take hu]; simp
        have HPX : Hid (⟨d, b + bn, t.kind, t.idx⟩ :: headsT (d + 1) (b + bn) (ts.take k) ++ u.heads (d + 1) (b + bn) <+: t.heads d b) := by
          show _ <+: _
          rw [HWI.out, List.cons_append, ← headsT_take hu]
          exact List.prefix_cons_inj _ |>.2 (headsT_prefix _ _ _ _)
        have hn3 : n1 ≤ wr.heap.size := Nat.le_trans hn1 kw.1.1
        obtain ⟨sa, sc, rfl, _⟩ := hs.shape
        obtain ⟨ra, rc, rfl, _⟩ := hr.shape
        have hcall := ih u hm (n - 1) (d + 1) (b + bn) (.slice sa u.binds.length sc) (.slice ra u.args.length rc) (pre ++ (⟨d, b + bn, t.kind, t.idx⟩ :: headsT (d + 1) (b + bn) (ts.take k))) (wr.alloc (.cells #[.slice sa u.binds.length sc, .int .i64 u.kind, .int .i64 u.idx, .slice ra u.args.length rc] 76)) hs hr (by omega) (by omega) (by omega) (by simp; omega) (hwr.trans (KeepP.alloc _ _)) (hJ.alloc _ hJk) (by rw [hlk]; omega) (fun p hp => HG2.out p ((headsT_prefix (d + 1) (b + bn) ts (k + 1)).subset (by rw [headsT_take hu]; exact List.mem_append.2 (.inr hp))))
        dsimp only [wv] at hcall
        rw [show ((d + 1 : Nat) : Int) = (d : Int) + 1 by omega, show ((b + bn : Nat) : Int) = (b : Int) + (bn : Int) by omega] at hcall
        have k3 : KpT P W (wr.alloc (.cells #[.slice sa u.binds.length sc, .int .i64 u.kind, .int .i64 u.idx, .slice ra u.args.length rc] 76)) := kw.trans (KpT.alloc _ _)
        have bk2 := bk.alloc (.cells #[.slice sa u.binds.length sc, .int .i64 u.kind, .int .i64 u.idx, .slice ra u.args.length rc] 76)
        have m0 := bk2.cell 0
        have m1 := bk2.cell 1
        clear q0 q1 q2 q3 hu ih hs hr hlk
        generalize u.binds.length = un at *
        generalize u.args.length = ul at *
        gi_wp2_with ((try refine ⟨hdd _, ?_⟩); gi_at_call 100; refine hcall.mono ?_; clear hcall; rintro e W5 (⟨rfl, hJ5, k5⟩ | ⟨rfl, q, hq, hJx5⟩))
        · go_roundw
          case rel => exact ⟨k + 1, by omega, by go_num, by rw [← HK2.out]; exact hJ5, k3.trans k5, k5.at bk2⟩
          case measure => simp [intOf]; omega
        · go_ret
          refine .inr ⟨rfl, ⟨d, b + bn, t.kind, t.idx⟩ :: headsT (d + 1) (b + bn) (ts.take k) ++ q, ?_, by rw [← List.append_assoc]; exact hJx5⟩
          exact List.IsPrefix.trans ((List.prefix_append_right_inj _).2 hq) HPX.out
      · obtain rfl : k = ts.length := by omega
        gi_wp2
        go_ret
        exact .inl ⟨rfl, by rw [HWI.out]; rw [List.take_length] at hJk; exact hJk, kw⟩
  · gi_wp2
    go_ret
    refine .inr ⟨rfl, _, ?_, hJx3⟩
    rw [HWI.out]
    exact List.prefix_cons_inj _ |>.2 List.nil_prefix

set_option maxRecDepth 100000 in
set_option maxHeartbeats 2000000 in
theorem heads_stops (w0 : World) (P : Nat → Prop) (n0 n Bt : Nat) (hP : ∀ b, P b → b < n0) (t : Tm) (sb sl : Value) (w : World) (hBt : Blk w Bt 76 #[sb, .int .i64 t.kind, .int .i64 t.idx, sl]) (hb : Holds w0 P t.binds sb) (hh : HoldsT w0 P t.args sl) (hsz : t.total ≤ 900000) (hn0 : n0 ≤ w.heap.size) (hk : KeepP P w0 w) :
    SeqStopsFQ Fence.wide n Try.prog 99 #[.pointer (some ⟨Bt, 0, none⟩)] encH (fun p => p ∈ t.heads 1 0) (KpT P) (fun ys => ys = t.heads 1 0) (fun pre => pre <+: t.heads 1 0) t.size w := fun l J Jx W hW hJ _ hY h0 => by
  have b0 := hBt.below hW hBt.lt
  have hp := walkT_in w0 P n0 W.heap.size l t.size hP (Nat.le_trans hn0 hW.size) (fun p => p ∈ t.heads 1 0) J Jx hJ (fun m pre x W1 h1 h2 h3 h4 => hY m pre x W1 h1 h2 h3 h4) t (n - 1) 1 0 sb sl [] W hb hh (by omega) (by omega) (by omega) (Nat.le_refl _) (hk.trans (KeepP.of_below hW)) h0 (by simp) (fun p hp => hp)
  obtain ⟨x1, x2, rfl, _⟩ := hb.shape
  obtain ⟨x3, x4, rfl, _⟩ := hh.shape
  dsimp only [wv] at hp
  rw [show ((1 : Nat) : Int) = 1 from rfl, show ((0 : Nat) : Int) = 0 from rfl] at hp
  have c0 := b0.cell 0
  have c1 := b0.cell 1
  have c2 := b0.cell 2
  have c3 := b0.cell 3
  have hdd : ∀ k : Nat, (Fence.wide.depth.isSome = true → 1 ≤ k) := fun k h => by cases h
  have hf51 : Fence.wide.fn 100 := trivial
  refine callsIn_of_wp Try.func99 rfl trivial ?_ rfl
  simp only [Try.ntmps99, List.size_toArray, List.length_cons, List.length_nil, Nat.reduceAdd, Nat.reduceSub, Array.replicate_succ, Array.replicate_zero, List.push_toArray, List.append_toArray, List.nil_append, List.cons_append]
  gi_wp2_with ((try refine ⟨hdd _, ?_⟩); gi_at_call 100; refine hp.mono ?_; clear hp; rintro e W1 (⟨rfl, hJ1, _⟩ | ⟨rfl, q, hq, hx⟩))
  · go_end0
    exact ⟨⟨_, rfl⟩, .inl ⟨_, rfl, by simpa using hJ1⟩⟩
  · go_end0
    exact ⟨⟨_, rfl⟩, .inr ⟨q, hq, by simpa using hx⟩⟩

theorem heads_in (n : Nat) (s r : Value) (k i : Int) (w : World) :
    CallsIn Fence.wide n Try.prog 86 #[tmv s k i r] w fun e w' => e = .returned (.func (.func 99) #[] #[.pointer (some ⟨w.heap.size, 0, none⟩)]) ∧ w' = w.alloc (.cells #[s, .int .i64 k, .int .i64 i, r] 76) := by
  refine callsIn_of_wp Try.func86 rfl trivial ?_ rfl
  simp only [Try.ntmps86, List.size_toArray, List.length_cons, List.length_nil, Nat.reduceAdd, Nat.reduceSub, Array.replicate_succ, Array.replicate_zero, List.push_toArray, List.append_toArray, List.nil_append, List.cons_append]
  gi_wp2
  go_ret
  exact ⟨rfl, rfl⟩

end Go.Proofs.Ytckagmagjogmnaa

namespace Go.Proofs.Ytckagmagjogmnaa
open Go Go.RowKit Go.Shelf

attribute [local go_sem] Oper.semAt_some

theorem blk_free {β : Type} {B j : Nat} {t : TypeId} {f : β → Array Value} (hj : j < B) : FreeFromQ B (fun s W => Blk W j t (f s)) := fun _ _ _ _ hs hg hr => hs.kept hg (fun e => by have := (hr j e.symm).1; omega)
theorem false_free {β : Type} {B : Nat} : FreeFromQ B (fun (_ : β) (_ : World) => False) := fun _ _ _ _ hs _ _ => hs

def ISize (w : World) (N : Nat) (l : List Hd) (W : World) : Prop := Blk W (N + 1) 3 #[.int .i64 (l.length : Int)] ∧ Below N w W

/-- The greatest depth that has come. -/
def hmax : List Hd → Nat
  | [] => 0
  | p :: r => max p.deep (hmax r)
theorem hmax_append (a b : List Hd) : hmax (a ++ b) = max (hmax a) (hmax b) := by
  induction a with
  | nil => simp [hmax]
  | cons p a ih => simp only [List.cons_append, hmax, ih]; omega
theorem hmax_headsT (l : List Tm) (h : ∀ t ∈ l, ∀ d b, 1 ≤ d → hmax (t.heads d b) + 1 = d + t.depth) (d b : Nat) (hd : 1 ≤ d) : max (d - 1) (hmax (headsT d b l)) = d - 1 + depthT l := by
  induction l with
  | nil => simp [headsT, hmax, depthT]
  | cons t r ih =>
    have h1 := h t (by simp) d b hd
    have h2 := ih (fun u hu => h u (by simp [hu]))
    have h3 := t.depth_pos
    simp only [headsT, depthT, hmax_append]
    omega
theorem hmax_heads (t : Tm) : ∀ d b, 1 ≤ d → hmax (t.heads d b) + 1 = d + t.depth := by
  induction t using Tm.ind with
  | h t ih =>
    intro d b hd
    have := hmax_headsT t.args ih (d + 1) (b + t.binds.length) (by omega)
    rw [t.heads_eq, t.depth_eq]
    simp only [hmax]
    omega
theorem hmax_le {l : List Hd} {p : Hd} (h : p ∈ l) : p.deep ≤ hmax l := by
  induction l with
  | nil => cases h
  | cons q l ih =>
    rcases List.mem_cons.1 h with rfl | h
    · simp [hmax]; omega
    · have := ih h; simp [hmax]; omega
theorem hmax_max (l : List Hd) (k : Nat) (h : ∀ p ∈ l, p.deep ≤ k) : hmax l ≤ k := by
  induction l with
  | nil => simp [hmax]
  | cons q l ih =>
    have := h q (by simp)
    have := ih (fun p hp => h p (by simp [hp]))
    simp [hmax]; omega

end Go.Proofs.Ytckagmagjogmnaa

namespace Go.Proofs.Ytckagmagjogmnaa
open Go Go.RowKit Go.Shelf

attribute [local go_sem] Oper.semAt_some

theorem const_free {β : Type} {B : Nat} {p : β → Prop} : FreeFromQ B (fun (s : β) (_ : World) => p s) := fun _ _ _ _ hs _ _ => hs

/-- Is a term neither too great nor too deep? -/
def rightTB (t : Tm) : Bool := decide (t.size ≤ 5000) && decide (t.depth ≤ 60)
def GoodT (l : List Hd) : Prop := l.length ≤ 5000 ∧ ∀ p ∈ l, p.deep ≤ 60
theorem GoodT.nil : GoodT [] := ⟨by simp, fun p hp => by cases hp⟩
theorem GoodT.snoc {l : List Hd} {p : Hd} (h : GoodT l) (h0 : l.length + 1 ≤ 5000) (h1 : p.deep ≤ 60) : GoodT (l ++ [p]) :=
  ⟨by simpa using h0, fun q hq => by
    rcases List.mem_append.1 hq with hq | hq
    · exact h.2 q hq
    · rw [List.mem_singleton.1 hq]; exact h1⟩
theorem GoodT.prefix {l m : List Hd} (h : GoodT m) (hp : l <+: m) : GoodT l := ⟨Nat.le_trans hp.length_le h.1, fun p hm => h.2 p (hp.subset hm)⟩
theorem rightT_iff (t : Tm) : rightTB t = true ↔ GoodT (t.heads 1 0) := by
  have hd := hmax_heads t 1 0 (by omega)
  unfold rightTB GoodT
  rw [Bool.and_eq_true, decide_eq_true_iff, decide_eq_true_iff, t.heads_length]
  constructor
  · rintro ⟨h1, h2⟩
    exact ⟨h1, fun p hp => by have := hmax_le hp; omega⟩
  · rintro ⟨h1, h2⟩
    refine ⟨h1, ?_⟩
    have := hmax_max _ 60 h2
    omega
theorem rightT_not {t : Tm} {l : List Hd} (h : ¬ GoodT l) (hp : l <+: t.heads 1 0) : rightTB t = false := by
  cases hr : rightTB t with
  | false => rfl
  | true => exact absurd (((rightT_iff t).1 hr).prefix hp) h

def IRightT (w : World) (N : Nat) (l : List Hd) (W : World) : Prop := (Blk W (N + 1) 4 #[.bool false] ∧ Blk W (N + 1 + 1) 3 #[.int .i64 (l.length : Int)] ∧ GoodT l) ∧ Below N w W
def XRightT (w : World) (N : Nat) (c : Code) (l : List Hd) (W : World) : Prop := (c = .ret ∧ Blk W (N + 1) 4 #[.bool false] ∧ ¬ GoodT l) ∧ Below N w W

set_option maxRecDepth 100000 in
set_option maxHeartbeats 2000000 in
theorem RightH_calls (t : Tm) (ok : Nat → Prop) (sb sl : Value) (w : World) (hb : Holds w ok t.binds sb) (hh : HoldsT w ok t.args sl) (hsz : t.total ≤ 900000) :
    Calls Try.prog 61 #[tmv sb t.kind t.idx sl] w fun e w' => e = .returned (.bool (rightTB t)) ∧ Below w.heap.size w w' := by
  refine (callsIn_wide (n := 9)).1 ?_
  have hf56 : Fence.wide.fn 86 := trivial
  obtain ⟨N, hN⟩ : ∃ N, w.heap.size = N := ⟨_, rfl⟩
  have hst := t.size_le_total
  have hb0 : Holds w (fun b => b < N) t.binds sb := hb.mono fun b h _ => by omega
  have hh0 : HoldsT w (fun b => b < N) t.args sl := hh.mono fun b h _ => by omega
  obtain ⟨x1, x2, hsb, _⟩ := hb.shape
  obtain ⟨x3, x4, hsl, _⟩ := hh.shape
  generalize t.binds.length = bn at hsb
  generalize t.args.length = an at hsl
  subst hsb
  subst hsl
  refine callsIn_of_wp_marks Try.func61 rfl trivial ?_ rfl
  simp only [Try.ntmps61, List.size_toArray, List.length_cons, List.length_nil, Nat.reduceAdd, Nat.reduceSub, Array.replicate_succ, Array.replicate_zero, List.push_toArray, List.append_toArray, List.nil_append, List.cons_append]
  gi_wp2_with (gi_at_call 86; refine (heads_in _ _ _ _ _ _).mono ?_; rintro e w' ⟨rfl, rfl⟩)
  obtain ⟨W0, hW0⟩ : ∃ W0, (((w.alloc (.cells #[.slice x1 bn x2, .int .i64 t.kind, .int .i64 t.idx, .slice x3 an x4] 76)).alloc (.cells #[.bool false] 4)).alloc (.cells #[.int .i64 0] 3)).alloc (.cells #[.slice x1 bn x2, .int .i64 t.kind, .int .i64 t.idx, .slice x3 an x4] 76) = W0 := ⟨_, rfl⟩
  have b0 : Blk W0 (N) 76 #[.slice x1 bn x2, .int .i64 t.kind, .int .i64 t.idx, .slice x3 an x4] := by rw [← hW0]; exact (((Blk.new' _ (N) 76 _ (by simp [hN])).alloc _).alloc _).alloc _
  have b1 : Blk W0 (N + 1) 4 #[.bool false] := by rw [← hW0]; exact ((Blk.new' _ (N + 1) 4 _ (by simp [hN])).alloc _).alloc _
  have b2 : Blk W0 (N + 1 + 1) 3 #[.int .i64 0] := by rw [← hW0]; exact (Blk.new' _ (N + 1 + 1) 3 _ (by simp [hN])).alloc _
  have b3 : Blk W0 (N + 1 + 1 + 1) 76 #[.slice x1 bn x2, .int .i64 t.kind, .int .i64 t.idx, .slice x3 an x4] := by rw [← hW0]; exact Blk.new' _ (N + 1 + 1 + 1) 76 _ (by simp [hN])
  have hsz0 : W0.heap.size = N + 4 := by rw [← hW0]; simp [hN]
  have hbl : Below N w W0 := by rw [← hW0]; exact ((((Below.refl N w).alloc (by omega) _).alloc (by simp; omega) _).alloc (by simp; omega) _).alloc (by simp; omega) _
  rw [hW0]
  have HN : Hid (w.heap.size = N) := hN
  clear hW0 hN
  refine range_freeQ rfl (by omega) (gf := 99) (lb := #[.pointer (some ⟨N + 1 + 1 + 1, 0, none⟩)]) rfl trivial (enters_of Try.func99 (by kernel_rfl) rfl)
    (heads_stops w (fun b => b < N) N (9 - 1) (N + 1 + 1 + 1) (fun _ h => h) t _ _ W0 b3 hb0 hh0 hsz (by omega) (KeepP.of_below (by rw [HN.out]; exact hbl))) (Below.refl _ _) KpT.trans (fun W l o o' hl => KpT.put (n0 := N) (fun _ h => h) W l o o' (by omega)) (fun _ => rfl)
    (IRightT w N) (XRightT w N) (FreeFromQ.and (FreeFromQ.and (blk_free (by omega)) (FreeFromQ.and (blk_free (by omega)) const_free)) (freeFrom_belowQ (by rw [HN.out]; exact Nat.le_refl _) (by omega))) (fun c => FreeFromQ.and (FreeFromQ.and const_free (FreeFromQ.and (blk_free (by omega)) const_free)) (freeFrom_belowQ (by rw [HN.out]; exact Nat.le_refl _) (by omega))) ⟨⟨b1, b2, GoodT.nil⟩, hbl⟩ ?round ?done ?stop
  case round =>
    rintro l m pre x W K hW hl ⟨⟨c1, c2, hg⟩, hb9⟩ hlen hGx hK
    have HN9 := HN.out
    clear hGx
    obtain ⟨X, hX⟩ : ∃ X, W.heap.size = X := ⟨_, rfl⟩
    obtain ⟨Wa, hWa⟩ : ∃ Wa, W.alloc (.cells #[.int .i64 (x.deep : Int), .int .i64 (x.around : Int)] 136) = Wa := ⟨_, rfl⟩
    have d0 : Blk Wa (X) 136 #[.int .i64 (x.deep : Int), .int .i64 (x.around : Int)] := by rw [← hWa]; exact Blk.new' _ (X) 136 _ (by simp [hX])
    have ka : KpT (fun b => b < N) W Wa := by rw [← hWa]; exact KpT.alloc W _
    have kf : KeepsFrom W0.heap.size W Wa := by rw [← hWa]; exact (KeepsOthers.alloc W _).from _
    have hba : Below W.heap.size W Wa := by rw [← hWa]; exact (Below.refl _ W).alloc (Nat.le_refl _) _
    have c1 := c1.below hba c1.lt
    have c2 := c2.below hba c2.lt
    have hb9 := hb9.trans (hba.mono (by omega))
    have HWa : Hid _ := hWa
    clear hWa hba
    gi_wp2
    rw [HWa.out]
    clear HWa
    refine hK _ _ kf (fun o o' ho hc _ => ?_)
    have k1 : KpT (fun b => b < N) W (Wa.putObj l o') := ka.trans (KpT.put (n0 := N) (fun _ h => h) Wa l o o' (by omega) ho hc)
    have c1 := c1.put o' ho hc
    have c2 := c2.put o' ho hc
    have d0 := d0.put o' ho hc
    have hb9 : Below N w (Wa.putObj l o') := (freeFrom_belowQ (β := Unit) (w0 := w) (n0 := N) (B := N) (by omega) (Nat.le_refl _)).put (s := ()) (by omega) ho hc o' hb9
    clear hK ho hc ka kf
    generalize Wa.putObj l o' = W2 at *
    obtain ⟨pn, hpn⟩ : ∃ n, pre.length = n := ⟨_, rfl⟩
    rw [hpn] at c2
    have HL : Hid ((pre ++ [x]).length = pn + 1) := by show _ = _; simp [hpn]
    have q1 := c1.cell 0
    have f1 := c1.frozen 0
    have q2 := c2.cell 0
    have f2 := c2.frozen 0
    have qd := d0.cell 0
    have qd1 := d0.cell 1
    have hpl : pn < 900000 := by omega
    have HG : Hid (pn + 1 ≤ 5000 → x.deep ≤ 60 → GoodT (pre ++ [x])) := fun g1 g2 => hg.snoc (by omega) g2
    have HB : Hid (5000 < pn + 1 ∨ 60 < x.deep → ¬ GoodT (pre ++ [x])) := fun g1 g2 => by
      have a1 := g2.1
      have a2 := g2.2 x (by simp)
      rw [HL.out] at a1
      omega
    have s2 := c2.set 0 (.int .i64 ((pn : Int) + 1))
    have s1 := c1.other (B' := N + 1 + 1) (by omega) 0 (.int .i64 ((pn : Int) + 1))
    have sd := d0.other (B' := N + 1 + 1) (by have := hb9.size; have := c2.lt; omega) 0 (.int .i64 ((pn : Int) + 1))
    have k2 := k1.trans (KpT.set (n0 := N) (fun _ h => h) c2 (by omega) (by decide) (by decide) (by decide) 0 (.int .i64 ((pn : Int) + 1)))
    have sb : Below N w (W2.setCell ⟨N + 1 + 1, 0, none⟩ (.int .i64 ((pn : Int) + 1))) := bset hb9 (by omega) _
    have sk := (KeepsOthers.setCell W2 ⟨N + 1 + 1, 0, none⟩ (.int .i64 ((pn : Int) + 1)))
    have bad : Hid (5000 < pn + 1 ∨ 60 < x.deep → endsFQ W0.heap.size (KpT fun b => b < N) (IRightT w N) (XRightT w N) (pre ++ [x]) W W2 .ret { tmps := #[], defers := [] } ((W2.setCell ⟨N + 1 + 1, 0, none⟩ (.int .i64 ((pn : Int) + 1))).setCell ⟨N + 1, 0, none⟩ (.bool false))) := fun g =>
      ⟨(sk.trans (KeepsOthers.setCell _ _ _)).from _, ⟨rfl, s1.set 0 _, HB.out g⟩, bset sb (by omega) _⟩
    have good : Hid (pn + 1 ≤ 5000 → x.deep ≤ 60 → endsFQ W0.heap.size (KpT fun b => b < N) (IRightT w N) (XRightT w N) (pre ++ [x]) W W2 .normal { tmps := #[], defers := [] } (W2.setCell ⟨N + 1 + 1, 0, none⟩ (.int .i64 ((pn : Int) + 1)))) := fun g1 g2 =>
      ⟨sk.from _, k2, ⟨s1, by rw [HL.out]; exact s2, HG.out g1 g2⟩, sb⟩
    clear s2 s1 sd k1 k2 sb sk HG HB HL c1 c2 d0 hg hpn
    by_cases g1 : 5000 < pn + 1
    · have z1 : decide ((5000 : Int) < (pn : Int) + 1) = true := by simp; omega
      gi_wp2
      exact bad.out (.inl g1)
    · have z1 : decide ((5000 : Int) < (pn : Int) + 1) = false := by simp; omega
      by_cases g2 : 60 < x.deep
      · have z2 : decide ((60 : Int) < (x.deep : Int)) = true := by simp; omega
        gi_wp2
        exact bad.out (.inr g2)
      · have z2 : decide ((60 : Int) < (x.deep : Int)) = false := by simp; omega
        gi_wp2
        exact good.out (by omega) (by omega)
  case done =>
    rintro D ys W hD rfl ⟨⟨c1, c2, hg⟩, hb9⟩ hK
    have HN9 := HN.out
    have hr := (rightT_iff t).2 hg
    have q1 := c1.cell 0
    have f1 := c1.frozen 0
    gi_wp2
    have s1 := c1.set 0 (.bool true)
    have sb : Below N w (W.setCell ⟨N + 1, 0, none⟩ (.bool true)) := bset hb9 (by omega) _
    have hK' := (KeepsOthers.setCell W ⟨N + 1, 0, none⟩ (.bool true)).same D _ hK rfl
    generalize W.setCell ⟨N + 1, 0, none⟩ (.bool true) = W3 at *
    refine ⟨by simp, .inl ⟨_, _, rfl, run_takeDeferred hK', ?_⟩⟩
    have e1 : (W3.putObj D (.deferred none)).cell? ⟨N + 1, 0, none⟩ = some (.bool true) := (s1.put (.deferred none) hK' rfl).cell 0
    refine ⟨.bool true, by simp [results, Try.f61, go_sem, e1], by rw [hr], ?_⟩
    rw [HN.out]
    exact sb.trans (belowK_b (w := W0) (by omega) W3 D _ _ hD hK' rfl rfl)
  case stop =>
    rintro D c pre W hD hpre ⟨⟨rfl, c1, hg⟩, hb9⟩ hK
    have HN9 := HN.out
    have hr := rightT_not hg hpre
    have q1 := c1.cell 0
    gi_wp2
    refine ⟨by simp, .inl ⟨_, _, rfl, run_takeDeferred hK, ?_⟩⟩
    have e1 : (W.putObj D (.deferred none)).cell? ⟨N + 1, 0, none⟩ = some (.bool false) := (c1.put (.deferred none) hK rfl).cell 0
    refine ⟨.bool false, by simp [results, Try.f61, go_sem, e1], by rw [hr], ?_⟩
    rw [HN.out]
    exact hb9.trans (belowK_b (w := W0) (by omega) W D _ _ hD hK rfl rfl)

end Go.Proofs.Ytckagmagjogmnaa

