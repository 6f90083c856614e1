/-
  A range over a function whose iterator makes blocks of its own and turns them: what the rounds keep is asked of all but those.
-/
import Derived.Test.YtheokboggjnenaaLoops
import Derived.Test.YtheokboggjnenaaBlk
namespace Go.Proofs.Ytheokboggjnenaa
open Go Go.RowKit

/-- What may be turned from B on: a block of the iterator's own, or what is no cells. -/
def Turned (B : Nat) (W : World) (row : Option Nat) : Prop := ∀ r, row = some r → B ≤ r ∧ ∀ t vs, Blk W r t vs → t = 34 ∨ t = 99 ∨ t = 137
/-- What abides where blocks from B on are made, or the iterator's own are turned. -/
def FreeFrom {β : Type} (B : Nat) (I : β → World → Prop) : Prop := ∀ s W W' row, I s W → W.grownBy W' row → Turned B W row → I s W'
theorem FreeFrom.alloc {β : Type} {B : Nat} {I : β → World → Prop} (h : FreeFrom B I) {s : β} {W : World} (o : Obj) (hs : I s W) : I s (W.alloc o) := h s W _ none hs (World.grownBy_alloc W o none) (fun r e => by cases e)
theorem FreeFrom.set {β : Type} {B : Nat} {I : β → World → Prop} (h : FreeFrom B I) {s : β} {W : World} {b : Nat} {t : TypeId} {vs : Array Value} (hk : Blk W b t vs) (ht : t = 34 ∨ t = 99 ∨ t = 137) (hb : B ≤ b) (i : Nat) (v : Value) (hs : I s W) : I s (W.setCell ⟨b, i, none⟩ v) := h s W _ (some b) hs (grownBy_setCell_at W b i v) (fun r e => by
  cases e
  refine ⟨hb, fun t' vs' h' => ?_⟩
  have h2 := (show W.heap[b]? = _ from hk).symm.trans h'
  simp at h2
  rw [← h2.2]
  exact ht)
theorem FreeFrom.put {β : Type} {B : Nat} {I : β → World → Prop} (h : FreeFrom B I) {s : β} {W : World} {b : Nat} {o0 : Obj} (hb : B ≤ b) (ho : W.heap[b]? = some o0) (hc : o0.isCells = false) (o : Obj) (hs : I s W) : I s (W.putObj b o) := h s W _ (some b) hs (grownBy_putObj' W b o) (fun r e => by
  cases e
  refine ⟨hb, fun t' vs' h' => ?_⟩
  rw [show W.heap[b]? = _ from h'] at ho
  cases ho
  cases hc)
theorem FreeFrom.and {β : Type} {B : Nat} {I J : β → World → Prop} (h : FreeFrom B I) (k : FreeFrom B J) : FreeFrom B (fun s W => I s W ∧ J s W) := fun s W W' row hs hg hr => ⟨h s W W' row hs.1 hg hr, k s W W' row hs.2 hg hr⟩
theorem FreeFrom.mono {β : Type} {B B' : Nat} {I : β → World → Prop} (h : FreeFrom B I) (hB : B ≤ B') : FreeFrom B' I := fun s W W' row hs hg hr => h s W W' row hs hg (fun r e => ⟨Nat.le_trans hB (hr r e).1, (hr r e).2⟩)
theorem freeFrom_below {β : Type} {n0 B : Nat} {w0 : World} (hn : n0 ≤ w0.heap.size) (hB : n0 ≤ B) : FreeFrom B (fun (_ : β) W => Below n0 w0 W) :=
  fun _ _ _ _ hs hg hr => hs.grown hg (Nat.le_trans hn hs.size) (fun k e => Nat.le_trans hB (hr k e).1)

/-- AN ITERATOR THAT GIVES JUST THESE, OR IS LEFT AHEAD. -/
def SeqStopsF {α : Type} (F : Fence) (n : Nat) (P : Program) (g : Nat) (lb : Array Value) (encs : α → Array Value) (G : α → Prop) (Kp : World → World → Prop) (S Sp : List α → Prop) (N : Nat) (w : World) : Prop :=
  ∀ (l : Nat) (J Jx : List α → World → Prop) (W : World), Below w.heap.size w W → FreeFrom W.heap.size J → FreeFrom W.heap.size Jx →
    (∀ m pre x W1, W.heap.size ≤ W1.heap.size → J pre W1 → pre.length < N → G x → YieldAt F m P l (encs x) W1 fun e W' =>
      (e = .returned (.bool true) ∧ J (pre ++ [x]) W' ∧ Kp W1 W') ∨ (e = .returned (.bool false) ∧ Jx (pre ++ [x]) W')) →
    J [] W →
    CallsIn F n P g (#[.func (.yield l) #[] #[]] ++ lb) W fun e W' => (∃ v, e = .returned v) ∧ ((∃ xs, S xs ∧ J xs W') ∨ (∃ pre, Sp pre ∧ Jx pre W'))

/-- How a round's body may be left. -/
def endsF {α : Type} (B : Nat) (Kp : World → World → Prop) (I : List α → World → Prop) (Ix : Code → List α → World → Prop) (xs : List α) (W0 W : World) : Exit → Act → World → Prop
  | .normal, _, W' => KeepsFrom B W W' ∧ Kp W0 W' ∧ I xs W'
  | .ret, _, W' => KeepsFrom B W W' ∧ Ix .ret xs W'
  | .exit id, _, W' => KeepsFrom B W W' ∧ Ix (.exit id) xs W'
  | _, _, _ => False

theorem room_none {F : Fence} (hd : F.depth = none) (k : Nat) : F.room k := fun d h => by rw [hd] at h; cases h
theorem round_any {F : Fence} (hd : F.depth = none) {m m' : Nat} {P : Program} {l : Nat} {f : FuncId} {tmps : Array Value} {assign body : Code} {w : World} {R : Ending → World → Prop}
    (h : RoundIn F m P l f tmps assign body w R) : RoundIn F m' P l f tmps assign body w R := ⟨h.1, fun c cs _ => h.2 c cs (room_none hd _)⟩
theorem yield_any {F : Fence} (hd : F.depth = none) {m : Nat} (m' : Nat) {P : Program} {l : Nat} {args : Array Value} {W : World} {R : Ending → World → Prop} (h : YieldAt F m P l args W R) : YieldAt F m' P l args W R := by
  obtain ⟨fn, tmps, assign, body, hy, hR⟩ := h
  exact ⟨fn, tmps, assign, body, hy, round_any hd hR⟩

/-- THE STATEMENT. -/
theorem range_free {α : Type} {F : Fence} {n : Nat} {P : Program} {g : Operand} {ps : Array Tmp} {assign body : Code} {Q : Exit → Act → World → Prop} {a : Act} {w : World}
    (hro : F.round = none) (h1 : 1 ≤ n) {gf : Nat} {lb : Array Value} (hg : a.eval g = .func (.func gf) #[] lb) (hFg : F.fn gf) (eg : ∀ args w, (callFunc gf args).run P w = .ok (.enter gf args) w)
    {encs : α → Array Value} {G : α → Prop} {Kp : World → World → Prop} {S Sp : List α → Prop} {N : Nat} {w0 : World} (hseq : SeqStopsF F (n - 1) P gf lb encs G Kp S Sp N w0) (hb0 : Below w0.heap.size w0 w)
    (hKt : ∀ {A B C : World}, Kp A B → Kp B C → Kp A C) (hKb : ∀ (W : World) (l : Nat) (o o' : Obj), w.heap.size ≤ l → W.heap[l]? = some o → o.isCells = false → Kp W (W.putObj l o')) (hps : ∀ x, (encs x).size = ps.size)
    (I : List α → World → Prop) (Ix : Code → List α → World → Prop) (hI : FreeFrom w.heap.size I) (hIx : ∀ c, FreeFrom w.heap.size (Ix c)) (h0 : I [] w)
    (hround : ∀ (l m : Nat) (pre : List α) (x : α) (W : World) (K : Act → World → Prop), w.heap.size ≤ W.heap.size → w.heap.size ≤ l → I pre W → pre.length < N → G x →
      (∀ a' W', KeepsFrom w.heap.size W W' → (∀ (o o' : Obj), W'.heap[l]? = some o → o.isCells = false → o'.isCells = false → body.wpIn (F.inRound l) m P (endsF w.heap.size Kp I Ix (pre ++ [x]) W (W'.putObj l o')) a' (W'.putObj l o')) → K a' W') →
      assign.wpIn (F.inRound l) m P (Exit.then K (fun _ _ _ => False)) { tmps := (ps.zip (encs x)).foldl (fun t (p, v) => t.setIfInBounds p v) a.tmps, defers := [] } W)
    (hdone : ∀ (D : Nat) (xs : List α) (W : World), w.heap.size ≤ D → S xs → I xs W → W.heap[D]? = some (.deferred (some [])) → Q .normal { a with defers := { target := .collected D, args := #[] } :: a.defers } W)
    (hstop : ∀ (D : Nat) (c : Code) (pre : List α) (W : World), w.heap.size ≤ D → Sp pre → Ix c pre W → W.heap[D]? = some (.deferred (some [])) → c.wpIn F n P Q { a with defers := { target := .collected D, args := #[] } :: a.defers } W) :
    (Code.rangeFunc g ps assign body).wpIn F n P Q a w := by
  refine range_enter hro h1 hg hFg eg ?_
  intro fn L hfn hL
  obtain ⟨W1, hW1⟩ : ∃ W1, (w.alloc (.deferred (some []))).alloc (.loop (L .ready none)) = W1 := ⟨_, rfl⟩
  rw [hW1]
  have hs1 : W1.heap.size = w.heap.size + 2 := by rw [← hW1]; simp
  have hk1 : W1.heap[w.heap.size]? = some (.deferred (some [])) := by
    rw [← hW1]
    exact (Below.heap_alloc _ _ _ (by simp)).trans (World.alloc_heap_new w _)
  have hl1 : W1.heap[w.heap.size + 1]? = some (.loop (L .ready none)) := by
    rw [← hW1]
    have := World.alloc_heap_new (w.alloc (.deferred (some []))) (.loop (L .ready none))
    rwa [World.size_alloc] at this
  have hi1 : I [] W1 := by rw [← hW1]; exact hI.alloc _ (hI.alloc _ h0)
  have hb1 : Below w0.heap.size w0 W1 := by
    rw [← hW1]
    exact hb0.trans ((((Below.refl _ w).alloc (Nat.le_refl _) _).alloc (by simp) _).mono hb0.size)
  have far : ∀ (c : Prop) (A B : World) (row : Option Nat), A.grownBy B row → (∀ r, row = some r → W1.heap.size ≤ r) → ∀ (k : Nat) (o : Obj), k < W1.heap.size → A.heap[k]? = some o → B.heap[k]? = some o := fun _ A B row hgr hr k o hk ho =>
    (hgr.block k (Array.getElem?_eq_some_iff.1 ho).1 (fun e => by have := hr k e.symm; omega)).trans ho
  refine (hseq (w.heap.size + 1)
    (fun pre W => I pre W ∧ W.heap[w.heap.size + 1]? = some (.loop (L .ready none)) ∧ W.heap[w.heap.size]? = some (.deferred (some [])))
    (fun pre W => ∃ c, Ix c pre W ∧ W.heap[w.heap.size + 1]? = some (.loop (L .done (some c))) ∧ W.heap[w.heap.size]? = some (.deferred (some [])))
    W1 hb1 (fun s A B row hs hgr hr => ⟨hI s A B row hs.1 hgr (fun r e => ⟨by have := (hr r e).1; omega, (hr r e).2⟩), far True A B row hgr (fun r e => (hr r e).1) _ _ (by omega) hs.2.1, far True A B row hgr (fun r e => (hr r e).1) _ _ (by omega) hs.2.2⟩)
    (fun s A B row hs hgr hr => by
      obtain ⟨c, h2, h3, h4⟩ := hs
      exact ⟨c, hIx c s A B row h2 hgr (fun r e => ⟨by have := (hr r e).1; omega, (hr r e).2⟩), far True A B row hgr (fun r e => (hr r e).1) _ _ (by omega) h3, far True A B row hgr (fun r e => (hr r e).1) _ _ (by omega) h4⟩)
    ?_ ⟨hi1, hl1, hk1⟩).mono ?_
  · rintro m pre x W hsW ⟨hi, hl, hk⟩ hlen hGx
    have hy := run_yield (P := P) (args := encs x) hl (by rw [hL]; exact hps x)
    rw [hL] at hy
    refine ⟨fn, _, assign, body, hy, roundIn_of_wpIn hfn (hround (w.heap.size + 1) m pre x W _ (by omega) (by omega) hi hlen hGx ?_)⟩
    intro a' W' hkf hbody
    have hl2 := hkf.same _ _ (by omega) hl rfl
    have hk2 := hkf.same _ _ (Nat.le_refl _) hk rfl
    have hlt := (Array.getElem?_eq_some_iff.1 hl2).1
    have hbg := run_beginRound (P := P) hl2 (by rw [hL]; rfl)
    refine ⟨_, hbg, wpIn_mono (hbody _ _ hl2 rfl rfl) ?_⟩
    have hl3 : (W'.putObj (w.heap.size + 1) (.loop { L .ready none with state := .busy })).heap[w.heap.size + 1]? = some (.loop { L .ready none with state := .busy }) := World.putObj_heap_same hlt
    have hk3 : (W'.putObj (w.heap.size + 1) (.loop { L .ready none with state := .busy })).heap[w.heap.size]? = some (.deferred (some [])) := (World.putObj_heap_other (by omega)).trans hk2
    have fin : ∀ (jump : Option Code) (W3 : World), KeepsFrom w.heap.size (W'.putObj (w.heap.size + 1) (.loop { L .ready none with state := .busy })) W3 →
        (Instr.endRound (w.heap.size + 1) jump).run P W3 = .ok (.bool jump.isNone) (W3.putObj (w.heap.size + 1) (.loop (L (if jump.isNone then .ready else .done) jump))) ∧
        W3.heap[w.heap.size + 1]? = some (.loop { L .ready none with state := .busy }) ∧
        (W3.putObj (w.heap.size + 1) (.loop (L (if jump.isNone then .ready else .done) jump))).heap[w.heap.size + 1]? = some (.loop (L (if jump.isNone then .ready else .done) jump)) ∧
        (W3.putObj (w.heap.size + 1) (.loop (L (if jump.isNone then .ready else .done) jump))).heap[w.heap.size]? = some (.deferred (some [])) := fun jump W3 hk9 => by
      have h3 := hk9.same _ _ (by omega) hl3 rfl
      have h4 := run_endRound (P := P) jump h3
      rw [hL] at h4 ⊢
      exact ⟨h4, by rw [hL] at h3; exact h3, World.putObj_heap_same (Array.getElem?_eq_some_iff.1 h3).1, (World.putObj_heap_other (by omega)).trans (hk9.same _ _ (Nat.le_refl _) hk3 rfl)⟩
    rintro e a3 W3 hp
    cases e with
    | normal =>
      obtain ⟨hk9, hkp, hi3⟩ := hp
      obtain ⟨hr, hl4, hl5, hk5⟩ := fin none W3 hk9
      exact ⟨_, _, hr, .inl ⟨rfl, ⟨hI.put (by omega) hl4 rfl _ hi3, hl5, hk5⟩, hKt hkp (hKb _ _ _ _ (by omega) hl4 rfl)⟩⟩
    | ret =>
      obtain ⟨hk9, hi3⟩ := hp
      obtain ⟨hr, hl4, hl5, hk5⟩ := fin (some .ret) W3 hk9
      exact ⟨_, _, hr, .inr ⟨rfl, .ret, (hIx _).put (by omega) hl4 rfl _ hi3, hl5, hk5⟩⟩
    | exit id =>
      obtain ⟨hk9, hi3⟩ := hp
      obtain ⟨hr, hl4, hl5, hk5⟩ := fin (some (.exit id)) W3 hk9
      exact ⟨_, _, hr, .inr ⟨rfl, .exit id, (hIx _).put (by omega) hl4 rfl _ hi3, hl5, hk5⟩⟩
    | goto t => exact hp.elim
    | panic c => exact hp.elim
    | outgrown => exact hp.elim
  · rintro e W2 ⟨hv, ⟨xs, hS, hi, hl, hk⟩ | ⟨pre, hSp, c, hi, hl, hk⟩⟩
    · exact ⟨hv, .inl ⟨hl, hdone _ xs _ (Nat.le_refl _) hS (hI.put (by omega) hl rfl _ hi) ((World.putObj_heap_other (by omega)).trans hk)⟩⟩
    · exact ⟨hv, .inr ⟨c, hl, hstop _ c pre _ (Nat.le_refl _) hSp ((hIx c).put (by omega) hl rfl _ hi) ((World.putObj_heap_other (by omega)).trans hk)⟩⟩

end Go.Proofs.Ytheokboggjnenaa
