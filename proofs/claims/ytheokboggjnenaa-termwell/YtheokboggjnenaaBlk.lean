/-
  Blocks of several cells (a struct's box, a struct result's slot), as facts that go along through a walk: what such a block holds, and that other stores, new blocks and the loop's book-keeping leave it.
-/
import Derived.RangeFuncNested
import Derived.RangeFuncCalls
import Derived.WalkKit
namespace Go.Proofs.Ytheokboggjnenaa
open Go Go.RowKit

/-- BLOCK B HOLDS JUST THESE CELLS, of type t, none of them frozen. -/
def Blk (W : World) (B : Nat) (t : TypeId) (vs : Array Value) : Prop := W.heap[B]? = some (.cells vs t (0, 0))

theorem Blk.lt {W : World} {B : Nat} {t : TypeId} {vs : Array Value} (h : Blk W B t vs) : B < W.heap.size := (Array.getElem?_eq_some_iff.1 h).1
theorem Blk.cell {W : World} {B : Nat} {t : TypeId} {vs : Array Value} (h : Blk W B t vs) (i : Nat) : W.cell? ⟨B, i, none⟩ = vs[i]? := by simp [World.cell?, show W.heap[B]? = _ from h]
theorem Blk.frozen {W : World} {B : Nat} {t : TypeId} {vs : Array Value} (h : Blk W B t vs) (i : Nat) : W.frozen? ⟨B, i, none⟩ = false := by simp [World.frozen?, show W.heap[B]? = _ from h]
theorem Blk.new (W : World) (t : TypeId) (vs : Array Value) : Blk (W.alloc (.cells vs t)) W.heap.size t vs := World.alloc_heap_new W _
theorem Blk.new' (W : World) (B : Nat) (t : TypeId) (vs : Array Value) (h : W.heap.size = B) : Blk (W.alloc (.cells vs t)) B t vs := by subst h; exact World.alloc_heap_new W _
theorem Blk.kept {W W' : World} {row : Option Nat} {B : Nat} {t : TypeId} {vs : Array Value} (h : Blk W B t vs) (hg : W.grownBy W' row) (hne : some B ≠ row) : Blk W' B t vs := (hg.block B h.lt hne).trans h
theorem Blk.alloc {W : World} {B : Nat} {t : TypeId} {vs : Array Value} (h : Blk W B t vs) (o : Obj) : Blk (W.alloc o) B t vs := h.kept (World.grownBy_alloc W o none) (by simp)
theorem Blk.own {W W' : World} {row : Option Nat} {B : Nat} {t : TypeId} {vs : Array Value} (h : Blk W B t vs) (hg : W.grownBy W' row) (hr : ∀ r, row = some r → ∃ o : Obj, W.heap[r]? = some o ∧ o.isCells = false) : Blk W' B t vs :=
  h.kept hg (fun e' => by obtain ⟨o, ho, hc⟩ := hr B e'.symm; rw [show W.heap[B]? = _ from h] at ho; cases ho; cases hc)
theorem Blk.below {W W' : World} {n B : Nat} {t : TypeId} {vs : Array Value} (h : Blk W B t vs) (hb : Below n W W') (hB : B < n) : Blk W' B t vs := (hb.block B hB).trans h
theorem grownBy_setCell_at (W : World) (b i : Nat) (v : Value) : W.grownBy (W.setCell ⟨b, i, none⟩ v) (some b) :=
  ⟨rfl, rfl, rfl, (KeepsWalks.setCell W _ v).size, fun k _ hk => Below.heap_setCell _ _ _ k (fun e => hk (by rw [e]))⟩
theorem Blk.other {W : World} {B B' : Nat} {t : TypeId} {vs : Array Value} (h : Blk W B t vs) (hne : B ≠ B') (i : Nat) (u : Value) : Blk (W.setCell ⟨B', i, none⟩ u) B t vs :=
  h.kept (grownBy_setCell_at W B' i u) (fun e => hne (by cases e; rfl))
theorem Blk.set {W : World} {B : Nat} {t : TypeId} {vs : Array Value} (h : Blk W B t vs) (i : Nat) (v' : Value) : Blk (W.setCell ⟨B, i, none⟩ v') B t (vs.setIfInBounds i v') := by
  obtain ⟨hlt, hk⟩ := Array.getElem?_eq_some_iff.1 h
  show (W.heap.modify B _)[B]? = _
  rw [Array.getElem?_eq_getElem (by rw [Array.size_modify]; exact hlt), Array.getElem_modify_self, hk]
  rfl
theorem bset {n B i : Nat} {a w : World} (h : Below n a w) (hB : n ≤ B) (u : Value) : Below n a (w.setCell ⟨B, i, none⟩ u) := h.setCell (p := ⟨B, i, none⟩) hB u
theorem Blk.drew {W : World} {B : Nat} {t : TypeId} {vs : Array Value} (h : Blk W B t vs) : Blk W.drew B t vs := h
theorem Blk.put {W : World} {B : Nat} {t : TypeId} {vs : Array Value} (h : Blk W B t vs) {l : Nat} {o : Obj} (o' : Obj) (hl : W.heap[l]? = some o) (ho : o.isCells = false) : Blk (W.putObj l o') B t vs :=
  h.own (grownBy_putObj' W l o') (fun r e => by cases e; exact ⟨_, hl, ho⟩)

end Go.Proofs.Ytheokboggjnenaa
