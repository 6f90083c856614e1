/-
  A slice of the document's constants that is being made by appending.
-/
import Derived.Test.YtdihplmlbfggjaaGreatDoorCopies
namespace Go.Proofs.YtdihplmlbfggjaaGreatDoor
open Go Go.RowKit

/-- THE SLICE v OF CONSTANTS IS BEING MADE in blocks from M on: so far of these. -/
structure MkR (w : World) (M : Nat) (v : Value) (ps : List (Value × Cn)) : Prop where
  row : w.ownsRow M 51 3 v ps.length (ccells ps)
  kid : ∀ p ∈ ps, Holds w (fun b => M ≤ b ∧ v.ownBlock ≠ some b) p.2.ty.args p.1

theorem MkR.nil (w : World) (M : Nat) : MkR w M (.slice none 0 0) [] := ⟨World.ownsRow_nil w M 51 3, fun p hp => by cases hp⟩
theorem MkR.keep {w w' : World} {M : Nat} {v : Value} {ps : List (Value × Cn)} (h : MkR w M v ps) (hk : ∀ b, M ≤ b → b < w.heap.size → w'.heap[b]? = w.heap[b]?) : MkR w' M v ps := by
  refine ⟨?_, fun p hp => (h.kid p hp).keep fun b hb ho => ⟨hk b ho.1 hb, ho⟩⟩
  obtain ⟨h1, h2⟩ := h.row
  refine ⟨h1, ?_⟩
  rcases h2 with h2 | ⟨g, cap, cur, e1, e2, e3, e4⟩
  · exact .inl h2
  · refine .inr ⟨g, cap, cur, e1, e2, ?_, e4⟩
    have hlt : g < w.heap.size := (Array.getElem?_eq_some_iff.1 e3).1
    rw [hk g e2 hlt]
    exact e3
theorem MkR.bel {w w' : World} {M : Nat} {v : Value} {ps : List (Value × Cn)} (h : MkR w M v ps) (hb : Below w.heap.size w w') : MkR w' M v ps := h.keep fun b _ hl => hb.block b hl
theorem MkR.set {w : World} {M : Nat} {v : Value} {ps : List (Value × Cn)} (h : MkR w M v ps) {R : Nat} (hR : R < M) (i : Nat) (u : Value) : MkR (w.setCell ⟨R, i, none⟩ u) M v ps :=
  h.keep fun b hb _ => Below.heap_setCell w ⟨R, i, none⟩ u b (show b ≠ R by omega)
theorem MkR.lt {w : World} {M : Nat} {v : Value} {ps : List (Value × Cn)} (h : MkR w M v ps) (b : Nat) (hb : v.ownBlock = some b) : M ≤ b ∧ b < w.heap.size := h.row.lt b hb
theorem MkR.snoc {w w3 : World} {M L k : Nat} {v : Value} {ps : List (Value × Cn)} {s : Value} {x : Cn} {g cap : Nat} (h : MkR w M v ps) (hk : ps.length = k) (hs : Holds w (fun b => L ≤ b) x.ty.args s) (hML : M ≤ L)
    (hvL : ∀ b, v.ownBlock = some b → b < L) (hg : w.grownBy w3 v.ownBlock) (hat : v.ownBlock = some g ∨ g = w.heap.size)
    (hown : w3.ownsRow M 51 3 (.slice (some ⟨g, 0, none⟩) (k + 1) cap) (k + 1) (ccells ps ++ [.string x.name, s, .int .i64 x.ty.base])) : MkR w3 M (.slice (some ⟨g, 0, none⟩) (k + 1) cap) (ps ++ [(s, x)]) := by
  have hgo : (Value.slice (some ⟨g, 0, none⟩) (k + 1) cap).ownBlock = some g := rfl
  have hb3 : ∀ b, b < w.heap.size → v.ownBlock ≠ some b → w3.heap[b]? = w.heap[b]? := fun b hb hn => hg.block b hb (fun e => hn e.symm)
  have hne : ∀ b, b < w.heap.size → v.ownBlock ≠ some b → (some g : Option Nat) ≠ some b := fun b hb hn e => by
    cases e
    rcases hat with h1 | h1
    · exact hn h1
    · omega
  refine ⟨by rw [List.length_append, ccells_append, hk]; exact hown, fun p hp => ?_⟩
  rcases List.mem_append.1 hp with hp | hp
  · refine (h.kid p hp).keep fun b hb ho => ⟨hb3 b hb ho.2, ho.1, ?_⟩
    rw [hgo]; exact hne b hb ho.2
  · obtain rfl : p = (s, x) := by simpa using hp
    refine hs.keep fun b hb ho => ?_
    have hn : v.ownBlock ≠ some b := fun e => by have := hvL b e; omega
    exact ⟨hb3 b hb hn, Nat.le_trans hML ho, by rw [hgo]; exact hne b hb hn⟩
theorem MkR.holds {w : World} {M : Nat} {v : Value} {ps : List (Value × Cn)} (h : MkR w M v ps) : HoldsC w (fun b => M ≤ b) (ps.map (·.2)) v := by
  have h' := h.row
  obtain ⟨h1, h2⟩ := h.row
  rcases h2 with ⟨rfl, h2⟩ | ⟨g, cap, cur, rfl, e2, e3, e4, e5, e6⟩
  · have : ps = [] := List.eq_nil_of_length_eq_zero h2
    subst this
    exact HoldsC.nil _ _
  · have hc := World.ownsRow.cellAt h'
    refine ⟨some ⟨g, 0, none⟩, cap, by rw [List.length_map], by rw [List.length_map]; exact e4, (fun h => by cases h), fun i x hi => ?_⟩
    rw [List.getElem?_map] at hi
    obtain ⟨p, hp, rfl⟩ := Option.map_eq_some_iff.1 hi
    obtain ⟨c0, c1, c2⟩ := ccells_get ps i p hp
    have hil := (List.getElem?_eq_some_iff.1 hp).1
    refine ⟨g, 0, p.1, rfl, e2, ?_, ?_, ?_, (h.kid p (List.mem_of_getElem? hp)).mono fun b _ ho => ho.1⟩
    · rw [Nat.zero_add, hc _ (by omega), c0]
    · rw [Nat.zero_add, hc _ (by omega), c1]
    · rw [Nat.zero_add, hc _ (by omega), c2]

end Go.Proofs.YtdihplmlbfggjaaGreatDoor
