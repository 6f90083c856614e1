/-
  A slice of terms that is being made by appending.
-/
import Derived.Test.YtheokboggjnenaaHoldT
import Derived.Test.YtheokboggjnenaaMk
namespace Go.Proofs.Ytheokboggjnenaa
open Go Go.RowKit

/-- What a term's cells hold: its binders' slice, its arguments' slice, the term. -/
structure Tc where
  sb : Value
  sr : Value
  t : Tm
/-- The cells of terms. -/
def tcells : List Tc → List Value
  | [] => []
  | p :: r => p.sb :: .int .i64 p.t.kind :: .int .i64 p.t.idx :: p.sr :: tcells r
theorem tcells_append (a b : List Tc) : tcells (a ++ b) = tcells a ++ tcells b := by
  induction a with
  | nil => rfl
  | cons p a ih => simp [tcells, ih]
theorem tcells_length (a : List Tc) : (tcells a).length = a.length * 4 := by
  induction a with
  | nil => rfl
  | cons p a ih => simp [tcells, ih]; omega
theorem tcells_get (a : List Tc) (i : Nat) (p : Tc) (h : a[i]? = some p) : (tcells a)[i * 4]? = some p.sb ∧ (tcells a)[i * 4 + 1]? = some (.int .i64 p.t.kind) ∧ (tcells a)[i * 4 + 2]? = some (.int .i64 p.t.idx) ∧ (tcells a)[i * 4 + 3]? = some p.sr := by
  induction a generalizing i with
  | nil => simp at h
  | cons q a ih =>
    cases i with
    | zero => simp at h; subst h; simp [tcells]
    | succ i =>
      have := ih i (by simpa using h)
      rw [show (i + 1) * 4 = i * 4 + 1 + 1 + 1 + 1 by omega]
      simpa [tcells] using this

/-- THE SLICE v OF TERMS, OF ELEMENTS OF TYPE e, IS BEING MADE in blocks from M on: so far of these. -/
structure MkT (w : World) (M : Nat) (e : TypeId) (v : Value) (ps : List Tc) : Prop where
  row : w.ownsRow M e 4 v ps.length (tcells ps)
  bnd : ∀ p ∈ ps, Holds w (fun b => M ≤ b ∧ v.ownBlock ≠ some b) p.t.binds p.sb
  kid : ∀ p ∈ ps, HoldsT w (fun b => M ≤ b ∧ v.ownBlock ≠ some b) p.t.args p.sr

theorem MkT.nil (w : World) (M : Nat) (e : TypeId) : MkT w M e (.slice none 0 0) [] := ⟨World.ownsRow_nil w M e 4, (fun p hp => by cases hp), (fun p hp => by cases hp)⟩
theorem MkT.keep {w w' : World} {M : Nat} {e : TypeId} {v : Value} {ps : List Tc} (h : MkT w M e v ps) (hk : ∀ b, M ≤ b → b < w.heap.size → w'.heap[b]? = w.heap[b]?) : MkT w' M e v ps := by
  refine ⟨?_, fun p hp => (h.bnd p hp).keep fun b hb ho => ⟨hk b ho.1 hb, ho⟩, fun p hp => (h.kid p hp).keep fun b hb ho => ⟨hk b ho.1 hb, ho⟩⟩
  obtain ⟨h1, h2⟩ := h.row
  refine ⟨h1, ?_⟩
  rcases h2 with h2 | ⟨g, cap, cur, e1, e2, e3, e4⟩
  · exact .inl h2
  · refine .inr ⟨g, cap, cur, e1, e2, ?_, e4⟩
    have hlt : g < w.heap.size := (Array.getElem?_eq_some_iff.1 e3).1
    rw [hk g e2 hlt]
    exact e3
theorem MkT.bel {w w' : World} {M : Nat} {e : TypeId} {v : Value} {ps : List Tc} (h : MkT w M e v ps) (hb : Below w.heap.size w w') : MkT w' M e v ps := h.keep fun b _ hl => hb.block b hl
theorem MkT.set {w : World} {M : Nat} {e : TypeId} {v : Value} {ps : List Tc} (h : MkT w M e v ps) {R : Nat} (hR : R < M) (i : Nat) (u : Value) : MkT (w.setCell ⟨R, i, none⟩ u) M e v ps :=
  h.keep fun b hb _ => Below.heap_setCell w ⟨R, i, none⟩ u b (show b ≠ R by omega)
theorem MkT.lt {w : World} {M : Nat} {e : TypeId} {v : Value} {ps : List Tc} (h : MkT w M e v ps) (b : Nat) (hb : v.ownBlock = some b) : M ≤ b ∧ b < w.heap.size := h.row.lt b hb
theorem MkT.snoc {w w3 : World} {M L k : Nat} {e : TypeId} {v : Value} {ps : List Tc} {x : Tc} {g cap : Nat} (h : MkT w M e v ps) (hk : ps.length = k) (hb : Holds w (fun b => L ≤ b) x.t.binds x.sb) (hs : HoldsT w (fun b => L ≤ b) x.t.args x.sr) (hML : M ≤ L)
    (hvL : ∀ b, v.ownBlock = some b → b < L) (hg : w.grownBy w3 v.ownBlock) (hat : v.ownBlock = some g ∨ g = w.heap.size)
    (hown : w3.ownsRow M e 4 (.slice (some ⟨g, 0, none⟩) (k + 1) cap) (k + 1) (tcells ps ++ [x.sb, .int .i64 x.t.kind, .int .i64 x.t.idx, x.sr])) : MkT w3 M e (.slice (some ⟨g, 0, none⟩) (k + 1) cap) (ps ++ [x]) := by
  have hgo : (Value.slice (some ⟨g, 0, none⟩) (k + 1) cap).ownBlock = some g := rfl
  have hb3 : ∀ b, b < w.heap.size → v.ownBlock ≠ some b → w3.heap[b]? = w.heap[b]? := fun b hb hn => hg.block b hb (fun e => hn e.symm)
  have hne : ∀ b, b < w.heap.size → v.ownBlock ≠ some b → (some g : Option Nat) ≠ some b := fun b hb hn e => by
    cases e
    rcases hat with h1 | h1
    · exact hn h1
    · omega
  have hnew : ∀ b, b < w.heap.size → L ≤ b → w3.heap[b]? = w.heap[b]? ∧ M ≤ b ∧ (Value.slice (some ⟨g, 0, none⟩) (k + 1) cap).ownBlock ≠ some b := fun b hb ho => by
    have hn : v.ownBlock ≠ some b := fun e => by have := hvL b e; omega
    exact ⟨hb3 b hb hn, Nat.le_trans hML ho, by rw [hgo]; exact hne b hb hn⟩
  have hold : ∀ b, b < w.heap.size → (M ≤ b ∧ v.ownBlock ≠ some b) → w3.heap[b]? = w.heap[b]? ∧ M ≤ b ∧ (Value.slice (some ⟨g, 0, none⟩) (k + 1) cap).ownBlock ≠ some b := fun b hb ho => ⟨hb3 b hb ho.2, ho.1, by rw [hgo]; exact hne b hb ho.2⟩
  refine ⟨by rw [List.length_append, tcells_append, hk]; exact hown, fun p hp => ?_, fun p hp => ?_⟩
  · rcases List.mem_append.1 hp with hp | hp
    · exact (h.bnd p hp).keep hold
    · obtain rfl : p = x := by simpa using hp
      exact hb.keep hnew
  · rcases List.mem_append.1 hp with hp | hp
    · exact (h.kid p hp).keep hold
    · obtain rfl : p = x := by simpa using hp
      exact hs.keep hnew
theorem MkT.holds {w : World} {M : Nat} {e : TypeId} {v : Value} {ps : List Tc} (h : MkT w M e v ps) : HoldsT w (fun b => M ≤ b) (ps.map (·.t)) v := by
  have h' := h.row
  obtain ⟨h1, h2⟩ := h.row
  rcases h2 with ⟨rfl, h2⟩ | ⟨g, cap, cur, rfl, e2, e3, e4, e5, e6⟩
  · have : ps = [] := List.eq_nil_of_length_eq_zero h2
    subst this
    exact HoldsT.nil _ _ _ _ (fun _ => rfl)
  · have hc := World.ownsRow.cellAt h'
    have hq : ∀ (i : Nat) (u : Tm), (ps.map (·.t))[i]? = some u → ∃ p : Tc, ps[i]? = some p ∧ p.t = u := by
      intro i u hi
      rw [List.getElem?_map] at hi
      exact Option.map_eq_some_iff.1 hi
    have := HoldsT.mk (w := w) (ok := fun b => M ≤ b) (ps.map (·.t)) (some ⟨g, 0, none⟩) cap (fun i => ((ps[i]?).map (·.sb)).getD undef) (fun i => ((ps[i]?).map (·.sr)).getD undef) (by simpa using e4) (fun h => by cases h)
      (fun i u hi => by
        obtain ⟨p, hp, rfl⟩ := hq i u hi
        obtain ⟨c0, c1, c2, c3⟩ := tcells_get ps i p hp
        have hil := (List.getElem?_eq_some_iff.1 hp).1
        refine ⟨g, 0, rfl, e2, ?_, ?_, ?_, ?_⟩
        · rw [Nat.zero_add, hc _ (by omega), c0, hp]; rfl
        · rw [Nat.zero_add, hc _ (by omega), c1]
        · rw [Nat.zero_add, hc _ (by omega), c2]
        · rw [Nat.zero_add, hc _ (by omega), c3, hp]; rfl)
      (fun i u hi => by
        obtain ⟨p, hp, rfl⟩ := hq i u hi
        rw [hp]
        exact (h.bnd p (List.mem_of_getElem? hp)).mono fun b _ ho => ho.1)
      (fun i u hi => by
        obtain ⟨p, hp, rfl⟩ := hq i u hi
        rw [hp]
        exact (h.kid p (List.mem_of_getElem? hp)).mono fun b _ ho => ho.1)
    rwa [List.length_map] at this

end Go.Proofs.Ytheokboggjnenaa
