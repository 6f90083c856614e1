/-
  A slice of types that is being made: its own row, and what its types hold elsewhere.
-/
import Derived.Test.YtckagmagjogmnaaSame
import Derived.Laws.AppendOwn
import Derived.Laws.OwnMore
import Derived.Laws.MakeOwn
import Derived.Maps.AppendAt
import Derived.Deep.AppendLies
import Derived.Deep.RegionLaw
namespace Go.Proofs.Ytckagmagjogmnaa
open Go Go.RowKit

/-- The cells of types: each one's arguments' slice, and its base. -/
def pcells : List (Value × Ty) → List Value
  | [] => []
  | p :: r => p.1 :: .int .i64 p.2.base :: pcells r
theorem pcells_append (a b : List (Value × Ty)) : pcells (a ++ b) = pcells a ++ pcells b := by
  induction a with
  | nil => rfl
  | cons p a ih => simp [pcells, ih]
theorem pcells_length (a : List (Value × Ty)) : (pcells a).length = a.length * 2 := by
  induction a with
  | nil => rfl
  | cons p a ih => simp [pcells, ih]; omega
theorem pcells_get (a : List (Value × Ty)) (i : Nat) (p : Value × Ty) (h : a[i]? = some p) : (pcells a)[i * 2]? = some p.1 ∧ (pcells a)[i * 2 + 1]? = some (.int .i64 p.2.base) := by
  induction a generalizing i with
  | nil => simp at h
  | cons q a ih =>
    cases i with
    | zero => simp at h; subst h; simp [pcells]
    | succ i =>
      have := ih i (by simpa using h)
      rw [show (i + 1) * 2 = i * 2 + 1 + 1 by omega]
      simpa [pcells] using this

/-- THE SLICE v, OF ELEMENTS OF TYPE e, IS BEING MADE in blocks from M on: so far of these. -/
structure Mk (w : World) (M : Nat) (e : TypeId) (v : Value) (ps : List (Value × Ty)) : Prop where
  row : w.ownsRow M e 2 v ps.length (pcells ps)
  kid : ∀ p ∈ ps, Holds w (fun b => M ≤ b ∧ v.ownBlock ≠ some b) p.2.args p.1

theorem Mk.nil (w : World) (M : Nat) (e : TypeId) : Mk w M e (.slice none 0 0) [] := ⟨World.ownsRow_nil w M e 2, fun p hp => by cases hp⟩
theorem Mk.keep {w w' : World} {M : Nat} {e : TypeId} {v : Value} {ps : List (Value × Ty)} (h : Mk w M e v ps) (hk : ∀ b, M ≤ b → b < w.heap.size → w'.heap[b]? = w.heap[b]?) : Mk w' M e v ps := by
  refine ⟨?_, fun p hp => (h.kid p hp).keep fun b hb ho => ⟨hk b ho.1 hb, ho⟩⟩
  obtain ⟨h1, h2⟩ := h.row
  refine ⟨h1, ?_⟩
  rcases h2 with h2 | ⟨g, cap, cur, e1, e2, e3, e4⟩
  · exact .inl h2
  · refine .inr ⟨g, cap, cur, e1, e2, ?_, e4⟩
    have hlt : g < w.heap.size := (Array.getElem?_eq_some_iff.1 e3).1
    rw [hk g e2 hlt]
    exact e3
theorem Mk.bel {w w' : World} {M : Nat} {e : TypeId} {v : Value} {ps : List (Value × Ty)} (h : Mk w M e v ps) (hb : Below w.heap.size w w') : Mk w' M e v ps := h.keep fun b _ hl => hb.block b hl
theorem Mk.drew {w : World} {M : Nat} {e : TypeId} {v : Value} {ps : List (Value × Ty)} (h : Mk w M e v ps) : Mk w.drew M e v ps := h.keep fun _ _ _ => rfl
theorem Mk.alloc {w : World} {M : Nat} {e : TypeId} {v : Value} {ps : List (Value × Ty)} (h : Mk w M e v ps) (o : Obj) : Mk (w.alloc o) M e v ps := h.bel ((Below.refl _ _).alloc (Nat.le_refl _) o)
theorem Mk.set {w : World} {M : Nat} {e : TypeId} {v : Value} {ps : List (Value × Ty)} (h : Mk w M e v ps) {R : Nat} (hR : R < M) (i : Nat) (u : Value) : Mk (w.setCell ⟨R, i, none⟩ u) M e v ps :=
  h.keep fun b hb _ => Below.heap_setCell w ⟨R, i, none⟩ u b (show b ≠ R by omega)
theorem Mk.lt {w : World} {M : Nat} {e : TypeId} {v : Value} {ps : List (Value × Ty)} (h : Mk w M e v ps) (b : Nat) (hb : v.ownBlock = some b) : M ≤ b ∧ b < w.heap.size := h.row.lt b hb
theorem Mk.snoc {w w3 : World} {M L : Nat} {e : TypeId} {v : Value} {ps : List (Value × Ty)} {s : Value} {u : Ty} {o : Obj} {g cap : Nat} (h : Mk w M e v ps) (hs : Holds w (fun b => L ≤ b) u.args s) (hML : M ≤ L)
    (hvL : ∀ b, v.ownBlock = some b → b < L) (hg : (w.alloc o).grownBy w3 v.ownBlock) (hat : v.ownBlock = some g ∨ g = (w.alloc o).heap.size)
    (hown : w3.ownsRow M e 2 (.slice (some ⟨g, 0, none⟩) (ps.length + 1) cap) (ps.length + 1) (pcells ps ++ [s, .int .i64 u.base])) : Mk w3 M e (.slice (some ⟨g, 0, none⟩) (ps.length + 1) cap) (ps ++ [(s, u)]) := by
  have hgo : (Value.slice (some ⟨g, 0, none⟩) (ps.length + 1) cap).ownBlock = some g := rfl
  have hb3 : ∀ b, b < w.heap.size → v.ownBlock ≠ some b → w3.heap[b]? = w.heap[b]? := fun b hb hn =>
    (hg.block b (by simp; omega) (fun e => hn e.symm)).trans (Below.heap_alloc w o b hb)
  have hne : ∀ b, b < w.heap.size → v.ownBlock ≠ some b → (some g : Option Nat) ≠ some b := fun b hb hn e => by
    cases e
    rcases hat with h1 | h1
    · exact hn h1
    · simp at h1; omega
  refine ⟨by rw [List.length_append, pcells_append]; exact hown, fun p hp => ?_⟩
  rcases List.mem_append.1 hp with hp | hp
  · refine (h.kid p hp).keep fun b hb ho => ⟨hb3 b hb ho.2, ho.1, ?_⟩
    rw [hgo]; exact hne b hb ho.2
  · obtain rfl : p = (s, u) := by simpa using hp
    refine hs.keep fun b hb ho => ?_
    have hn : v.ownBlock ≠ some b := fun e => by have := hvL b e; omega
    exact ⟨hb3 b hb hn, Nat.le_trans hML ho, by rw [hgo]; exact hne b hb hn⟩
theorem Mk.holds {w : World} {M : Nat} {e : TypeId} {v : Value} {ps : List (Value × Ty)} (h : Mk w M e v ps) : Holds w (fun b => M ≤ b) (ps.map (·.2)) v := by
  have h' := h.row
  obtain ⟨h1, h2⟩ := h.row
  rcases h2 with ⟨rfl, h2⟩ | ⟨g, cap, cur, rfl, e2, e3, e4, e5, e6⟩
  · have : ps = [] := List.eq_nil_of_length_eq_zero h2
    subst this
    exact Holds.nil _ _ _ _ (fun _ => rfl)
  · have hc := World.ownsRow.cellAt h'
    have hq : ∀ (i : Nat) (u : Ty), (ps.map (·.2))[i]? = some u → ∃ p : Value × Ty, ps[i]? = some p ∧ p.2 = u := by
      intro i u hi
      rw [List.getElem?_map] at hi
      exact Option.map_eq_some_iff.1 hi
    have := Holds.mk (w := w) (ok := fun b => M ≤ b) (ps.map (·.2)) (some ⟨g, 0, none⟩) cap (fun i => ((ps[i]?).map (·.1)).getD undef) (by simpa using e4) (fun h => by cases h)
      (fun i u hi => by
        obtain ⟨p, hp, rfl⟩ := hq i u hi
        obtain ⟨c0, c1⟩ := pcells_get ps i p hp
        have hil := (List.getElem?_eq_some_iff.1 hp).1
        refine ⟨g, 0, rfl, e2, ?_, ?_⟩
        · rw [Nat.zero_add, hc _ (by omega), c0, hp]; rfl
        · rw [Nat.zero_add, hc _ (by omega), c1])
      (fun i u hi => by
        obtain ⟨p, hp, rfl⟩ := hq i u hi
        rw [hp]
        exact (h.kid p (List.mem_of_getElem? hp)).mono fun b _ ho => ho.1)
    rwa [List.length_map] at this

theorem cell_two_new (w : World) (x y : Value) (t : TypeId) : ∀ j u, [x, y][j]? = some u → (w.alloc (.cells #[x, y] t)).cell? ((⟨w.heap.size, 0, none⟩ : Addr).add j) = some u := by
  intro j u h
  have hb := Blk.new w t #[x, y]
  have e : ((⟨w.heap.size, 0, none⟩ : Addr).add j) = ⟨w.heap.size, j, none⟩ := by simp [Addr.add]; omega
  rw [e, hb.cell j]
  simpa using h
theorem cell_alloc_old {w w' : World} {R i : Nat} {x : Value} (hb : Below w.drew.heap.size w.drew w') (hR : R < w.heap.size) (h : w.cell? ⟨R, i, none⟩ = some x) (o : Obj) : (w'.alloc o).cell? ⟨R, i, none⟩ = some x :=
  (World.cell?_of_block (w := w') (Below.heap_alloc w' o R (Nat.lt_of_lt_of_le hR hb.size))).trans ((hb.cell (p := ⟨R, i, none⟩) hR).trans h)
theorem appended {w w' w3 : World} {R : Nat} {t : TypeId} {vs : Array Value} {vk : Value} {o : Obj} (hg : (w'.alloc o).grownBy w3 vk.ownBlock) (h : Blk w R t vs) (hb : Below w.drew.heap.size w.drew w') (hn : vk.ownBlock ≠ some R) : Blk w3 R t vs :=
  ((h.drew.below hb h.lt).alloc o).kept hg (fun e => hn e.symm)

end Go.Proofs.Ytckagmagjogmnaa
