/-
  The contract of the laws' 'same' (slices of the same tokens) and of Split of a text that is too long.
-/
import Derived.Test.YtdihplmlbfggjaaDoorLxSplit
import Derived.Deep.RegionHeld3
namespace Go.Proofs.YtdihplmlbfggjaaDoor.Lx
open Go Go.RowKit Go.Shelf Plain Lex

theorem keep3 {w w' : World} {g i j l : Nat} {x y z : Value} (hb : Below w.drew.heap.size w.drew w') (hg : g < w.heap.size) (h : w.cell? ⟨g, i, none⟩ = some x ∧ w.cell? ⟨g, j, none⟩ = some y ∧ w.cell? ⟨g, l, none⟩ = some z) :
    w'.cell? ⟨g, i, none⟩ = some x ∧ w'.cell? ⟨g, j, none⟩ = some y ∧ w'.cell? ⟨g, l, none⟩ = some z :=
  ⟨(hb.cell (p := ⟨g, i, none⟩) hg).trans h.1, (hb.cell (p := ⟨g, j, none⟩) hg).trans h.2.1, (hb.cell (p := ⟨g, l, none⟩) hg).trans h.2.2⟩

end Go.Proofs.YtdihplmlbfggjaaDoor.Lx
