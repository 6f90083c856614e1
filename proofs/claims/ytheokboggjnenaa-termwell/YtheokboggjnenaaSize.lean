/-
  The contracts of the document's own Size, Order, Depth.
-/
import Derived.Test.YtheokboggjnenaaHolds
import Derived.Test.YtheokboggjnenaaProg
import Derived.WalkKit
import Derived.OwnWalk
import Derived.Deep.QuietTactic
import Derived.BigQuiet
namespace Go.Proofs.Ytheokboggjnenaa
open Go Go.RowKit

theorem cat {w w' : World} {n g o : Nat} (h : Below n w w') (hg : g < n) : w'.cell? ⟨g, o, none⟩ = w.cell? ⟨g, o, none⟩ := h.cell (p := ⟨g, o, none⟩) hg
theorem ret_int {k : IntKind} {a b : Int} (h : a = b) : Ending.returned (.int k a) = .returned (.int k b) := by rw [h]
theorem ret_bool {a b : Bool} (h : a = b) : Ending.returned (.bool a) = .returned (.bool b) := by rw [h]

theorem sizeL_take {ts : List Ty} {k : Nat} {t : Ty} (h : ts[k]? = some t) : sizeL (ts.take (k + 1)) = sizeL (ts.take k) + t.size := by
  rw [List.take_add_one, h, sizeL_append]; simp [sizeL]
theorem sizeL_take_le (ts : List Ty) (k : Nat) : sizeL (ts.take k) ≤ sizeL ts := by
  conv => rhs; rw [← List.take_append_drop k ts, sizeL_append]
  omega
theorem depthL_take {ts : List Ty} {k : Nat} {t : Ty} (h : ts[k]? = some t) : depthL (ts.take (k + 1)) = max (depthL (ts.take k)) t.depth := by
  rw [List.take_add_one, h, depthL_append]; simp [depthL]

theorem depthL_take_le (ts : List Ty) (k : Nat) : depthL (ts.take k) ≤ sizeL ts := by
  have h1 := depthL_le_sizeL (ts.take k) (fun t _ => t.depth_le_size)
  have h2 := sizeL_take_le ts k
  omega

end Go.Proofs.Ytheokboggjnenaa
