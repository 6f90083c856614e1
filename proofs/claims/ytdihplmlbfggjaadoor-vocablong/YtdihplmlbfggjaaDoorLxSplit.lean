/-
  The contract of lex.Split: the tokens of any text, or its first fault.
-/
import Derived.Test.YtdihplmlbfggjaaDoorLxRow
namespace Go.Proofs.YtdihplmlbfggjaaDoor.Lx
open Go Go.RowKit Go.Shelf Plain Lex

/-- The number that a box holds. -/
def boxNat (w : World) (A : Nat) : Nat := match w.cell? ⟨A, 0, none⟩ with
  | some (.int _ z) => z.toNat
  | _ => 0
theorem boxNat_of {w : World} {A k : Nat} {t : TypeId} (h : Blk w A t #[.int .i64 k]) : boxNat w A = k := by
  unfold boxNat
  rw [show w.cell? ⟨A, 0, none⟩ = some (.int .i64 k) from h.cell 0]
  simp

end Go.Proofs.YtdihplmlbfggjaaDoor.Lx
