/-
  Long forms of heads, as plain mathematics.
-/
import Derived.Test.YtheokboggjnenaaTm
namespace Go.Proofs.Ytheokboggjnenaa
open Go

/-- A head's index as it is seen from within so many binders. -/
def insI (k i : Int) (n : Nat) : Int := if k = 0 then i + n else i
mutual
/-- The long form of a head whose type has these arguments. -/
def etaK (k i : Int) : List Ty → Tm
  | [] => .mk [] k (insI k i 0) []
  | t :: r => .mk (t :: r) k (insI k i (r.length + 1)) (etaY r.length t :: etaL r)
/-- The long form of a variable of this type. -/
def etaY (m : Nat) : Ty → Tm
  | .mk l _ => etaK 0 m l
/-- The variables that so many types bind, the first one outermost. -/
def etaL : List Ty → List Tm
  | [] => []
  | t :: r => etaY r.length t :: etaL r
end
theorem etaY_eq (m : Nat) (t : Ty) : etaY m t = etaK 0 m t.args := by cases t; rw [etaY]; rfl
theorem etaK_eq (k i : Int) (l : List Ty) : etaK k i l = .mk l k (insI k i l.length) (etaL l) := by
  cases l with
  | nil => rw [etaK, etaL]; rfl
  | cons t r => rw [etaK, etaL]; rfl
theorem etaK_binds (k i : Int) (l : List Ty) : (etaK k i l).binds = l := by rw [etaK_eq]; rfl
theorem etaK_kind (k i : Int) (l : List Ty) : (etaK k i l).kind = k := by rw [etaK_eq]; rfl
theorem etaK_idx (k i : Int) (l : List Ty) : (etaK k i l).idx = insI k i l.length := by rw [etaK_eq]; rfl
theorem etaK_args (k i : Int) (l : List Ty) : (etaK k i l).args = etaL l := by rw [etaK_eq]; rfl
theorem etaL_length (l : List Ty) : (etaL l).length = l.length := by
  induction l with
  | nil => rw [etaL]; rfl
  | cons t r ih => rw [etaL, List.length_cons, List.length_cons, ih]
theorem etaL_get (l : List Ty) (j : Nat) (t : Ty) (h : l[j]? = some t) : (etaL l)[j]? = some (etaK 0 ((l.length : Int) - 1 - j) t.args) := by
  induction l generalizing j with
  | nil => simp at h
  | cons u r ih =>
    rw [etaL]
    cases j with
    | zero =>
      obtain rfl : u = t := by simpa using h
      rw [List.getElem?_cons_zero, etaY_eq, show ((u :: r).length : Int) - 1 - ((0 : Nat) : Int) = (r.length : Int) by simp]
    | succ j =>
      rw [List.getElem?_cons_succ, ih j (by simpa using h)]
      rw [show ((u :: r).length : Int) - 1 - ((j + 1 : Nat) : Int) = (r.length : Int) - 1 - (j : Int) by simp; omega]
theorem etaL_take (l : List Ty) (j : Nat) (t : Ty) (h : l[j]? = some t) : (etaL l).take (j + 1) = (etaL l).take j ++ [etaK 0 ((l.length : Int) - 1 - j) t.args] := by
  rw [List.take_add_one, etaL_get l j t h]; rfl

theorem sizeT_etaL (l : List Ty) (h : ∀ t ∈ l, ∀ m, (etaY m t).size = t.size) : sizeT (etaL l) = sizeL l := by
  induction l with
  | nil => rw [etaL]; rfl
  | cons t r ih => rw [etaL, sizeT, sizeL, h t (by simp), ih (fun u hu => h u (by simp [hu]))]
theorem etaY_size (t : Ty) : ∀ m, (etaY m t).size = t.size := by
  induction t using Ty.ind with
  | h t ih =>
    intro m
    rw [etaY_eq, Tm.size_eq, etaK_args, sizeT_etaL _ ih, t.size_eq]
theorem etaK_size (k i : Int) (l : List Ty) : (etaK k i l).size = 1 + sizeL l := by
  rw [Tm.size_eq, etaK_args, sizeT_etaL _ (fun t _ => etaY_size t)]

/-- Whether a term is the long form of a head whose type has these arguments. -/
def isEta (t : Tm) (k i : Int) (l : List Ty) : Bool := t.same (etaK k i l)
theorem isEta_self (k i : Int) (l : List Ty) : isEta (etaK k i l) k i l = true := Tm.same_self _

end Go.Proofs.Ytheokboggjnenaa
