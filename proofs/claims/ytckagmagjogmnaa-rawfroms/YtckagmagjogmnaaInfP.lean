/-
  What type a raw term has, or what is wrong: plain.
-/
import Derived.Test.YtckagmagjogmnaaRw
import Derived.Test.YtckagmagjogmnaaFew
import Derived.Test.YtckagmagjogmnaaHeadC
namespace Go.Proofs.Ytckagmagjogmnaa
open Go

def zT : Ty := .mk [] 0
/-- no type where there is an error, and none that is too great -/
def finI (p : Int × Ty) : Int × Ty := if p.1 = 0 then (if p.2.size ≤ 1000 then p else (2, zT)) else (p.1, zT)
def lamI (t : Ty) : List (Int × Ty) → Int × Ty
  | [p] => if p.1 = 0 then (0, .mk (t :: p.2.args) p.2.base) else (p.1, zT)
  | _ => (0, zT)
/-- what an application has -/
def appT (f a : Ty) : Int × Ty := match f.args with
  | [] => (5, zT)
  | x :: r => if x.same a = true then (0, .mk r f.base) else (5, zT)
def appI : List (Int × Ty) → Int × Ty
  | [f, a] => if f.1 = 0 then (if a.1 = 0 then appT f.2 a.2 else (a.1, zT)) else (f.1, zT)
  | _ => (0, zT)
def headI (o : Option Ty) : Int × Ty := match o with
  | none => (10, zT)
  | some h => (0, h)
mutual
/-- the error's number and the type -/
def Rw.inf (bs : Int) (cs ms : List Ty) (ctx : List Ty) : Rw → Int × Ty
  | .mk k t i l => finI (if k = 3 then (if rightB bs t = true then lamI t (infL bs cs ms (ctx ++ [t]) l) else (2, zT)) else if k = 4 then appI (infL bs cs ms ctx l) else headI (pickA cs ms ctx k i))
def infL (bs : Int) (cs ms : List Ty) (ctx : List Ty) : List Rw → List (Int × Ty)
  | [] => []
  | t :: r => t.inf bs cs ms ctx :: infL bs cs ms ctx r
end
/-- the same, whatever size the type has -/
def Rw.ofI (bs : Int) (cs ms ctx : List Ty) (r : Rw) : Int × Ty := if r.kind = 3 then (if rightB bs r.ty = true then lamI r.ty (infL bs cs ms (ctx ++ [r.ty]) r.kids) else (2, zT)) else if r.kind = 4 then appI (infL bs cs ms ctx r.kids) else headI (pickA cs ms ctx r.kind r.idx)
theorem Rw.inf_eq (bs : Int) (cs ms ctx : List Ty) (r : Rw) : r.inf bs cs ms ctx = finI (r.ofI bs cs ms ctx) := by cases r; rfl
theorem zT_size : zT.size = 1 := rfl
theorem finI_size (p : Int × Ty) : (finI p).2.size ≤ 1000 := by
  unfold finI
  split
  · split
    · assumption
    · rw [zT_size]; omega
  · rw [zT_size]; omega
theorem Rw.inf_size (bs : Int) (cs ms ctx : List Ty) (r : Rw) : (r.inf bs cs ms ctx).2.size ≤ 1000 := by rw [r.inf_eq]; exact finI_size _
theorem finI_bad (p : Int × Ty) (h : (finI p).1 ≠ 0) : (finI p).2 = zT := by
  unfold finI at h ⊢
  split
  · rename_i h1
    rw [if_pos h1] at h
    split
    · rename_i h2
      rw [if_pos h2] at h
      exact absurd h1 h
    · rfl
  · rfl

end Go.Proofs.Ytckagmagjogmnaa
