/-
  Types of raw terms, whatever size they have: a step keeps them. Plain.
-/
import Derived.Test.YtckagmagjogmnaaSubstR
import Derived.Test.YtckagmagjogmnaaStepF
import Derived.Test.YtckagmagjogmnaaInfP
namespace Go.Proofs.Ytckagmagjogmnaa
open Go Go.RowKit

def lamU (t : Ty) : List (Option Ty) → Option Ty
  | [some b] => some (.mk (t :: b.args) b.base)
  | _ => none
def appV (f a : Ty) : Option Ty := match f.args with
  | [] => none
  | x :: r => if x.same a = true then some (.mk r f.base) else none
def appU : List (Option Ty) → Option Ty
  | [some f, some a] => appV f a
  | _ => none
mutual
/-- the type, if there is one -/
def Rw.tyU (cs ms : List Ty) (ctx : List Ty) : Rw → Option Ty
  | .mk k t i l => if k = 3 then lamU t (tyUL cs ms (ctx ++ [t]) l) else if k = 4 then appU (tyUL cs ms ctx l) else pickA cs ms ctx k i
def tyUL (cs ms : List Ty) (ctx : List Ty) : List Rw → List (Option Ty)
  | [] => []
  | t :: r => t.tyU cs ms ctx :: tyUL cs ms ctx r
end
theorem Rw.tyU_eq (cs ms ctx : List Ty) (r : Rw) : r.tyU cs ms ctx = if r.kind = 3 then lamU r.ty (tyUL cs ms (ctx ++ [r.ty]) r.kids) else if r.kind = 4 then appU (tyUL cs ms ctx r.kids) else pickA cs ms ctx r.kind r.idx := by cases r; rfl
theorem tyUL_length (cs ms ctx : List Ty) (l : List Rw) : (tyUL cs ms ctx l).length = l.length := by
  induction l with
  | nil => rfl
  | cons t l ih => simp [tyUL, ih]
theorem lamU_some {t T : Ty} {l : List (Option Ty)} (h : lamU t l = some T) : ∃ b, l = [some b] ∧ T = .mk (t :: b.args) b.base := by
  match l, h with
  | [some b], h => exact ⟨b, rfl, by injection h with h; exact h.symm⟩
theorem appU_some {T : Ty} {l : List (Option Ty)} (h : appU l = some T) : ∃ f a r, l = [some f, some a] ∧ f = .mk (a :: r) f.base ∧ T = .mk r f.base := by
  match l, h with
  | [some f, some a], h =>
    have h2 : appV f a = some T := h
    unfold appV at h2
    cases hf : f.args with
    | nil => rw [hf] at h2; cases h2
    | cons x r =>
      rw [hf] at h2
      dsimp only at h2
      by_cases hx : x.same a = true
      · rw [if_pos hx] at h2
        injection h2 with h3
        have hxa := (Ty.same_iff x a).1 hx
        subst hxa
        exact ⟨f, x, r, rfl, by cases f; rw [← hf]; rfl, h3.symm⟩
      · rw [if_neg hx] at h2; cases h2
theorem appU_of {f a : Ty} {r : List Ty} (h : f.args = a :: r) : appU [some f, some a] = some (.mk r f.base) := by
  show appV f a = _
  unfold appV
  rw [h]
  dsimp only
  rw [if_pos ((Ty.same_iff a a).2 rfl)]
theorem tyUL_one {cs ms ctx : List Ty} {l : List Rw} {b : Ty} (h : tyUL cs ms ctx l = [some b]) : ∃ u, l = [u] ∧ u.tyU cs ms ctx = some b := by
  match l, h with
  | [u], h => exact ⟨u, rfl, by simpa [tyUL] using h⟩
  | [], h => simp [tyUL] at h
  | _ :: _ :: _, h => simp [tyUL] at h
theorem tyUL_two {cs ms ctx : List Ty} {l : List Rw} {b c : Ty} (h : tyUL cs ms ctx l = [some b, some c]) : ∃ u v, l = [u, v] ∧ u.tyU cs ms ctx = some b ∧ v.tyU cs ms ctx = some c := by
  match l, h with
  | [u, v], h => exact ⟨u, v, rfl, by simpa [tyUL] using h⟩
  | [], h => simp [tyUL] at h
  | [_], h => simp [tyUL] at h
  | _ :: _ :: _ :: _, h => simp [tyUL] at h

/-- what a typed raw term is -/
theorem tyU_cases {cs ms ctx : List Ty} {r : Rw} {T : Ty} (h : r.tyU cs ms ctx = some T) :
    (r.kind = 3 ∧ ∃ u b, r.kids = [u] ∧ u.tyU cs ms (ctx ++ [r.ty]) = some b ∧ T = .mk (r.ty :: b.args) b.base) ∨
    (r.kind = 4 ∧ ∃ f a ft at' rest, r.kids = [f, a] ∧ f.tyU cs ms ctx = some ft ∧ a.tyU cs ms ctx = some at' ∧ ft.args = at' :: rest ∧ T = .mk rest ft.base) ∨
    (r.kind ≠ 3 ∧ r.kind ≠ 4 ∧ pickA cs ms ctx r.kind r.idx = some T) := by
  rw [r.tyU_eq] at h
  by_cases h3 : r.kind = 3
  · rw [if_pos h3] at h
    obtain ⟨b, h1, h2⟩ := lamU_some h
    obtain ⟨u, h4, h5⟩ := tyUL_one h1
    exact .inl ⟨h3, u, b, h4, h5, h2⟩
  · rw [if_neg h3] at h
    by_cases h4 : r.kind = 4
    · rw [if_pos h4] at h
      obtain ⟨f, a, rr, h1, h2, h5⟩ := appU_some h
      obtain ⟨u, v, h6, h7, h8⟩ := tyUL_two h1
      exact .inr (.inl ⟨h4, u, v, f, a, rr, h6, h7, h8, by rw [h2]; rfl, h5⟩)
    · rw [if_neg h4] at h
      exact .inr (.inr ⟨h3, h4, h⟩)
theorem tyU_lam {cs ms ctx : List Ty} {k i : Int} {t b : Ty} {u : Rw} (hk : k = 3) (h : u.tyU cs ms (ctx ++ [t]) = some b) : (Rw.mk k t i [u]).tyU cs ms ctx = some (.mk (t :: b.args) b.base) := by
  rw [Rw.tyU_eq, if_pos (show (Rw.mk k t i [u]).kind = 3 from hk)]
  show lamU t [u.tyU cs ms (ctx ++ [t])] = _
  rw [h]
  rfl
theorem tyU_app {cs ms ctx : List Ty} {k i : Int} {t ft at' : Ty} {rest : List Ty} {f a : Rw} (hk : k = 4) (hf : f.tyU cs ms ctx = some ft) (ha : a.tyU cs ms ctx = some at') (h : ft.args = at' :: rest) : (Rw.mk k t i [f, a]).tyU cs ms ctx = some (.mk rest ft.base) := by
  rw [Rw.tyU_eq, if_neg (show ¬ (Rw.mk k t i [f, a]).kind = 3 from fun e => by have : k = 3 := e; omega), if_pos (show (Rw.mk k t i [f, a]).kind = 4 from hk)]
  show appU [f.tyU cs ms ctx, a.tyU cs ms ctx] = _
  rw [hf, ha]
  exact appU_of h
theorem tyU_head {cs ms ctx : List Ty} {k i : Int} {t : Ty} {l : List Rw} (h3 : k ≠ 3) (h4 : k ≠ 4) : (Rw.mk k t i l).tyU cs ms ctx = pickA cs ms ctx k i := by
  rw [Rw.tyU_eq, if_neg (show ¬ (Rw.mk k t i l).kind = 3 from h3), if_neg (show ¬ (Rw.mk k t i l).kind = 4 from h4)]
  rfl

/-- bound ones are counted from the end -/
theorem pick0 {cs ms ctx : List Ty} {i : Int} {T : Ty} : pickA cs ms ctx 0 i = some T ↔ ∃ n : Nat, i = n ∧ n < ctx.length ∧ ctx.reverse[n]? = some T := by
  unfold pickA
  constructor
  · intro h
    by_cases h0 : i < 0
    · rw [if_pos h0] at h; cases h
    · rw [if_neg h0, if_pos rfl] at h
      by_cases h1 : i.toNat < ctx.length
      · rw [if_pos h1] at h
        refine ⟨i.toNat, by omega, h1, ?_⟩
        rw [List.getElem?_reverse h1]
        exact h
      · rw [if_neg h1] at h; cases h
  · rintro ⟨n, rfl, h1, h2⟩
    rw [if_neg (by omega), if_pos rfl, if_pos (by simpa using h1)]
    rw [List.getElem?_reverse h1] at h2
    simpa using h2
theorem pick_other {cs ms c1 c2 : List Ty} {k i : Int} (h : k ≠ 0) : pickA cs ms c1 k i = pickA cs ms c2 k i := by
  unfold pickA
  split
  · rfl
  · rfl
theorem wrap_small {n : Int} (h1 : -1000000000 ≤ n) (h2 : n ≤ 1000000000) : wrap64 n = n := by
  unfold wrap64
  omega

end Go.Proofs.Ytckagmagjogmnaa
