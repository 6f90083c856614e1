/-
  Terms whose heads' numbers fit an int.
-/
import Derived.Test.YtheokboggjnenaaTm
namespace Go.Proofs.Ytheokboggjnenaa

/-- A number that fits an int. -/
def fits (n : Int) : Prop := -9223372036854775808 ≤ n ∧ n ≤ 9223372036854775807
mutual
def Tm.rng : Tm → Prop
  | .mk _ k i l => (fits k ∧ fits i) ∧ rngT l
def rngT : List Tm → Prop
  | [] => True
  | t :: r => t.rng ∧ rngT r
end
theorem Tm.rng_eq (t : Tm) : t.rng ↔ (fits t.kind ∧ fits t.idx) ∧ rngT t.args := by cases t; exact Iff.rfl
theorem rngT_iff (l : List Tm) : rngT l ↔ ∀ t ∈ l, t.rng := by
  induction l with
  | nil => simp [rngT]
  | cons t r ih => simp [rngT, ih]
theorem rng_headsT (l : List Tm) (h : ∀ t ∈ l, t.rng → ∀ d b, ∀ p ∈ t.heads d b, fits p.kind ∧ fits p.idx) (hr : rngT l) (d b : Nat) : ∀ p ∈ headsT d b l, fits p.kind ∧ fits p.idx := by
  induction l with
  | nil => intro p hp; cases hp
  | cons t r ih =>
    intro p hp
    rcases List.mem_append.1 (show p ∈ t.heads d b ++ headsT d b r from hp) with h1 | h1
    · exact h t (by simp) hr.1 d b p h1
    · exact ih (fun u hu => h u (by simp [hu])) hr.2 p h1
theorem rng_heads (t : Tm) : t.rng → ∀ d b, ∀ p ∈ t.heads d b, fits p.kind ∧ fits p.idx := by
  induction t using Tm.ind with
  | h t ih =>
    intro hr d b p hp
    rw [t.rng_eq] at hr
    rw [t.heads_eq] at hp
    rcases List.mem_cons.1 hp with rfl | hp
    · exact hr.1
    · exact rng_headsT t.args ih hr.2 _ _ p hp
theorem around_headsT (l : List Tm) (h : ∀ t ∈ l, ∀ d b, ∀ p ∈ t.heads d b, p.around ≤ b + t.total) (d b : Nat) : ∀ p ∈ headsT d b l, p.around ≤ b + totalT l := by
  induction l with
  | nil => intro p hp; cases hp
  | cons t r ih =>
    intro p hp
    have ht : totalT (t :: r) = t.total + totalT r := rfl
    rcases List.mem_append.1 (show p ∈ t.heads d b ++ headsT d b r from hp) with h1 | h1
    · have := h t (by simp) d b p h1; omega
    · have := ih (fun u hu => h u (by simp [hu])) p h1; omega
theorem around_heads (t : Tm) : ∀ d b, ∀ p ∈ t.heads d b, p.around ≤ b + t.total := by
  induction t using Tm.ind with
  | h t ih =>
    intro d b p hp
    have hl := sizeL_length t.binds
    rw [t.heads_eq] at hp
    rw [t.total_eq]
    rcases List.mem_cons.1 hp with rfl | hp
    · show b + t.binds.length ≤ _
      omega
    · have := around_headsT t.args ih _ _ p hp
      omega

/-- A head as it is seen from outside of all binders around it, and whether it is loose. -/
def Hd.out (p : Hd) : Option Int := if p.kind = 0 ∧ (p.around : Int) ≤ p.idx then some (p.idx - p.around) else none
/-- What a head makes of the greatest loose index. -/
def Hd.lo (p : Hd) : Int := match p.out with
  | some i => min i 1000 + 1
  | none => 0
def lmax : List Hd → Int
  | [] => 0
  | p :: r => max p.lo (lmax r)
theorem Hd.lo_nonneg (p : Hd) : 0 ≤ p.lo ∧ p.lo ≤ 1001 := by
  unfold Hd.lo Hd.out
  by_cases h : p.kind = 0 ∧ (p.around : Int) ≤ p.idx
  · rw [if_pos h]; simp only; omega
  · rw [if_neg h]; simp only; omega
theorem lmax_nonneg (l : List Hd) : 0 ≤ lmax l ∧ lmax l ≤ 1001 := by
  induction l with
  | nil => simp [lmax]
  | cons p r ih => have := p.lo_nonneg; simp only [lmax]; omega
theorem lmax_append (a b : List Hd) : lmax (a ++ b) = max (lmax a) (lmax b) := by
  induction a with
  | nil => have := lmax_nonneg b; simp only [List.nil_append, lmax]; omega
  | cons p a ih => simp only [List.cons_append, lmax, ih]; omega
theorem lmax_snoc (a : List Hd) (p : Hd) : lmax (a ++ [p]) = max (lmax a) p.lo := by
  rw [lmax_append]
  have := p.lo_nonneg
  simp only [lmax]
  omega
def looseI (t : Tm) : Int := lmax (t.heads 1 0)

end Go.Proofs.Ytheokboggjnenaa
