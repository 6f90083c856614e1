/-
  Simple types as plain mathematics: their size, depth, the types within in order, whether two are the same, which is less.
-/
namespace Go.Proofs.Ytckagmagjogmnaa

/-- A simple type: its arguments, and its base. -/
inductive Ty where
  | mk (args : List Ty) (base : Int) : Ty
def Ty.args : Ty → List Ty
  | .mk l _ => l
def Ty.base : Ty → Int
  | .mk _ b => b
theorem Ty.eta (t : Ty) : t = .mk t.args t.base := by cases t; rfl

mutual
def Ty.size : Ty → Nat
  | .mk l _ => 1 + sizeL l
def sizeL : List Ty → Nat
  | [] => 0
  | t :: r => t.size + sizeL r
end
mutual
def Ty.depth : Ty → Nat
  | .mk l _ => 1 + depthL l
def depthL : List Ty → Nat
  | [] => 0
  | t :: r => max t.depth (depthL r)
end
mutual
def Ty.within (d : Nat) : Ty → List (Nat × Ty)
  | .mk l b => (d, .mk l b) :: withinL (d + 1) l
def withinL (d : Nat) : List Ty → List (Nat × Ty)
  | [] => []
  | t :: r => t.within d ++ withinL d r
end
mutual
def Ty.same : Ty → Ty → Bool
  | .mk l b, .mk l' b' => b == b' && sameL l l'
def sameL : List Ty → List Ty → Bool
  | [], [] => true
  | t :: r, t' :: r' => t.same t' && sameL r r'
  | _, _ => false
end
mutual
def Ty.low (n : Int) : Ty → Bool
  | .mk l b => decide (0 ≤ b) && decide (b < n) && lowL n l
def lowL (n : Int) : List Ty → Bool
  | [] => true
  | t :: r => t.low n && lowL n r
end

theorem Ty.size_eq (t : Ty) : t.size = 1 + sizeL t.args := by cases t; rfl
theorem Ty.depth_eq (t : Ty) : t.depth = 1 + depthL t.args := by cases t; rfl
theorem Ty.within_eq (d : Nat) (t : Ty) : t.within d = (d, t) :: withinL (d + 1) t.args := by cases t; rfl
theorem Ty.same_eq (t u : Ty) : t.same u = (t.base == u.base && sameL t.args u.args) := by cases t; cases u; rfl
theorem Ty.low_eq (n : Int) (t : Ty) : t.low n = (decide (0 ≤ t.base) && decide (t.base < n) && lowL n t.args) := by cases t; rfl
theorem Ty.size_pos (t : Ty) : 1 ≤ t.size := by rw [Ty.size_eq]; omega
theorem Ty.depth_pos (t : Ty) : 1 ≤ t.depth := by rw [Ty.depth_eq]; omega

theorem sizeL_append (a b : List Ty) : sizeL (a ++ b) = sizeL a + sizeL b := by
  induction a with
  | nil => simp [sizeL]
  | cons t a ih => simp [sizeL, ih]; omega
theorem sizeL_length (a : List Ty) : a.length ≤ sizeL a := by
  induction a with
  | nil => simp [sizeL]
  | cons t a ih => have := t.size_pos; simp [sizeL]; omega
theorem depthL_append (a b : List Ty) : depthL (a ++ b) = max (depthL a) (depthL b) := by
  induction a with
  | nil => simp [depthL]
  | cons t a ih => simp only [List.cons_append, depthL, ih]; omega
theorem withinL_append (d : Nat) (a b : List Ty) : withinL d (a ++ b) = withinL d a ++ withinL d b := by
  induction a with
  | nil => simp [withinL]
  | cons t a ih => simp [withinL, ih]
theorem size_mem {a : List Ty} {t : Ty} (h : t ∈ a) : t.size ≤ sizeL a := by
  induction a with
  | nil => cases h
  | cons u a ih =>
    rcases List.mem_cons.1 h with rfl | h
    · simp [sizeL]
    · have := ih h; simp [sizeL]; omega
theorem depth_mem {a : List Ty} {t : Ty} (h : t ∈ a) : t.depth ≤ depthL a := by
  induction a with
  | nil => cases h
  | cons u a ih =>
    rcases List.mem_cons.1 h with rfl | h
    · simp [depthL]; omega
    · have := ih h; simp [depthL]; omega
theorem depthL_le {a : List Ty} {n : Nat} (h : ∀ t ∈ a, t.depth ≤ n) : depthL a ≤ n := by
  induction a with
  | nil => simp [depthL]
  | cons u a ih =>
    have := ih (fun t ht => h t (by simp [ht]))
    have := h u (by simp)
    simp [depthL]; omega

/-- induction over a type's arguments -/
theorem Ty.ind {P : Ty → Prop} (h : ∀ t, (∀ u ∈ t.args, P u) → P t) (t : Ty) : P t := by
  have : ∀ n, ∀ t : Ty, t.size ≤ n → P t := by
    intro n
    induction n with
    | zero => intro t ht; have := t.size_pos; omega
    | succ n ih =>
      intro t ht
      refine h t fun u hu => ih u ?_
      have := size_mem hu
      rw [t.size_eq] at ht
      omega
  exact this _ t (Nat.le_refl _)

/-- The depth is at most the size. -/
theorem depthL_le_sizeL (a : List Ty) (h : ∀ t ∈ a, t.depth ≤ t.size) : depthL a ≤ sizeL a := by
  induction a with
  | nil => simp [depthL]
  | cons u a ih =>
    have := ih (fun t ht => h t (by simp [ht]))
    have := h u (by simp)
    simp [depthL, sizeL]; omega
theorem Ty.depth_le_size (t : Ty) : t.depth ≤ t.size := by
  induction t using Ty.ind with
  | h t ih =>
    have := depthL_le_sizeL t.args ih
    rw [t.depth_eq, t.size_eq]; omega

/-- as many types within as the size tells -/
theorem withinL_length (d : Nat) (a : List Ty) (h : ∀ t ∈ a, ∀ d, (t.within d).length = t.size) : (withinL d a).length = sizeL a := by
  induction a with
  | nil => simp [withinL, sizeL]
  | cons u a ih => simp [withinL, sizeL, h u (by simp), ih (fun t ht => h t (by simp [ht]))]
theorem Ty.within_length (t : Ty) : ∀ d, (t.within d).length = t.size := by
  induction t using Ty.ind with
  | h t ih => intro d; rw [t.within_eq, t.size_eq, List.length_cons, withinL_length _ _ ih]; omega

theorem sameL_iff (a b : List Ty) (h : ∀ t ∈ a, ∀ u, t.same u = true ↔ t = u) : sameL a b = true ↔ a = b := by
  induction a generalizing b with
  | nil => cases b <;> simp [sameL]
  | cons t a ih =>
    cases b with
    | nil => simp [sameL]
    | cons u b => simp [sameL, h t (by simp), ih b (fun t ht => h t (by simp [ht]))]
theorem Ty.same_iff (t : Ty) : ∀ u, t.same u = true ↔ t = u := by
  induction t using Ty.ind with
  | h t ih =>
    intro u
    rw [t.same_eq, Bool.and_eq_true, sameL_iff _ _ ih, beq_iff_eq]
    constructor
    · intro ⟨h1, h2⟩; rw [t.eta, u.eta, h1, h2]
    · intro h; subst h; exact ⟨rfl, rfl⟩
theorem Ty.same_self (t : Ty) : t.same t = true := (t.same_iff t).2 rfl
theorem sameL_length {a b : List Ty} (h : sameL a b = true) : a.length = b.length := by
  induction a generalizing b with
  | nil => cases b <;> simp_all [sameL]
  | cons t a ih => cases b with
    | nil => simp [sameL] at h
    | cons u b => simp [sameL] at h; simp [ih h.2]

/-- Which of two numbers is less. -/
def sgn (a b : Int) : Int := if a < b then -1 else if a > b then 1 else 0
mutual
def Ty.cmp : Ty → Ty → Int
  | .mk l b, .mk l' b' => if 1 + sizeL l ≠ 1 + sizeL l' then sgn (1 + sizeL l : Nat) (1 + sizeL l' : Nat) else if l.length ≠ l'.length then sgn l.length l'.length else cmpL l l' (sgn b b')
def cmpL : List Ty → List Ty → Int → Int
  | t :: r, t' :: r', z => if t.cmp t' ≠ 0 then t.cmp t' else cmpL r r' z
  | _, _, z => z
end
theorem Ty.cmp_eq (t u : Ty) : t.cmp u = if t.size ≠ u.size then sgn t.size u.size else if t.args.length ≠ u.args.length then sgn t.args.length u.args.length else cmpL t.args u.args (sgn t.base u.base) := by cases t; cases u; rfl

/-- few: counting that ends above the most. -/
def fewL (f : Ty → Nat) (most : Nat) : List Ty → Nat → Nat
  | [], n => n
  | t :: r, n => if n ≤ most then fewL f most r (n + f t) else n
def few (most : Nat) : Nat → Ty → Nat
  | 0, _ => most + 1
  | d + 1, t => fewL (few most d) most t.args 1
theorem fewL_le (f : Ty → Nat) (most m : Nat) (hf : ∀ t, f t ≤ m) (l : List Ty) (n : Nat) (hn : n ≤ most + m) : fewL f most l n ≤ most + m := by
  induction l generalizing n with
  | nil => exact hn
  | cons t r ih =>
    unfold fewL
    split
    · exact ih _ (by have := hf t; omega)
    · exact hn
theorem few_le (most : Nat) (d : Nat) (t : Ty) : few most d t ≤ most * (d + 1) + 1 := by
  induction d generalizing t with
  | zero => simp [few]
  | succ d ih =>
    unfold few
    have := fewL_le (few most d) most (most * (d + 1) + 1) ih t.args 1 (by omega)
    have e : most * (d + 1 + 1) = most * (d + 1) + most := by rw [Nat.mul_succ]
    omega
theorem fewL_yes (f : Ty → Nat) (most d : Nat) (l : List Ty) (hf : ∀ t ∈ l, f t ≤ most → f t = t.size ∧ t.depth ≤ d) (n : Nat) (h : fewL f most l n ≤ most) : fewL f most l n = n + sizeL l ∧ depthL l ≤ d := by
  induction l generalizing n with
  | nil => simp [fewL, sizeL, depthL]
  | cons t r ih =>
    unfold fewL at h ⊢
    split at h
    · rename_i hn
      rw [if_pos hn]
      have i := ih (fun u hu => hf u (by simp [hu])) (n + f t) h
      have ht := hf t (by simp) (by omega)
      simp only [sizeL, depthL]
      omega
    · omega
theorem few_yes (most : Nat) (d : Nat) (t : Ty) (h : few most d t ≤ most) : few most d t = t.size ∧ t.depth ≤ d := by
  induction d generalizing t with
  | zero => unfold few at h; omega
  | succ d ih =>
    unfold few at h ⊢
    have := fewL_yes (few most d) most d t.args (fun u _ hu => ih u hu) 1 h
    rw [t.size_eq, t.depth_eq]
    omega
theorem fewL_no (f : Ty → Nat) (most d : Nat) (l : List Ty) (hf : ∀ t ∈ l, t.size ≤ most → t.depth ≤ d → f t = t.size) (n : Nat) (h1 : n + sizeL l ≤ most) (h2 : depthL l ≤ d) : fewL f most l n = n + sizeL l := by
  induction l generalizing n with
  | nil => simp [fewL, sizeL]
  | cons t r ih =>
    simp only [sizeL, depthL] at h1 h2
    unfold fewL
    rw [if_pos (by omega), hf t (by simp) (by omega) (by omega), ih (fun u hu => hf u (by simp [hu])) _ (by omega) (by omega)]
    simp only [sizeL]; omega
theorem few_no (most : Nat) (d : Nat) (t : Ty) (h1 : t.size ≤ most) (h2 : t.depth ≤ d) : few most d t = t.size := by
  induction d generalizing t with
  | zero => have := t.depth_pos; omega
  | succ d ih =>
    unfold few
    rw [t.size_eq] at h1 ⊢
    rw [t.depth_eq] at h2
    exact fewL_no (few most d) most d t.args (fun u _ a b => ih u a b) 1 h1 (by omega)
theorem few_iff (most : Nat) (d : Nat) (t : Ty) : few most d t ≤ most ↔ t.size ≤ most ∧ t.depth ≤ d := by
  constructor
  · intro h; have := few_yes most d t h; omega
  · intro ⟨h1, h2⟩; rw [few_no most d t h1 h2]; exact h1

end Go.Proofs.Ytckagmagjogmnaa
