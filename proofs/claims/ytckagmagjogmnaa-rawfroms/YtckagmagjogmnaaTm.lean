/-
  Terms, and what the document says of them.
-/
import Derived.Test.YtckagmagjogmnaaTy
namespace Go.Proofs.Ytckagmagjogmnaa
open Go

/-- A term: its binders' types, its head's kind and index, its arguments. -/
inductive Tm where
  | mk : List Ty → Int → Int → List Tm → Tm
def Tm.binds : Tm → List Ty
  | .mk b _ _ _ => b
def Tm.kind : Tm → Int
  | .mk _ k _ _ => k
def Tm.idx : Tm → Int
  | .mk _ _ i _ => i
def Tm.args : Tm → List Tm
  | .mk _ _ _ l => l
theorem Tm.eta (t : Tm) : t = .mk t.binds t.kind t.idx t.args := by cases t; rfl

mutual
def Tm.size : Tm → Nat
  | .mk _ _ _ l => 1 + sizeT l
def sizeT : List Tm → Nat
  | [] => 0
  | t :: r => t.size + sizeT r
end
mutual
def Tm.depth : Tm → Nat
  | .mk _ _ _ l => 1 + depthT l
def depthT : List Tm → Nat
  | [] => 0
  | t :: r => max t.depth (depthT r)
end
mutual
def Tm.total : Tm → Nat
  | .mk b _ _ l => 1 + sizeL b + totalT l
def totalT : List Tm → Nat
  | [] => 0
  | t :: r => t.total + totalT r
end
mutual
def Tm.deep : Tm → Nat
  | .mk b _ _ l => max (depthL b) (1 + deepT l)
def deepT : List Tm → Nat
  | [] => 0
  | t :: r => max t.deep (deepT r)
end
mutual
def Tm.same : Tm → Tm → Bool
  | .mk b k i l, .mk b' k' i' l' => k == k' && i == i' && sameL b b' && sameT l l'
def sameT : List Tm → List Tm → Bool
  | [], [] => true
  | t :: r, t' :: r' => t.same t' && sameT r r'
  | _, _ => false
end
/-- A head, how deep it stands, and how many binders are around it. -/
structure Hd where
  deep : Nat
  around : Nat
  kind : Int
  idx : Int
mutual
def Tm.heads (d b : Nat) : Tm → List Hd
  | .mk l k i r => ⟨d, b + l.length, k, i⟩ :: headsT (d + 1) (b + l.length) r
def headsT (d b : Nat) : List Tm → List Hd
  | [] => []
  | t :: r => t.heads d b ++ headsT d b r
end

theorem Tm.size_eq (t : Tm) : t.size = 1 + sizeT t.args := by cases t; rfl
theorem Tm.depth_eq (t : Tm) : t.depth = 1 + depthT t.args := by cases t; rfl
theorem Tm.total_eq (t : Tm) : t.total = 1 + sizeL t.binds + totalT t.args := by cases t; rfl
theorem Tm.deep_eq (t : Tm) : t.deep = max (depthL t.binds) (1 + deepT t.args) := by cases t; rfl
theorem Tm.same_eq (t u : Tm) : t.same u = (t.kind == u.kind && t.idx == u.idx && sameL t.binds u.binds && sameT t.args u.args) := by cases t; cases u; rfl
theorem Tm.heads_eq (d b : Nat) (t : Tm) : t.heads d b = ⟨d, b + t.binds.length, t.kind, t.idx⟩ :: headsT (d + 1) (b + t.binds.length) t.args := by cases t; rfl
theorem Tm.size_pos (t : Tm) : 1 ≤ t.size := by rw [Tm.size_eq]; omega
theorem Tm.depth_pos (t : Tm) : 1 ≤ t.depth := by rw [Tm.depth_eq]; omega
theorem Tm.total_pos (t : Tm) : 1 ≤ t.total := by rw [Tm.total_eq]; omega
theorem Tm.deep_pos (t : Tm) : 1 ≤ t.deep := by rw [Tm.deep_eq]; omega

theorem sizeT_append (a b : List Tm) : sizeT (a ++ b) = sizeT a + sizeT b := by
  induction a with
  | nil => simp [sizeT]
  | cons t a ih => simp [sizeT, ih]; omega
theorem totalT_append (a b : List Tm) : totalT (a ++ b) = totalT a + totalT b := by
  induction a with
  | nil => simp [totalT]
  | cons t a ih => simp [totalT, ih]; omega
theorem depthT_append (a b : List Tm) : depthT (a ++ b) = max (depthT a) (depthT b) := by
  induction a with
  | nil => simp [depthT]
  | cons t a ih => simp only [List.cons_append, depthT, ih]; omega
theorem headsT_append (d b : Nat) (x y : List Tm) : headsT d b (x ++ y) = headsT d b x ++ headsT d b y := by
  induction x with
  | nil => simp [headsT]
  | cons t a ih => simp [headsT, ih]
theorem sizeT_length (a : List Tm) : a.length ≤ sizeT a := by
  induction a with
  | nil => simp [sizeT]
  | cons t a ih => have := t.size_pos; simp [sizeT]; omega
theorem totalT_length (a : List Tm) : a.length ≤ totalT a := by
  induction a with
  | nil => simp [totalT]
  | cons t a ih => have := t.total_pos; simp [totalT]; omega
theorem tsize_mem {a : List Tm} {t : Tm} (h : t ∈ a) : t.size ≤ sizeT a := by
  induction a with
  | nil => cases h
  | cons u a ih =>
    simp only [sizeT]
    rcases List.mem_cons.1 h with rfl | h
    · omega
    · have := ih h; omega
theorem total_mem {a : List Tm} {t : Tm} (h : t ∈ a) : t.total ≤ totalT a := by
  induction a with
  | nil => cases h
  | cons u a ih =>
    simp only [totalT]
    rcases List.mem_cons.1 h with rfl | h
    · omega
    · have := ih h; omega
theorem tdepth_mem {a : List Tm} {t : Tm} (h : t ∈ a) : t.depth ≤ depthT a := by
  induction a with
  | nil => cases h
  | cons u a ih =>
    simp only [depthT]
    rcases List.mem_cons.1 h with rfl | h
    · omega
    · have := ih h; omega

/-- induction over a term's arguments -/
theorem Tm.ind {P : Tm → Prop} (h : ∀ t, (∀ u ∈ t.args, P u) → P t) (t : Tm) : P t := by
  have : ∀ n, ∀ t : Tm, t.size ≤ n → P t := by
    intro n
    induction n with
    | zero => intro t ht; have := t.size_pos; omega
    | succ n ih =>
      intro t ht
      refine h t fun u hu => ih u ?_
      have := tsize_mem hu
      rw [t.size_eq] at ht
      omega
  exact this _ t (Nat.le_refl _)

theorem sizeT_le_totalT (a : List Tm) (h : ∀ t ∈ a, t.size ≤ t.total) : sizeT a ≤ totalT a := by
  induction a with
  | nil => simp [sizeT]
  | cons u a ih =>
    have := ih (fun t ht => h t (by simp [ht]))
    have := h u (by simp)
    simp [totalT, sizeT]; omega
theorem Tm.size_le_total (t : Tm) : t.size ≤ t.total := by
  induction t using Tm.ind with
  | h t ih =>
    have := sizeT_le_totalT t.args ih
    rw [t.size_eq, t.total_eq]; omega
theorem depthT_le_sizeT (a : List Tm) (h : ∀ t ∈ a, t.depth ≤ t.size) : depthT a ≤ sizeT a := by
  induction a with
  | nil => simp [depthT]
  | cons u a ih =>
    have := ih (fun t ht => h t (by simp [ht]))
    have := h u (by simp)
    simp [depthT, sizeT]; omega
theorem Tm.depth_le_size (t : Tm) : t.depth ≤ t.size := by
  induction t using Tm.ind with
  | h t ih =>
    have := depthT_le_sizeT t.args ih
    rw [t.depth_eq, t.size_eq]; omega
theorem headsT_length (d b : Nat) (a : List Tm) (h : ∀ t ∈ a, ∀ d b, (t.heads d b).length = t.size) : (headsT d b a).length = sizeT a := by
  induction a with
  | nil => simp [headsT, sizeT]
  | cons u a ih => simp [headsT, sizeT, h u (by simp), ih (fun t ht => h t (by simp [ht]))]
theorem Tm.heads_length (t : Tm) : ∀ d b, (t.heads d b).length = t.size := by
  induction t using Tm.ind with
  | h t ih => intro d b; rw [t.heads_eq, t.size_eq, List.length_cons, headsT_length _ _ _ ih]; omega

theorem sameT_iff (a b : List Tm) (h : ∀ t ∈ a, ∀ u, t.same u = true ↔ t = u) : sameT a b = true ↔ a = b := by
  induction a generalizing b with
  | nil => cases b <;> simp [sameT]
  | cons t a ih =>
    cases b with
    | nil => simp [sameT]
    | cons u b => simp [sameT, h t (by simp), ih b (fun t ht => h t (by simp [ht]))]
theorem sameL_iff' (a b : List Ty) : sameL a b = true ↔ a = b := sameL_iff a b fun t _ u => t.same_iff u
theorem Tm.same_iff (t : Tm) : ∀ u, t.same u = true ↔ t = u := by
  induction t using Tm.ind with
  | h t ih =>
    intro u
    rw [t.same_eq, Bool.and_eq_true, Bool.and_eq_true, Bool.and_eq_true, sameT_iff _ _ ih, beq_iff_eq, beq_iff_eq, sameL_iff']
    constructor
    · intro ⟨⟨⟨h1, h2⟩, h3⟩, h4⟩; rw [t.eta, u.eta, h1, h2, h3, h4]
    · intro h; subst h; exact ⟨⟨⟨rfl, rfl⟩, rfl⟩, rfl⟩
theorem Tm.same_self (t : Tm) : t.same t = true := (t.same_iff t).2 rfl
theorem sameT_iff' (a b : List Tm) : sameT a b = true ↔ a = b := sameT_iff a b fun t _ u => t.same_iff u

end Go.Proofs.Ytckagmagjogmnaa
