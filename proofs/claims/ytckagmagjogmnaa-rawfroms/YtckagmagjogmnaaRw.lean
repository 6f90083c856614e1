/-
  Raw terms, and what the document says of them.
-/
import Derived.Test.YtckagmagjogmnaaTy
namespace Go.Proofs.Ytckagmagjogmnaa
open Go

/-- A raw term: its kind, its type, its index, its kids. -/
inductive Rw where
  | mk : Int → Ty → Int → List Rw → Rw
def Rw.kind : Rw → Int
  | .mk k _ _ _ => k
def Rw.ty : Rw → Ty
  | .mk _ t _ _ => t
def Rw.idx : Rw → Int
  | .mk _ _ i _ => i
def Rw.kids : Rw → List Rw
  | .mk _ _ _ l => l
theorem Rw.eta (r : Rw) : r = .mk r.kind r.ty r.idx r.kids := by cases r; rfl

mutual
def Rw.size : Rw → Nat
  | .mk _ _ _ l => 1 + sizeR l
def sizeR : List Rw → Nat
  | [] => 0
  | t :: r => t.size + sizeR r
end
mutual
def Rw.depth : Rw → Nat
  | .mk _ _ _ l => 1 + depthR l
def depthR : List Rw → Nat
  | [] => 0
  | t :: r => max t.depth (depthR r)
end
mutual
def Rw.total : Rw → Nat
  | .mk _ t _ l => 1 + t.size + totalR l
def totalR : List Rw → Nat
  | [] => 0
  | t :: r => t.total + totalR r
end
mutual
def Rw.deep : Rw → Nat
  | .mk _ t _ l => max t.depth (1 + deepR l)
def deepR : List Rw → Nat
  | [] => 0
  | t :: r => max t.deep (deepR r)
end
/-- a head's kind -/
def isHd (k : Int) : Bool := decide (0 ≤ k) && decide (k < 3)
mutual
def Rw.same : Rw → Rw → Bool
  | .mk k t i l, .mk k' t' i' l' => k == k' && (!(k == 3) || t.same t') && (!isHd k || i == i') && sameR l l'
def sameR : List Rw → List Rw → Bool
  | [], [] => true
  | t :: r, t' :: r' => t.same t' && sameR r r'
  | _, _ => false
end
/-- as many kids as its kind has -/
def wellR (k : Int) (n : Nat) : Bool := if k = 3 then n == 1 else if k = 4 then n == 2 else isHd k && n == 0
mutual
def Rw.shaped : Rw → Bool
  | .mk k _ _ l => wellR k l.length && shapedR l
def shapedR : List Rw → Bool
  | [] => true
  | t :: r => t.shaped && shapedR r
end
/-- how many binders are around the kids -/
def inR (k : Int) (b : Nat) : Nat := if k = 3 then b + 1 else b
/-- how far an index points beyond so many -/
def farR (i : Int) (b : Nat) : Nat := if i < b then 0 else min (i - b).toNat 1000 + 1
mutual
def Rw.loose (b : Nat) : Rw → Nat
  | .mk k _ i l => if k = 0 then farR i b else looseR (inR k b) l
def looseR (b : Nat) : List Rw → Nat
  | [] => 0
  | t :: r => max (t.loose b) (looseR b r)
end

theorem Rw.size_eq (t : Rw) : t.size = 1 + sizeR t.kids := by cases t; rfl
theorem Rw.depth_eq (t : Rw) : t.depth = 1 + depthR t.kids := by cases t; rfl
theorem Rw.total_eq (t : Rw) : t.total = 1 + t.ty.size + totalR t.kids := by cases t; rfl
theorem Rw.deep_eq (t : Rw) : t.deep = max t.ty.depth (1 + deepR t.kids) := by cases t; rfl
theorem Rw.same_eq (t u : Rw) : t.same u = (t.kind == u.kind && (!(t.kind == 3) || t.ty.same u.ty) && (!isHd t.kind || t.idx == u.idx) && sameR t.kids u.kids) := by cases t; cases u; rfl
theorem Rw.shaped_eq (t : Rw) : t.shaped = (wellR t.kind t.kids.length && shapedR t.kids) := by cases t; rfl
theorem Rw.loose_eq (b : Nat) (t : Rw) : t.loose b = if t.kind = 0 then farR t.idx b else looseR (inR t.kind b) t.kids := by cases t; rfl
theorem Rw.size_pos (t : Rw) : 1 ≤ t.size := by rw [Rw.size_eq]; omega
theorem Rw.depth_pos (t : Rw) : 1 ≤ t.depth := by rw [Rw.depth_eq]; omega
theorem Rw.total_pos (t : Rw) : 1 ≤ t.total := by rw [Rw.total_eq]; omega
theorem Rw.deep_pos (t : Rw) : 1 ≤ t.deep := by rw [Rw.deep_eq]; omega

theorem sizeR_append (a b : List Rw) : sizeR (a ++ b) = sizeR a + sizeR b := by
  induction a with
  | nil => simp [sizeR]
  | cons t a ih => simp [sizeR, ih]; omega
theorem totalR_append (a b : List Rw) : totalR (a ++ b) = totalR a + totalR b := by
  induction a with
  | nil => simp [totalR]
  | cons t a ih => simp [totalR, ih]; omega
theorem depthR_append (a b : List Rw) : depthR (a ++ b) = max (depthR a) (depthR b) := by
  induction a with
  | nil => simp [depthR]
  | cons t a ih => simp only [List.cons_append, depthR, ih]; omega
theorem deepR_append (a b : List Rw) : deepR (a ++ b) = max (deepR a) (deepR b) := by
  induction a with
  | nil => simp [deepR]
  | cons t a ih => simp only [List.cons_append, deepR, ih]; omega
theorem looseR_append (n : Nat) (a b : List Rw) : looseR n (a ++ b) = max (looseR n a) (looseR n b) := by
  induction a with
  | nil => simp [looseR]
  | cons t a ih => simp only [List.cons_append, looseR, ih]; omega
theorem sizeR_length (a : List Rw) : a.length ≤ sizeR a := by
  induction a with
  | nil => simp [sizeR]
  | cons t a ih => have := t.size_pos; simp [sizeR]; omega
theorem totalR_length (a : List Rw) : a.length ≤ totalR a := by
  induction a with
  | nil => simp [totalR]
  | cons t a ih => have := t.total_pos; simp [totalR]; omega
theorem rsize_mem {a : List Rw} {t : Rw} (h : t ∈ a) : t.size ≤ sizeR a := by
  induction a with
  | nil => cases h
  | cons u a ih =>
    simp only [sizeR]
    rcases List.mem_cons.1 h with rfl | h
    · omega
    · have := ih h; omega
theorem rtotal_mem {a : List Rw} {t : Rw} (h : t ∈ a) : t.total ≤ totalR a := by
  induction a with
  | nil => cases h
  | cons u a ih =>
    simp only [totalR]
    rcases List.mem_cons.1 h with rfl | h
    · omega
    · have := ih h; omega
theorem rdepth_mem {a : List Rw} {t : Rw} (h : t ∈ a) : t.depth ≤ depthR a := by
  induction a with
  | nil => cases h
  | cons u a ih =>
    simp only [depthR]
    rcases List.mem_cons.1 h with rfl | h
    · omega
    · have := ih h; omega
theorem rdeep_mem {a : List Rw} {t : Rw} (h : t ∈ a) : t.deep ≤ deepR a := by
  induction a with
  | nil => cases h
  | cons u a ih =>
    simp only [deepR]
    rcases List.mem_cons.1 h with rfl | h
    · omega
    · have := ih h; omega
theorem sizeR_take {ts : List Rw} {k : Nat} {t : Rw} (h : ts[k]? = some t) : sizeR (ts.take (k + 1)) = sizeR (ts.take k) + t.size := by
  rw [List.take_add_one, h, sizeR_append]; simp [sizeR]
theorem sizeR_take_le (ts : List Rw) (k : Nat) : sizeR (ts.take k) ≤ sizeR ts := by
  conv => rhs; rw [← List.take_append_drop k ts, sizeR_append]
  omega
theorem depthR_take {ts : List Rw} {k : Nat} {t : Rw} (h : ts[k]? = some t) : depthR (ts.take (k + 1)) = max (depthR (ts.take k)) t.depth := by
  rw [List.take_add_one, h, depthR_append]; simp [depthR]
theorem depthR_take_le (ts : List Rw) (k : Nat) : depthR (ts.take k) ≤ depthR ts := by
  conv => rhs; rw [← List.take_append_drop k ts, depthR_append]
  omega
theorem totalR_take {ts : List Rw} {k : Nat} {t : Rw} (h : ts[k]? = some t) : totalR (ts.take (k + 1)) = totalR (ts.take k) + t.total := by
  rw [List.take_add_one, h, totalR_append]; simp [totalR]
theorem totalR_take_le (ts : List Rw) (k : Nat) : totalR (ts.take k) ≤ totalR ts := by
  conv => rhs; rw [← List.take_append_drop k ts, totalR_append]
  omega
theorem deepR_take {ts : List Rw} {k : Nat} {t : Rw} (h : ts[k]? = some t) : deepR (ts.take (k + 1)) = max (deepR (ts.take k)) t.deep := by
  rw [List.take_add_one, h, deepR_append]; simp [deepR]
theorem looseR_take {n : Nat} {ts : List Rw} {k : Nat} {t : Rw} (h : ts[k]? = some t) : looseR n (ts.take (k + 1)) = max (looseR n (ts.take k)) (t.loose n) := by
  rw [List.take_add_one, h, looseR_append]; simp [looseR]

/-- induction over a raw term's kids -/
theorem Rw.ind {P : Rw → Prop} (h : ∀ t, (∀ u ∈ t.kids, P u) → P t) (t : Rw) : P t := by
  have : ∀ n, ∀ t : Rw, t.size ≤ n → P t := by
    intro n
    induction n with
    | zero => intro t ht; have := t.size_pos; omega
    | succ n ih =>
      intro t ht
      refine h t fun u hu => ih u ?_
      have := rsize_mem hu
      rw [t.size_eq] at ht
      omega
  exact this _ t (Nat.le_refl _)

theorem sizeR_le_totalR (a : List Rw) (h : ∀ t ∈ a, t.size ≤ t.total) : sizeR a ≤ totalR a := by
  induction a with
  | nil => simp [sizeR]
  | cons u a ih =>
    have := ih (fun t ht => h t (by simp [ht]))
    have := h u (by simp)
    simp [totalR, sizeR]; omega
theorem Rw.size_le_total (t : Rw) : t.size ≤ t.total := by
  induction t using Rw.ind with
  | h t ih =>
    have := sizeR_le_totalR t.kids ih
    rw [t.size_eq, t.total_eq]; omega
theorem depthR_le_sizeR (a : List Rw) (h : ∀ t ∈ a, t.depth ≤ t.size) : depthR a ≤ sizeR a := by
  induction a with
  | nil => simp [depthR]
  | cons u a ih =>
    have := ih (fun t ht => h t (by simp [ht]))
    have := h u (by simp)
    simp [depthR, sizeR]; omega
theorem Rw.depth_le_size (t : Rw) : t.depth ≤ t.size := by
  induction t using Rw.ind with
  | h t ih =>
    have := depthR_le_sizeR t.kids ih
    rw [t.depth_eq, t.size_eq]; omega
theorem depthR_le_deepR (a : List Rw) (h : ∀ t ∈ a, t.depth ≤ t.deep) : depthR a ≤ deepR a := by
  induction a with
  | nil => simp [depthR]
  | cons u a ih =>
    have := ih (fun t ht => h t (by simp [ht]))
    have := h u (by simp)
    simp [depthR, deepR]; omega
theorem Rw.depth_le_deep (t : Rw) : t.depth ≤ t.deep := by
  induction t using Rw.ind with
  | h t ih =>
    have := depthR_le_deepR t.kids ih
    rw [t.depth_eq, t.deep_eq]; omega
theorem looseR_le (b : Nat) (a : List Rw) (h : ∀ t ∈ a, ∀ b, t.loose b ≤ 1001) : looseR b a ≤ 1001 := by
  induction a with
  | nil => simp [looseR]
  | cons u a ih =>
    have := ih (fun t ht => h t (by simp [ht]))
    have := h u (by simp) b
    simp only [looseR]; omega
theorem Rw.loose_le (t : Rw) : ∀ b, t.loose b ≤ 1001 := by
  induction t using Rw.ind with
  | h t ih =>
    intro b
    rw [t.loose_eq]
    split
    · unfold farR; split <;> omega
    · exact looseR_le _ _ ih

theorem sameR_self (a : List Rw) (h : ∀ t ∈ a, t.same t = true) : sameR a a = true := by
  induction a with
  | nil => simp [sameR]
  | cons u a ih => simp [sameR, h u (by simp), ih (fun t ht => h t (by simp [ht]))]
theorem Rw.same_self (t : Rw) : t.same t = true := by
  induction t using Rw.ind with
  | h t ih => rw [t.same_eq]; simp [sameR_self _ ih, Ty.same_self]
theorem sameR_self' (a : List Rw) : sameR a a = true := sameR_self a fun t _ => t.same_self
theorem sameR_length {a b : List Rw} (h : sameR a b = true) : a.length = b.length := by
  induction a generalizing b with
  | nil => cases b <;> simp_all [sameR]
  | cons t a ih => cases b with
    | nil => simp [sameR] at h
    | cons u b => simp [sameR] at h; simp [ih h.2]

def SameUpR (ts us : List Rw) (k : Nat) : Prop := ∀ (i : Nat) (t u : Rw), i < k → ts[i]? = some t → us[i]? = some u → t.same u = true
theorem SameUpR.step {ts us : List Rw} {k : Nat} {t u : Rw} (h : SameUpR ts us k) (ht : ts[k]? = some t) (hu : us[k]? = some u) (hp : t.same u = true) : SameUpR ts us (k + 1) := by
  intro i a b hi ha hb
  rcases Nat.lt_or_ge i k with hl | hl
  · exact h i a b hl ha hb
  · obtain rfl : i = k := by omega
    rw [ht] at ha; rw [hu] at hb; cases ha; cases hb; exact hp
theorem sameR_of_up (ts us : List Rw) (hl : ts.length = us.length) (h : ∀ (i : Nat) (t u : Rw), ts[i]? = some t → us[i]? = some u → t.same u = true) : sameR ts us = true := by
  induction ts generalizing us with
  | nil => cases us with
    | nil => rfl
    | cons u us => simp at hl
  | cons t ts ih => cases us with
    | nil => simp at hl
    | cons u us =>
      have h0 := h 0 t u (by simp) (by simp)
      have := ih us (by simpa using hl) (fun i a b ha hb => h (i + 1) a b (by simpa using ha) (by simpa using hb))
      simp [sameR, h0, this]
theorem sameR_no (ts us : List Rw) (i : Nat) (t u : Rw) (ht : ts[i]? = some t) (hu : us[i]? = some u) (h : t.same u = false) : sameR ts us = false := by
  induction ts generalizing us i with
  | nil => simp at ht
  | cons a ts ih => cases us with
    | nil => simp at hu
    | cons b us =>
      cases i with
      | zero => simp at ht hu; subst ht; subst hu; simp [sameR, h]
      | succ i => have := ih us i (by simpa using ht) (by simpa using hu); simp [sameR, this]
theorem sameR_len (ts us : List Rw) (h : ts.length ≠ us.length) : sameR ts us = false := by
  cases hs : sameR ts us with
  | false => rfl
  | true => exact absurd (sameR_length hs) h

def ShapedUp (ts : List Rw) (k : Nat) : Prop := ∀ (i : Nat) (t : Rw), i < k → ts[i]? = some t → t.shaped = true
theorem ShapedUp.step {ts : List Rw} {k : Nat} {t : Rw} (h : ShapedUp ts k) (ht : ts[k]? = some t) (hp : t.shaped = true) : ShapedUp ts (k + 1) := by
  intro i a hi ha
  rcases Nat.lt_or_ge i k with hl | hl
  · exact h i a hl ha
  · obtain rfl : i = k := by omega
    rw [ht] at ha; cases ha; exact hp
theorem shapedR_iff (a : List Rw) : shapedR a = true ↔ ∀ t ∈ a, t.shaped = true := by
  induction a with
  | nil => simp [shapedR]
  | cons u a ih => simp [shapedR, ih]
theorem ShapedUp.all {ts : List Rw} (h : ShapedUp ts ts.length) : shapedR ts = true := by
  rw [shapedR_iff]
  intro t ht
  obtain ⟨i, hi⟩ := List.mem_iff_getElem?.1 ht
  exact h i t (List.getElem?_eq_some_iff.1 hi).1 hi
theorem shapedR_no {ts : List Rw} {t : Rw} (ht : t ∈ ts) (h : t.shaped = false) : shapedR ts = false := by
  cases hs : shapedR ts with
  | false => rfl
  | true => rw [(shapedR_iff ts).1 hs t ht] at h; cases h

/-- What may be: of its kinds, at most 5000, at most 60 deep. -/
def Rw.right (t : Rw) : Bool := t.shaped && decide (t.size ≤ 5000) && decide (t.depth ≤ 60)

/-- A head. -/
def hdR (k i : Int) : Rw := .mk k (.mk [] 0) i []
/-- f applied to a. -/
def appR (f a : Rw) : Rw := .mk 4 (.mk [] 0) 0 [f, a]
/-- b within a Lam. -/
def lamR (t : Ty) (b : Rw) : Rw := .mk 3 t 0 [b]

end Go.Proofs.Ytckagmagjogmnaa
