/-
  Which type is less: that the order is one.
-/
import Derived.Test.YtheokboggjnenaaTy
namespace Go.Proofs.Ytheokboggjnenaa

theorem sgn_anti (a b : Int) : sgn b a = - sgn a b := by unfold sgn; split <;> split <;> (try split) <;> omega
theorem sgn_zero (a b : Int) : sgn a b = 0 ↔ a = b := by unfold sgn; split <;> (try split) <;> omega
theorem sgn_self (a : Int) : sgn a a = 0 := (sgn_zero a a).2 rfl
theorem sgn_le (a b : Int) : sgn a b ≤ 0 ↔ a ≤ b := by unfold sgn; split <;> (try split) <;> omega
theorem sgn_lo (a b : Int) : -1 ≤ sgn a b ∧ sgn a b ≤ 1 := by unfold sgn; split <;> (try split) <;> omega

theorem cmpL_anti (l l' : List Ty) (h : ∀ t ∈ l, ∀ u, u.cmp t = - t.cmp u) (z : Int) : cmpL l' l (-z) = - cmpL l l' z := by
  induction l generalizing l' with
  | nil => cases l' <;> simp [cmpL]
  | cons t r ih => cases l' with
    | nil => simp [cmpL]
    | cons u r' =>
      have h1 := h t (by simp) u
      have h2 := ih r' (fun v hv => h v (by simp [hv]))
      simp only [cmpL, h1, h2]
      by_cases h0 : t.cmp u = 0
      · simp [h0]
      · rw [if_pos h0, if_pos (by omega)]
theorem cmp_anti (t : Ty) : ∀ u, u.cmp t = - t.cmp u := by
  induction t using Ty.ind with
  | h t ih =>
    intro u
    rw [t.cmp_eq u, u.cmp_eq t]
    by_cases h1 : t.size = u.size
    · rw [if_neg (show ¬ u.size ≠ t.size by omega), if_neg (show ¬ t.size ≠ u.size by omega)]
      by_cases h2 : t.args.length = u.args.length
      · rw [if_neg (show ¬ u.args.length ≠ t.args.length by omega), if_neg (show ¬ t.args.length ≠ u.args.length by omega), sgn_anti t.base u.base]
        exact cmpL_anti _ _ ih _
      · rw [if_pos (show u.args.length ≠ t.args.length by omega), if_pos (show t.args.length ≠ u.args.length by omega)]; exact sgn_anti _ _
    · rw [if_pos (show u.size ≠ t.size by omega), if_pos (show t.size ≠ u.size by omega)]; exact sgn_anti _ _
theorem cmpL_zero (l l' : List Ty) (h : ∀ t ∈ l, ∀ u, t.cmp u = 0 ↔ t = u) (z : Int) (hl : l.length = l'.length) : cmpL l l' z = 0 ↔ l = l' ∧ z = 0 := by
  induction l generalizing l' with
  | nil => cases l' with
    | nil => simp [cmpL]
    | cons u r' => simp at hl
  | cons t r ih => cases l' with
    | nil => simp at hl
    | cons u r' =>
      have h1 := h t (by simp) u
      have h2 := ih r' (fun v hv => h v (by simp [hv])) (by simpa using hl)
      simp only [cmpL]
      by_cases h0 : t.cmp u = 0
      · have e := h1.1 h0
        rw [if_neg (by omega), h2, e]
        simp
      · rw [if_pos h0]
        have : t ≠ u := fun e => h0 (h1.2 e)
        simp [h0, this]
theorem cmp_zero (t : Ty) : ∀ u, t.cmp u = 0 ↔ t = u := by
  induction t using Ty.ind with
  | h t ih =>
    intro u
    rw [t.cmp_eq]
    by_cases h1 : t.size = u.size
    · rw [if_neg (by omega)]
      by_cases h2 : t.args.length = u.args.length
      · rw [if_neg (by omega), cmpL_zero _ _ ih _ h2, sgn_zero]
        constructor
        · intro ⟨e1, e2⟩; rw [t.eta, u.eta, e1, e2]
        · intro e; subst e; exact ⟨rfl, rfl⟩
      · rw [if_pos (by omega), sgn_zero]
        constructor
        · intro e; omega
        · intro e; subst e; exact absurd rfl h2
    · rw [if_pos (by omega), sgn_zero]
      constructor
      · intro e; omega
      · intro e; subst e; exact absurd rfl h1
theorem cmp_self (t : Ty) : t.cmp t = 0 := (cmp_zero t t).2 rfl

theorem cmpL_trans (l m n : List Ty) (h : ∀ t ∈ l, ∀ u v, t.cmp u ≤ 0 → u.cmp v ≤ 0 → t.cmp v ≤ 0) (h1 : l.length = m.length) (h2 : m.length = n.length) (a b c : Int)
    (hx : cmpL l m (sgn a b) ≤ 0) (hy : cmpL m n (sgn b c) ≤ 0) : cmpL l n (sgn a c) ≤ 0 := by
  induction l generalizing m n with
  | nil =>
    cases m with
    | nil => cases n with
      | nil => simp only [cmpL] at *; rw [sgn_le] at *; omega
      | cons v n => simp at h2
    | cons u m => simp at h1
  | cons t l ih => cases m with
    | nil => simp at h1
    | cons u m => cases n with
      | nil => simp at h2
      | cons v n =>
        have hi := ih m n (fun w hw => h w (by simp [hw])) (by simpa using h1) (by simpa using h2)
        simp only [cmpL] at hx hy ⊢
        by_cases e1 : t.cmp u = 0
        · have := (cmp_zero t u).1 e1
          subst this
          rw [if_neg (by omega)] at hx
          by_cases e2 : t.cmp v = 0
          · rw [if_neg (by omega)] at hy ⊢
            exact hi hx hy
          · rw [if_pos e2] at hy ⊢
            exact hy
        · rw [if_pos e1] at hx
          have huv : u.cmp v ≤ 0 := by
            by_cases e2 : u.cmp v = 0
            · omega
            · rw [if_pos e2] at hy; exact hy
          have htv := h t (by simp) u v hx huv
          have hne : t.cmp v ≠ 0 := fun e => by
            have := (cmp_zero t v).1 e
            subst this
            have := cmp_anti t u
            omega
          rw [if_pos hne]
          exact htv
theorem cmp_trans (t : Ty) : ∀ u v, t.cmp u ≤ 0 → u.cmp v ≤ 0 → t.cmp v ≤ 0 := by
  induction t using Ty.ind with
  | h t ih =>
    intro u v hx hy
    rw [Ty.cmp_eq] at hx hy ⊢
    by_cases e1 : t.size = u.size
    · rw [if_neg (by omega)] at hx
      by_cases e2 : u.size = v.size
      · rw [if_neg (by omega)] at hy
        rw [if_neg (by omega)]
        by_cases e3 : t.args.length = u.args.length
        · rw [if_neg (by omega)] at hx
          by_cases e4 : u.args.length = v.args.length
          · rw [if_neg (by omega)] at hy
            rw [if_neg (by omega)]
            exact cmpL_trans _ _ _ ih e3 e4 _ _ _ hx hy
          · rw [if_pos (by omega), sgn_le] at hy
            rw [if_pos (by omega), sgn_le]
            omega
        · rw [if_pos (by omega), sgn_le] at hx
          by_cases e4 : u.args.length = v.args.length
          · rw [if_pos (by omega), sgn_le]
            omega
          · rw [if_pos (by omega), sgn_le] at hy
            rw [if_pos (by omega), sgn_le]
            omega
      · rw [if_pos (by omega), sgn_le] at hy
        rw [if_pos (by omega), sgn_le]
        omega
    · rw [if_pos (by omega), sgn_le] at hx
      by_cases e2 : u.size = v.size
      · rw [if_pos (by omega), sgn_le]
        omega
      · rw [if_pos (by omega), sgn_le] at hy
        rw [if_pos (by omega), sgn_le]
        omega
theorem cmpL_lo (l l' : List Ty) (h : ∀ t ∈ l, ∀ u, -1 ≤ t.cmp u ∧ t.cmp u ≤ 1) (z : Int) (hz : -1 ≤ z ∧ z ≤ 1) : -1 ≤ cmpL l l' z ∧ cmpL l l' z ≤ 1 := by
  induction l generalizing l' with
  | nil => simpa [cmpL] using hz
  | cons t r ih => cases l' with
    | nil => simpa [cmpL] using hz
    | cons u r' =>
      simp only [cmpL]
      split
      · exact h t (by simp) u
      · exact ih r' (fun v hv => h v (by simp [hv]))
theorem cmp_lo (t : Ty) : ∀ u, -1 ≤ t.cmp u ∧ t.cmp u ≤ 1 := by
  induction t using Ty.ind with
  | h t ih =>
    intro u
    rw [t.cmp_eq]
    split
    · exact sgn_lo _ _
    · split
      · exact sgn_lo _ _
      · exact cmpL_lo _ _ ih _ (sgn_lo _ _)

mutual
def Ty.szs : Ty → List Int
  | .mk l _ => ((1 + sizeL l : Nat) : Int) :: szsL l
def szsL : List Ty → List Int
  | [] => []
  | t :: r => t.szs ++ szsL r
end
theorem Ty.szs_eq (t : Ty) : t.szs = (t.size : Int) :: szsL t.args := by cases t; rfl
theorem szsL_append (a b : List Ty) : szsL (a ++ b) = szsL a ++ szsL b := by
  induction a with
  | nil => simp [szsL]
  | cons t a ih => simp [szsL, ih]
theorem szsL_length (a : List Ty) (h : ∀ t ∈ a, t.szs.length = t.size) : (szsL a).length = sizeL a := by
  induction a with
  | nil => rfl
  | cons t a ih => simp [szsL, sizeL, h t (by simp), ih (fun u hu => h u (by simp [hu]))]
theorem Ty.szs_length (t : Ty) : t.szs.length = t.size := by
  induction t using Ty.ind with
  | h t ih => rw [t.szs_eq, t.size_eq, List.length_cons, szsL_length _ ih]; omega
theorem szsL_len (a : List Ty) : (szsL a).length = sizeL a := szsL_length a (fun t _ => t.szs_length)
theorem szsL_take {ts : List Ty} {k : Nat} {u : Ty} (h : ts[k]? = some u) : szsL (ts.take (k + 1)) = szsL (ts.take k) ++ u.szs := by
  rw [List.take_add_one, h, szsL_append]; simp [szsL]
/-- the sizes of the k-th argument begin behind those of the ones ahead of it -/
theorem szs_at {t : Ty} {k : Nat} {u : Ty} (h : t.args[k]? = some u) (i : Nat) (x : Int) (hx : u.szs[i]? = some x) : t.szs[1 + sizeL (t.args.take k) + i]? = some x := by
  rw [t.szs_eq]
  obtain ⟨hl, he⟩ := List.getElem?_eq_some_iff.1 h
  rw [show 1 + sizeL (t.args.take k) + i = sizeL (t.args.take k) + i + 1 by omega, List.getElem?_cons_succ]
  have e : szsL t.args = szsL (t.args.take k) ++ (u.szs ++ szsL (t.args.drop (k + 1))) := by
    conv => lhs; rw [← List.take_append_drop k t.args, List.drop_eq_getElem_cons hl, he, szsL_append]
    simp [szsL]
  have hlx := (List.getElem?_eq_some_iff.1 hx).1
  rw [e, List.getElem?_append_right (by rw [szsL_len]; omega), szsL_len, show sizeL (t.args.take k) + i - sizeL (t.args.take k) = i by omega, List.getElem?_append_left hlx]
  exact hx

end Go.Proofs.Ytheokboggjnenaa
