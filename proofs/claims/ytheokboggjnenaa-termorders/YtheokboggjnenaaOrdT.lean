/-
  Which term is less, as plain mathematics; and the contract of the document's sign.
-/
import Derived.Test.YtheokboggjnenaaCmpAll
import Derived.Test.YtheokboggjnenaaTm
namespace Go.Proofs.Ytheokboggjnenaa
open Go Go.RowKit Go.Sort

mutual
/-- -1, 0 or 1, as the one is less, the same, or greater. -/
def Tm.cmp : Tm → Tm → Int
  | .mk b k i l, .mk b' k' i' l' => if 1 + sizeT l ≠ 1 + sizeT l' then sgn (1 + sizeT l : Nat) (1 + sizeT l' : Nat) else if cmpAllL b b' ≠ 0 then cmpAllL b b' else if sgn k k' ≠ 0 then sgn k k' else if sgn i i' ≠ 0 then sgn i i' else if l.length ≠ l'.length then sgn l.length l'.length else cmpT l l'
def cmpT : List Tm → List Tm → Int
  | t :: r, t' :: r' => if t.cmp t' ≠ 0 then t.cmp t' else cmpT r r'
  | _, _ => 0
end
theorem Tm.cmp_eq (t u : Tm) : t.cmp u = if t.size ≠ u.size then sgn t.size u.size else if cmpAllL t.binds u.binds ≠ 0 then cmpAllL t.binds u.binds else if sgn t.kind u.kind ≠ 0 then sgn t.kind u.kind else if sgn t.idx u.idx ≠ 0 then sgn t.idx u.idx else if t.args.length ≠ u.args.length then sgn t.args.length u.args.length else cmpT t.args u.args := by
  cases t; cases u
  rw [Tm.cmp]
  rfl
theorem cmpT_drop {ts us : List Tm} {k : Nat} {t u : Tm} (ht : ts[k]? = some t) (hu : us[k]? = some u) : cmpT (ts.drop k) (us.drop k) = if t.cmp u ≠ 0 then t.cmp u else cmpT (ts.drop (k + 1)) (us.drop (k + 1)) := by
  obtain ⟨h1, e1⟩ := List.getElem?_eq_some_iff.1 ht
  obtain ⟨h2, e2⟩ := List.getElem?_eq_some_iff.1 hu
  rw [List.drop_eq_getElem_cons h1, List.drop_eq_getElem_cons h2, e1, e2]
  simp [cmpT]

theorem cmpAllL_anti (l l' : List Ty) : cmpAllL l' l = - cmpAllL l l' := by
  unfold cmpAllL
  by_cases h : l.length = l'.length
  · rw [if_neg (by omega), if_neg (by omega)]
    have := cmpL_anti l l' (fun t _ => cmp_anti t) 0
    simpa using this
  · rw [if_pos (by omega), if_pos (by omega)]
    exact sgn_anti _ _
theorem cmpAllL_zero (l l' : List Ty) : cmpAllL l l' = 0 ↔ l = l' := by
  unfold cmpAllL
  by_cases h : l.length = l'.length
  · rw [if_neg (by omega), cmpL_zero l l' (fun t _ => cmp_zero t) 0 h]
    simp
  · rw [if_pos (by omega), sgn_zero]
    constructor
    · intro e; omega
    · intro e; rw [e]
theorem cmpAllL_lo (l l' : List Ty) : -1 ≤ cmpAllL l l' ∧ cmpAllL l l' ≤ 1 := by
  unfold cmpAllL
  split
  · exact sgn_lo _ _
  · exact cmpL_lo l l' (fun t _ => cmp_lo t) 0 (by omega)

theorem cmpT_anti (l l' : List Tm) (h : ∀ t ∈ l, ∀ u, u.cmp t = - t.cmp u) : cmpT l' l = - cmpT l l' := by
  induction l generalizing l' with
  | nil => cases l' <;> simp [cmpT]
  | cons t r ih => cases l' with
    | nil => simp [cmpT]
    | cons u r' =>
      have h1 := h t (by simp) u
      have h2 := ih r' (fun v hv => h v (by simp [hv]))
      simp only [cmpT, h1, h2]
      by_cases h0 : t.cmp u = 0
      · simp [h0]
      · rw [if_pos h0, if_pos (by omega)]
theorem tcmp_anti (t : Tm) : ∀ u, u.cmp t = - t.cmp u := by
  induction t using Tm.ind with
  | h t ih =>
    intro u
    rw [t.cmp_eq u, u.cmp_eq t]
    by_cases h1 : t.size = u.size
    · rw [if_neg (show ¬ u.size ≠ t.size by omega), if_neg (show ¬ t.size ≠ u.size by omega), cmpAllL_anti t.binds u.binds, sgn_anti t.kind u.kind, sgn_anti t.idx u.idx]
      have hA := cmpT_anti t.args u.args ih
      have hS := sgn_anti (t.args.length : Int) (u.args.length : Int)
      generalize cmpAllL t.binds u.binds = p
      generalize sgn t.kind u.kind = q
      generalize sgn t.idx u.idx = r
      by_cases h2 : p = 0
      · subst h2
        by_cases h3 : q = 0
        · subst h3
          by_cases h4 : r = 0
          · subst h4
            by_cases h5 : t.args.length = u.args.length
            · rw [if_neg (show ¬ u.args.length ≠ t.args.length by omega), if_neg (show ¬ t.args.length ≠ u.args.length by omega), hA]
              simp
            · rw [if_pos (show u.args.length ≠ t.args.length by omega), if_pos (show t.args.length ≠ u.args.length by omega), hS]
              simp
          · simp [h4]
        · simp [h3]
      · simp [h2]
    · rw [if_pos (show u.size ≠ t.size by omega), if_pos (show t.size ≠ u.size by omega)]; exact sgn_anti _ _
theorem cmpT_zero (l l' : List Tm) (h : ∀ t ∈ l, ∀ u, t.cmp u = 0 ↔ t = u) (hl : l.length = l'.length) : cmpT l l' = 0 ↔ l = l' := by
  induction l generalizing l' with
  | nil => cases l' with
    | nil => simp [cmpT]
    | cons u r' => simp at hl
  | cons t r ih => cases l' with
    | nil => simp at hl
    | cons u r' =>
      have h1 := h t (by simp) u
      have h2 := ih r' (fun v hv => h v (by simp [hv])) (by simpa using hl)
      simp only [cmpT]
      by_cases h0 : t.cmp u = 0
      · rw [if_neg (by omega), h2, h1.1 h0]
        simp
      · rw [if_pos h0]
        have : t ≠ u := fun e => h0 (h1.2 e)
        simp [h0, this]
theorem tcmp_zero (t : Tm) : ∀ u, t.cmp u = 0 ↔ t = u := by
  induction t using Tm.ind with
  | h t ih =>
    intro u
    rw [t.cmp_eq]
    by_cases h1 : t.size = u.size
    · rw [if_neg (by omega)]
      by_cases h2 : cmpAllL t.binds u.binds = 0
      · rw [if_neg (by omega)]
        by_cases h3 : sgn t.kind u.kind = 0
        · rw [if_neg (by omega)]
          by_cases h4 : sgn t.idx u.idx = 0
          · rw [if_neg (by omega)]
            by_cases h5 : t.args.length = u.args.length
            · rw [if_neg (by omega), cmpT_zero _ _ ih h5]
              constructor
              · intro h6
                rw [t.eta, u.eta, (cmpAllL_zero _ _).1 h2, (sgn_zero _ _).1 h3, (sgn_zero _ _).1 h4, h6]
              · intro e; rw [e]
            · rw [if_pos h5, sgn_zero]
              constructor
              · intro e; omega
              · intro e; rw [e]
          · rw [if_pos h4]
            constructor
            · intro e; exact absurd e h4
            · intro e; rw [e] at h4; exact absurd (sgn_self _) h4
        · rw [if_pos h3]
          constructor
          · intro e; exact absurd e h3
          · intro e; rw [e] at h3; exact absurd (sgn_self _) h3
      · rw [if_pos h2]
        constructor
        · intro e; exact absurd e h2
        · intro e; rw [e] at h2; exact absurd ((cmpAllL_zero _ _).2 rfl) h2
    · rw [if_pos h1, sgn_zero]
      constructor
      · intro e; omega
      · intro e; rw [e]
theorem cmpT_lo (l l' : List Tm) (h : ∀ t ∈ l, ∀ u, -1 ≤ t.cmp u ∧ t.cmp u ≤ 1) : -1 ≤ cmpT l l' ∧ cmpT l l' ≤ 1 := by
  induction l generalizing l' with
  | nil => cases l' <;> simp [cmpT]
  | cons t r ih => cases l' with
    | nil => simp [cmpT]
    | cons u r' =>
      have h1 := h t (by simp) u
      have h2 := ih r' (fun v hv => h v (by simp [hv]))
      simp only [cmpT]
      split
      · exact h1
      · exact h2
theorem tcmp_lo (t : Tm) : ∀ u, -1 ≤ t.cmp u ∧ t.cmp u ≤ 1 := by
  induction t using Tm.ind with
  | h t ih =>
    intro u
    rw [t.cmp_eq]
    split
    · exact sgn_lo _ _
    · split
      · exact cmpAllL_lo _ _
      · split
        · exact sgn_lo _ _
        · split
          · exact sgn_lo _ _
          · split
            · exact sgn_lo _ _
            · exact cmpT_lo _ _ ih

set_option maxRecDepth 100000 in
set_option maxHeartbeats 1000000 in
theorem sign06_calls (a b : Int) (w : World) : Calls Try.prog 70 #[.int .i64 a, .int .i64 b] w fun e w' => e = .returned (.int .i64 (sgn a b)) ∧ w = w' := by
  by_cases h1 : a < b
  · have HS : Hid (sgn a b = -1) := by show _ = _; unfold sgn; rw [if_pos h1]
    go_enter Try.func70, Try.ntmps70
    go_wp2
    go_ret
    exact ⟨ret_int (by rw [HS.out]), rfl⟩
  · by_cases h2 : a > b
    · have HS : Hid (sgn a b = 1) := by show _ = _; unfold sgn; rw [if_neg h1, if_pos h2]
      go_enter Try.func70, Try.ntmps70
      go_wp2
      go_ret
      exact ⟨ret_int (by rw [HS.out]), rfl⟩
    · have HS : Hid (sgn a b = 0) := by show _ = _; unfold sgn; rw [if_neg h1, if_neg h2]
      go_enter Try.func70, Try.ntmps70
      go_wp2
      go_ret
      exact ⟨ret_int (by rw [HS.out]), rfl⟩

end Go.Proofs.Ytheokboggjnenaa
