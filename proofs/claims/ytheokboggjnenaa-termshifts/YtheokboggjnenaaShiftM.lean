/-
  Grown and grown back: a term is what it was.
-/
import Derived.Test.YtheokboggjnenaaShiftR
namespace Go.Proofs.Ytheokboggjnenaa

theorem shL_len (gy fr : Int) (b : Nat) (l : List Tm) : (l.map (shT gy fr b)).length = l.length := List.length_map _
theorem totalT_map (f : Tm → Tm) (l : List Tm) (h : ∀ t ∈ l, (f t).total = t.total) : totalT (l.map f) = totalT l := by
  induction l with
  | nil => rfl
  | cons t r ih => simp only [List.map_cons, totalT, h t (by simp), ih (fun u hu => h u (by simp [hu]))]
theorem shT_total (gy fr : Int) (t : Tm) : ∀ b, (shT gy fr b t).total = t.total := by
  induction t using Tm.ind with
  | h t ih =>
    intro b
    rw [Tm.total_eq, Tm.total_eq t, shT_binds, shT_args, totalT_map _ _ (fun u hu => ih u hu _)]
/-- What becomes of a head. -/
def shP (gy fr : Int) (p : Hd) : Hd := { p with idx := shH gy fr p.kind p.idx p.around }
theorem headsT_map (gy fr : Int) (d b : Nat) (l : List Tm) (h : ∀ t ∈ l, (shT gy fr b t).heads d b = (t.heads d b).map (shP gy fr)) : headsT d b (l.map (shT gy fr b)) = (headsT d b l).map (shP gy fr) := by
  induction l with
  | nil => rfl
  | cons t r ih => simp only [List.map_cons, headsT, h t (by simp), ih (fun u hu => h u (by simp [hu])), List.map_append]
theorem shT_heads (gy fr : Int) (t : Tm) : ∀ d b, (shT gy fr b t).heads d b = (t.heads d b).map (shP gy fr) := by
  induction t using Tm.ind with
  | h t ih =>
    intro d b
    rw [Tm.heads_eq, t.heads_eq, shT_binds, shT_kind, shT_idx, shT_args, headsT_map gy fr _ _ _ (fun u hu => ih u hu _ _)]
    rfl
theorem shT_rng (gy fr : Int) (t : Tm) : ∀ d b, t.rng → (∀ p ∈ t.heads d b, grows gy fr p) → (shT gy fr b t).rng := by
  induction t using Tm.ind with
  | h t ih =>
    intro d b hr hg
    rw [Tm.rng_eq] at hr ⊢
    have h1 := hg ⟨d, b + t.binds.length, t.kind, t.idx⟩ (by rw [t.heads_eq]; simp)
    refine ⟨⟨by rw [shT_kind]; exact hr.1.1, ?_⟩, ?_⟩
    · rw [shT_idx]
      unfold shH
      split
      · rename_i h
        exact h1.2 (t.idx - ((b + t.binds.length : Nat) : Int)) (by unfold Hd.out; rw [if_pos ⟨h.1, h.2.1⟩]) h.2.2
      · exact h1.1
    · rw [shT_args, rngT_iff]
      intro u hu
      obtain ⟨v, hv, rfl⟩ := List.mem_map.1 hu
      exact ih v hv (d + 1) _ ((rngT_iff _).1 hr.2 v hv) (grows_arg hg hv)
theorem shH_back (gy fr k i : Int) (b : Nat) (h : 0 ≤ gy) : shH (-gy) fr k (shH gy fr k i b) b = i := by
  unfold shH
  by_cases h1 : k = 0 ∧ (b : Int) ≤ i ∧ fr ≤ i - b
  · rw [if_pos h1, if_pos ⟨h1.1, by omega, by omega⟩]
    omega
  · rw [if_neg h1, if_neg h1]
theorem shT_back (gy fr : Int) (h : 0 ≤ gy) (t : Tm) : ∀ b, shT (-gy) fr b (shT gy fr b t) = t := by
  induction t using Tm.ind with
  | h t ih =>
    intro b
    rw [(shT (-gy) fr b (shT gy fr b t)).eta, shT_binds, shT_kind, shT_idx, shT_args, shT_binds, shT_kind, shT_idx, shT_args, shH_back gy fr _ _ _ h, List.map_map]
    conv => rhs; rw [t.eta]
    congr 1
    refine (List.map_congr_left (g := id) fun u hu => ih u hu _).trans (List.map_id _)
/-- Where a term may grow, and all that is loose in it lies below the limit, it may be grown back. -/
theorem shift_back (gy fr : Int) (t : Tm) (h : 0 ≤ gy) (h0 : shiftE gy fr t = 0) (hl : looseI t ≤ 1000) : shiftE (-gy) fr (shT gy fr 0 t) = 0 := by
  have hlo : ∀ p ∈ t.heads 1 0, p.lo ≤ 1000 := by
    have : ∀ l : List Hd, lmax l ≤ 1000 → ∀ p ∈ l, p.lo ≤ 1000 := by
      intro l
      induction l with
      | nil => intro _ p hp; cases hp
      | cons q r ih =>
        intro hm p hp
        simp only [lmax] at hm
        rcases List.mem_cons.1 hp with rfl | hp
        · omega
        · exact ih (by omega) p hp
    exact this _ hl
  have hfr : ¬ fr < 0 := fun hf => by unfold shiftE at h0; rw [if_pos hf] at h0; omega
  unfold shiftE at h0 ⊢
  rw [if_neg hfr] at h0 ⊢
  rw [shT_heads]
  have key : ∀ p ∈ t.heads 1 0, ∀ i, (shP gy fr p).out = some i → fr ≤ i → fr + gy ≤ i ∧ i - gy ≤ 999 := by
    intro p hp i hi hfi
    have hlp := hlo p hp
    unfold Hd.lo at hlp
    unfold Hd.out at hi hlp
    by_cases hk : p.kind = 0 ∧ (p.around : Int) ≤ p.idx
    · rw [if_pos hk] at hlp
      simp only at hlp
      have e : (shP gy fr p).idx = shH gy fr p.kind p.idx p.around := rfl
      have e2 : (shP gy fr p).kind = p.kind := rfl
      have e3 : (shP gy fr p).around = p.around := rfl
      rw [e, e2, e3] at hi
      by_cases h2 : fr ≤ p.idx - p.around
      · have hs : shH gy fr p.kind p.idx p.around = p.idx + gy := by unfold shH; rw [if_pos ⟨hk.1, hk.2, h2⟩]
        rw [hs, if_pos ⟨hk.1, by omega⟩] at hi
        simp at hi
        omega
      · have hs : shH gy fr p.kind p.idx p.around = p.idx := by unfold shH; rw [if_neg (fun h => h2 h.2.2)]
        rw [hs, if_pos hk] at hi
        simp at hi
        omega
    · have e : (shP gy fr p).idx = shH gy fr p.kind p.idx p.around := rfl
      have e2 : (shP gy fr p).kind = p.kind := rfl
      have e3 : (shP gy fr p).around = p.around := rfl
      have hs : shH gy fr p.kind p.idx p.around = p.idx := by unfold shH; rw [if_neg (fun h => hk ⟨h.1, h.2.1⟩)]
      rw [e, e2, e3, hs, if_neg hk] at hi
      cases hi
  unfold errI
  have hb : badB (-gy) fr ((t.heads 1 0).map (shP gy fr)) = false := by
    unfold badB
    rw [List.any_eq_false]
    intro q hq
    obtain ⟨p, hp, rfl⟩ := List.mem_map.1 hq
    cases ho : (shP gy fr p).out with
    | none => simp
    | some i =>
      simp only [Bool.and_eq_true, decide_eq_true_eq, not_and]
      intro h1
      have := (key p hp i ho h1).1
      omega
  have hlg : longB (-gy) fr ((t.heads 1 0).map (shP gy fr)) = false := by
    unfold longB
    rw [List.any_eq_false]
    intro q hq
    obtain ⟨p, hp, rfl⟩ := List.mem_map.1 hq
    cases ho : (shP gy fr p).out with
    | none => simp
    | some i =>
      simp only [Bool.and_eq_true, decide_eq_true_eq, not_and]
      intro h1
      have := (key p hp i ho h1).2
      omega
  rw [hb, hlg]
  rfl

end Go.Proofs.Ytheokboggjnenaa
