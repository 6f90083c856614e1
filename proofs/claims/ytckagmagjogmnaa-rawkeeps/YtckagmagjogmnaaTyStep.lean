/-
  A step keeps a raw term's type. Plain.
-/
import Derived.Test.YtckagmagjogmnaaTyU
namespace Go.Proofs.Ytckagmagjogmnaa
open Go Go.RowKit

theorem turn_lam (g : Int → Nat → Rw) (b : Nat) {r u : Rw} (hk : r.kind = 3) (hl : r.kids = [u]) : r.turn g b = .mk r.kind r.ty r.idx [u.turn g (b + 1)] := by
  rw [r.turn_eq, if_neg (by omega), hl]
  have : inR r.kind b = b + 1 := by unfold inR; rw [if_pos hk]
  rw [this]
  rfl
theorem turn_app (g : Int → Nat → Rw) (b : Nat) {r f a : Rw} (hk : r.kind = 4) (hl : r.kids = [f, a]) : r.turn g b = .mk r.kind r.ty r.idx [f.turn g b, a.turn g b] := by
  rw [r.turn_eq, if_neg (by omega), hl]
  have : inR r.kind b = b := by unfold inR; rw [if_neg (by omega)]
  rw [this]
  rfl
theorem turn_hd (g : Int → Nat → Rw) (b : Nat) {r : Rw} (hk : r.kind = 0) : r.turn g b = g r.idx b := by rw [r.turn_eq, if_pos hk]
theorem kid_depth {r u : Rw} {l : List Rw} (hl : r.kids = l) (hu : u ∈ l) : u.depth + 1 ≤ r.depth := by
  have h1 := r.depth_eq
  have h2 := rdepth_mem hu
  rw [hl] at h1
  omega

theorem tyU_grow {cs ms Γ Θ : List Ty} (t : Rw) : ∀ (Δ : List Ty) (T : Ty), (Γ ++ Θ ++ Δ).length + t.depth ≤ 1000000 → t.tyU cs ms (Γ ++ Δ) = some T → (t.turn (growG (Θ.length : Int)) Δ.length).tyU cs ms (Γ ++ Θ ++ Δ) = some T := by
  induction t using Rw.ind with
  | h t ih =>
  intro Δ T hlen ht
  rcases tyU_cases ht with ⟨hk, u, b, hl, hu, rfl⟩ | ⟨hk, f, a, ft, at', rest, hl, hf, ha, hfa, rfl⟩ | ⟨h3, h4, hp⟩
  · have hd := kid_depth hl (show u ∈ [u] by simp)
    rw [turn_lam _ _ hk hl]
    refine tyU_lam hk ?_
    have h9 := ih u (by rw [hl]; simp) (Δ ++ [t.ty]) b (by simp only [List.length_append, List.length_singleton] at hlen ⊢; omega) (by rw [← List.append_assoc]; exact hu)
    rw [List.length_append, List.length_singleton, ← List.append_assoc] at h9
    exact h9
  · have hd1 := kid_depth hl (show f ∈ [f, a] by simp)
    have hd2 := kid_depth hl (show a ∈ [f, a] by simp)
    rw [turn_app _ _ hk hl]
    exact tyU_app hk (ih f (by rw [hl]; simp) Δ ft (by omega) hf) (ih a (by rw [hl]; simp) Δ at' (by omega) ha) hfa
  · by_cases h0 : t.kind = 0
    · rw [turn_hd _ _ h0]
      rw [h0] at hp
      obtain ⟨n, hn, hnl, hr⟩ := pick0.1 hp
      unfold growG
      rw [hn]
      show (Rw.mk 0 (.mk [] 0) _ []).tyU cs ms _ = _
      rw [tyU_head (by decide) (by decide)]
      rw [List.reverse_append] at hr
      by_cases hb : Δ.length ≤ n
      · rw [if_pos (by omega)]
        rw [List.getElem?_append_right (by simpa using hb)] at hr
        simp only [List.length_append] at hlen hnl
        have hw : wrap64 ((n : Int) + (Θ.length : Int)) = ((n + Θ.length : Nat) : Int) := by rw [wrap_small (by omega) (by omega)]; omega
        rw [hw]
        refine pick0.2 ⟨n + Θ.length, rfl, by simp only [List.length_append]; omega, ?_⟩
        rw [List.reverse_append, List.reverse_append, List.getElem?_append_right (by simp; omega), List.getElem?_append_right (by simp; omega)]
        rw [List.length_reverse, List.length_reverse]
        rw [List.length_reverse] at hr
        rw [← hr]
        congr 1
        omega
      · rw [if_neg (by omega)]
        rw [List.getElem?_append_left (by simp; omega)] at hr
        refine pick0.2 ⟨n, rfl, by simp only [List.length_append]; omega, ?_⟩
        rw [List.reverse_append, List.getElem?_append_left (by simp; omega)]
        exact hr
    · rw [t.turn_eq, if_neg h0, tyU_head h3 h4, ← hp]
      exact pick_other h0

theorem tyU_subst {cs ms Γ : List Ty} {A : Ty} {a : Rw} (ha : a.tyU cs ms Γ = some A) (t : Rw) : ∀ (Δ : List Ty) (T : Ty), (Γ ++ [A] ++ Δ).length + t.depth + a.depth ≤ 1000000 → t.tyU cs ms (Γ ++ [A] ++ Δ) = some T → (t.turn (substG a) Δ.length).tyU cs ms (Γ ++ Δ) = some T := by
  induction t using Rw.ind with
  | h t ih =>
  intro Δ T hlen ht
  rcases tyU_cases ht with ⟨hk, u, b, hl, hu, rfl⟩ | ⟨hk, f, x, ft, at', rest, hl, hf, hx, hfa, rfl⟩ | ⟨h3, h4, hp⟩
  · have hd := kid_depth hl (show u ∈ [u] by simp)
    rw [turn_lam _ _ hk hl]
    refine tyU_lam hk ?_
    have h9 := ih u (by rw [hl]; simp) (Δ ++ [t.ty]) b (by simp only [List.length_append, List.length_singleton] at hlen ⊢; omega) (by rw [← List.append_assoc]; exact hu)
    rw [List.length_append, List.length_singleton, ← List.append_assoc] at h9
    exact h9
  · have hd1 := kid_depth hl (show f ∈ [f, x] by simp)
    have hd2 := kid_depth hl (show x ∈ [f, x] by simp)
    rw [turn_app _ _ hk hl]
    exact tyU_app hk (ih f (by rw [hl]; simp) Δ ft (by omega) hf) (ih x (by rw [hl]; simp) Δ at' (by omega) hx) hfa
  · by_cases h0 : t.kind = 0
    · rw [turn_hd _ _ h0]
      rw [h0] at hp
      obtain ⟨n, hn, hnl, hr⟩ := pick0.1 hp
      unfold substG
      rw [hn]
      rw [List.reverse_append, List.reverse_append] at hr
      simp only [List.length_append, List.length_singleton] at hlen hnl
      by_cases hb : Δ.length ≤ n
      · rw [List.getElem?_append_right (by simpa using hb), List.length_reverse] at hr
        by_cases he : n = Δ.length
        · rw [if_pos (by omega)]
          subst he
          rw [Nat.sub_self] at hr
          have hA : A = T := by simpa using hr
          subst hA
          have h9 := tyU_grow (cs := cs) (ms := ms) (Γ := Γ) (Θ := Δ) a [] A (by simp only [List.length_append, List.length_nil]; omega) (by rw [List.append_nil]; exact ha)
          rw [List.append_nil] at h9
          exact h9
        · rw [if_neg (by omega), if_pos (by omega)]
          show (Rw.mk 0 (.mk [] 0) _ []).tyU cs ms _ = _
          rw [tyU_head (by decide) (by decide)]
          have hw : wrap64 ((n : Int) - 1) = ((n - 1 : Nat) : Int) := by rw [wrap_small (by omega) (by omega)]; omega
          rw [hw]
          refine pick0.2 ⟨n - 1, rfl, by simp only [List.length_append]; omega, ?_⟩
          rw [List.reverse_append, List.getElem?_append_right (by simp; omega), List.length_reverse]
          obtain ⟨m, hm⟩ : ∃ m, n - Δ.length = m + 1 := ⟨n - Δ.length - 1, by omega⟩
          rw [hm] at hr
          have : n - 1 - Δ.length = m := by omega
          rw [this]
          simpa using hr
      · rw [if_neg (by omega), if_neg (by omega)]
        show (Rw.mk 0 (.mk [] 0) _ []).tyU cs ms _ = _
        rw [tyU_head (by decide) (by decide)]
        rw [List.getElem?_append_left (by simp; omega)] at hr
        refine pick0.2 ⟨n, rfl, by simp only [List.length_append]; omega, ?_⟩
        rw [List.reverse_append, List.getElem?_append_left (by simp; omega)]
        exact hr
    · rw [t.turn_eq, if_neg h0, tyU_head h3 h4, ← hp]
      exact pick_other h0

theorem step_tyU {cs ms : List Ty} (t : Rw) : ∀ (d : Bool) (Γ : List Ty) (T : Ty), Γ.length + 2 * t.depth ≤ 900000 → t.tyU cs ms Γ = some T → (t.step d).1.tyU cs ms Γ = some T := by
  induction t using Rw.ind with
  | h t ih =>
  intro d Γ T hlen ht
  have hno : ∀ d, ((Rw.mk t.kind t.ty t.idx (stepL d t.kids).1)).tyU cs ms Γ = some T := by
    intro d
    rcases tyU_cases ht with ⟨hk, u, b, hl, hu, rfl⟩ | ⟨hk, f, x, ft, at', rest, hl, hf, hx, hfa, rfl⟩ | ⟨h3, h4, hp⟩
    · have hd := kid_depth hl (show u ∈ [u] by simp)
      rw [hl]
      exact tyU_lam hk (ih u (by rw [hl]; simp) d (Γ ++ [t.ty]) b (by simp only [List.length_append, List.length_singleton]; omega) hu)
    · have hd1 := kid_depth hl (show f ∈ [f, x] by simp)
      have hd2 := kid_depth hl (show x ∈ [f, x] by simp)
      rw [hl]
      exact tyU_app hk (ih f (by rw [hl]; simp) d Γ ft (by omega) hf) (ih x (by rw [hl]; simp) _ Γ at' (by omega) hx) hfa
    · rw [tyU_head h3 h4, hp]
  rw [t.step_eq]
  cases d with
  | true => exact hno true
  | false =>
    cases hr : redexOf t.kind t.kids with
    | none => exact hno false
    | some p =>
      obtain ⟨b, a⟩ := p
      obtain ⟨h4, f, hl, hf3, hfl⟩ := redexOf_some hr
      show (substR b a).tyU cs ms Γ = some T
      rcases tyU_cases ht with ⟨hk, _⟩ | ⟨_, f', a', ft, at', rest, hl', hf, ha, hfa, rfl⟩ | ⟨_, hn4, _⟩
      · omega
      · rw [hl] at hl'
        obtain ⟨rfl, rfl⟩ : f = f' ∧ a = a' := by simpa using hl'
        rcases tyU_cases hf with ⟨_, u, bt, hul, hu, rfl⟩ | ⟨hk, _⟩ | ⟨hn3, _⟩
        · rw [hfl] at hul
          obtain rfl : b = u := by simpa using hul
          have hfa' : f.ty :: bt.args = at' :: rest := hfa
          injection hfa' with e1 e2
          subst e1 e2
          have hd1 := kid_depth hl (show f ∈ [f, a] by simp)
          have hd2 := kid_depth hl (show a ∈ [f, a] by simp)
          have hd3 := kid_depth hfl (show b ∈ [b] by simp)
          have h9 := tyU_subst ha b [] bt (by simp only [List.length_append, List.length_singleton, List.length_nil]; omega) (by rw [List.append_nil]; exact hu)
          rw [List.append_nil] at h9
          have hbt : Ty.mk bt.args bt.base = bt := by cases bt; rfl
          show (substR b a).tyU cs ms Γ = some (Ty.mk bt.args (Ty.mk (f.ty :: bt.args) bt.base).base)
          exact h9.trans (congrArg some hbt.symm)
        · omega
        · exact absurd hf3 hn3
      · exact absurd h4 hn4

theorem two_of9 {ts : List Rw} (h : ts.length = 2) : ∃ f a, ts = [f, a] := by
  match ts, h with
  | [f, a], _ => exact ⟨f, a, rfl⟩
theorem finI_err {p : Int × Ty} (h : p.1 ≠ 0) : finI p = (p.1, zT) := by unfold finI; rw [if_neg h]
theorem finI_zero {p : Int × Ty} {T : Ty} (h : finI p = (0, T)) : p = (0, T) := by
  unfold finI at h
  by_cases h0 : p.1 = 0
  · rw [if_pos h0] at h
    by_cases h1 : p.2.size ≤ 1000
    · rw [if_pos h1] at h; exact h
    · rw [if_neg h1] at h; injection h with h; omega
  · rw [if_neg h0] at h; injection h with h; omega
theorem finI_ok (T : Ty) : finI (0, T) = (0, T) ∨ finI (0, T) = (2, zT) := by
  unfold finI
  rw [if_pos rfl]
  by_cases h1 : T.size ≤ 1000
  · rw [if_pos h1]; exact .inl rfl
  · rw [if_neg h1]; exact .inr rfl

/-- what has a type, within the limits, has it whatever the limits are -/
theorem inf_tyU {bs : Int} {cs ms : List Ty} (r : Rw) : ∀ (ctx : List Ty) (T : Ty), r.shaped = true → r.inf bs cs ms ctx = (0, T) → r.tyU cs ms ctx = some T := by
  induction r using Rw.ind with
  | h r ih =>
  intro ctx T hs h
  rw [r.shaped_eq, Bool.and_eq_true] at hs
  have hks : ∀ u ∈ r.kids, u.shaped = true := fun u hu => (shapedR_iff _).1 hs.2 u hu
  rw [r.inf_eq] at h
  have h := finI_zero h
  unfold Rw.ofI at h
  rw [r.tyU_eq]
  have hw := hs.1
  by_cases h3 : r.kind = 3
  · rw [h3] at hw
    have h1 : r.kids.length = 1 := by simpa [wellR] using hw
    obtain ⟨u, hu⟩ := List.length_eq_one_iff.1 h1
    rw [if_pos h3, hu] at h ⊢
    by_cases hr : rightB bs r.ty = true
    · rw [if_pos hr] at h
      obtain ⟨q, hq⟩ : ∃ q, u.inf bs cs ms (ctx ++ [r.ty]) = q := ⟨_, rfl⟩
      have h : lamI r.ty [u.inf bs cs ms (ctx ++ [r.ty])] = (0, T) := h
      rw [hq] at h
      have h : (if q.1 = 0 then ((0 : Int), Ty.mk (r.ty :: q.2.args) q.2.base) else (q.1, zT)) = (0, T) := h
      by_cases h0 : q.1 = 0
      · rw [if_pos h0] at h
        injection h with _ h
        have h9 := ih u (by rw [hu]; simp) (ctx ++ [r.ty]) q.2 (hks u (by rw [hu]; simp)) (by rw [hq, ← h0])
        show lamU r.ty [u.tyU cs ms (ctx ++ [r.ty])] = _
        rw [h9, ← h]
        rfl
      · rw [if_neg h0] at h
        injection h with h _
        exact absurd h h0
    · rw [if_neg hr] at h
      injection h with h
      omega
  · rw [if_neg h3] at h ⊢
    by_cases h4 : r.kind = 4
    · rw [h4] at hw
      have h1 : r.kids.length = 2 := by simpa [wellR] using hw
      obtain ⟨f, a, hu⟩ := two_of9 h1
      rw [if_pos h4, hu] at h ⊢
      have h : appI [f.inf bs cs ms ctx, a.inf bs cs ms ctx] = (0, T) := h
      obtain ⟨q, hq⟩ : ∃ q, f.inf bs cs ms ctx = q := ⟨_, rfl⟩
      obtain ⟨p, hp⟩ : ∃ p, a.inf bs cs ms ctx = p := ⟨_, rfl⟩
      rw [hq, hp] at h
      have h : (if q.1 = 0 then (if p.1 = 0 then appT q.2 p.2 else (p.1, zT)) else (q.1, zT)) = (0, T) := h
      by_cases h0 : q.1 = 0
      · rw [if_pos h0] at h
        by_cases h5 : p.1 = 0
        · rw [if_pos h5] at h
          have h8 := ih f (by rw [hu]; simp) ctx q.2 (hks f (by rw [hu]; simp)) (by rw [hq, ← h0])
          have h9 := ih a (by rw [hu]; simp) ctx p.2 (hks a (by rw [hu]; simp)) (by rw [hp, ← h5])
          show appU [f.tyU cs ms ctx, a.tyU cs ms ctx] = _
          rw [h8, h9]
          unfold appT at h
          show appV q.2 p.2 = _
          unfold appV
          cases hfa : q.2.args with
          | nil => rw [hfa] at h; injection h with h; omega
          | cons x rest =>
            rw [hfa] at h
            dsimp only at h ⊢
            by_cases hx : x.same p.2 = true
            · rw [if_pos hx] at h ⊢
              injection h with _ h
              rw [h]
            · rw [if_neg hx] at h
              injection h with h
              omega
        · rw [if_neg h5] at h
          injection h with h _
          exact absurd h h5
      · rw [if_neg h0] at h
        injection h with h _
        exact absurd h h0
    · rw [if_neg h4] at h ⊢
      unfold headI at h
      cases hpk : pickA cs ms ctx r.kind r.idx with
      | none => rw [hpk] at h; injection h with h; omega
      | some q => rw [hpk] at h; injection h with _ h; rw [h]

/-- what has a type is told it, or that it is too large -/
theorem tyU_inf {bs : Int} {cs ms : List Ty} (r : Rw) : ∀ (ctx : List Ty) (T : Ty), r.tyU cs ms ctx = some T → r.inf bs cs ms ctx = (0, T) ∨ r.inf bs cs ms ctx = (2, zT) := by
  induction r using Rw.ind with
  | h r ih =>
  intro ctx T ht
  rw [r.inf_eq]
  unfold Rw.ofI
  rcases tyU_cases ht with ⟨hk, u, b, hl, hu, rfl⟩ | ⟨hk, f, a, ft, at', rest, hl, hf, ha, hfa, rfl⟩ | ⟨h3, h4, hp⟩
  · rw [if_pos hk, hl]
    by_cases hr : rightB bs r.ty = true
    · rw [if_pos hr]
      show finI (lamI r.ty [u.inf bs cs ms (ctx ++ [r.ty])]) = _ ∨ finI (lamI r.ty [u.inf bs cs ms (ctx ++ [r.ty])]) = _
      rcases ih u (by rw [hl]; simp) (ctx ++ [r.ty]) b hu with h | h
      · rw [h]
        exact finI_ok _
      · rw [h]
        exact .inr rfl
    · rw [if_neg hr]
      exact .inr rfl
  · rw [if_neg (by omega), if_pos hk, hl]
    show finI (appI [f.inf bs cs ms ctx, a.inf bs cs ms ctx]) = _ ∨ finI (appI [f.inf bs cs ms ctx, a.inf bs cs ms ctx]) = _
    rcases ih f (by rw [hl]; simp) ctx ft hf with h | h
    · rw [h]
      rcases ih a (by rw [hl]; simp) ctx at' ha with h' | h'
      · rw [h']
        have : appI [((0 : Int), ft), (0, at')] = (0, .mk rest ft.base) := by
          show appT ft at' = _
          unfold appT
          rw [hfa]
          dsimp only
          rw [if_pos ((Ty.same_iff at' at').2 rfl)]
        rw [this]
        exact finI_ok _
      · rw [h']
        exact .inr rfl
    · rw [h]
      exact .inr rfl
  · rw [if_neg h3, if_neg h4, hp]
    exact finI_ok T

end Go.Proofs.Ytckagmagjogmnaa
