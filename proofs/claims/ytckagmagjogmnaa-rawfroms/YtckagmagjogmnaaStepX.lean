/-
  StepX: several texts in one file: TyU, TyStep, StepX.
-/
import Derived.Test.YtckagmagjogmnaaSubstR
import Derived.Test.YtckagmagjogmnaaStepF
import Derived.Test.YtckagmagjogmnaaInfP
import Derived.Test.YtckagmagjogmnaaInfE
import Derived.Test.YtckagmagjogmnaaMade
namespace Go.Proofs.Ytckagmagjogmnaa
open Go Go.RowKit

def lamU (t : Ty) : List (Option Ty) → Option Ty
  | [some b] => some (.mk (t :: b.args) b.base)
  | _ => none
def appV (f a : Ty) : Option Ty := match f.args with
  | [] => none
  | x :: r => if x.same a = true then some (.mk r f.base) else none
def appU : List (Option Ty) → Option Ty
  | [some f, some a] => appV f a
  | _ => none
mutual
/-- the type, if there is one -/
def Rw.tyU (cs ms : List Ty) (ctx : List Ty) : Rw → Option Ty
  | .mk k t i l => if k = 3 then lamU t (tyUL cs ms (ctx ++ [t]) l) else if k = 4 then appU (tyUL cs ms ctx l) else pickA cs ms ctx k i
def tyUL (cs ms : List Ty) (ctx : List Ty) : List Rw → List (Option Ty)
  | [] => []
  | t :: r => t.tyU cs ms ctx :: tyUL cs ms ctx r
end
theorem Rw.tyU_eq (cs ms ctx : List Ty) (r : Rw) : r.tyU cs ms ctx = if r.kind = 3 then lamU r.ty (tyUL cs ms (ctx ++ [r.ty]) r.kids) else if r.kind = 4 then appU (tyUL cs ms ctx r.kids) else pickA cs ms ctx r.kind r.idx := by cases r; rfl
theorem tyUL_length (cs ms ctx : List Ty) (l : List Rw) : (tyUL cs ms ctx l).length = l.length := by
  induction l with
  | nil => rfl
  | cons t l ih => simp [tyUL, ih]
theorem lamU_some {t T : Ty} {l : List (Option Ty)} (h : lamU t l = some T) : ∃ b, l = [some b] ∧ T = .mk (t :: b.args) b.base := by
  match l, h with
  | [some b], h => exact ⟨b, rfl, by injection h with h; exact h.symm⟩
theorem appU_some {T : Ty} {l : List (Option Ty)} (h : appU l = some T) : ∃ f a r, l = [some f, some a] ∧ f = .mk (a :: r) f.base ∧ T = .mk r f.base := by
  match l, h with
  | [some f, some a], h =>
    have h2 : appV f a = some T := h
    unfold appV at h2
    cases hf : f.args with
    | nil => rw [hf] at h2; cases h2
    | cons x r =>
      rw [hf] at h2
      dsimp only at h2
      by_cases hx : x.same a = true
      · rw [if_pos hx] at h2
        injection h2 with h3
        have hxa := (Ty.same_iff x a).1 hx
        subst hxa
        exact ⟨f, x, r, rfl, by cases f; rw [← hf]; rfl, h3.symm⟩
      · rw [if_neg hx] at h2; cases h2
theorem appU_of {f a : Ty} {r : List Ty} (h : f.args = a :: r) : appU [some f, some a] = some (.mk r f.base) := by
  show appV f a = _
  unfold appV
  rw [h]
  dsimp only
  rw [if_pos ((Ty.same_iff a a).2 rfl)]
theorem tyUL_one {cs ms ctx : List Ty} {l : List Rw} {b : Ty} (h : tyUL cs ms ctx l = [some b]) : ∃ u, l = [u] ∧ u.tyU cs ms ctx = some b := by
  match l, h with
  | [u], h => exact ⟨u, rfl, by simpa [tyUL] using h⟩
  | [], h => simp [tyUL] at h
  | _ :: _ :: _, h => simp [tyUL] at h
theorem tyUL_two {cs ms ctx : List Ty} {l : List Rw} {b c : Ty} (h : tyUL cs ms ctx l = [some b, some c]) : ∃ u v, l = [u, v] ∧ u.tyU cs ms ctx = some b ∧ v.tyU cs ms ctx = some c := by
  match l, h with
  | [u, v], h => exact ⟨u, v, rfl, by simpa [tyUL] using h⟩
  | [], h => simp [tyUL] at h
  | [_], h => simp [tyUL] at h
  | _ :: _ :: _ :: _, h => simp [tyUL] at h

/-- what a typed raw term is -/
theorem tyU_cases {cs ms ctx : List Ty} {r : Rw} {T : Ty} (h : r.tyU cs ms ctx = some T) :
    (r.kind = 3 ∧ ∃ u b, r.kids = [u] ∧ u.tyU cs ms (ctx ++ [r.ty]) = some b ∧ T = .mk (r.ty :: b.args) b.base) ∨
    (r.kind = 4 ∧ ∃ f a ft at' rest, r.kids = [f, a] ∧ f.tyU cs ms ctx = some ft ∧ a.tyU cs ms ctx = some at' ∧ ft.args = at' :: rest ∧ T = .mk rest ft.base) ∨
    (r.kind ≠ 3 ∧ r.kind ≠ 4 ∧ pickA cs ms ctx r.kind r.idx = some T) := by
  rw [r.tyU_eq] at h
  by_cases h3 : r.kind = 3
  · rw [if_pos h3] at h
    obtain ⟨b, h1, h2⟩ := lamU_some h
    obtain ⟨u, h4, h5⟩ := tyUL_one h1
    exact .inl ⟨h3, u, b, h4, h5, h2⟩
  · rw [if_neg h3] at h
    by_cases h4 : r.kind = 4
    · rw [if_pos h4] at h
      obtain ⟨f, a, rr, h1, h2, h5⟩ := appU_some h
      obtain ⟨u, v, h6, h7, h8⟩ := tyUL_two h1
      exact .inr (.inl ⟨h4, u, v, f, a, rr, h6, h7, h8, by rw [h2]; rfl, h5⟩)
    · rw [if_neg h4] at h
      exact .inr (.inr ⟨h3, h4, h⟩)
theorem tyU_lam {cs ms ctx : List Ty} {k i : Int} {t b : Ty} {u : Rw} (hk : k = 3) (h : u.tyU cs ms (ctx ++ [t]) = some b) : (Rw.mk k t i [u]).tyU cs ms ctx = some (.mk (t :: b.args) b.base) := by
  rw [Rw.tyU_eq, if_pos (show (Rw.mk k t i [u]).kind = 3 from hk)]
  show lamU t [u.tyU cs ms (ctx ++ [t])] = _
  rw [h]
  rfl
theorem tyU_app {cs ms ctx : List Ty} {k i : Int} {t ft at' : Ty} {rest : List Ty} {f a : Rw} (hk : k = 4) (hf : f.tyU cs ms ctx = some ft) (ha : a.tyU cs ms ctx = some at') (h : ft.args = at' :: rest) : (Rw.mk k t i [f, a]).tyU cs ms ctx = some (.mk rest ft.base) := by
  rw [Rw.tyU_eq, if_neg (show ¬ (Rw.mk k t i [f, a]).kind = 3 from fun e => by have : k = 3 := e; omega), if_pos (show (Rw.mk k t i [f, a]).kind = 4 from hk)]
  show appU [f.tyU cs ms ctx, a.tyU cs ms ctx] = _
  rw [hf, ha]
  exact appU_of h
theorem tyU_head {cs ms ctx : List Ty} {k i : Int} {t : Ty} {l : List Rw} (h3 : k ≠ 3) (h4 : k ≠ 4) : (Rw.mk k t i l).tyU cs ms ctx = pickA cs ms ctx k i := by
  rw [Rw.tyU_eq, if_neg (show ¬ (Rw.mk k t i l).kind = 3 from h3), if_neg (show ¬ (Rw.mk k t i l).kind = 4 from h4)]
  rfl

/-- bound ones are counted from the end -/
theorem pick0 {cs ms ctx : List Ty} {i : Int} {T : Ty} : pickA cs ms ctx 0 i = some T ↔ ∃ n : Nat, i = n ∧ n < ctx.length ∧ ctx.reverse[n]? = some T := by
  unfold pickA
  constructor
  · intro h
    by_cases h0 : i < 0
    · rw [if_pos h0] at h; cases h
    · rw [if_neg h0, if_pos rfl] at h
      by_cases h1 : i.toNat < ctx.length
      · rw [if_pos h1] at h
        refine ⟨i.toNat, by omega, h1, ?_⟩
        rw [List.getElem?_reverse h1]
        exact h
      · rw [if_neg h1] at h; cases h
  · rintro ⟨n, rfl, h1, h2⟩
    rw [if_neg (by omega), if_pos rfl, if_pos (by simpa using h1)]
    rw [List.getElem?_reverse h1] at h2
    simpa using h2
theorem pick_other {cs ms c1 c2 : List Ty} {k i : Int} (h : k ≠ 0) : pickA cs ms c1 k i = pickA cs ms c2 k i := by
  unfold pickA
  split
  · rfl
  · rfl
theorem wrap_small {n : Int} (h1 : -1000000000 ≤ n) (h2 : n ≤ 1000000000) : wrap64 n = n := by
  unfold wrap64
  omega

end Go.Proofs.Ytckagmagjogmnaa

namespace Go.Proofs.Ytckagmagjogmnaa
open Go Go.RowKit

theorem turn_lam (g : Int → Nat → Rw) (b : Nat) {r u : Rw} (hk : r.kind = 3) (hl : r.kids = [u]) : r.turn g b = .mk r.kind r.ty r.idx [u.turn g (b + 1)] := by
  rw [r.turn_eq, if_neg (by omega), hl]
  have : inR r.kind b = b + 1 := by unfold inR; rw [if_pos hk]
  rw [this]
  rfl
theorem turn_app (g : Int → Nat → Rw) (b : Nat) {r f a : Rw} (hk : r.kind = 4) (hl : r.kids = [f, a]) : r.turn g b = .mk r.kind r.ty r.idx [f.turn g b, a.turn g b] := by
  rw [r.turn_eq, if_neg (by omega), hl]
  have : inR r.kind b = b := by unfold inR; rw [if_neg (by omega)]
  rw [this]
  rfl
theorem turn_hd (g : Int → Nat → Rw) (b : Nat) {r : Rw} (hk : r.kind = 0) : r.turn g b = g r.idx b := by rw [r.turn_eq, if_pos hk]
theorem kid_depth {r u : Rw} {l : List Rw} (hl : r.kids = l) (hu : u ∈ l) : u.depth + 1 ≤ r.depth := by
  have h1 := r.depth_eq
  have h2 := rdepth_mem hu
  rw [hl] at h1
  omega

theorem tyU_grow {cs ms Γ Θ : List Ty} (t : Rw) : ∀ (Δ : List Ty) (T : Ty), (Γ ++ Θ ++ Δ).length + t.depth ≤ 1000000 → t.tyU cs ms (Γ ++ Δ) = some T → (t.turn (growG (Θ.length : Int)) Δ.length).tyU cs ms (Γ ++ Θ ++ Δ) = some T := by
  induction t using Rw.ind with
  | h t ih =>
  intro Δ T hlen ht
  rcases tyU_cases ht with ⟨hk, u, b, hl, hu, rfl⟩ | ⟨hk, f, a, ft, at', rest, hl, hf, ha, hfa, rfl⟩ | ⟨h3, h4, hp⟩
  · have hd := kid_depth hl (show u ∈ [u] by simp)
    rw [turn_lam _ _ hk hl]
    refine tyU_lam hk ?_
    have h9 := ih u (by rw [hl]; simp) (Δ ++ [t.ty]) b (by simp only [List.length_append, List.length_singleton] at hlen ⊢; omega) (by rw [← List.append_assoc]; exact hu)
    rw [List.length_append, List.length_singleton, ← List.append_assoc] at h9
    exact h9
  · have hd1 := kid_depth hl (show f ∈ [f, a] by simp)
    have hd2 := kid_depth hl (show a ∈ [f, a] by simp)
    rw [turn_app _ _ hk hl]
    exact tyU_app hk (ih f (by rw [hl]; simp) Δ ft (by omega) hf) (ih a (by rw [hl]; simp) Δ at' (by omega) ha) hfa
  · by_cases h0 : t.kind = 0
    · rw [turn_hd _ _ h0]
      rw [h0] at hp
      obtain ⟨n, hn, hnl, hr⟩ := pick0.1 hp
      unfold growG
      rw [hn]
      show (Rw.mk 0 (.mk [] 0) _ []).tyU cs ms _ = _
      rw [tyU_head (by decide) (by decide)]
      rw [List.reverse_append] at hr
      by_cases hb : Δ.length ≤ n
      · rw [if_pos (by omega)]
        rw [List.getElem?_append_right (by simpa using hb)] at hr
        simp only [List.length_append] at hlen hnl
        have hw : wrap64 ((n : Int) + (Θ.length : Int)) = ((n + Θ.length : Nat) : Int) := by rw [wrap_small (by omega) (by omega)]; omega
        rw [hw]
        refine pick0.2 ⟨n + Θ.length, rfl, by simp only [List.length_append]; omega, ?_⟩
        rw [List.reverse_append, List.reverse_append, List.getElem?_append_right (by simp; omega), List.getElem?_append_right (by simp; omega)]
        rw [List.length_reverse, List.length_reverse]
        rw [List.length_reverse] at hr
        rw [← hr]
        congr 1
        omega
      · rw [if_neg (by omega)]
        rw [List.getElem?_append_left (by simp; omega)] at hr
        refine pick0.2 ⟨n, rfl, by simp only [List.length_append]; omega, ?_⟩
        rw [List.reverse_append, List.getElem?_append_left (by simp; omega)]
        exact hr
    · rw [t.turn_eq, if_neg h0, tyU_head h3 h4, ← hp]
      exact pick_other h0

theorem tyU_subst {cs ms Γ : List Ty} {A : Ty} {a : Rw} (ha : a.tyU cs ms Γ = some A) (t : Rw) : ∀ (Δ : List Ty) (T : Ty), (Γ ++ [A] ++ Δ).length + t.depth + a.depth ≤ 1000000 → t.tyU cs ms (Γ ++ [A] ++ Δ) = some T → (t.turn (substG a) Δ.length).tyU cs ms (Γ ++ Δ) = some T := by
  induction t using Rw.ind with
  | h t ih =>
  intro Δ T hlen ht
  rcases tyU_cases ht with ⟨hk, u, b, hl, hu, rfl⟩ | ⟨hk, f, x, ft, at', rest, hl, hf, hx, hfa, rfl⟩ | ⟨h3, h4, hp⟩
  · have hd := kid_depth hl (show u ∈ [u] by simp)
    rw [turn_lam _ _ hk hl]
    refine tyU_lam hk ?_
    have h9 := ih u (by rw [hl]; simp) (Δ ++ [t.ty]) b (by simp only [List.length_append, List.length_singleton] at hlen ⊢; omega) (by rw [← List.append_assoc]; exact hu)
    rw [List.length_append, List.length_singleton, ← List.append_assoc] at h9
    exact h9
  · have hd1 := kid_depth hl (show f ∈ [f, x] by simp)
    have hd2 := kid_depth hl (show x ∈ [f, x] by simp)
    rw [turn_app _ _ hk hl]
    exact tyU_app hk (ih f (by rw [hl]; simp) Δ ft (by omega) hf) (ih x (by rw [hl]; simp) Δ at' (by omega) hx) hfa
  · by_cases h0 : t.kind = 0
    · rw [turn_hd _ _ h0]
      rw [h0] at hp
      obtain ⟨n, hn, hnl, hr⟩ := pick0.1 hp
      unfold substG
      rw [hn]
      rw [List.reverse_append, List.reverse_append] at hr
      simp only [List.length_append, List.length_singleton] at hlen hnl
      by_cases hb : Δ.length ≤ n
      · rw [List.getElem?_append_right (by simpa using hb), List.length_reverse] at hr
        by_cases he : n = Δ.length
        · rw [if_pos (by omega)]
          subst he
          rw [Nat.sub_self] at hr
          have hA : A = T := by simpa using hr
          subst hA
          have h9 := tyU_grow (cs := cs) (ms := ms) (Γ := Γ) (Θ := Δ) a [] A (by simp only [List.length_append, List.length_nil]; omega) (by rw [List.append_nil]; exact ha)
          rw [List.append_nil] at h9
          exact h9
        · rw [if_neg (by omega), if_pos (by omega)]
          show (Rw.mk 0 (.mk [] 0) _ []).tyU cs ms _ = _
          rw [tyU_head (by decide) (by decide)]
          have hw : wrap64 ((n : Int) - 1) = ((n - 1 : Nat) : Int) := by rw [wrap_small (by omega) (by omega)]; omega
          rw [hw]
          refine pick0.2 ⟨n - 1, rfl, by simp only [List.length_append]; omega, ?_⟩
          rw [List.reverse_append, List.getElem?_append_right (by simp; omega), List.length_reverse]
          obtain ⟨m, hm⟩ : ∃ m, n - Δ.length = m + 1 := ⟨n - Δ.length - 1, by omega⟩
          rw [hm] at hr
          have : n - 1 - Δ.length = m := by omega
          rw [this]
          simpa using hr
      · rw [if_neg (by omega), if_neg (by omega)]
        show (Rw.mk 0 (.mk [] 0) _ []).tyU cs ms _ = _
        rw [tyU_head (by decide) (by decide)]
        rw [List.getElem?_append_left (by simp; omega)] at hr
        refine pick0.2 ⟨n, rfl, by simp only [List.length_append]; omega, ?_⟩
        rw [List.reverse_append, List.getElem?_append_left (by simp; omega)]
        exact hr
    · rw [t.turn_eq, if_neg h0, tyU_head h3 h4, ← hp]
      exact pick_other h0

theorem step_tyU {cs ms : List Ty} (t : Rw) : ∀ (d : Bool) (Γ : List Ty) (T : Ty), Γ.length + 2 * t.depth ≤ 900000 → t.tyU cs ms Γ = some T → (t.step d).1.tyU cs ms Γ = some T := by
  induction t using Rw.ind with
  | h t ih =>
  intro d Γ T hlen ht
  have hno : ∀ d, ((Rw.mk t.kind t.ty t.idx (stepL d t.kids).1)).tyU cs ms Γ = some T := by
    intro d
    rcases tyU_cases ht with ⟨hk, u, b, hl, hu, rfl⟩ | ⟨hk, f, x, ft, at', rest, hl, hf, hx, hfa, rfl⟩ | ⟨h3, h4, hp⟩
    · have hd := kid_depth hl (show u ∈ [u] by simp)
      rw [hl]
      exact tyU_lam hk (ih u (by rw [hl]; simp) d (Γ ++ [t.ty]) b (by simp only [List.length_append, List.length_singleton]; omega) hu)
    · have hd1 := kid_depth hl (show f ∈ [f, x] by simp)
      have hd2 := kid_depth hl (show x ∈ [f, x] by simp)
      rw [hl]
      exact tyU_app hk (ih f (by rw [hl]; simp) d Γ ft (by omega) hf) (ih x (by rw [hl]; simp) _ Γ at' (by omega) hx) hfa
    · rw [tyU_head h3 h4, hp]
  rw [t.step_eq]
  cases d with
  | true => exact hno true
  | false =>
    cases hr : redexOf t.kind t.kids with
    | none => exact hno false
    | some p =>
      obtain ⟨b, a⟩ := p
      obtain ⟨h4, f, hl, hf3, hfl⟩ := redexOf_some hr
      show (substR b a).tyU cs ms Γ = some T
      rcases tyU_cases ht with ⟨hk, _⟩ | ⟨_, f', a', ft, at', rest, hl', hf, ha, hfa, rfl⟩ | ⟨_, hn4, _⟩
      · omega
      · rw [hl] at hl'
        obtain ⟨rfl, rfl⟩ : f = f' ∧ a = a' := by simpa using hl'
        rcases tyU_cases hf with ⟨_, u, bt, hul, hu, rfl⟩ | ⟨hk, _⟩ | ⟨hn3, _⟩
        · rw [hfl] at hul
          obtain rfl : b = u := by simpa using hul
          have hfa' : f.ty :: bt.args = at' :: rest := hfa
          injection hfa' with e1 e2
          subst e1 e2
          have hd1 := kid_depth hl (show f ∈ [f, a] by simp)
          have hd2 := kid_depth hl (show a ∈ [f, a] by simp)
          have hd3 := kid_depth hfl (show b ∈ [b] by simp)
          have h9 := tyU_subst ha b [] bt (by simp only [List.length_append, List.length_singleton, List.length_nil]; omega) (by rw [List.append_nil]; exact hu)
          rw [List.append_nil] at h9
          have hbt : Ty.mk bt.args bt.base = bt := by cases bt; rfl
          show (substR b a).tyU cs ms Γ = some (Ty.mk bt.args (Ty.mk (f.ty :: bt.args) bt.base).base)
          exact h9.trans (congrArg some hbt.symm)
        · omega
        · exact absurd hf3 hn3
      · exact absurd h4 hn4

theorem two_of9 {ts : List Rw} (h : ts.length = 2) : ∃ f a, ts = [f, a] := by
  match ts, h with
  | [f, a], _ => exact ⟨f, a, rfl⟩
theorem finI_err {p : Int × Ty} (h : p.1 ≠ 0) : finI p = (p.1, zT) := by unfold finI; rw [if_neg h]
theorem finI_zero {p : Int × Ty} {T : Ty} (h : finI p = (0, T)) : p = (0, T) := by
  unfold finI at h
  by_cases h0 : p.1 = 0
  · rw [if_pos h0] at h
    by_cases h1 : p.2.size ≤ 1000
    · rw [if_pos h1] at h; exact h
    · rw [if_neg h1] at h; injection h with h; omega
  · rw [if_neg h0] at h; injection h with h; omega
theorem finI_ok (T : Ty) : finI (0, T) = (0, T) ∨ finI (0, T) = (2, zT) := by
  unfold finI
  rw [if_pos rfl]
  by_cases h1 : T.size ≤ 1000
  · rw [if_pos h1]; exact .inl rfl
  · rw [if_neg h1]; exact .inr rfl

/-- what has a type, within the limits, has it whatever the limits are -/
theorem inf_tyU {bs : Int} {cs ms : List Ty} (r : Rw) : ∀ (ctx : List Ty) (T : Ty), r.shaped = true → r.inf bs cs ms ctx = (0, T) → r.tyU cs ms ctx = some T := by
  induction r using Rw.ind with
  | h r ih =>
  intro ctx T hs h
  rw [r.shaped_eq, Bool.and_eq_true] at hs
  have hks : ∀ u ∈ r.kids, u.shaped = true := fun u hu => (shapedR_iff _).1 hs.2 u hu
  rw [r.inf_eq] at h
  have h := finI_zero h
  unfold Rw.ofI at h
  rw [r.tyU_eq]
  have hw := hs.1
  by_cases h3 : r.kind = 3
  · rw [h3] at hw
    have h1 : r.kids.length = 1 := by simpa [wellR] using hw
    obtain ⟨u, hu⟩ := List.length_eq_one_iff.1 h1
    rw [if_pos h3, hu] at h ⊢
    by_cases hr : rightB bs r.ty = true
    · rw [if_pos hr] at h
      obtain ⟨q, hq⟩ : ∃ q, u.inf bs cs ms (ctx ++ [r.ty]) = q := ⟨_, rfl⟩
      have h : lamI r.ty [u.inf bs cs ms (ctx ++ [r.ty])] = (0, T) := h
      rw [hq] at h
      have h : (if q.1 = 0 then ((0 : Int), Ty.mk (r.ty :: q.2.args) q.2.base) else (q.1, zT)) = (0, T) := h
      by_cases h0 : q.1 = 0
      · rw [if_pos h0] at h
        injection h with _ h
        have h9 := ih u (by rw [hu]; simp) (ctx ++ [r.ty]) q.2 (hks u (by rw [hu]; simp)) (by rw [hq, ← h0])
        show lamU r.ty [u.tyU cs ms (ctx ++ [r.ty])] = _
        rw [h9, ← h]
        rfl
      · rw [if_neg h0] at h
        injection h with h _
        exact absurd h h0
    · rw [if_neg hr] at h
      injection h with h
      omega
  · rw [if_neg h3] at h ⊢
    by_cases h4 : r.kind = 4
    · rw [h4] at hw
      have h1 : r.kids.length = 2 := by simpa [wellR] using hw
      obtain ⟨f, a, hu⟩ := two_of9 h1
      rw [if_pos h4, hu] at h ⊢
      have h : appI [f.inf bs cs ms ctx, a.inf bs cs ms ctx] = (0, T) := h
      obtain ⟨q, hq⟩ : ∃ q, f.inf bs cs ms ctx = q := ⟨_, rfl⟩
      obtain ⟨p, hp⟩ : ∃ p, a.inf bs cs ms ctx = p := ⟨_, rfl⟩
      rw [hq, hp] at h
      have h : (if q.1 = 0 then (if p.1 = 0 then appT q.2 p.2 else (p.1, zT)) else (q.1, zT)) = (0, T) := h
      by_cases h0 : q.1 = 0
      · rw [if_pos h0] at h
        by_cases h5 : p.1 = 0
        · rw [if_pos h5] at h
          have h8 := ih f (by rw [hu]; simp) ctx q.2 (hks f (by rw [hu]; simp)) (by rw [hq, ← h0])
          have h9 := ih a (by rw [hu]; simp) ctx p.2 (hks a (by rw [hu]; simp)) (by rw [hp, ← h5])
          show appU [f.tyU cs ms ctx, a.tyU cs ms ctx] = _
          rw [h8, h9]
          unfold appT at h
          show appV q.2 p.2 = _
          unfold appV
          cases hfa : q.2.args with
          | nil => rw [hfa] at h; injection h with h; omega
          | cons x rest =>
            rw [hfa] at h
            dsimp only at h ⊢
            by_cases hx : x.same p.2 = true
            · rw [if_pos hx] at h ⊢
              injection h with _ h
              rw [h]
            · rw [if_neg hx] at h
              injection h with h
              omega
        · rw [if_neg h5] at h
          injection h with h _
          exact absurd h h5
      · rw [if_neg h0] at h
        injection h with h _
        exact absurd h h0
    · rw [if_neg h4] at h ⊢
      unfold headI at h
      cases hpk : pickA cs ms ctx r.kind r.idx with
      | none => rw [hpk] at h; injection h with h; omega
      | some q => rw [hpk] at h; injection h with _ h; rw [h]

/-- what has a type is told it, or that it is too large -/
theorem tyU_inf {bs : Int} {cs ms : List Ty} (r : Rw) : ∀ (ctx : List Ty) (T : Ty), r.tyU cs ms ctx = some T → r.inf bs cs ms ctx = (0, T) ∨ r.inf bs cs ms ctx = (2, zT) := by
  induction r using Rw.ind with
  | h r ih =>
  intro ctx T ht
  rw [r.inf_eq]
  unfold Rw.ofI
  rcases tyU_cases ht with ⟨hk, u, b, hl, hu, rfl⟩ | ⟨hk, f, a, ft, at', rest, hl, hf, ha, hfa, rfl⟩ | ⟨h3, h4, hp⟩
  · rw [if_pos hk, hl]
    by_cases hr : rightB bs r.ty = true
    · rw [if_pos hr]
      show finI (lamI r.ty [u.inf bs cs ms (ctx ++ [r.ty])]) = _ ∨ finI (lamI r.ty [u.inf bs cs ms (ctx ++ [r.ty])]) = _
      rcases ih u (by rw [hl]; simp) (ctx ++ [r.ty]) b hu with h | h
      · rw [h]
        exact finI_ok _
      · rw [h]
        exact .inr rfl
    · rw [if_neg hr]
      exact .inr rfl
  · rw [if_neg (by omega), if_pos hk, hl]
    show finI (appI [f.inf bs cs ms ctx, a.inf bs cs ms ctx]) = _ ∨ finI (appI [f.inf bs cs ms ctx, a.inf bs cs ms ctx]) = _
    rcases ih f (by rw [hl]; simp) ctx ft hf with h | h
    · rw [h]
      rcases ih a (by rw [hl]; simp) ctx at' ha with h' | h'
      · rw [h']
        have : appI [((0 : Int), ft), (0, at')] = (0, .mk rest ft.base) := by
          show appT ft at' = _
          unfold appT
          rw [hfa]
          dsimp only
          rw [if_pos ((Ty.same_iff at' at').2 rfl)]
        rw [this]
        exact finI_ok _
      · rw [h']
        exact .inr rfl
    · rw [h]
      exact .inr rfl
  · rw [if_neg h3, if_neg h4, hp]
    exact finI_ok T

end Go.Proofs.Ytckagmagjogmnaa

namespace Go.Proofs.Ytckagmagjogmnaa
open Go Go.RowKit

theorem hdR_size (k i : Int) : (hdR k i).size = 1 := rfl
theorem turnL_all (g : Int → Nat → Rw) (b : Nat) (l : List Rw) : ∀ u ∈ turnL g b l, ∃ v ∈ l, u = v.turn g b := by
  intro u hu
  rw [turnL_map] at hu
  obtain ⟨v, hv, rfl⟩ := List.mem_map.1 hu
  exact ⟨v, hv, rfl⟩
theorem turn_size {g : Int → Nat → Rw} {n : Nat} (hn : 1 ≤ n) (hg : ∀ i b, (g i b).size ≤ n) (t : Rw) : ∀ b, (t.turn g b).size ≤ t.size * n := by
  induction t using Rw.ind with
  | h t ih =>
  intro b
  rw [t.turn_eq]
  by_cases h0 : t.kind = 0
  · rw [if_pos h0]
    exact Nat.le_trans (hg _ _) (Nat.le_mul_of_pos_left n (by have := t.size_pos; omega))
  · rw [if_neg h0]
    show 1 + sizeR (turnL g (inR t.kind b) t.kids) ≤ _
    rw [t.size_eq, Nat.add_mul, Nat.one_mul]
    have : ∀ l : List Rw, (∀ u ∈ l, ∀ b, (u.turn g b).size ≤ u.size * n) → ∀ b, sizeR (turnL g b l) ≤ sizeR l * n := by
      intro l
      induction l with
      | nil => intro _ b; simp [turnL, sizeR]
      | cons u l ih2 => intro h b; have h1 := h u (by simp) b; have h2 := ih2 (fun v hv => h v (by simp [hv])) b; simp only [turnL, sizeR, Nat.add_mul]; omega
    have := this t.kids ih (inR t.kind b)
    omega
theorem grow_size (a : Rw) (n : Int) : (a.grow n).size ≤ a.size := by
  have := turn_size (g := growG n) (n := 1) (Nat.le_refl 1) (fun i b => by unfold growG; rw [hdR_size]; omega) a 0
  rwa [Nat.mul_one] at this
theorem substR_size (b a : Rw) : (substR b a).size ≤ b.size * a.size := by
  have hp := a.size_pos
  refine turn_size hp (fun i k => ?_) b 0
  unfold substG
  split
  · exact grow_size a k
  · split <;> (rw [hdR_size]; exact hp)
theorem step_size (t : Rw) : ∀ d, (t.step d).1.size ≤ t.size * t.size := by
  induction t using Rw.ind with
  | h t ih =>
  intro d
  have hno : ∀ d, (Rw.mk t.kind t.ty t.idx (stepL d t.kids).1).size ≤ t.size * t.size := by
    intro d
    show 1 + sizeR (stepL d t.kids).1 ≤ _
    have : ∀ l : List Rw, (∀ u ∈ l, ∀ d, (u.step d).1.size ≤ u.size * u.size) → ∀ d, sizeR (stepL d l).1 ≤ sizeR l * sizeR l := by
      intro l
      induction l with
      | nil => intro _ d; simp [stepL, sizeR]
      | cons u l ih2 =>
        intro h d
        have h1 := h u (by simp) d
        have h2 := ih2 (fun v hv => h v (by simp [hv])) (u.step d).2
        simp only [stepL, sizeR]
        have : (u.size + sizeR l) * (u.size + sizeR l) = u.size * u.size + sizeR l * sizeR l + (u.size * sizeR l + sizeR l * u.size) := by rw [Nat.add_mul, Nat.mul_add, Nat.mul_add]; omega
        omega
    have := this t.kids ih d
    rw [t.size_eq]
    have h9 : (1 + sizeR t.kids) * (1 + sizeR t.kids) = 1 + sizeR t.kids + (sizeR t.kids + sizeR t.kids * sizeR t.kids) := by simp only [Nat.add_mul, Nat.mul_add, Nat.one_mul, Nat.mul_one]
    omega
  rw [t.step_eq]
  cases d with
  | true => exact hno true
  | false =>
    cases hr : redexOf t.kind t.kids with
    | none => exact hno false
    | some p =>
      obtain ⟨b, a⟩ := p
      obtain ⟨_, f, hl, _, hfl⟩ := redexOf_some hr
      show (substR b a).size ≤ _
      have h1 := substR_size b a
      have h2 := t.size_eq
      have h3 := f.size_eq
      rw [hl] at h2
      rw [hfl] at h3
      simp only [sizeR] at h2 h3
      exact Nat.le_trans h1 (Nat.mul_le_mul (by omega) (by omega))

/-- what holds of all nodes' numbers and types -/
structure NodeP (P : Rw → Prop) (R : Int → Prop) : Prop where
  hd : ∀ i, R i → P (hdR 0 i)
  node : ∀ k t i l l', P (.mk k t i l) → l'.length = l.length → (∀ u ∈ l', P u) → P (.mk k t i l')
  idx : ∀ t, P t → R t.idx
  kid : ∀ t, P t → ∀ u ∈ t.kids, P u
theorem turn_P {P : Rw → Prop} {R : Int → Prop} (hP : NodeP P R) {g : Int → Nat → Rw} (hg : ∀ i b, R i → P (g i b)) (t : Rw) : ∀ b, P t → P (t.turn g b) := by
  induction t using Rw.ind with
  | h t ih =>
  intro b h
  rw [t.turn_eq]
  by_cases h0 : t.kind = 0
  · rw [if_pos h0]; exact hg _ _ (hP.idx t h)
  · rw [if_neg h0]
    refine hP.node t.kind t.ty t.idx t.kids _ (by cases t; exact h) (by rw [turnL_map, List.length_map]) fun u hu => ?_
    obtain ⟨v, hv, rfl⟩ := turnL_all _ _ _ u hu
    exact ih v hv _ (hP.kid t h v hv)
theorem stepL_mem (l : List Rw) : ∀ d, ∀ u ∈ (stepL d l).1, ∃ v ∈ l, ∃ d', u = (v.step d').1 := by
  induction l with
  | nil => intro d u hu; simp [stepL] at hu
  | cons t l ih =>
    intro d u hu
    simp only [stepL, List.mem_cons] at hu
    rcases hu with rfl | hu
    · exact ⟨t, by simp, d, rfl⟩
    · obtain ⟨v, hv, d', e⟩ := ih _ u hu
      exact ⟨v, by simp [hv], d', e⟩
theorem stepL_length (l : List Rw) : ∀ d, (stepL d l).1.length = l.length := by
  induction l with
  | nil => intro d; rfl
  | cons t l ih => intro d; simp only [stepL, List.length_cons, ih]
theorem step_P {P : Rw → Prop} {R : Int → Prop} (hP : NodeP P R) (hR : ∀ n, R (wrap64 n)) (t : Rw) : ∀ d, P t → P (t.step d).1 := by
  induction t using Rw.ind with
  | h t ih =>
  intro d h
  have hno : ∀ d, P (Rw.mk t.kind t.ty t.idx (stepL d t.kids).1) := fun d =>
    hP.node t.kind t.ty t.idx t.kids _ (by cases t; exact h) (stepL_length _ _) fun u hu => by
      obtain ⟨v, hv, d', rfl⟩ := stepL_mem _ _ u hu
      exact ih v hv d' (hP.kid t h v hv)
  rw [t.step_eq]
  cases d with
  | true => exact hno true
  | false =>
    cases hr : redexOf t.kind t.kids with
    | none => exact hno false
    | some p =>
      obtain ⟨b, a⟩ := p
      obtain ⟨_, f, hl, _, hfl⟩ := redexOf_some hr
      have hf : P f := hP.kid t h f (by rw [hl]; simp)
      have ha : P a := hP.kid t h a (by rw [hl]; simp)
      have hb : P b := hP.kid f hf b (by rw [hfl]; simp)
      show P (substR b a)
      have hgr : ∀ n : Int, P (a.grow n) := fun n => turn_P hP (fun i k hi => by unfold growG; split; exact hP.hd _ (hR _); exact hP.hd _ hi) a 0 ha
      exact turn_P hP (fun i k hi => by
        unfold substG
        split
        · exact hgr k
        · split
          · exact hP.hd _ (hR _)
          · exact hP.hd _ hi) b 0 hb
theorem wrap64_range (n : Int) : -9223372036854775808 ≤ wrap64 n ∧ wrap64 n ≤ 9223372036854775807 := by unfold wrap64; omega
theorem step_rng (t : Rw) (d : Bool) (h : t.rng) : (t.step d).1.rng :=
  step_P (P := Rw.rng) (R := fun i => -9223372036854775808 ≤ i ∧ i ≤ 9223372036854775807)
    ⟨fun i hi => ⟨⟨by decide, by decide⟩, hi, trivial⟩,
     fun k t i l l' h _ hl => ⟨h.1, h.2.1, (rngR_iff _).2 hl⟩,
     fun t h => by rw [t.rng_eq] at h; exact h.2.1,
     fun t h u hu => by rw [t.rng_eq] at h; exact rngR_mem h.2.2 hu⟩ wrap64_range t d h
theorem step_lit (t : Rw) (d : Bool) (h : t.lit) : (t.step d).1.lit :=
  step_P (P := Rw.lit) (R := fun _ => True)
    ⟨fun i _ => ⟨by decide, trivial⟩,
     fun k t i l l' h _ hl => ⟨h.1, (litR_iff _).2 hl⟩,
     fun t h => trivial,
     fun t h u hu => by rw [t.lit_eq, litR_iff] at h; exact h.2 u hu⟩ (fun _ => trivial) t d h
theorem step_fit (t : Rw) (d : Bool) (h : t.fit) : (t.step d).1.fit :=
  step_P (P := Rw.fit) (R := fun _ => True)
    ⟨fun i _ => ⟨by decide, by decide, trivial⟩,
     fun k t i l l' h he hl => ⟨h.1, by rw [he]; exact h.2.1, (fitR_iff _).2 hl⟩,
     fun t h => trivial,
     fun t h u hu => by cases t; exact (fitR_iff _).1 h.2.2 u hu⟩ (fun _ => trivial) t d h

/-- what a step makes of a typed one is told the type, or that it is too large -/
theorem step_infer {bs : Int} {cs ms ctx : List Ty} {t : Rw} {T : Ty} (hlen : ctx.length ≤ 1000) (hr : t.right = true) (ht : t.tyU cs ms ctx = some T) : (t.step false).1.tyU cs ms ctx = some T ∧ ((t.step false).1.right = true → (t.step false).1.infer bs cs ms ctx = (0, T) ∨ (t.step false).1.infer bs cs ms ctx = (2, zT)) := by
  have hd : t.depth ≤ 60 := by unfold Rw.right at hr; simp at hr; exact hr.2
  have h1 := step_tyU t false ctx T (by omega) ht
  refine ⟨h1, fun h => ?_⟩
  unfold Rw.infer
  rw [if_pos h]
  exact tyU_inf _ ctx T h1

end Go.Proofs.Ytckagmagjogmnaa

