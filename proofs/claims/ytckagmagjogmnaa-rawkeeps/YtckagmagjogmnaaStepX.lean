/-
  What else a step keeps: how large it gets, that its numbers fit, that its types can be gone through. Plain.
-/
import Derived.Test.YtckagmagjogmnaaTyStep
import Derived.Test.YtckagmagjogmnaaInfE
import Derived.Test.YtckagmagjogmnaaMade
namespace Go.Proofs.Ytckagmagjogmnaa
open Go Go.RowKit

theorem hdR_size (k i : Int) : (hdR k i).size = 1 := rfl
theorem turnL_all (g : Int → Nat → Rw) (b : Nat) (l : List Rw) : ∀ u ∈ turnL g b l, ∃ v ∈ l, u = v.turn g b := by
  intro u hu
  rw [turnL_map] at hu
  obtain ⟨v, hv, rfl⟩ := List.mem_map.1 hu
  exact ⟨v, hv, rfl⟩
theorem turn_size {g : Int → Nat → Rw} {n : Nat} (hn : 1 ≤ n) (hg : ∀ i b, (g i b).size ≤ n) (t : Rw) : ∀ b, (t.turn g b).size ≤ t.size * n := by
  induction t using Rw.ind with
  | h t ih =>
  intro b
  rw [t.turn_eq]
  by_cases h0 : t.kind = 0
  · rw [if_pos h0]
    exact Nat.le_trans (hg _ _) (Nat.le_mul_of_pos_left n (by have := t.size_pos; omega))
  · rw [if_neg h0]
    show 1 + sizeR (turnL g (inR t.kind b) t.kids) ≤ _
    rw [t.size_eq, Nat.add_mul, Nat.one_mul]
    have : ∀ l : List Rw, (∀ u ∈ l, ∀ b, (u.turn g b).size ≤ u.size * n) → ∀ b, sizeR (turnL g b l) ≤ sizeR l * n := by
      intro l
      induction l with
      | nil => intro _ b; simp [turnL, sizeR]
      | cons u l ih2 => intro h b; have h1 := h u (by simp) b; have h2 := ih2 (fun v hv => h v (by simp [hv])) b; simp only [turnL, sizeR, Nat.add_mul]; omega
    have := this t.kids ih (inR t.kind b)
    omega
theorem grow_size (a : Rw) (n : Int) : (a.grow n).size ≤ a.size := by
  have := turn_size (g := growG n) (n := 1) (Nat.le_refl 1) (fun i b => by unfold growG; rw [hdR_size]; omega) a 0
  rwa [Nat.mul_one] at this
theorem substR_size (b a : Rw) : (substR b a).size ≤ b.size * a.size := by
  have hp := a.size_pos
  refine turn_size hp (fun i k => ?_) b 0
  unfold substG
  split
  · exact grow_size a k
  · split <;> (rw [hdR_size]; exact hp)
theorem step_size (t : Rw) : ∀ d, (t.step d).1.size ≤ t.size * t.size := by
  induction t using Rw.ind with
  | h t ih =>
  intro d
  have hno : ∀ d, (Rw.mk t.kind t.ty t.idx (stepL d t.kids).1).size ≤ t.size * t.size := by
    intro d
    show 1 + sizeR (stepL d t.kids).1 ≤ _
    have : ∀ l : List Rw, (∀ u ∈ l, ∀ d, (u.step d).1.size ≤ u.size * u.size) → ∀ d, sizeR (stepL d l).1 ≤ sizeR l * sizeR l := by
      intro l
      induction l with
      | nil => intro _ d; simp [stepL, sizeR]
      | cons u l ih2 =>
        intro h d
        have h1 := h u (by simp) d
        have h2 := ih2 (fun v hv => h v (by simp [hv])) (u.step d).2
        simp only [stepL, sizeR]
        have : (u.size + sizeR l) * (u.size + sizeR l) = u.size * u.size + sizeR l * sizeR l + (u.size * sizeR l + sizeR l * u.size) := by rw [Nat.add_mul, Nat.mul_add, Nat.mul_add]; omega
        omega
    have := this t.kids ih d
    rw [t.size_eq]
    have h9 : (1 + sizeR t.kids) * (1 + sizeR t.kids) = 1 + sizeR t.kids + (sizeR t.kids + sizeR t.kids * sizeR t.kids) := by simp only [Nat.add_mul, Nat.mul_add, Nat.one_mul, Nat.mul_one]
    omega
  rw [t.step_eq]
  cases d with
  | true => exact hno true
  | false =>
    cases hr : redexOf t.kind t.kids with
    | none => exact hno false
    | some p =>
      obtain ⟨b, a⟩ := p
      obtain ⟨_, f, hl, _, hfl⟩ := redexOf_some hr
      show (substR b a).size ≤ _
      have h1 := substR_size b a
      have h2 := t.size_eq
      have h3 := f.size_eq
      rw [hl] at h2
      rw [hfl] at h3
      simp only [sizeR] at h2 h3
      exact Nat.le_trans h1 (Nat.mul_le_mul (by omega) (by omega))

/-- what holds of all nodes' numbers and types -/
structure NodeP (P : Rw → Prop) (R : Int → Prop) : Prop where
  hd : ∀ i, R i → P (hdR 0 i)
  node : ∀ k t i l l', P (.mk k t i l) → l'.length = l.length → (∀ u ∈ l', P u) → P (.mk k t i l')
  idx : ∀ t, P t → R t.idx
  kid : ∀ t, P t → ∀ u ∈ t.kids, P u
theorem turn_P {P : Rw → Prop} {R : Int → Prop} (hP : NodeP P R) {g : Int → Nat → Rw} (hg : ∀ i b, R i → P (g i b)) (t : Rw) : ∀ b, P t → P (t.turn g b) := by
  induction t using Rw.ind with
  | h t ih =>
  intro b h
  rw [t.turn_eq]
  by_cases h0 : t.kind = 0
  · rw [if_pos h0]; exact hg _ _ (hP.idx t h)
  · rw [if_neg h0]
    refine hP.node t.kind t.ty t.idx t.kids _ (by cases t; exact h) (by rw [turnL_map, List.length_map]) fun u hu => ?_
    obtain ⟨v, hv, rfl⟩ := turnL_all _ _ _ u hu
    exact ih v hv _ (hP.kid t h v hv)
theorem stepL_mem (l : List Rw) : ∀ d, ∀ u ∈ (stepL d l).1, ∃ v ∈ l, ∃ d', u = (v.step d').1 := by
  induction l with
  | nil => intro d u hu; simp [stepL] at hu
  | cons t l ih =>
    intro d u hu
    simp only [stepL, List.mem_cons] at hu
    rcases hu with rfl | hu
    · exact ⟨t, by simp, d, rfl⟩
    · obtain ⟨v, hv, d', e⟩ := ih _ u hu
      exact ⟨v, by simp [hv], d', e⟩
theorem stepL_length (l : List Rw) : ∀ d, (stepL d l).1.length = l.length := by
  induction l with
  | nil => intro d; rfl
  | cons t l ih => intro d; simp only [stepL, List.length_cons, ih]
theorem step_P {P : Rw → Prop} {R : Int → Prop} (hP : NodeP P R) (hR : ∀ n, R (wrap64 n)) (t : Rw) : ∀ d, P t → P (t.step d).1 := by
  induction t using Rw.ind with
  | h t ih =>
  intro d h
  have hno : ∀ d, P (Rw.mk t.kind t.ty t.idx (stepL d t.kids).1) := fun d =>
    hP.node t.kind t.ty t.idx t.kids _ (by cases t; exact h) (stepL_length _ _) fun u hu => by
      obtain ⟨v, hv, d', rfl⟩ := stepL_mem _ _ u hu
      exact ih v hv d' (hP.kid t h v hv)
  rw [t.step_eq]
  cases d with
  | true => exact hno true
  | false =>
    cases hr : redexOf t.kind t.kids with
    | none => exact hno false
    | some p =>
      obtain ⟨b, a⟩ := p
      obtain ⟨_, f, hl, _, hfl⟩ := redexOf_some hr
      have hf : P f := hP.kid t h f (by rw [hl]; simp)
      have ha : P a := hP.kid t h a (by rw [hl]; simp)
      have hb : P b := hP.kid f hf b (by rw [hfl]; simp)
      show P (substR b a)
      have hgr : ∀ n : Int, P (a.grow n) := fun n => turn_P hP (fun i k hi => by unfold growG; split; exact hP.hd _ (hR _); exact hP.hd _ hi) a 0 ha
      exact turn_P hP (fun i k hi => by
        unfold substG
        split
        · exact hgr k
        · split
          · exact hP.hd _ (hR _)
          · exact hP.hd _ hi) b 0 hb
theorem wrap64_range (n : Int) : -9223372036854775808 ≤ wrap64 n ∧ wrap64 n ≤ 9223372036854775807 := by unfold wrap64; omega
theorem step_rng (t : Rw) (d : Bool) (h : t.rng) : (t.step d).1.rng :=
  step_P (P := Rw.rng) (R := fun i => -9223372036854775808 ≤ i ∧ i ≤ 9223372036854775807)
    ⟨fun i hi => ⟨⟨by decide, by decide⟩, hi, trivial⟩,
     fun k t i l l' h _ hl => ⟨h.1, h.2.1, (rngR_iff _).2 hl⟩,
     fun t h => by rw [t.rng_eq] at h; exact h.2.1,
     fun t h u hu => by rw [t.rng_eq] at h; exact rngR_mem h.2.2 hu⟩ wrap64_range t d h
theorem step_lit (t : Rw) (d : Bool) (h : t.lit) : (t.step d).1.lit :=
  step_P (P := Rw.lit) (R := fun _ => True)
    ⟨fun i _ => ⟨by decide, trivial⟩,
     fun k t i l l' h _ hl => ⟨h.1, (litR_iff _).2 hl⟩,
     fun t h => trivial,
     fun t h u hu => by rw [t.lit_eq, litR_iff] at h; exact h.2 u hu⟩ (fun _ => trivial) t d h
theorem step_fit (t : Rw) (d : Bool) (h : t.fit) : (t.step d).1.fit :=
  step_P (P := Rw.fit) (R := fun _ => True)
    ⟨fun i _ => ⟨by decide, by decide, trivial⟩,
     fun k t i l l' h he hl => ⟨h.1, by rw [he]; exact h.2.1, (fitR_iff _).2 hl⟩,
     fun t h => trivial,
     fun t h u hu => by cases t; exact (fitR_iff _).1 h.2.2 u hu⟩ (fun _ => trivial) t d h

/-- what a step makes of a typed one is told the type, or that it is too large -/
theorem step_infer {bs : Int} {cs ms ctx : List Ty} {t : Rw} {T : Ty} (hlen : ctx.length ≤ 1000) (hr : t.right = true) (ht : t.tyU cs ms ctx = some T) : (t.step false).1.tyU cs ms ctx = some T ∧ ((t.step false).1.right = true → (t.step false).1.infer bs cs ms ctx = (0, T) ∨ (t.step false).1.infer bs cs ms ctx = (2, zT)) := by
  have hd : t.depth ≤ 60 := by unfold Rw.right at hr; simp at hr; exact hr.2
  have h1 := step_tyU t false ctx T (by omega) ht
  refine ⟨h1, fun h => ?_⟩
  unfold Rw.infer
  rw [if_pos h]
  exact tyU_inf _ ctx T h1

end Go.Proofs.Ytckagmagjogmnaa
