/-
  A region that draws its order, of operations that read or call and of some that write, one behind the other: by stages.
-/
import Derived.Test.YtheokboggjnenaaVals
namespace Go.Proofs.Ytheokboggjnenaa
open Go Go.RowKit

def edgeB (md : Region.Mode) (ops : Array Oper) (i j : Nat) : Bool := match ops[i]? with
  | none => false
  | some o => o.after.any fun e => e.on == j && Region.binds md e
/-- Whoever looks at a slot waits for who writes it; one waits for earlier ones alone. -/
def lookB (md : Region.Mode) (ops : Array Oper) (b : Nat → Bool) : Bool :=
  (List.range ops.size).all fun i => match ops[i]? with
    | none => true
    | some o => (o.after.all fun e => decide (e.on < i)) && (o.looksAt ops).all fun s => !b s || (List.range ops.size).any fun j => ((ops[j]?.bind (·.dst)) == some s) && edgeB md ops i j
/-- The writers wait for each other; each of the others is waited for by the stage that it bears. -/
def spineB (md : Region.Mode) (ops : Array Oper) (free : List (Nat × Nat)) (sp : List Nat) : Bool :=
  (List.range (sp.length - 1)).all (fun p => edgeB md ops (sp.getD (p + 1) 0) (sp.getD p 0)) && decide sp.Nodup && sp.all (fun i => decide (i < ops.size)) &&
  (List.range ops.size).all (fun i => sp.contains i || free.any fun x => x.1 == i) && free.all (fun x => !sp.contains x.1) &&
  free.all fun x => decide (sp.length ≤ x.2) || (List.range ops.size).any fun i => decide (x.1 < i) && edgeB md ops i x.1 &&
    ((List.range (x.2 + 1)).any (fun p => sp[p]? == some i) || free.any fun y => y.1 == i && decide (y.2 ≤ x.2))

variable {F : Fence} {n : Nat} {P : Program} {ops : Array Oper} {Q : Exit → Act → World → Prop} {md : Region.Mode}

theorem edgeB_spec {i j : Nat} (h : edgeB md ops i j = true) : ∃ o, ops[i]? = some o ∧ ∃ e ∈ o.after, e.on = j ∧ Region.binds md e = true := by
  unfold edgeB at h
  cases ho : ops[i]? with
  | none => rw [ho] at h; cases h
  | some o =>
    rw [ho] at h
    simp only [Array.any_eq_true'] at h
    obtain ⟨e, he, h8⟩ := h
    simp only [Bool.and_eq_true, beq_iff_eq] at h8
    exact ⟨o, rfl, e, he, h8.1, h8.2⟩
theorem lookB_spec {b : Nat → Bool} (h : lookB md ops b = true) {i : Nat} {o : Oper} (ho : ops[i]? = some o) :
    (∀ e ∈ o.after, e.on < i) ∧ ∀ s ∈ o.looksAt ops, b s = true → ∃ j oj, ops[j]? = some oj ∧ oj.dst = some s ∧ ∃ e ∈ o.after, e.on = j ∧ Region.binds md e = true := by
  unfold lookB at h
  have h1 := List.all_eq_true.1 h i (List.mem_range.2 (lt_of_get ho))
  rw [ho] at h1
  simp only [Bool.and_eq_true] at h1
  obtain ⟨h1, h2⟩ := h1
  refine ⟨fun e he => ?_, fun s hs hb => ?_⟩
  · rw [Array.all_eq_true'] at h1
    exact of_decide_eq_true (h1 e he)
  · have h3 := List.all_eq_true.1 h2 s hs
    simp only [hb, Bool.not_true, Bool.false_or] at h3
    obtain ⟨j, _, h4⟩ := List.any_eq_true.1 h3
    simp only [Bool.and_eq_true, beq_iff_eq] at h4
    obtain ⟨h6, h7⟩ := h4
    obtain ⟨o', ho', he⟩ := edgeB_spec h7
    rw [ho] at ho'
    cases ho'
    cases hoj : ops[j]? with
    | none => rw [hoj] at h6; simp at h6
    | some oj => rw [hoj] at h6; exact ⟨j, oj, hoj, by simpa using h6, he⟩

structure Spine (md : Region.Mode) (ops : Array Oper) (free : List (Nat × Nat)) (sp : List Nat) : Prop where
  chain : ∀ p i j, sp[p + 1]? = some i → sp[p]? = some j → edgeB md ops i j = true
  nodup : sp.Nodup
  inb : ∀ i ∈ sp, i < ops.size
  cover : ∀ i, i < ops.size → i ∈ sp ∨ ∃ l, (i, l) ∈ free
  apart : ∀ i l, (i, l) ∈ free → i ∉ sp
  level : ∀ j l, (j, l) ∈ free → sp.length ≤ l ∨ ∃ i, j < i ∧ i < ops.size ∧ edgeB md ops i j = true ∧ ((∃ p, p ≤ l ∧ sp[p]? = some i) ∨ ∃ l', (i, l') ∈ free ∧ l' ≤ l)
theorem spineB_spec {free : List (Nat × Nat)} {sp : List Nat} (h : spineB md ops free sp = true) : Spine md ops free sp := by
  unfold spineB at h
  simp only [Bool.and_eq_true] at h
  obtain ⟨⟨⟨⟨⟨h1, h2⟩, h0⟩, h3⟩, h4⟩, h5⟩ := h
  refine ⟨fun p i j hi hj => ?_, of_decide_eq_true h2, fun i hi => of_decide_eq_true (List.all_eq_true.1 h0 i hi), fun i hi => ?_, fun i l hi hs => ?_, fun j l hj => ?_⟩
  · have hp := (List.getElem?_eq_some_iff.1 hi).1
    have := List.all_eq_true.1 h1 p (List.mem_range.2 (by omega))
    rwa [List.getD_eq_getElem?_getD, List.getD_eq_getElem?_getD, hi, hj] at this
  · have := List.all_eq_true.1 h3 i (List.mem_range.2 hi)
    rw [Bool.or_eq_true, List.contains_iff_mem, List.any_eq_true] at this
    rcases this with h | ⟨x, hx, he⟩
    · exact .inl h
    · have he' : x.1 = i := by simpa using he
      exact .inr ⟨x.2, by rw [← he']; exact hx⟩
  · have := List.all_eq_true.1 h4 (i, l) hi
    simp only [Bool.not_eq_true', ← Bool.not_eq_true, List.contains_iff_mem] at this
    exact this hs
  · have := List.all_eq_true.1 h5 (j, l) hj
    rw [Bool.or_eq_true, decide_eq_true_eq, List.any_eq_true] at this
    rcases this with h | ⟨i, hi, h6⟩
    · exact .inl h
    · simp only [Bool.and_eq_true, decide_eq_true_eq, Bool.or_eq_true, List.any_eq_true] at h6
      obtain ⟨⟨h7, h8⟩, h9⟩ := h6
      refine .inr ⟨i, h7, List.mem_range.1 hi, h8, ?_⟩
      rcases h9 with ⟨p, hp, he⟩ | ⟨y, hy, he⟩
      · exact .inl ⟨p, by have := List.mem_range.1 hp; omega, by simpa using he⟩
      · have he1 : y.1 = i := by simpa using he.1
        exact .inr ⟨y.2, by rw [← he1]; exact hy, he.2⟩

/-- What holds at a stage, whichever of the others have come up. -/
structure At (md : Region.Mode) (ops : Array Oper) (sp : List Nat) (b : Nat → Bool) (a0 : Act) (V : Nat → Nat → World → Value → Prop) (C : Nat → World → Prop) (p : Nat) (listed : Array Bool) (a : Act) (w : World) : Prop where
  sz : listed.size = ops.size
  le : p ≤ sp.length
  st : ∀ k i, sp[k]? = some i → (listed.getD i true = true ↔ k < p)
  ex : ∃ u, a = over b u a0 ∧ ∀ i o s, ops[i]? = some o → o.dst = some s → listed.getD i true = true → V p s w (u s)
  c : C p w
  dn : ∀ i o e, ops[i]? = some o → listed.getD i true = true → e ∈ o.after → Region.binds md e = true → listed.getD e.on false = true

theorem level_listed {free : List (Nat × Nat)} {sp : List Nat} (S : Spine md ops free sp) {listed : Array Bool} {p : Nat} (hsz : listed.size = ops.size) (hle : p ≤ sp.length)
    (st : ∀ k i, sp[k]? = some i → (listed.getD i true = true ↔ k < p)) (dn : ∀ i o e, ops[i]? = some o → listed.getD i true = true → e ∈ o.after → Region.binds md e = true → listed.getD e.on false = true) :
    ∀ m j l, (j, l) ∈ free → j + m = ops.size → l < p → listed.getD j true = true := by
  intro m
  induction m using Nat.strongRecOn with
  | ind m ih =>
    intro j l hj hm hl
    rcases S.level j l hj with h | ⟨i, hji, his, he, h⟩
    · omega
    · obtain ⟨o, ho, e, hea, hon, hbd⟩ := edgeB_spec he
      have hi : listed.getD i true = true := by
        rcases h with ⟨k, hk, hs⟩ | ⟨l', hl', hle'⟩
        · exact (st k i hs).2 (by omega)
        · exact ih (ops.size - i) (by omega) i l' hl' (by omega) (by omega)
      have := dn i o e ho hi hea hbd
      rw [hon] at this
      rw [getD_tf _ _ (by omega)]
      exact this

/-- What one that writes nothing owes, at a stage. -/
def OwesF (F : Fence) (n : Nat) (P : Program) (ops : Array Oper) (Q : Exit → Act → World → Prop) (b : Nat → Bool) (a0 : Act) (V : Nat → Nat → World → Value → Prop) (C : Nat → World → Prop) (p : Nat) (o : Oper) : Prop :=
  ∀ u w, C p w → (∀ s ∈ o.looksAt ops, b s = true → V p s w (u s)) → ∀ K' : Act → World → Prop, (∀ v w', (∀ s, o.dst = some s → V p s w' v) → Below w.heap.size w w' → K' ((over b u a0).put o.dst v) w') →
    if Region.wanted o (yielded ops (over b u a0).tmps) = true then Oper.wpIn F n P o (over b u a0) w K' Q else (∀ f, o.about P w (over b u a0).eval = some f → F.fn f) ∧ K' ((over b u a0).put o.dst undef) w
/-- What one that writes owes: it leads from a stage to the next. -/
def OwesS (F : Fence) (n : Nat) (P : Program) (ops : Array Oper) (Q : Exit → Act → World → Prop) (b : Nat → Bool) (a0 : Act) (V : Nat → Nat → World → Value → Prop) (C : Nat → World → Prop) (p : Nat) (o : Oper) : Prop :=
  ∀ u w, C p w → (∀ s ∈ o.looksAt ops, b s = true → V p s w (u s)) → ∀ K' : Act → World → Prop, (∀ v w', (∀ s, o.dst = some s → V (p + 1) s w' v) → C (p + 1) w' → (∀ s, V p s w (u s) → V (p + 1) s w' (u s)) → K' ((over b u a0).put o.dst v) w') →
    if Region.wanted o (yielded ops (over b u a0).tmps) = true then Oper.wpIn F n P o (over b u a0) w K' Q else (∀ f, o.about P w (over b u a0).eval = some f → F.fn f) ∧ K' ((over b u a0).put o.dst undef) w

/-- WHATEVER ORDER IS PICKED. -/
theorem any_spine {free : List (Nat × Nat)} {sp : List Nat} (b : Nat → Bool) (a0 : Act) (V : Nat → Nat → World → Value → Prop) (C : Nat → World → Prop) (S : Spine md ops free sp) (hdst : dstB ops b = true) (hlook : lookB md ops b = true)
    (hV : ∀ p s w w' v, V p s w v → Below w.heap.size w w' → V p s w' v) (hC : ∀ p w w', C p w → Below w.heap.size w w' → C p w')
    (hfree : ∀ i l o, (i, l) ∈ free → ops[i]? = some o → ∀ p, p ≤ l → p ≤ sp.length → OwesF F n P ops Q b a0 V C p o)
    (hsp : ∀ p i o, sp[p]? = some i → ops[i]? = some o → OwesS F n P ops Q b a0 V C p o)
    (hend : ∀ u w, C sp.length w → (∀ (i : Nat) (o : Oper) (s : Nat), ops[i]? = some o → o.dst = some s → V sp.length s w (u s)) → Q .normal (over b u a0) w)
    (w : World) (h0 : C 0 w) : wpAnyIn F n P md ops Q ops.size (Array.replicate ops.size false) a0 w := by
  have hready : ∀ {listed : Array Bool}, listed.size = ops.size → ∀ k, k < ops.size → listed.getD k true = false → Region.ready md ops listed ≠ [] := by
    intro listed hsz k
    induction k using Nat.strongRecOn with
    | ind k ih =>
      intro hk hun hr
      obtain ⟨o, ho⟩ : ∃ o, ops[k]? = some o := ⟨_, Array.getElem?_eq_getElem hk⟩
      have hlt := (lookB_spec hlook ho).1
      by_cases hall : ∀ e ∈ o.after, Region.binds md e = true → listed.getD e.on false = true
      · have := mem_ready.2 ⟨hun, o, ho, hall⟩
        rw [hr] at this
        cases this
      · simp only [Classical.not_forall] at hall
        obtain ⟨e, he, _, hno⟩ := hall
        have hl := hlt e he
        refine ih e.on hl (by omega) ?_ hr
        rw [getD_tf _ _ (by omega)]
        simpa using hno
  have hfin : ∀ p listed a w, At md ops sp b a0 V C p listed a w → Region.ready md ops listed = [] → Q .normal a w := by
    intro p listed a w hu hr
    have hall : ∀ k, k < ops.size → listed.getD k true = true := fun k hk => by
      cases h : listed.getD k true with
      | true => rfl
      | false => exact absurd hr (hready hu.sz k hk h)
    have hp : p = sp.length := by
      rcases Nat.lt_or_ge p sp.length with h | h
      · obtain ⟨i, hi⟩ : ∃ i, sp[p]? = some i := ⟨_, List.getElem?_eq_getElem h⟩
        have h2 := (hu.st p i hi)
        by_cases his : i < ops.size
        · have := h2.1 (hall i his); omega
        · have h3 : listed.getD i true = true := by
            have := hu.sz
            simp [Array.getD_eq_getD_getElem?, Array.getElem?_eq_none (show listed.size ≤ i by omega)]
          have := h2.1 h3; omega
      · have := hu.le; omega
    subst hp
    obtain ⟨u, rfl, hux⟩ := hu.ex
    exact hend u w hu.c (fun i o s ho hs => hux i o s ho hs (hall i (lt_of_get ho)))
  have main : ∀ fuel p listed a w, At md ops sp b a0 V C p listed a w → cntF listed = fuel → wpAnyIn F n P md ops Q fuel listed a w := by
    intro fuel
    induction fuel with
    | zero =>
      intro p listed a w hu hc
      have hr : Region.ready md ops listed = [] := List.eq_nil_iff_forall_not_mem.2 fun i hi => by
        have := cntF_set listed i (mem_ready.1 hi).1
        omega
      exact ⟨hr, hfin p listed a w hu hr⟩
    | succ fuel ih =>
      intro p listed a w hu hc
      refine ⟨hfin p listed a w hu, fun i hi => ?_⟩
      obtain ⟨hun, o, ho, hall⟩ := mem_ready.1 hi
      have hil := lt_of_get ho
      have hcn := cntF_set listed i hun
      have hsi : i < listed.size := by rw [hu.sz]; exact hil
      obtain ⟨u, rfl, hux⟩ := hu.ex
      have hk : ∀ s ∈ o.looksAt ops, b s = true → V p s w (u s) := fun s hs hb => by
        obtain ⟨j, oj, hoj, hds, e, he, hon, hbd⟩ := (lookB_spec hlook ho).2 s hs hb
        refine hux j oj s hoj hds ?_
        rw [getD_tf _ _ (by have := hu.sz; have := lt_of_get hoj; omega), ← hon]
        exact hall e he hbd
      have hdn : ∀ j oj e, ops[j]? = some oj → (listed.setIfInBounds i true).getD j true = true → e ∈ oj.after → Region.binds md e = true → (listed.setIfInBounds i true).getD e.on false = true := by
        intro j oj e hoj hl he hbd
        rw [getD_put _ _ _ _ hsi] at hl ⊢
        by_cases hie : i = e.on
        · rw [if_pos hie]
        · rw [if_neg hie]
          by_cases hij : i = j
          · subst hij
            rw [ho] at hoj
            cases hoj
            exact hall e he hbd
          · rw [if_neg hij] at hl
            exact hu.dn j oj e hoj hl he hbd
      have hnew : ∀ (p' : Nat) (w' : World) (v : Value), (∀ s, o.dst = some s → V p' s w' v) → (∀ s, V p s w (u s) → V p' s w' (u s)) → ∃ u', (over b u a0).put o.dst v = over b u' a0 ∧ ∀ j oj s, ops[j]? = some oj → oj.dst = some s → (listed.setIfInBounds i true).getD j true = true → V p' s w' (u' s) := by
        intro p' w' v hv hstep
        have old : ∀ j oj s, ops[j]? = some oj → oj.dst = some s → (listed.setIfInBounds i true).getD j true = true → i ≠ j → V p' s w' (u s) := fun j oj s hoj hs hl hij => by
          rw [getD_put _ _ _ _ hsi, if_neg hij] at hl
          exact hstep _ (hux j oj s hoj hs hl)
        cases hds : o.dst with
        | none =>
          refine ⟨u, rfl, fun j oj s hoj hs hl => ?_⟩
          by_cases hij : i = j
          · subst hij
            rw [ho] at hoj
            cases hoj
            rw [hds] at hs
            cases hs
          · exact old j oj s hoj hs hl hij
        | some d =>
          refine ⟨_, over_put (dstB_spec hdst ho hds), fun j oj s hoj hs hl => ?_⟩
          by_cases hsd : s = d
          · subst hsd
            rw [if_pos rfl]
            exact hv s hds
          · rw [if_neg hsd]
            by_cases hij : i = j
            · subst hij
              rw [ho] at hoj
              cases hoj
              rw [hds] at hs
              exact absurd (Option.some.inj hs).symm hsd
            · exact old j oj s hoj hs hl hij
      rcases S.cover i hil with his | ⟨l, hl⟩
      · obtain ⟨k, hks⟩ := List.mem_iff_getElem?.1 his
        have hkp : k = p := by
          have h1 : ¬ k < p := fun h => by have := (hu.st k i hks).2 h; rw [hun] at this; cases this
          cases k with
          | zero => omega
          | succ k =>
            obtain ⟨j, hj⟩ : ∃ j, sp[k]? = some j := ⟨_, List.getElem?_eq_getElem (by have := (List.getElem?_eq_some_iff.1 hks).1; omega)⟩
            obtain ⟨o', ho', e, he, hon, hbd⟩ := edgeB_spec (S.chain k i j hks hj)
            rw [ho] at ho'
            cases ho'
            have h2 := hall e he hbd
            rw [hon] at h2
            have h3 : listed.getD j true = true := by
              by_cases hjs : j < listed.size
              · rw [getD_tf _ _ hjs]; exact h2
              · simp [Array.getD_eq_getD_getElem?, Array.getElem?_eq_none (show listed.size ≤ j by omega)]
            have := (hu.st k j hj).1 h3
            omega
        subst hkp
        have hkl := (List.getElem?_eq_some_iff.1 hks).1
        refine wpOpIn_step ho fun K' hK' => hsp k i o hks ho u w hu.c hk K' fun v w' hv hc' hstep => hK' _ _ (ih (k + 1) _ _ _ ?_ (by omega))
        refine ⟨by rw [Array.size_setIfInBounds]; exact hu.sz, by omega, fun k' i' hk' => ?_, hnew (k + 1) w' v hv hstep, hc', hdn⟩
        rw [getD_put _ _ _ _ hsi]
        by_cases hii : i = i'
        · subst hii
          rw [if_pos rfl]
          have : k' = k := (List.getElem?_inj (by exact (List.getElem?_eq_some_iff.1 hk').1) S.nodup).1 (hk'.trans hks.symm)
          simp [this]
        · rw [if_neg hii, hu.st k' i' hk']
          have : k' ≠ k := fun e => by subst e; rw [hks] at hk'; exact hii (Option.some.inj hk')
          omega
      · have hpl : p ≤ l := by
          rcases Nat.lt_or_ge l p with h | h
          · have := level_listed S hu.sz hu.le hu.st hu.dn (ops.size - i) i l hl (by omega) h
            rw [hun] at this
            cases this
          · exact h
        refine wpOpIn_step ho fun K' hK' => hfree i l o hl ho p hpl hu.le u w hu.c hk K' fun v w' hv hb => hK' _ _ (ih p _ _ _ ?_ (by omega))
        refine ⟨by rw [Array.size_setIfInBounds]; exact hu.sz, hu.le, fun k' i' hk' => ?_, hnew p w' v hv (fun s hx => hV _ _ _ _ _ hx hb), hC _ _ _ hu.c hb, hdn⟩
        rw [getD_put _ _ _ _ hsi]
        by_cases hii : i = i'
        · subst hii
          exact absurd (List.mem_of_getElem? hk') (S.apart i l hl)
        · rw [if_neg hii]
          exact hu.st k' i' hk'
  refine main _ 0 _ _ _ ⟨by simp, Nat.zero_le _, fun k i hk => ?_, ⟨_, over_self b a0, fun i o s ho _ hl => ?_⟩, h0, fun i o e ho hl _ _ => ?_⟩ ?_
  · have := S.inb i (List.mem_of_getElem? hk)
    simp [Array.getD_eq_getD_getElem?, this]
  · simp [Array.getD_eq_getD_getElem?, lt_of_get ho] at hl
  · simp [Array.getD_eq_getD_getElem?, lt_of_get ho] at hl
  · simp [cntF]

/-- What those that write nothing owe, one by one; what the others owe. -/
def OwesFs (F : Fence) (n : Nat) (P : Program) (ops : Array Oper) (Q : Exit → Act → World → Prop) (b : Nat → Bool) (a0 : Act) (V : Nat → Nat → World → Value → Prop) (C : Nat → World → Prop) (q : Nat) : List (Nat × Nat) → Prop
  | [] => True
  | (i, l) :: r => (∀ o, ops[i]? = some o → ∀ p, p ≤ l → p ≤ q → OwesF F n P ops Q b a0 V C p o) ∧ OwesFs F n P ops Q b a0 V C q r
def OwesSs (F : Fence) (n : Nat) (P : Program) (ops : Array Oper) (Q : Exit → Act → World → Prop) (b : Nat → Bool) (a0 : Act) (V : Nat → Nat → World → Value → Prop) (C : Nat → World → Prop) : Nat → List Nat → Prop
  | _, [] => True
  | p, i :: r => (∀ o, ops[i]? = some o → OwesS F n P ops Q b a0 V C p o) ∧ OwesSs F n P ops Q b a0 V C (p + 1) r
theorem OwesFs.mem {b : Nat → Bool} {a0 : Act} {V : Nat → Nat → World → Value → Prop} {C : Nat → World → Prop} {q : Nat} : ∀ {free : List (Nat × Nat)}, OwesFs F n P ops Q b a0 V C q free → ∀ i l o, (i, l) ∈ free → ops[i]? = some o → ∀ p, p ≤ l → p ≤ q → OwesF F n P ops Q b a0 V C p o
  | [], _, i, l, o, h, _, _, _, _ => by cases h
  | (j, m) :: r, hO, i, l, o, h, ho, p, h1, h2 => by
    rcases List.mem_cons.1 h with e | h
    · cases e
      exact hO.1 o ho p h1 h2
    · exact OwesFs.mem hO.2 i l o h ho p h1 h2
theorem OwesSs.at {b : Nat → Bool} {a0 : Act} {V : Nat → Nat → World → Value → Prop} {C : Nat → World → Prop} : ∀ {sp : List Nat} {k : Nat}, OwesSs F n P ops Q b a0 V C k sp → ∀ p i o, sp[p]? = some i → ops[i]? = some o → OwesS F n P ops Q b a0 V C (k + p) o
  | [], _, _, p, i, o, h, _ => by simp at h
  | j :: r, k, hO, 0, i, o, h, ho => by
    simp at h
    subst h
    exact hO.1 o ho
  | j :: r, k, hO, p + 1, i, o, h, ho => by
    have := OwesSs.at hO.2 p i o (by simpa using h) ho
    rwa [show k + 1 + p = k + (p + 1) by omega] at this

/-- A REGION THAT DRAWS, BY STAGES. -/
theorem region_spine {id : Nat} {a : Act} {w : World} {l : List Oper} (free : List (Nat × Nat)) (sp : List Nat) (b : Nat → Bool) (V : Nat → Nat → World → Value → Prop) (C : Nat → World → Prop) (hmx : P.follows .mixedOrders = true) (hS : spineB .any l.toArray free sp = true) (hdst : dstB l.toArray b = true) (hlook : lookB .any l.toArray b = true)
    (hV : ∀ p s w w' v, V p s w v → Below w.heap.size w w' → V p s w' v) (hC : ∀ p w w', C p w → Below w.heap.size w w' → C p w') (h0 : C 0 w.drew)
    (hfree : OwesFs F n P l.toArray Q b a V C sp.length free) (hsp : OwesSs F n P l.toArray Q b a V C 0 sp)
    (hend : ∀ u w, C sp.length w → (∀ s ∈ l.filterMap (·.dst), V sp.length s w (u s)) → Q .normal (over b u a) w) : (Code.region id l.toArray true).wpIn F n P Q a w :=
  wpIn_region_any hmx (any_spine b a V C (spineB_spec hS) hdst hlook hV hC (fun i m o hi ho p h1 h2 => hfree.mem i m o hi ho p h1 h2) (fun p i o hi ho => by have := hsp.at p i o hi ho; rwa [Nat.zero_add] at this)
    (fun u w hc hv => hend u w hc fun s hs => by
      obtain ⟨o, ho, hd⟩ := List.mem_filterMap.1 hs
      obtain ⟨i, hi, rfl⟩ := List.getElem_of_mem ho
      exact hv i _ s (by simp) hd) _ h0)

end Go.Proofs.Ytheokboggjnenaa
