/-
  A region that draws its order, by stages, where what is said of a slot may speak of the others: boxes that are made on the way, and what is stored into them at the end.
-/
import Derived.Test.YtheokboggjnenaaSpine
namespace Go.Proofs.Ytheokboggjnenaa
open Go Go.RowKit

def upd (u : Nat → Value) (d : Option Nat) (v : Value) : Nat → Value := match d with
  | some s => fun j => if j = s then v else u j
  | none => u

variable {F : Fence} {n : Nat} {P : Program} {ops : Array Oper} {Q : Exit → Act → World → Prop} {md : Region.Mode}

/-- What holds at a stage, whichever of the others have come up. -/
structure AtU (md : Region.Mode) (ops : Array Oper) (sp : List Nat) (b : Nat → Bool) (a0 : Act) (V : Nat → Nat → World → (Nat → Value) → Prop) (C : Nat → World → (Nat → Value) → Prop) (p : Nat) (listed : Array Bool) (a : Act) (w : World) : Prop where
  sz : listed.size = ops.size
  le : p ≤ sp.length
  st : ∀ k i, sp[k]? = some i → (listed.getD i true = true ↔ k < p)
  ex : ∃ u, a = over b u a0 ∧ (∀ i o s, ops[i]? = some o → o.dst = some s → listed.getD i true = true → V p s w u) ∧ C p w u
  dn : ∀ i o e, ops[i]? = some o → listed.getD i true = true → e ∈ o.after → Region.binds md e = true → listed.getD e.on false = true

/-- What one owes, at a stage. -/
def OwesU (F : Fence) (n : Nat) (P : Program) (ops : Array Oper) (Q : Exit → Act → World → Prop) (b : Nat → Bool) (a0 : Act) (V : Nat → Nat → World → (Nat → Value) → Prop) (C : Nat → World → (Nat → Value) → Prop) (p q : Nat) (o : Oper) : Prop :=
  ∀ u w, C p w u → (∀ s ∈ o.looksAt ops, b s = true → V p s w u) → ∀ K' : Act → World → Prop, (∀ v w', (∀ s, o.dst = some s → V q s w' (upd u o.dst v)) → (∀ s, o.dst ≠ some s → V p s w u → V q s w' (upd u o.dst v)) → C q w' (upd u o.dst v) → K' ((over b u a0).put o.dst v) w') →
    if Region.wanted o (yielded ops (over b u a0).tmps) = true then Oper.wpIn F n P o (over b u a0) w K' Q else (∀ f, o.about P w (over b u a0).eval = some f → F.fn f) ∧ K' ((over b u a0).put o.dst undef) w

/-- WHATEVER ORDER IS PICKED. -/
theorem any_spineU {free : List (Nat × Nat)} {sp : List Nat} (b : Nat → Bool) (a0 : Act) (V : Nat → Nat → World → (Nat → Value) → Prop) (C : Nat → World → (Nat → Value) → Prop) (S : Spine md ops free sp) (hdst : dstB ops b = true) (hlook : lookB md ops b = true)
    (hfree : ∀ i l o, (i, l) ∈ free → ops[i]? = some o → ∀ p, p ≤ l → p ≤ sp.length → OwesU F n P ops Q b a0 V C p p o)
    (hsp : ∀ p i o, sp[p]? = some i → ops[i]? = some o → OwesU F n P ops Q b a0 V C p (p + 1) o)
    (hend : ∀ u w, C sp.length w u → (∀ (i : Nat) (o : Oper) (s : Nat), ops[i]? = some o → o.dst = some s → V sp.length s w u) → Q .normal (over b u a0) w)
    (w : World) (h0 : C 0 w (fun s => (a0.tmps[s]?).getD undef)) : wpAnyIn F n P md ops Q ops.size (Array.replicate ops.size false) a0 w := by
  have hready : ∀ {listed : Array Bool}, listed.size = ops.size → ∀ k, k < ops.size → listed.getD k true = false → Region.ready md ops listed ≠ [] := by
    intro listed hsz k
    induction k using Nat.strongRecOn with
    | ind k ih =>
      intro hk hun hr
      obtain ⟨o, ho⟩ : ∃ o, ops[k]? = some o := ⟨_, Array.getElem?_eq_getElem hk⟩
      have hlt := (lookB_spec hlook ho).1
      by_cases hall : ∀ e ∈ o.after, Region.binds md e = true → listed.getD e.on false = true
      · have := mem_ready.2 ⟨hun, o, ho, hall⟩
        rw [hr] at this
        cases this
      · simp only [Classical.not_forall] at hall
        obtain ⟨e, he, _, hno⟩ := hall
        have hl := hlt e he
        refine ih e.on hl (by omega) ?_ hr
        rw [getD_tf _ _ (by omega)]
        simpa using hno
  have hfin : ∀ p listed a w, AtU md ops sp b a0 V C p listed a w → Region.ready md ops listed = [] → Q .normal a w := by
    intro p listed a w hu hr
    have hall : ∀ k, k < ops.size → listed.getD k true = true := fun k hk => by
      cases h : listed.getD k true with
      | true => rfl
      | false => exact absurd hr (hready hu.sz k hk h)
    have hp : p = sp.length := by
      rcases Nat.lt_or_ge p sp.length with h | h
      · obtain ⟨i, hi⟩ : ∃ i, sp[p]? = some i := ⟨_, List.getElem?_eq_getElem h⟩
        have h2 := (hu.st p i hi)
        by_cases his : i < ops.size
        · have := h2.1 (hall i his); omega
        · have h3 : listed.getD i true = true := by
            have := hu.sz
            simp [Array.getD_eq_getD_getElem?, Array.getElem?_eq_none (show listed.size ≤ i by omega)]
          have := h2.1 h3; omega
      · have := hu.le; omega
    subst hp
    obtain ⟨u, rfl, hux, huc⟩ := hu.ex
    exact hend u w huc (fun i o s ho hs => hux i o s ho hs (hall i (lt_of_get ho)))
  have main : ∀ fuel p listed a w, AtU md ops sp b a0 V C p listed a w → cntF listed = fuel → wpAnyIn F n P md ops Q fuel listed a w := by
    intro fuel
    induction fuel with
    | zero =>
      intro p listed a w hu hc
      have hr : Region.ready md ops listed = [] := List.eq_nil_iff_forall_not_mem.2 fun i hi => by
        have := cntF_set listed i (mem_ready.1 hi).1
        omega
      exact ⟨hr, hfin p listed a w hu hr⟩
    | succ fuel ih =>
      intro p listed a w hu hc
      refine ⟨hfin p listed a w hu, fun i hi => ?_⟩
      obtain ⟨hun, o, ho, hall⟩ := mem_ready.1 hi
      have hil := lt_of_get ho
      have hcn := cntF_set listed i hun
      have hsi : i < listed.size := by rw [hu.sz]; exact hil
      obtain ⟨u, rfl, hux, huc⟩ := hu.ex
      have hk : ∀ s ∈ o.looksAt ops, b s = true → V p s w u := fun s hs hb => by
        obtain ⟨j, oj, hoj, hds, e, he, hon, hbd⟩ := (lookB_spec hlook ho).2 s hs hb
        refine hux j oj s hoj hds ?_
        rw [getD_tf _ _ (by have := hu.sz; have := lt_of_get hoj; omega), ← hon]
        exact hall e he hbd
      have hdn : ∀ j oj e, ops[j]? = some oj → (listed.setIfInBounds i true).getD j true = true → e ∈ oj.after → Region.binds md e = true → (listed.setIfInBounds i true).getD e.on false = true := by
        intro j oj e hoj hl he hbd
        rw [getD_put _ _ _ _ hsi] at hl ⊢
        by_cases hie : i = e.on
        · rw [if_pos hie]
        · rw [if_neg hie]
          by_cases hij : i = j
          · subst hij
            rw [ho] at hoj
            cases hoj
            exact hall e he hbd
          · rw [if_neg hij] at hl
            exact hu.dn j oj e hoj hl he hbd
      have hnew : ∀ (p' : Nat) (w' : World) (v : Value), (∀ s, o.dst = some s → V p' s w' (upd u o.dst v)) → (∀ s, o.dst ≠ some s → V p s w u → V p' s w' (upd u o.dst v)) → C p' w' (upd u o.dst v) → ∃ u', (over b u a0).put o.dst v = over b u' a0 ∧ (∀ j oj s, ops[j]? = some oj → oj.dst = some s → (listed.setIfInBounds i true).getD j true = true → V p' s w' u') ∧ C p' w' u' := by
        intro p' w' v hv hstep hc
        refine ⟨upd u o.dst v, ?_, fun j oj s hoj hs hl => ?_, hc⟩
        · cases hds : o.dst with
          | none => rfl
          | some d => exact over_put (dstB_spec hdst ho hds)
        · by_cases hsd : o.dst = some s
          · exact hv s hsd
          · refine hstep s hsd (hux j oj s hoj hs ?_)
            rw [getD_put _ _ _ _ hsi] at hl
            by_cases hij : i = j
            · subst hij
              rw [ho] at hoj
              cases hoj
              exact absurd hs hsd
            · rwa [if_neg hij] at hl
      rcases S.cover i hil with his | ⟨l, hl⟩
      · obtain ⟨k, hks⟩ := List.mem_iff_getElem?.1 his
        have hkp : k = p := by
          have h1 : ¬ k < p := fun h => by have := (hu.st k i hks).2 h; rw [hun] at this; cases this
          cases k with
          | zero => omega
          | succ k =>
            obtain ⟨j, hj⟩ : ∃ j, sp[k]? = some j := ⟨_, List.getElem?_eq_getElem (by have := (List.getElem?_eq_some_iff.1 hks).1; omega)⟩
            obtain ⟨o', ho', e, he, hon, hbd⟩ := edgeB_spec (S.chain k i j hks hj)
            rw [ho] at ho'
            cases ho'
            have h2 := hall e he hbd
            rw [hon] at h2
            have h3 : listed.getD j true = true := by
              by_cases hjs : j < listed.size
              · rw [getD_tf _ _ hjs]; exact h2
              · simp [Array.getD_eq_getD_getElem?, Array.getElem?_eq_none (show listed.size ≤ j by omega)]
            have := (hu.st k j hj).1 h3
            omega
        subst hkp
        have hkl := (List.getElem?_eq_some_iff.1 hks).1
        refine wpOpIn_step ho fun K' hK' => hsp k i o hks ho u w huc hk K' fun v w' hv hstep hc' => hK' _ _ (ih (k + 1) _ _ _ ?_ (by omega))
        refine ⟨by rw [Array.size_setIfInBounds]; exact hu.sz, by omega, fun k' i' hk' => ?_, hnew (k + 1) w' v hv hstep hc', hdn⟩
        rw [getD_put _ _ _ _ hsi]
        by_cases hii : i = i'
        · subst hii
          rw [if_pos rfl]
          have : k' = k := (List.getElem?_inj (by exact (List.getElem?_eq_some_iff.1 hk').1) S.nodup).1 (hk'.trans hks.symm)
          simp [this]
        · rw [if_neg hii, hu.st k' i' hk']
          have : k' ≠ k := fun e => by subst e; rw [hks] at hk'; exact hii (Option.some.inj hk')
          omega
      · have hpl : p ≤ l := by
          rcases Nat.lt_or_ge l p with h | h
          · have := level_listed S hu.sz hu.le hu.st hu.dn (ops.size - i) i l hl (by omega) h
            rw [hun] at this
            cases this
          · exact h
        refine wpOpIn_step ho fun K' hK' => hfree i l o hl ho p hpl hu.le u w huc hk K' fun v w' hv hstep hc' => hK' _ _ (ih p _ _ _ ?_ (by omega))
        refine ⟨by rw [Array.size_setIfInBounds]; exact hu.sz, hu.le, fun k' i' hk' => ?_, hnew p w' v hv hstep hc', hdn⟩
        rw [getD_put _ _ _ _ hsi]
        by_cases hii : i = i'
        · subst hii
          exact absurd (List.mem_of_getElem? hk') (S.apart i l hl)
        · rw [if_neg hii]
          exact hu.st k' i' hk'
  refine main _ 0 _ _ _ ⟨by simp, Nat.zero_le _, fun k i hk => ?_, ⟨_, over_self b a0, fun i o s ho _ hl => ?_, h0⟩, fun i o e ho hl _ _ => ?_⟩ ?_
  · have := S.inb i (List.mem_of_getElem? hk)
    simp [Array.getD_eq_getD_getElem?, this]
  · simp [Array.getD_eq_getD_getElem?, lt_of_get ho] at hl
  · simp [Array.getD_eq_getD_getElem?, lt_of_get ho] at hl
  · simp [cntF]


end Go.Proofs.Ytheokboggjnenaa
