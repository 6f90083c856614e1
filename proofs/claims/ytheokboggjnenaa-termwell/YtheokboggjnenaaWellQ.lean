/-
  Several texts in one file: Vals, Spine, CanH, ShiftT, ShiftR, TyFr, OpenH, WellP, and how great long forms are.
-/
import Derived.OrdersIn
import Derived.Below
import Derived.Test.YtheokboggjnenaaLoops
import Derived.Test.YtheokboggjnenaaSizeH
import Derived.Test.YtheokboggjnenaaLooseH
import Derived.Test.YtheokboggjnenaaCopyT
import Derived.Test.YtheokboggjnenaaTyO2
import Derived.Test.YtheokboggjnenaaOpen
import Derived.Test.YtheokboggjnenaaHeadC
import Derived.Test.YtheokboggjnenaaEtaP
import Derived.Test.YtheokboggjnenaaRightH
import Derived.Test.YtheokboggjnenaaVarE
/-
  A region that draws its order, whose operations read or call and whose last one may write: by what each of them yields, whichever have come up.
-/
namespace Go.Proofs.Ytheokboggjnenaa
open Go Go.RowKit

/-- The slots with other values in some places. -/
def overL (b : Nat → Bool) (u : Nat → Value) : Nat → List Value → List Value
  | _, [] => []
  | k, x :: l => (bif b k then u k else x) :: overL b u (k + 1) l
def over (b : Nat → Bool) (u : Nat → Value) (a : Act) : Act := { tmps := (overL b u 0 a.tmps.toList).toArray, defers := a.defers }

theorem overL_congr (b : Nat → Bool) (u u' : Nat → Value) (l : List Value) : ∀ k, (∀ j, k ≤ j → u j = u' j) → overL b u k l = overL b u' k l := by
  induction l with
  | nil => intro k _; rfl
  | cons x l ih =>
    intro k h
    simp only [overL]
    rw [h k (Nat.le_refl _), ih (k + 1) (fun j hj => h j (by omega))]
theorem overL_set (b : Nat → Bool) (v : Value) (l : List Value) : ∀ (u : Nat → Value) (k s : Nat), b (k + s) = true → (overL b u k l).set s v = overL b (fun j => if j = k + s then v else u j) k l := by
  induction l with
  | nil => intro u k s _; rfl
  | cons x l ih =>
    intro u k s hb
    cases s with
    | zero =>
      rw [Nat.add_zero] at hb
      simp only [overL, List.set_cons_zero, hb, cond_true, Nat.add_zero, if_pos]
      rw [overL_congr b u (fun j => if j = k then v else u j) l (k + 1) (fun j hj => by rw [if_neg (by omega)])]
    | succ s =>
      simp only [overL, List.set_cons_succ]
      rw [ih u (k + 1) s (by rw [← hb]; congr 1; omega), if_neg (by omega)]
      congr 2
      funext j
      rw [show k + 1 + s = k + (s + 1) by omega]
theorem over_put {b : Nat → Bool} {u : Nat → Value} {a : Act} {s : Nat} {v : Value} (hb : b s = true) : (over b u a).put (some s) v = over b (fun j => if j = s then v else u j) a := by
  unfold over Act.put
  have := overL_set b v a.tmps.toList u 0 s (by rwa [Nat.zero_add])
  rw [Nat.zero_add] at this
  simp only [List.setIfInBounds_toArray, this]
theorem overL_self (b : Nat → Bool) (u : Nat → Value) (l : List Value) : ∀ k, (∀ j x, l[j]? = some x → u (k + j) = x) → overL b u k l = l := by
  induction l with
  | nil => intro k _; rfl
  | cons x l ih =>
    intro k h
    simp only [overL]
    rw [ih (k + 1) (fun j y hj => by rw [show k + 1 + j = k + (j + 1) by omega]; exact h (j + 1) y (by simpa using hj)), show u k = x from h 0 x rfl]
    cases b k <;> rfl
theorem over_self (b : Nat → Bool) (a : Act) : a = over b (fun s => (a.tmps[s]?).getD undef) a := by
  unfold over
  rw [overL_self b _ _ 0 (fun j x h => by rw [Nat.zero_add, ← Array.getElem?_toList, h]; rfl)]

/-- Every slot that is written is let by. -/
def dstB (ops : Array Oper) (b : Nat → Bool) : Bool := ops.toList.all fun o => match o.dst with | some s => b s | none => true
/-- Whoever looks at a slot waits for who writes it; one waits for earlier ones alone. -/
def depsB (md : Region.Mode) (ops : Array Oper) (m : Nat) (b : Nat → Bool) : Bool :=
  (List.range ops.size).all fun i => match ops[i]? with
    | none => true
    | some o => (o.after.all fun e => decide (e.on < i)) && (decide (m < i) || (o.looksAt ops).all fun s => !b s || (List.range ops.size).any fun j => decide (j < m) && ((ops[j]?.bind (·.dst)) == some s) && o.after.any fun e => e.on == j && Region.binds md e)
/-- Each of the first ones has one that waits for it; of the others each waits for the one ahead. -/
def depdB (md : Region.Mode) (ops : Array Oper) (m : Nat) : Bool :=
  (List.range ops.size).all fun j => if j < m then (List.range (m + 1)).any fun i => decide (j < i) && match ops[i]? with
    | none => false
    | some o => o.after.any fun e => e.on == j && Region.binds md e
    else decide (j = m) || match ops[j]? with
    | none => false
    | some o => o.after.any fun e => e.on + 1 == j && Region.binds md e

variable {F : Fence} {n : Nat} {P : Program} {ops : Array Oper} {Q : Exit → Act → World → Prop} {md : Region.Mode}

def cntF (l : Array Bool) : Nat := l.toList.count false
theorem count_set (l : List Bool) (i : Nat) (h : l[i]? = some false) : (l.set i true).count false + 1 = l.count false := by
  induction l generalizing i with
  | nil => simp at h
  | cons x l ih =>
    cases i with
    | zero => simp at h; subst h; simp
    | succ i => simp at h; have := ih i h; simp [List.count_cons]; omega
theorem cntF_set (l : Array Bool) (i : Nat) (h : l.getD i true = false) : cntF (l.setIfInBounds i true) + 1 = cntF l := by
  unfold cntF
  rw [Array.toList_setIfInBounds]
  apply count_set
  rw [Array.getD_eq_getD_getElem?] at h
  rw [← Array.getElem?_toList] at h
  cases hg : l.toList[i]? with
  | none => rw [hg] at h; simp at h
  | some b => rw [hg] at h; simp at h; rw [h]

theorem getD_tf (l : Array Bool) (i : Nat) (hi : i < l.size) : l.getD i true = l.getD i false := by
  simp [Array.getD_eq_getD_getElem?, Array.getElem?_eq_getElem hi]
theorem getD_put (l : Array Bool) (i j : Nat) (d : Bool) (hi : i < l.size) : (l.setIfInBounds i true).getD j d = if i = j then true else l.getD j d := by
  by_cases h : i = j
  · subst h; simp [Array.getD_eq_getD_getElem?, hi]
  · rw [if_neg h]; simp [Array.getD_eq_getD_getElem?, Array.getElem?_setIfInBounds_ne h]

/-- What holds, whichever of the first m have come up, and none of the others. -/
structure Up (md : Region.Mode) (ops : Array Oper) (m : Nat) (b : Nat → Bool) (a0 : Act) (V : Nat → World → Value → Prop) (C : World → Prop) (listed : Array Bool) (a : Act) (w : World) : Prop where
  sz : listed.size = ops.size
  un : ∀ i, m ≤ i → i < ops.size → listed.getD i true = false
  ex : ∃ u, a = over b u a0 ∧ ∀ i o s, i < m → ops[i]? = some o → o.dst = some s → listed.getD i true = true → V s w (u s)
  c : C w
  dn : ∀ i o e, ops[i]? = some o → listed.getD i true = true → e ∈ o.after → Region.binds md e = true → listed.getD e.on false = true

theorem dstB_spec {b : Nat → Bool} (h : dstB ops b = true) {i : Nat} {o : Oper} {s : Nat} (ho : ops[i]? = some o) (hs : o.dst = some s) : b s = true := by
  unfold dstB at h
  have := List.all_eq_true.1 h o (by rw [Array.mem_toList_iff]; exact Array.mem_of_getElem? ho)
  simpa [hs] using this
theorem lt_of_get {i : Nat} {o : Oper} (ho : ops[i]? = some o) : i < ops.size := (Array.getElem?_eq_some_iff.1 ho).1
theorem depsB_spec {m : Nat} {b : Nat → Bool} (h : depsB md ops m b = true) {i : Nat} {o : Oper} (ho : ops[i]? = some o) :
    (∀ e ∈ o.after, e.on < i) ∧ (i ≤ m → ∀ s ∈ o.looksAt ops, b s = true → ∃ j oj, j < m ∧ ops[j]? = some oj ∧ oj.dst = some s ∧ ∃ e ∈ o.after, e.on = j ∧ Region.binds md e = true) := by
  unfold depsB at h
  have h1 := List.all_eq_true.1 h i (List.mem_range.2 (lt_of_get ho))
  rw [ho] at h1
  simp only [Bool.and_eq_true] at h1
  obtain ⟨h1, h2⟩ := h1
  refine ⟨fun e he => ?_, fun him s hs hb => ?_⟩
  · rw [Array.all_eq_true'] at h1
    exact of_decide_eq_true (h1 e he)
  · rw [show decide (m < i) = false from decide_eq_false (by omega), Bool.false_or] at h2
    have h3 := List.all_eq_true.1 h2 s hs
    simp only [hb, Bool.not_true, Bool.false_or] at h3
    obtain ⟨j, hj, h4⟩ := List.any_eq_true.1 h3
    simp only [Bool.and_eq_true, decide_eq_true_eq, beq_iff_eq] at h4
    obtain ⟨⟨h5, h6⟩, h7⟩ := h4
    cases hoj : ops[j]? with
    | none => rw [hoj] at h6; simp at h6
    | some oj =>
      rw [hoj] at h6
      rw [Array.any_eq_true'] at h7
      obtain ⟨e, he, h8⟩ := h7
      simp only [Bool.and_eq_true, beq_iff_eq] at h8
      exact ⟨j, oj, h5, hoj, by simpa using h6, e, he, h8.1, h8.2⟩
theorem depdB_spec {m : Nat} (h : depdB md ops m = true) {j : Nat} (hj : j < m) (hm : m < ops.size) : ∃ i o, j < i ∧ i ≤ m ∧ ops[i]? = some o ∧ ∃ e ∈ o.after, e.on = j ∧ Region.binds md e = true := by
  unfold depdB at h
  have h1 := List.all_eq_true.1 h j (List.mem_range.2 (by omega))
  rw [if_pos hj] at h1
  obtain ⟨i, him, h2⟩ := List.any_eq_true.1 h1
  have him := List.mem_range.1 him
  simp only [Bool.and_eq_true, decide_eq_true_eq] at h2
  obtain ⟨h3, h4⟩ := h2
  cases ho : ops[i]? with
  | none => rw [ho] at h4; cases h4
  | some o =>
    rw [ho] at h4
    simp only [Array.any_eq_true'] at h4
    obtain ⟨e, he, h8⟩ := h4
    simp only [Bool.and_eq_true, beq_iff_eq] at h8
    exact ⟨i, o, h3, by omega, ho, e, he, h8.1, h8.2⟩
theorem depdB_tail {m : Nat} (h : depdB md ops m = true) {j : Nat} {o : Oper} (hj : m < j) (ho : ops[j]? = some o) : ∃ e ∈ o.after, e.on + 1 = j ∧ Region.binds md e = true := by
  unfold depdB at h
  have h1 := List.all_eq_true.1 h j (List.mem_range.2 (lt_of_get ho))
  rw [if_neg (by omega), show decide (j = m) = false from decide_eq_false (by omega), Bool.false_or, ho] at h1
  simp only [Array.any_eq_true'] at h1
  obtain ⟨e, he, h8⟩ := h1
  simp only [Bool.and_eq_true, beq_iff_eq] at h8
  exact ⟨e, he, h8.1, h8.2⟩

theorem ready_some {m : Nat} {b : Nat → Bool} (hdep : depsB md ops m b = true) {listed : Array Bool} (hsz : listed.size = ops.size) : ∀ k, k < ops.size → listed.getD k true = false → Region.ready md ops listed ≠ [] := by
  intro k
  induction k using Nat.strongRecOn with
  | ind k ih =>
    intro hk hun hr
    obtain ⟨o, ho⟩ : ∃ o, ops[k]? = some o := ⟨_, Array.getElem?_eq_getElem hk⟩
    have hlt := (depsB_spec hdep ho).1
    by_cases hall : ∀ e ∈ o.after, Region.binds md e = true → listed.getD e.on false = true
    · have := mem_ready.2 ⟨hun, o, ho, hall⟩
      rw [hr] at this
      cases this
    · simp only [Classical.not_forall] at hall
      obtain ⟨e, he, _, hno⟩ := hall
      have hl := hlt e he
      refine ih e.on hl (by omega) ?_ hr
      rw [getD_tf _ _ (by omega)]
      simpa using hno

/-- All the first ones have come up where the next one may. -/
theorem all_listed {m : Nat} (hdpd : depdB md ops m = true) (hm : m < ops.size) {listed : Array Bool} (hsz : listed.size = ops.size)
    (dn : ∀ i o e, ops[i]? = some o → listed.getD i true = true → e ∈ o.after → Region.binds md e = true → listed.getD e.on false = true)
    (hl : ∀ o, ops[m]? = some o → ∀ e ∈ o.after, Region.binds md e = true → listed.getD e.on false = true) : ∀ k j, j + k = m → 0 < k → listed.getD j true = true := by
  intro k
  induction k using Nat.strongRecOn with
  | ind k ih =>
    intro j hk h0
    obtain ⟨i, o, hji, him, ho, e, he, hon, hbd⟩ := depdB_spec hdpd (j := j) (by omega) hm
    rw [getD_tf _ _ (by omega), ← hon]
    by_cases hil : i = m
    · subst hil
      exact hl o ho e he hbd
    · exact dn i o e ho (ih (m - i) (by omega) i (by omega) (by omega)) he hbd

/-- The first k of n. -/
def upTo (n k : Nat) : Array Bool := ((List.range n).map fun i => decide (i < k)).toArray
theorem upTo_eq {l : Array Bool} {n k : Nat} (hs : l.size = n) (h1 : ∀ i, i < k → i < n → l.getD i true = true) (h2 : ∀ i, k ≤ i → i < n → l.getD i true = false) : l = upTo n k := by
  refine Array.ext (by simp [upTo, hs]) fun i hi hi' => ?_
  have hin : i < n := by omega
  rw [show l[i] = l.getD i true by simp [Array.getD_eq_getD_getElem?, hi]]
  by_cases hik : i < k
  · rw [h1 i hik hin]; simp [upTo, hik]
  · rw [h2 i (by omega) hin]; simp [upTo, hik]

/-- WHATEVER ORDER IS PICKED. -/
theorem any_vals (m : Nat) (b : Nat → Bool) (a0 : Act) (V : Nat → World → Value → Prop) (C : World → Prop) (hm : m < ops.size) (hdst : dstB ops b = true) (hdep : depsB md ops m b = true) (hdpd : depdB md ops m = true)
    (hV : ∀ s w w' v, V s w v → Below w.heap.size w w' → V s w' v) (hC : ∀ w w', C w → Below w.heap.size w w' → C w')
    (hop : ∀ i o, ops[i]? = some o → i < m → ∀ u w, C w → (∀ s ∈ o.looksAt ops, b s = true → V s w (u s)) → ∀ K' : Act → World → Prop,
      (∀ v w', (∀ s, o.dst = some s → V s w' v) → Below w.heap.size w w' → K' ((over b u a0).put o.dst v) w') →
      if Region.wanted o (yielded ops (over b u a0).tmps) = true then Oper.wpIn F n P o (over b u a0) w K' Q else (∀ f, o.about P w (over b u a0).eval = some f → F.fn f) ∧ K' ((over b u a0).put o.dst undef) w)
    (hlast : ∀ o, ops[m]? = some o → ∀ u w, C w → (∀ i o' s, i < m → ops[i]? = some o' → o'.dst = some s → V s w (u s)) → ∀ K' : Act → World → Prop,
      (∀ a' w', wpAnyIn F n P md ops Q (ops.size - (m + 1)) (upTo ops.size (m + 1)) a' w' → K' a' w') →
      if Region.wanted o (yielded ops (over b u a0).tmps) = true then Oper.wpIn F n P o (over b u a0) w K' Q else (∀ f, o.about P w (over b u a0).eval = some f → F.fn f) ∧ K' ((over b u a0).put o.dst undef) w)
    (w : World) (h0 : C w) : wpAnyIn F n P md ops Q ops.size (Array.replicate ops.size false) a0 w := by
  have main : ∀ fuel listed a w, Up md ops m b a0 V C listed a w → cntF listed = fuel → wpAnyIn F n P md ops Q fuel listed a w := by
    intro fuel
    induction fuel with
    | zero =>
      intro listed a w hu hc
      have := cntF_set listed _ (hu.un m (Nat.le_refl _) hm)
      omega
    | succ fuel ih =>
      intro listed a w hu hc
      refine ⟨fun hr => absurd hr (ready_some hdep hu.sz m hm (hu.un m (Nat.le_refl _) hm)), fun i hi => ?_⟩
      obtain ⟨hun, o, ho, hall⟩ := mem_ready.1 hi
      have hil := lt_of_get ho
      have hcn := cntF_set listed i hun
      have hsi : i < listed.size := by rw [hu.sz]; exact hil
      obtain ⟨u, rfl, hux⟩ := hu.ex
      by_cases hlt : i < m
      · have hk : ∀ s ∈ o.looksAt ops, b s = true → V s w (u s) := fun s hs hb => by
          obtain ⟨j, oj, hj, hoj, hds, e, he, hon, hbd⟩ := (depsB_spec hdep ho).2 (by omega) s hs hb
          refine hux j oj s hj hoj hds ?_
          rw [getD_tf _ _ (by have := hu.sz; omega), ← hon]
          exact hall e he hbd
        refine wpOpIn_step ho fun K' hK' => hop i o ho hlt u w hu.c hk K' fun v w' hv hb => hK' _ _ (ih _ _ _ ?_ (by omega))
        refine ⟨by rw [Array.size_setIfInBounds]; exact hu.sz, fun k hk1 hk2 => ?_, ?_, hC _ _ hu.c hb, ?_⟩
        · rw [getD_put _ _ _ _ hsi, if_neg (by omega)]; exact hu.un k hk1 hk2
        · cases hds : o.dst with
          | none =>
            refine ⟨u, rfl, fun j oj s hj hoj hs hl => ?_⟩
            rw [getD_put _ _ _ _ hsi] at hl
            by_cases hij : i = j
            · subst hij
              rw [ho] at hoj
              cases hoj
              rw [hds] at hs
              cases hs
            · rw [if_neg hij] at hl
              exact hV _ _ _ _ (hux j oj s hj hoj hs hl) hb
          | some d =>
            refine ⟨_, over_put (dstB_spec hdst ho hds), fun j oj s hj hoj hs hl => ?_⟩
            by_cases hsd : s = d
            · subst hsd
              rw [if_pos rfl]
              exact hv s hds
            · rw [if_neg hsd]
              rw [getD_put _ _ _ _ hsi] at hl
              by_cases hij : i = j
              · subst hij
                rw [ho] at hoj
                cases hoj
                rw [hds] at hs
                exact absurd (Option.some.inj hs).symm hsd
              · rw [if_neg hij] at hl
                exact hV _ _ _ _ (hux j oj s hj hoj hs hl) hb
        · intro j oj e hoj hl he hbd
          rw [getD_put _ _ _ _ hsi] at hl ⊢
          by_cases hie : i = e.on
          · rw [if_pos hie]
          · rw [if_neg hie]
            by_cases hij : i = j
            · subst hij
              rw [ho] at hoj
              cases hoj
              exact hall e he hbd
            · rw [if_neg hij] at hl
              exact hu.dn j oj e hoj hl he hbd
      · have him : i = m := by
          rcases Nat.lt_or_ge m i with h | h
          · exfalso
            obtain ⟨e, he, hon, hbd⟩ := depdB_tail hdpd h ho
            have h1 := hall e he hbd
            have h2 := hu.un e.on (by omega) (by omega)
            rw [getD_tf _ _ (by have := hu.sz; omega), h1] at h2
            cases h2
          · omega
        subst him
        have hal := all_listed hdpd hm hu.sz hu.dn (fun o' ho' => by rw [ho] at ho'; cases ho'; exact hall)
        have hls : listed.setIfInBounds i true = upTo ops.size (i + 1) := by
          refine upTo_eq (by rw [Array.size_setIfInBounds]; exact hu.sz) (fun k hk1 hk2 => ?_) (fun k hk1 hk2 => ?_)
          · rw [getD_put _ _ _ _ hsi]
            by_cases hik : i = k
            · rw [if_pos hik]
            · rw [if_neg hik]; exact hal (i - k) k (by omega) (by omega)
          · rw [getD_put _ _ _ _ hsi, if_neg (by omega)]; exact hu.un k (by omega) hk2
        have hfu : fuel = ops.size - (i + 1) := by
          have h1 : cntF (listed.setIfInBounds i true) = fuel := by omega
          rw [← h1, hls]
          unfold cntF upTo
          have : ∀ n k, k ≤ n → ((List.range n).map fun i => decide (i < k)).count false = n - k := by
            intro n k hk
            induction n with
            | zero => simp
            | succ n ihn =>
              rw [List.range_succ, List.map_append, List.count_append]
              by_cases hkn : k ≤ n
              · rw [ihn hkn]; simp [show ¬ n < k by omega]; omega
              · have : k = n + 1 := by omega
                subst this
                have h0 : ((List.range n).map fun i => decide (i < n + 1)).count false = 0 := by
                  rw [List.count_eq_zero]
                  intro hc
                  obtain ⟨x, hx, h2⟩ := List.mem_map.1 hc
                  have := List.mem_range.1 hx
                  simp at h2
                  omega
                rw [h0]; simp
          rw [this _ _ (by omega)]
        refine wpOpIn_step ho fun K' hK' => hlast o ho u w hu.c (fun j oj s hj hoj hs => hux j oj s hj hoj hs (hal (i - j) j (by omega) (by omega))) K' fun a' w' hq => hK' _ _ ?_
        rw [hls, hfu]
        exact hq
  refine main _ _ _ _ ⟨by simp, fun i _ hi => ?_, ⟨_, over_self b a0, fun i o s hi ho _ hl => ?_⟩, h0, fun i o e ho hl _ _ => ?_⟩ ?_
  · simp [Array.getD_eq_getD_getElem?, hi]
  · simp [Array.getD_eq_getD_getElem?, lt_of_get ho] at hl
  · simp [Array.getD_eq_getD_getElem?, lt_of_get ho] at hl
  · simp [cntF]

/-- What one of the first operations owes. -/
def OpOwes (F : Fence) (n : Nat) (P : Program) (ops : Array Oper) (Q : Exit → Act → World → Prop) (b : Nat → Bool) (a0 : Act) (V : Nat → World → Value → Prop) (C : World → Prop) (o : Oper) : Prop :=
  ∀ u w, C w → (∀ s ∈ o.looksAt ops, b s = true → V s w (u s)) → ∀ K' : Act → World → Prop, (∀ v w', (∀ s, o.dst = some s → V s w' v) → Below w.heap.size w w' → K' ((over b u a0).put o.dst v) w') →
    if Region.wanted o (yielded ops (over b u a0).tmps) = true then Oper.wpIn F n P o (over b u a0) w K' Q else (∀ f, o.about P w (over b u a0).eval = some f → F.fn f) ∧ K' ((over b u a0).put o.dst undef) w
/-- One by one. -/
def Ops (F : Fence) (n : Nat) (P : Program) (ops : Array Oper) (Q : Exit → Act → World → Prop) (b : Nat → Bool) (a0 : Act) (V : Nat → World → Value → Prop) (C : World → Prop) : Nat → List Oper → Prop
  | _, [] => True
  | 0, _ => True
  | m + 1, o :: l => OpOwes F n P ops Q b a0 V C o ∧ Ops F n P ops Q b a0 V C m l
theorem Ops.at {b : Nat → Bool} {a0 : Act} {V : Nat → World → Value → Prop} {C : World → Prop} : ∀ (m : Nat) (l : List Oper), Ops F n P ops Q b a0 V C m l → ∀ i o, l[i]? = some o → i < m → OpOwes F n P ops Q b a0 V C o
  | _, [], _, i, o, h, _ => by simp at h
  | 0, _ :: _, _, i, o, _, hi => by omega
  | m + 1, x :: l, hO, 0, o, h, _ => by
    simp at h
    subst h
    exact hO.1
  | m + 1, x :: l, hO, i + 1, o, h, hi => Ops.at m l hO.2 i o (by simpa using h) (by omega)

/-- A REGION THAT DRAWS, in whatever fence, in a round or not: the first m operations in whatever order, then the others one behind the other. -/
theorem region_vals {id : Nat} {a : Act} {w : World} {l : List Oper} (m : Nat) (b : Nat → Bool) (V : Nat → World → Value → Prop) (C : World → Prop) (hmx : P.follows .mixedOrders = true) (hm : m < l.length) (hdst : dstB l.toArray b = true) (hdep : depsB .any l.toArray m b = true) (hdpd : depdB .any l.toArray m = true)
    (hV : ∀ s w w' v, V s w v → Below w.heap.size w w' → V s w' v) (hC : ∀ w w', C w → Below w.heap.size w w' → C w') (h0 : C w.drew)
    (h : Ops F n P l.toArray Q b a V C m l)
    (hlast : ∀ o, l[m]? = some o → ∀ u w, C w → (∀ s ∈ (l.take m).filterMap (·.dst), V s w (u s)) → ∀ K' : Act → World → Prop,
      (∀ a' w', wpAnyIn F n P .any l.toArray Q (l.length - (m + 1)) (upTo l.length (m + 1)) a' w' → K' a' w') →
      if Region.wanted o (yielded l.toArray (over b u a).tmps) = true then Oper.wpIn F n P o (over b u a) w K' Q else (∀ f, o.about P w (over b u a).eval = some f → F.fn f) ∧ K' ((over b u a).put o.dst undef) w) :
    (Code.region id l.toArray true).wpIn F n P Q a w := by
  refine wpIn_region_any hmx (any_vals m b a V C (by simpa using hm) hdst hdep hdpd hV hC (fun i o ho hi => Ops.at m l h i o (by simpa using ho) hi) (fun o ho u w hc hv K' hK' => hlast o (by simpa using ho) u w hc (fun s hs => ?_) K' (by simpa using hK')) _ h0)
  obtain ⟨o', ho', hs⟩ := List.mem_filterMap.1 hs
  obtain ⟨i, hi, rfl⟩ := List.getElem_of_mem ho'
  rw [List.length_take] at hi
  refine hv i _ s (by omega) ?_ hs
  rw [List.getElem_take]
  simp

theorem want_plain {a : Act} {w : World} {o : Oper} {y : Nat → Option Bool} {K : Act → World → Prop} {X : Prop} (hg : o.guard = none) (h : Oper.wpIn F n P o a w K Q) : if Region.wanted o y = true then Oper.wpIn F n P o a w K Q else X := by
  rw [if_pos (by unfold Region.wanted; rw [hg])]
  exact h
theorem want_yes {a : Act} {w : World} {o : Oper} {y : Nat → Option Bool} {K : Act → World → Prop} {X : Prop} {g : Nat} {c : Bool} (hg : o.guard = some (g, c)) (hy : y g = some c) (h : Oper.wpIn F n P o a w K Q) : if Region.wanted o y = true then Oper.wpIn F n P o a w K Q else X := by
  rw [if_pos (by unfold Region.wanted; rw [hg]; simp [hy])]
  exact h
theorem want_no {a : Act} {w : World} {o : Oper} {y : Nat → Option Bool} {K : Act → World → Prop} {X : Prop} {g : Nat} {c : Bool} (hg : o.guard = some (g, c)) (hy : y g ≠ some c) (h : X) : if Region.wanted o y = true then Oper.wpIn F n P o a w K Q else X := by
  rw [if_neg (by unfold Region.wanted; rw [hg]; simpa using hy)]
  exact h

/-- The next of the others. -/
theorem any_next {a : Act} {w : World} {listed : Array Bool} {fuel : Nat} (i : Nat) (o : Oper) (hr : Region.ready md ops listed = [i]) (ho : ops[i]? = some o)
    (h : ∀ K' : Act → World → Prop, (∀ a' w', wpAnyIn F n P md ops Q fuel (listed.setIfInBounds i true) a' w' → K' a' w') →
      if Region.wanted o (yielded ops a.tmps) = true then Oper.wpIn F n P o a w K' Q else (∀ f, o.about P w a.eval = some f → F.fn f) ∧ K' (a.put o.dst undef) w) : wpAnyIn F n P md ops Q (fuel + 1) listed a w :=
  wpAnyIn_ready hr (by simp) (AllReadyIn.cons ho (fun K' hK' => h K' hK') AllReadyIn.nil)

end Go.Proofs.Ytheokboggjnenaa

/-
  A region that draws its order, of operations that read or call and of some that write, one behind the other: by stages.
-/
namespace Go.Proofs.Ytheokboggjnenaa
open Go Go.RowKit

def edgeB (md : Region.Mode) (ops : Array Oper) (i j : Nat) : Bool := match ops[i]? with
  | none => false
  | some o => o.after.any fun e => e.on == j && Region.binds md e
/-- Whoever looks at a slot waits for who writes it; one waits for earlier ones alone. -/
def lookB (md : Region.Mode) (ops : Array Oper) (b : Nat → Bool) : Bool :=
  (List.range ops.size).all fun i => match ops[i]? with
    | none => true
    | some o => (o.after.all fun e => decide (e.on < i)) && (o.looksAt ops).all fun s => !b s || (List.range ops.size).any fun j => ((ops[j]?.bind (·.dst)) == some s) && edgeB md ops i j
/-- The writers wait for each other; each of the others is waited for by the stage that it bears. -/
def spineB (md : Region.Mode) (ops : Array Oper) (free : List (Nat × Nat)) (sp : List Nat) : Bool :=
  (List.range (sp.length - 1)).all (fun p => edgeB md ops (sp.getD (p + 1) 0) (sp.getD p 0)) && decide sp.Nodup && sp.all (fun i => decide (i < ops.size)) &&
  (List.range ops.size).all (fun i => sp.contains i || free.any fun x => x.1 == i) && free.all (fun x => !sp.contains x.1) &&
  free.all fun x => decide (sp.length ≤ x.2) || (List.range ops.size).any fun i => decide (x.1 < i) && edgeB md ops i x.1 &&
    ((List.range (x.2 + 1)).any (fun p => sp[p]? == some i) || free.any fun y => y.1 == i && decide (y.2 ≤ x.2))

variable {F : Fence} {n : Nat} {P : Program} {ops : Array Oper} {Q : Exit → Act → World → Prop} {md : Region.Mode}

theorem edgeB_spec {i j : Nat} (h : edgeB md ops i j = true) : ∃ o, ops[i]? = some o ∧ ∃ e ∈ o.after, e.on = j ∧ Region.binds md e = true := by
  unfold edgeB at h
  cases ho : ops[i]? with
  | none => rw [ho] at h; cases h
  | some o =>
    rw [ho] at h
    simp only [Array.any_eq_true'] at h
    obtain ⟨e, he, h8⟩ := h
    simp only [Bool.and_eq_true, beq_iff_eq] at h8
    exact ⟨o, rfl, e, he, h8.1, h8.2⟩
theorem lookB_spec {b : Nat → Bool} (h : lookB md ops b = true) {i : Nat} {o : Oper} (ho : ops[i]? = some o) :
    (∀ e ∈ o.after, e.on < i) ∧ ∀ s ∈ o.looksAt ops, b s = true → ∃ j oj, ops[j]? = some oj ∧ oj.dst = some s ∧ ∃ e ∈ o.after, e.on = j ∧ Region.binds md e = true := by
  unfold lookB at h
  have h1 := List.all_eq_true.1 h i (List.mem_range.2 (lt_of_get ho))
  rw [ho] at h1
  simp only [Bool.and_eq_true] at h1
  obtain ⟨h1, h2⟩ := h1
  refine ⟨fun e he => ?_, fun s hs hb => ?_⟩
  · rw [Array.all_eq_true'] at h1
    exact of_decide_eq_true (h1 e he)
  · have h3 := List.all_eq_true.1 h2 s hs
    simp only [hb, Bool.not_true, Bool.false_or] at h3
    obtain ⟨j, _, h4⟩ := List.any_eq_true.1 h3
    simp only [Bool.and_eq_true, beq_iff_eq] at h4
    obtain ⟨h6, h7⟩ := h4
    obtain ⟨o', ho', he⟩ := edgeB_spec h7
    rw [ho] at ho'
    cases ho'
    cases hoj : ops[j]? with
    | none => rw [hoj] at h6; simp at h6
    | some oj => rw [hoj] at h6; exact ⟨j, oj, hoj, by simpa using h6, he⟩

structure Spine (md : Region.Mode) (ops : Array Oper) (free : List (Nat × Nat)) (sp : List Nat) : Prop where
  chain : ∀ p i j, sp[p + 1]? = some i → sp[p]? = some j → edgeB md ops i j = true
  nodup : sp.Nodup
  inb : ∀ i ∈ sp, i < ops.size
  cover : ∀ i, i < ops.size → i ∈ sp ∨ ∃ l, (i, l) ∈ free
  apart : ∀ i l, (i, l) ∈ free → i ∉ sp
  level : ∀ j l, (j, l) ∈ free → sp.length ≤ l ∨ ∃ i, j < i ∧ i < ops.size ∧ edgeB md ops i j = true ∧ ((∃ p, p ≤ l ∧ sp[p]? = some i) ∨ ∃ l', (i, l') ∈ free ∧ l' ≤ l)
theorem spineB_spec {free : List (Nat × Nat)} {sp : List Nat} (h : spineB md ops free sp = true) : Spine md ops free sp := by
  unfold spineB at h
  simp only [Bool.and_eq_true] at h
  obtain ⟨⟨⟨⟨⟨h1, h2⟩, h0⟩, h3⟩, h4⟩, h5⟩ := h
  refine ⟨fun p i j hi hj => ?_, of_decide_eq_true h2, fun i hi => of_decide_eq_true (List.all_eq_true.1 h0 i hi), fun i hi => ?_, fun i l hi hs => ?_, fun j l hj => ?_⟩
  · have hp := (List.getElem?_eq_some_iff.1 hi).1
    have := List.all_eq_true.1 h1 p (List.mem_range.2 (by omega))
    rwa [List.getD_eq_getElem?_getD, List.getD_eq_getElem?_getD, hi, hj] at this
  · have := List.all_eq_true.1 h3 i (List.mem_range.2 hi)
    rw [Bool.or_eq_true, List.contains_iff_mem, List.any_eq_true] at this
    rcases this with h | ⟨x, hx, he⟩
    · exact .inl h
    · have he' : x.1 = i := by simpa using he
      exact .inr ⟨x.2, by rw [← he']; exact hx⟩
  · have := List.all_eq_true.1 h4 (i, l) hi
    simp only [Bool.not_eq_true', ← Bool.not_eq_true, List.contains_iff_mem] at this
    exact this hs
  · have := List.all_eq_true.1 h5 (j, l) hj
    rw [Bool.or_eq_true, decide_eq_true_eq, List.any_eq_true] at this
    rcases this with h | ⟨i, hi, h6⟩
    · exact .inl h
    · simp only [Bool.and_eq_true, decide_eq_true_eq, Bool.or_eq_true, List.any_eq_true] at h6
      obtain ⟨⟨h7, h8⟩, h9⟩ := h6
      refine .inr ⟨i, h7, List.mem_range.1 hi, h8, ?_⟩
      rcases h9 with ⟨p, hp, he⟩ | ⟨y, hy, he⟩
      · exact .inl ⟨p, by have := List.mem_range.1 hp; omega, by simpa using he⟩
      · have he1 : y.1 = i := by simpa using he.1
        exact .inr ⟨y.2, by rw [← he1]; exact hy, he.2⟩

/-- What holds at a stage, whichever of the others have come up. -/
structure At (md : Region.Mode) (ops : Array Oper) (sp : List Nat) (b : Nat → Bool) (a0 : Act) (V : Nat → Nat → World → Value → Prop) (C : Nat → World → Prop) (p : Nat) (listed : Array Bool) (a : Act) (w : World) : Prop where
  sz : listed.size = ops.size
  le : p ≤ sp.length
  st : ∀ k i, sp[k]? = some i → (listed.getD i true = true ↔ k < p)
  ex : ∃ u, a = over b u a0 ∧ ∀ i o s, ops[i]? = some o → o.dst = some s → listed.getD i true = true → V p s w (u s)
  c : C p w
  dn : ∀ i o e, ops[i]? = some o → listed.getD i true = true → e ∈ o.after → Region.binds md e = true → listed.getD e.on false = true

theorem level_listed {free : List (Nat × Nat)} {sp : List Nat} (S : Spine md ops free sp) {listed : Array Bool} {p : Nat} (hsz : listed.size = ops.size) (hle : p ≤ sp.length)
    (st : ∀ k i, sp[k]? = some i → (listed.getD i true = true ↔ k < p)) (dn : ∀ i o e, ops[i]? = some o → listed.getD i true = true → e ∈ o.after → Region.binds md e = true → listed.getD e.on false = true) :
    ∀ m j l, (j, l) ∈ free → j + m = ops.size → l < p → listed.getD j true = true := by
  intro m
  induction m using Nat.strongRecOn with
  | ind m ih =>
    intro j l hj hm hl
    rcases S.level j l hj with h | ⟨i, hji, his, he, h⟩
    · omega
    · obtain ⟨o, ho, e, hea, hon, hbd⟩ := edgeB_spec he
      have hi : listed.getD i true = true := by
        rcases h with ⟨k, hk, hs⟩ | ⟨l', hl', hle'⟩
        · exact (st k i hs).2 (by omega)
        · exact ih (ops.size - i) (by omega) i l' hl' (by omega) (by omega)
      have := dn i o e ho hi hea hbd
      rw [hon] at this
      rw [getD_tf _ _ (by omega)]
      exact this

/-- What one that writes nothing owes, at a stage. -/
def OwesF (F : Fence) (n : Nat) (P : Program) (ops : Array Oper) (Q : Exit → Act → World → Prop) (b : Nat → Bool) (a0 : Act) (V : Nat → Nat → World → Value → Prop) (C : Nat → World → Prop) (p : Nat) (o : Oper) : Prop :=
  ∀ u w, C p w → (∀ s ∈ o.looksAt ops, b s = true → V p s w (u s)) → ∀ K' : Act → World → Prop, (∀ v w', (∀ s, o.dst = some s → V p s w' v) → Below w.heap.size w w' → K' ((over b u a0).put o.dst v) w') →
    if Region.wanted o (yielded ops (over b u a0).tmps) = true then Oper.wpIn F n P o (over b u a0) w K' Q else (∀ f, o.about P w (over b u a0).eval = some f → F.fn f) ∧ K' ((over b u a0).put o.dst undef) w
/-- What one that writes owes: it leads from a stage to the next. -/
def OwesS (F : Fence) (n : Nat) (P : Program) (ops : Array Oper) (Q : Exit → Act → World → Prop) (b : Nat → Bool) (a0 : Act) (V : Nat → Nat → World → Value → Prop) (C : Nat → World → Prop) (p : Nat) (o : Oper) : Prop :=
  ∀ u w, C p w → (∀ s ∈ o.looksAt ops, b s = true → V p s w (u s)) → ∀ K' : Act → World → Prop, (∀ v w', (∀ s, o.dst = some s → V (p + 1) s w' v) → C (p + 1) w' → (∀ s, V p s w (u s) → V (p + 1) s w' (u s)) → K' ((over b u a0).put o.dst v) w') →
    if Region.wanted o (yielded ops (over b u a0).tmps) = true then Oper.wpIn F n P o (over b u a0) w K' Q else (∀ f, o.about P w (over b u a0).eval = some f → F.fn f) ∧ K' ((over b u a0).put o.dst undef) w

/-- WHATEVER ORDER IS PICKED. -/
theorem any_spine {free : List (Nat × Nat)} {sp : List Nat} (b : Nat → Bool) (a0 : Act) (V : Nat → Nat → World → Value → Prop) (C : Nat → World → Prop) (S : Spine md ops free sp) (hdst : dstB ops b = true) (hlook : lookB md ops b = true)
    (hV : ∀ p s w w' v, V p s w v → Below w.heap.size w w' → V p s w' v) (hC : ∀ p w w', C p w → Below w.heap.size w w' → C p w')
    (hfree : ∀ i l o, (i, l) ∈ free → ops[i]? = some o → ∀ p, p ≤ l → p ≤ sp.length → OwesF F n P ops Q b a0 V C p o)
    (hsp : ∀ p i o, sp[p]? = some i → ops[i]? = some o → OwesS F n P ops Q b a0 V C p o)
    (hend : ∀ u w, C sp.length w → (∀ (i : Nat) (o : Oper) (s : Nat), ops[i]? = some o → o.dst = some s → V sp.length s w (u s)) → Q .normal (over b u a0) w)
    (w : World) (h0 : C 0 w) : wpAnyIn F n P md ops Q ops.size (Array.replicate ops.size false) a0 w := by
  have hready : ∀ {listed : Array Bool}, listed.size = ops.size → ∀ k, k < ops.size → listed.getD k true = false → Region.ready md ops listed ≠ [] := by
    intro listed hsz k
    induction k using Nat.strongRecOn with
    | ind k ih =>
      intro hk hun hr
      obtain ⟨o, ho⟩ : ∃ o, ops[k]? = some o := ⟨_, Array.getElem?_eq_getElem hk⟩
      have hlt := (lookB_spec hlook ho).1
      by_cases hall : ∀ e ∈ o.after, Region.binds md e = true → listed.getD e.on false = true
      · have := mem_ready.2 ⟨hun, o, ho, hall⟩
        rw [hr] at this
        cases this
      · simp only [Classical.not_forall] at hall
        obtain ⟨e, he, _, hno⟩ := hall
        have hl := hlt e he
        refine ih e.on hl (by omega) ?_ hr
        rw [getD_tf _ _ (by omega)]
        simpa using hno
  have hfin : ∀ p listed a w, At md ops sp b a0 V C p listed a w → Region.ready md ops listed = [] → Q .normal a w := by
    intro p listed a w hu hr
    have hall : ∀ k, k < ops.size → listed.getD k true = true := fun k hk => by
      cases h : listed.getD k true with
      | true => rfl
      | false => exact absurd hr (hready hu.sz k hk h)
    have hp : p = sp.length := by
      rcases Nat.lt_or_ge p sp.length with h | h
      · obtain ⟨i, hi⟩ : ∃ i, sp[p]? = some i := ⟨_, List.getElem?_eq_getElem h⟩
        have h2 := (hu.st p i hi)
        by_cases his : i < ops.size
        · have := h2.1 (hall i his); omega
        · have h3 : listed.getD i true = true := by
            have := hu.sz
            simp [Array.getD_eq_getD_getElem?, Array.getElem?_eq_none (show listed.size ≤ i by omega)]
          have := h2.1 h3; omega
      · have := hu.le; omega
    subst hp
    obtain ⟨u, rfl, hux⟩ := hu.ex
    exact hend u w hu.c (fun i o s ho hs => hux i o s ho hs (hall i (lt_of_get ho)))
  have main : ∀ fuel p listed a w, At md ops sp b a0 V C p listed a w → cntF listed = fuel → wpAnyIn F n P md ops Q fuel listed a w := by
    intro fuel
    induction fuel with
    | zero =>
      intro p listed a w hu hc
      have hr : Region.ready md ops listed = [] := List.eq_nil_iff_forall_not_mem.2 fun i hi => by
        have := cntF_set listed i (mem_ready.1 hi).1
        omega
      exact ⟨hr, hfin p listed a w hu hr⟩
    | succ fuel ih =>
      intro p listed a w hu hc
      refine ⟨hfin p listed a w hu, fun i hi => ?_⟩
      obtain ⟨hun, o, ho, hall⟩ := mem_ready.1 hi
      have hil := lt_of_get ho
      have hcn := cntF_set listed i hun
      have hsi : i < listed.size := by rw [hu.sz]; exact hil
      obtain ⟨u, rfl, hux⟩ := hu.ex
      have hk : ∀ s ∈ o.looksAt ops, b s = true → V p s w (u s) := fun s hs hb => by
        obtain ⟨j, oj, hoj, hds, e, he, hon, hbd⟩ := (lookB_spec hlook ho).2 s hs hb
        refine hux j oj s hoj hds ?_
        rw [getD_tf _ _ (by have := hu.sz; have := lt_of_get hoj; omega), ← hon]
        exact hall e he hbd
      have hdn : ∀ j oj e, ops[j]? = some oj → (listed.setIfInBounds i true).getD j true = true → e ∈ oj.after → Region.binds md e = true → (listed.setIfInBounds i true).getD e.on false = true := by
        intro j oj e hoj hl he hbd
        rw [getD_put _ _ _ _ hsi] at hl ⊢
        by_cases hie : i = e.on
        · rw [if_pos hie]
        · rw [if_neg hie]
          by_cases hij : i = j
          · subst hij
            rw [ho] at hoj
            cases hoj
            exact hall e he hbd
          · rw [if_neg hij] at hl
            exact hu.dn j oj e hoj hl he hbd
      have hnew : ∀ (p' : Nat) (w' : World) (v : Value), (∀ s, o.dst = some s → V p' s w' v) → (∀ s, V p s w (u s) → V p' s w' (u s)) → ∃ u', (over b u a0).put o.dst v = over b u' a0 ∧ ∀ j oj s, ops[j]? = some oj → oj.dst = some s → (listed.setIfInBounds i true).getD j true = true → V p' s w' (u' s) := by
        intro p' w' v hv hstep
        have old : ∀ j oj s, ops[j]? = some oj → oj.dst = some s → (listed.setIfInBounds i true).getD j true = true → i ≠ j → V p' s w' (u s) := fun j oj s hoj hs hl hij => by
          rw [getD_put _ _ _ _ hsi, if_neg hij] at hl
          exact hstep _ (hux j oj s hoj hs hl)
        cases hds : o.dst with
        | none =>
          refine ⟨u, rfl, fun j oj s hoj hs hl => ?_⟩
          by_cases hij : i = j
          · subst hij
            rw [ho] at hoj
            cases hoj
            rw [hds] at hs
            cases hs
          · exact old j oj s hoj hs hl hij
        | some d =>
          refine ⟨_, over_put (dstB_spec hdst ho hds), fun j oj s hoj hs hl => ?_⟩
          by_cases hsd : s = d
          · subst hsd
            rw [if_pos rfl]
            exact hv s hds
          · rw [if_neg hsd]
            by_cases hij : i = j
            · subst hij
              rw [ho] at hoj
              cases hoj
              rw [hds] at hs
              exact absurd (Option.some.inj hs).symm hsd
            · exact old j oj s hoj hs hl hij
      rcases S.cover i hil with his | ⟨l, hl⟩
      · obtain ⟨k, hks⟩ := List.mem_iff_getElem?.1 his
        have hkp : k = p := by
          have h1 : ¬ k < p := fun h => by have := (hu.st k i hks).2 h; rw [hun] at this; cases this
          cases k with
          | zero => omega
          | succ k =>
            obtain ⟨j, hj⟩ : ∃ j, sp[k]? = some j := ⟨_, List.getElem?_eq_getElem (by have := (List.getElem?_eq_some_iff.1 hks).1; omega)⟩
            obtain ⟨o', ho', e, he, hon, hbd⟩ := edgeB_spec (S.chain k i j hks hj)
            rw [ho] at ho'
            cases ho'
            have h2 := hall e he hbd
            rw [hon] at h2
            have h3 : listed.getD j true = true := by
              by_cases hjs : j < listed.size
              · rw [getD_tf _ _ hjs]; exact h2
              · simp [Array.getD_eq_getD_getElem?, Array.getElem?_eq_none (show listed.size ≤ j by omega)]
            have := (hu.st k j hj).1 h3
            omega
        subst hkp
        have hkl := (List.getElem?_eq_some_iff.1 hks).1
        refine wpOpIn_step ho fun K' hK' => hsp k i o hks ho u w hu.c hk K' fun v w' hv hc' hstep => hK' _ _ (ih (k + 1) _ _ _ ?_ (by omega))
        refine ⟨by rw [Array.size_setIfInBounds]; exact hu.sz, by omega, fun k' i' hk' => ?_, hnew (k + 1) w' v hv hstep, hc', hdn⟩
        rw [getD_put _ _ _ _ hsi]
        by_cases hii : i = i'
        · subst hii
          rw [if_pos rfl]
          have : k' = k := (List.getElem?_inj (by exact (List.getElem?_eq_some_iff.1 hk').1) S.nodup).1 (hk'.trans hks.symm)
          simp [this]
        · rw [if_neg hii, hu.st k' i' hk']
          have : k' ≠ k := fun e => by subst e; rw [hks] at hk'; exact hii (Option.some.inj hk')
          omega
      · have hpl : p ≤ l := by
          rcases Nat.lt_or_ge l p with h | h
          · have := level_listed S hu.sz hu.le hu.st hu.dn (ops.size - i) i l hl (by omega) h
            rw [hun] at this
            cases this
          · exact h
        refine wpOpIn_step ho fun K' hK' => hfree i l o hl ho p hpl hu.le u w hu.c hk K' fun v w' hv hb => hK' _ _ (ih p _ _ _ ?_ (by omega))
        refine ⟨by rw [Array.size_setIfInBounds]; exact hu.sz, hu.le, fun k' i' hk' => ?_, hnew p w' v hv (fun s hx => hV _ _ _ _ _ hx hb), hC _ _ _ hu.c hb, hdn⟩
        rw [getD_put _ _ _ _ hsi]
        by_cases hii : i = i'
        · subst hii
          exact absurd (List.mem_of_getElem? hk') (S.apart i l hl)
        · rw [if_neg hii]
          exact hu.st k' i' hk'
  refine main _ 0 _ _ _ ⟨by simp, Nat.zero_le _, fun k i hk => ?_, ⟨_, over_self b a0, fun i o s ho _ hl => ?_⟩, h0, fun i o e ho hl _ _ => ?_⟩ ?_
  · have := S.inb i (List.mem_of_getElem? hk)
    simp [Array.getD_eq_getD_getElem?, this]
  · simp [Array.getD_eq_getD_getElem?, lt_of_get ho] at hl
  · simp [Array.getD_eq_getD_getElem?, lt_of_get ho] at hl
  · simp [cntF]

/-- What those that write nothing owe, one by one; what the others owe. -/
def OwesFs (F : Fence) (n : Nat) (P : Program) (ops : Array Oper) (Q : Exit → Act → World → Prop) (b : Nat → Bool) (a0 : Act) (V : Nat → Nat → World → Value → Prop) (C : Nat → World → Prop) (q : Nat) : List (Nat × Nat) → Prop
  | [] => True
  | (i, l) :: r => (∀ o, ops[i]? = some o → ∀ p, p ≤ l → p ≤ q → OwesF F n P ops Q b a0 V C p o) ∧ OwesFs F n P ops Q b a0 V C q r
def OwesSs (F : Fence) (n : Nat) (P : Program) (ops : Array Oper) (Q : Exit → Act → World → Prop) (b : Nat → Bool) (a0 : Act) (V : Nat → Nat → World → Value → Prop) (C : Nat → World → Prop) : Nat → List Nat → Prop
  | _, [] => True
  | p, i :: r => (∀ o, ops[i]? = some o → OwesS F n P ops Q b a0 V C p o) ∧ OwesSs F n P ops Q b a0 V C (p + 1) r
theorem OwesFs.mem {b : Nat → Bool} {a0 : Act} {V : Nat → Nat → World → Value → Prop} {C : Nat → World → Prop} {q : Nat} : ∀ {free : List (Nat × Nat)}, OwesFs F n P ops Q b a0 V C q free → ∀ i l o, (i, l) ∈ free → ops[i]? = some o → ∀ p, p ≤ l → p ≤ q → OwesF F n P ops Q b a0 V C p o
  | [], _, i, l, o, h, _, _, _, _ => by cases h
  | (j, m) :: r, hO, i, l, o, h, ho, p, h1, h2 => by
    rcases List.mem_cons.1 h with e | h
    · cases e
      exact hO.1 o ho p h1 h2
    · exact OwesFs.mem hO.2 i l o h ho p h1 h2
theorem OwesSs.at {b : Nat → Bool} {a0 : Act} {V : Nat → Nat → World → Value → Prop} {C : Nat → World → Prop} : ∀ {sp : List Nat} {k : Nat}, OwesSs F n P ops Q b a0 V C k sp → ∀ p i o, sp[p]? = some i → ops[i]? = some o → OwesS F n P ops Q b a0 V C (k + p) o
  | [], _, _, p, i, o, h, _ => by simp at h
  | j :: r, k, hO, 0, i, o, h, ho => by
    simp at h
    subst h
    exact hO.1 o ho
  | j :: r, k, hO, p + 1, i, o, h, ho => by
    have := OwesSs.at hO.2 p i o (by simpa using h) ho
    rwa [show k + 1 + p = k + (p + 1) by omega] at this

/-- A REGION THAT DRAWS, BY STAGES. -/
theorem region_spine {id : Nat} {a : Act} {w : World} {l : List Oper} (free : List (Nat × Nat)) (sp : List Nat) (b : Nat → Bool) (V : Nat → Nat → World → Value → Prop) (C : Nat → World → Prop) (hmx : P.follows .mixedOrders = true) (hS : spineB .any l.toArray free sp = true) (hdst : dstB l.toArray b = true) (hlook : lookB .any l.toArray b = true)
    (hV : ∀ p s w w' v, V p s w v → Below w.heap.size w w' → V p s w' v) (hC : ∀ p w w', C p w → Below w.heap.size w w' → C p w') (h0 : C 0 w.drew)
    (hfree : OwesFs F n P l.toArray Q b a V C sp.length free) (hsp : OwesSs F n P l.toArray Q b a V C 0 sp)
    (hend : ∀ u w, C sp.length w → (∀ s ∈ l.filterMap (·.dst), V sp.length s w (u s)) → Q .normal (over b u a) w) : (Code.region id l.toArray true).wpIn F n P Q a w :=
  wpIn_region_any hmx (any_spine b a V C (spineB_spec hS) hdst hlook hV hC (fun i m o hi ho p h1 h2 => hfree.mem i m o hi ho p h1 h2) (fun p i o hi ho => by have := hsp.at p i o hi ho; rwa [Nat.zero_add] at this)
    (fun u w hc hv => hend u w hc fun s hs => by
      obtain ⟨o, ho, hd⟩ := List.mem_filterMap.1 hs
      obtain ⟨i, hi, rfl⟩ := List.getElem_of_mem ho
      exact hv i _ s (by simp) hd) _ h0)

end Go.Proofs.Ytheokboggjnenaa

/-
  The contract of term.canShift.
-/
namespace Go.Proofs.Ytheokboggjnenaa
open Go Go.RowKit Go.Shelf

attribute [local go_sem] Oper.semAt_some

/-- Does a loose index fall below the first that grows? Does it grow too great? -/
def badB (gy fr : Int) (l : List Hd) : Bool := l.any fun p => match p.out with
  | some i => decide (fr ≤ i) && decide (gy < fr - i)
  | none => false
def longB (gy fr : Int) (l : List Hd) : Bool := l.any fun p => match p.out with
  | some i => decide (fr ≤ i) && decide (1000 - i < gy)
  | none => false
def errI (gy fr : Int) (l : List Hd) : Int := if badB gy fr l then 1 else if longB gy fr l then 2 else 0
theorem badB_snoc (gy fr : Int) (l : List Hd) (p : Hd) : badB gy fr (l ++ [p]) = (badB gy fr l || match p.out with | some i => decide (fr ≤ i) && decide (gy < fr - i) | none => false) := by
  unfold badB; rw [List.any_append]; simp
theorem longB_snoc (gy fr : Int) (l : List Hd) (p : Hd) : longB gy fr (l ++ [p]) = (longB gy fr l || match p.out with | some i => decide (fr ≤ i) && decide (1000 - i < gy) | none => false) := by
  unfold longB; rw [List.any_append]; simp
theorem badB_prefix {gy fr : Int} {l m : List Hd} (h : badB gy fr l = true) (hp : l <+: m) : badB gy fr m = true := by
  unfold badB at h ⊢
  rw [List.any_eq_true] at h ⊢
  obtain ⟨p, h1, h2⟩ := h
  exact ⟨p, hp.subset h1, h2⟩
def ICan (w : World) (N : Nat) (gy fr : Int) (l : List Hd) (W : World) : Prop := (Blk W (N + 1) 3 #[.int .i64 gy] ∧ Blk W (N + 1 + 1) 3 #[.int .i64 fr] ∧ Blk W (N + 1 + 1 + 1) 64 #[.int .i64 0] ∧ Blk W (N + 1 + 1 + 1 + 1) 64 #[.int .i64 (if longB gy fr l then 2 else 0)] ∧ badB gy fr l = false) ∧ Below N w W
def XCan (w : World) (N : Nat) (gy fr : Int) (c : Code) (l : List Hd) (W : World) : Prop := (c = .ret ∧ Blk W (N + 1 + 1 + 1) 64 #[.int .i64 1] ∧ badB gy fr l = true) ∧ Below N w W

set_option maxRecDepth 100000 in
set_option maxHeartbeats 2000000 in
theorem canShift_pos (gy fr : Int) (t : Tm) (ok : Nat → Prop) (sb sl : Value) (w : World) (hb : Holds w ok t.binds sb) (hh : HoldsT w ok t.args sl) (hsz : t.total ≤ 900000) (hrg : t.rng) (hfr : 0 ≤ fr) (hff : fits fr) (hgf : fits gy) :
    Calls Try.prog 83 #[tmv sb t.kind t.idx sl, .int .i64 gy, .int .i64 fr] w fun e w' => e = .returned (.int .i64 (errI gy fr (t.heads 1 0))) ∧ Below w.heap.size w w' := by
  refine (callsIn_wide (n := 9)).1 ?_
  have hf56 : Fence.wide.fn 56 := trivial
  obtain ⟨N, hN⟩ : ∃ N, w.heap.size = N := ⟨_, rfl⟩
  have hst := t.size_le_total
  have hb0 : Holds w (fun b => b < N) t.binds sb := hb.mono fun b h _ => by omega
  have hh0 : HoldsT w (fun b => b < N) t.args sl := hh.mono fun b h _ => by omega
  obtain ⟨x1, x2, hsb, _⟩ := hb.shape
  obtain ⟨x3, x4, hsl, _⟩ := hh.shape
  generalize t.binds.length = bn at hsb
  generalize t.args.length = an at hsl
  subst hsb
  subst hsl
  refine callsIn_of_wp_marks Try.func83 rfl trivial ?_ rfl
  simp only [Try.ntmps83, List.size_toArray, List.length_cons, List.length_nil, Nat.reduceAdd, Nat.reduceSub, Array.replicate_succ, Array.replicate_zero, List.push_toArray, List.append_toArray, List.nil_append, List.cons_append]
  have hf57 : Fence.wide.fn 57 := trivial
  have zfr : decide (fr < 0) = false := decide_eq_false (by omega)
  gi_wp2_with (gi_at_call 56; refine (heads_in _ _ _ _ _ _).mono ?_; rintro e w' ⟨rfl, rfl⟩)
  obtain ⟨W0, hW0⟩ : ∃ W0, (((((w.alloc (.cells #[.slice x1 bn x2, .int .i64 t.kind, .int .i64 t.idx, .slice x3 an x4] 34)).alloc (.cells #[.int .i64 gy] 3)).alloc (.cells #[.int .i64 fr] 3)).alloc (.cells #[.int .i64 0] 64)).alloc (.cells #[.int .i64 0] 64)).alloc (.cells #[.slice x1 bn x2, .int .i64 t.kind, .int .i64 t.idx, .slice x3 an x4] 34) = W0 := ⟨_, rfl⟩
  have b0 : Blk W0 (N) 34 #[.slice x1 bn x2, .int .i64 t.kind, .int .i64 t.idx, .slice x3 an x4] := by rw [← hW0]; exact (((((Blk.new' _ (N) 34 _ (by simp [hN])).alloc _).alloc _).alloc _).alloc _).alloc _
  have b1 : Blk W0 (N + 1) 3 #[.int .i64 gy] := by rw [← hW0]; exact ((((Blk.new' _ (N + 1) 3 _ (by simp [hN])).alloc _).alloc _).alloc _).alloc _
  have b2 : Blk W0 (N + 1 + 1) 3 #[.int .i64 fr] := by rw [← hW0]; exact (((Blk.new' _ (N + 1 + 1) 3 _ (by simp [hN])).alloc _).alloc _).alloc _
  have b3 : Blk W0 (N + 1 + 1 + 1) 64 #[.int .i64 0] := by rw [← hW0]; exact ((Blk.new' _ (N + 1 + 1 + 1) 64 _ (by simp [hN])).alloc _).alloc _
  have b4 : Blk W0 (N + 1 + 1 + 1 + 1) 64 #[.int .i64 0] := by rw [← hW0]; exact (Blk.new' _ (N + 1 + 1 + 1 + 1) 64 _ (by simp [hN])).alloc _
  have b5 : Blk W0 (N + 1 + 1 + 1 + 1 + 1) 34 #[.slice x1 bn x2, .int .i64 t.kind, .int .i64 t.idx, .slice x3 an x4] := by rw [← hW0]; exact Blk.new' _ (N + 1 + 1 + 1 + 1 + 1) 34 _ (by simp [hN])
  have hsz0 : W0.heap.size = N + 6 := by rw [← hW0]; simp [hN]
  have hbl : Below N w W0 := by rw [← hW0]; exact ((((((Below.refl N w).alloc (by omega) _).alloc (by simp; omega) _).alloc (by simp; omega) _).alloc (by simp; omega) _).alloc (by simp; omega) _).alloc (by simp; omega) _
  rw [hW0]
  have HN : Hid (w.heap.size = N) := hN
  clear hW0 hN
  refine range_free rfl (by omega) (gf := 93) (lb := #[.pointer (some ⟨N + 1 + 1 + 1 + 1 + 1, 0, none⟩)]) rfl trivial (enters_of Try.func93 (by kernel_rfl) rfl)
    (heads_stops w (fun b => b < N) N (9 - 1) (N + 1 + 1 + 1 + 1 + 1) (fun _ h => h) t _ _ W0 b5 hb0 hh0 hsz (by omega) (KeepP.of_below (by rw [HN.out]; exact hbl))) (Below.refl _ _) KpT.trans (fun W l o o' hl => KpT.put (n0 := N) (fun _ h => h) W l o o' (by omega)) (fun _ => rfl)
    (ICan w N gy fr) (XCan w N gy fr) (FreeFrom.and (FreeFrom.and (blk_free (by omega)) (FreeFrom.and (blk_free (by omega)) (FreeFrom.and (blk_free (by omega)) (FreeFrom.and (blk_free (by omega)) const_free)))) (freeFrom_below (by rw [HN.out]; exact Nat.le_refl _) (by omega))) (fun c => FreeFrom.and (FreeFrom.and const_free (FreeFrom.and (blk_free (by omega)) const_free)) (freeFrom_below (by rw [HN.out]; exact Nat.le_refl _) (by omega))) ⟨⟨b1, b2, b3, b4, rfl⟩, hbl⟩ ?round ?done ?stop
  case round =>
    rintro l m pre x W K hW hl ⟨⟨c1, c2, c3, c4, hbad⟩, hb9⟩ hlen hGx hK
    have HN9 := HN.out
    have hfx := rng_heads t hrg 1 0 x hGx
    have hax := around_heads t 1 0 x hGx
    clear hGx
    obtain ⟨X, hX⟩ : ∃ X, W.heap.size = X := ⟨_, rfl⟩
    obtain ⟨Wa, hWa⟩ : ∃ Wa, (W.alloc (.cells #[.int .i64 (x.deep : Int), .int .i64 (x.around : Int)] 99)).alloc (.cells #[.int .i64 x.kind, .int .i64 x.idx] 31) = Wa := ⟨_, rfl⟩
    have d0 : Blk Wa (X) 99 #[.int .i64 (x.deep : Int), .int .i64 (x.around : Int)] := by rw [← hWa]; exact (Blk.new' _ (X) 99 _ (by simp [hX])).alloc _
    have d1 : Blk Wa (X + 1) 31 #[.int .i64 x.kind, .int .i64 x.idx] := by rw [← hWa]; exact Blk.new' _ (X + 1) 31 _ (by simp [hX])
    have ka : KpT (fun b => b < N) W Wa := by rw [← hWa]; exact (KpT.alloc W _).trans (KpT.alloc _ _)
    have kf : KeepsFrom W0.heap.size W Wa := by rw [← hWa]; exact ((KeepsOthers.alloc W _).from _).trans ((KeepsOthers.alloc _ _).from _)
    have hba : Below W.heap.size W Wa := by rw [← hWa]; exact ((Below.refl _ W).alloc (Nat.le_refl _) _).alloc (by simp) _
    have c1 := c1.below hba c1.lt
    have c2 := c2.below hba c2.lt
    have c3 := c3.below hba c3.lt
    have c4 := c4.below hba c4.lt
    have hb9 := hb9.trans (hba.mono (by omega))
    have HWa : Hid _ := hWa
    clear hWa hba
    gi_wp2
    rw [HWa.out]
    clear HWa
    refine hK _ _ kf (fun o o' ho hc _ => ?_)
    have k1 : KpT (fun b => b < N) W (Wa.putObj l o') := ka.trans (KpT.put (n0 := N) (fun _ h => h) Wa l o o' (by omega) ho hc)
    have c1 := c1.put o' ho hc
    have c2 := c2.put o' ho hc
    have c3 := c3.put o' ho hc
    have c4 := c4.put o' ho hc
    have d0 := d0.put o' ho hc
    have d1 := d1.put o' ho hc
    have hb9 : Below N w (Wa.putObj l o') := (freeFrom_below (β := Unit) (w0 := w) (n0 := N) (B := N) (by omega) (Nat.le_refl _)).put (s := ()) (by omega) ho hc o' hb9
    clear hK ho hc ka kf
    generalize Wa.putObj l o' = W2 at *
    have HB : Hid (badB gy fr (pre ++ [x]) = (badB gy fr pre || match x.out with | some i => decide (fr ≤ i) && decide (gy < fr - i) | none => false)) := badB_snoc gy fr pre x
    have HL : Hid (longB gy fr (pre ++ [x]) = (longB gy fr pre || match x.out with | some i => decide (fr ≤ i) && decide (1000 - i < gy) | none => false)) := longB_snoc gy fr pre x
    have hcall := outs_calls x hfx.2 W2
    obtain ⟨mv, hmv⟩ : ∃ v : Int, (if longB gy fr pre then 2 else 0) = v := ⟨_, rfl⟩
    rw [hmv] at c4
    have HM : Hid _ := hmv
    have HBB : Hid _ := hbad
    have hxo : Hid (x.out = if x.kind = 0 ∧ (x.around : Int) ≤ x.idx then some (x.idx - x.around) else none) := rfl
    have q0 := d0.cell 1
    have q1 := d1.cell 0
    have q2 := d1.cell 1
    obtain ⟨hff1, hff2⟩ := hff
    obtain ⟨hgf1, hgf2⟩ := hgf
    have hxi := hfx.2.2
    clear hmv hbad hfx
    gi_wp2_with fail
    refine ⟨(fun h => by cases h), (CallsIn.inRound l (callsIn_wide.2 hcall)).mono ?_⟩
    rintro e w3 ⟨rfl, hbw⟩
    have c1 := c1.below hbw c1.lt
    have c2 := c2.below hbw c2.lt
    have c3 := c3.below hbw c3.lt
    have c4 := c4.below hbw c4.lt
    have hb3 : Below N w w3 := hb9.trans (hbw.mono (by have := hb9.size; omega))
    have k3 := k1.trans (KpT.of_below hbw)
    have kf3 : KeepsFrom W0.heap.size W2 w3 := ⟨hbw.size, fun k _ _ hk _ => (hbw.block k (Array.getElem?_eq_some_iff.1 hk).1).trans hk⟩
    have stay : Hid (badB gy fr (pre ++ [x]) = false → longB gy fr (pre ++ [x]) = longB gy fr pre → endsF W0.heap.size (KpT fun b => b < N) (ICan w N gy fr) (XCan w N gy fr) (pre ++ [x]) W W2 .normal { tmps := #[], defers := [] } w3) := fun h1 h2 =>
      ⟨kf3, k3, ⟨c1, c2, c3, by rw [h2, HM.out]; exact c4, h1⟩, hb3⟩
    have grow : Hid (badB gy fr (pre ++ [x]) = false → longB gy fr (pre ++ [x]) = true → endsF W0.heap.size (KpT fun b => b < N) (ICan w N gy fr) (XCan w N gy fr) (pre ++ [x]) W W2 .normal { tmps := #[], defers := [] } (w3.setCell ⟨N + 1 + 1 + 1 + 1, 0, none⟩ (.int .i64 2))) := fun h1 h2 =>
      ⟨kf3.trans ((KeepsOthers.setCell _ _ _).from _), k3.trans (KpT.set (n0 := N) (fun _ h => h) c4 (by omega) (by decide) (by decide) (by decide) 0 _), ⟨c1.other (by omega) 0 _, c2.other (by omega) 0 _, c3.other (by omega) 0 _, by rw [h2]; exact c4.set 0 _, h1⟩, bset hb3 (by omega) _⟩
    have bad : Hid (badB gy fr (pre ++ [x]) = true → endsF W0.heap.size (KpT fun b => b < N) (ICan w N gy fr) (XCan w N gy fr) (pre ++ [x]) W W2 .ret { tmps := #[], defers := [] } (w3.setCell ⟨N + 1 + 1 + 1, 0, none⟩ (.int .i64 1))) := fun h1 =>
      ⟨kf3.trans ((KeepsOthers.setCell _ _ _).from _), ⟨rfl, c3.set 0 _, h1⟩, bset hb3 (by omega) _⟩
    have r1 := c1.cell 0
    have r2 := c2.cell 0
    have r3 := c3.cell 0
    have f3 := c3.frozen 0
    have r4 := c4.cell 0
    have f4 := c4.frozen 0
    clear hcall c1 c2 c3 c4 hb9 k1 d0 d1 q0 q1 q2 hbw k3 kf3 hb3
    clear hsz0
    cases hou : x.out with
    | none =>
      have H1 : Hid (badB gy fr (pre ++ [x]) = false) := by show _ = _; rw [HB.out, hou, HBB.out]; rfl
      have H2 : Hid (longB gy fr (pre ++ [x]) = longB gy fr pre) := by show _ = _; rw [HL.out, hou, Bool.or_false]
      simp only [Option.getD_none, Option.isSome_none]
      gi_wp2
      exact stay.out H1.out H2.out
    | some i =>
      have hio : 0 ≤ i ∧ i ≤ 9223372036854775807 := by
        have h9 := hxo.out
        rw [hou] at h9
        by_cases h7 : x.kind = 0 ∧ (x.around : Int) ≤ x.idx
        · rw [if_pos h7] at h9
          simp at h9
          omega
        · rw [if_neg h7] at h9
          cases h9
      have HB2 : Hid (badB gy fr (pre ++ [x]) = (decide (fr ≤ i) && decide (gy < fr - i))) := by show _ = _; rw [HB.out, hou, HBB.out, Bool.false_or]
      have HL2 : Hid (longB gy fr (pre ++ [x]) = (longB gy fr pre || (decide (fr ≤ i) && decide (1000 - i < gy)))) := by show _ = _; rw [HL.out, hou]
      simp only [Option.getD_some, Option.isSome_some]
      clear HB HL HM HBB hxo hxi hou
      by_cases e1 : i < fr
      · have z1 : decide (i < fr) = true := decide_eq_true e1
        have H1 : Hid (badB gy fr (pre ++ [x]) = false) := by show _ = _; rw [HB2.out, decide_eq_false (by omega), Bool.false_and]
        have H2 : Hid (longB gy fr (pre ++ [x]) = longB gy fr pre) := by show _ = _; rw [HL2.out, decide_eq_false (p := fr ≤ i) (by omega), Bool.false_and, Bool.or_false]
        gi_wp2
        exact stay.out H1.out H2.out
      · have z1 : decide (i < fr) = false := decide_eq_false e1
        by_cases e2 : gy < fr - i
        · have z2 : decide (gy < fr - i) = true := decide_eq_true e2
          have H1 : Hid (badB gy fr (pre ++ [x]) = true) := by show _ = _; rw [HB2.out, decide_eq_true (by omega), z2]; rfl
          gi_wp2
          exact bad.out H1.out
        · have z2 : decide (gy < fr - i) = false := decide_eq_false e2
          have H1 : Hid (badB gy fr (pre ++ [x]) = false) := by show _ = _; rw [HB2.out, z2, Bool.and_false]
          by_cases e3 : 1000 - i < gy
          · have z3 : decide (gy > 1000 - i) = true := decide_eq_true e3
            have z4 : decide (1000 - i < gy) = true := decide_eq_true e3
            have H2 : Hid (longB gy fr (pre ++ [x]) = true) := by show _ = _; rw [HL2.out, decide_eq_true (p := fr ≤ i) (by omega), z4]; simp
            gi_wp2
            exact grow.out H1.out H2.out
          · have z3 : decide (gy > 1000 - i) = false := decide_eq_false e3
            have z4 : decide (1000 - i < gy) = false := decide_eq_false e3
            have H2 : Hid (longB gy fr (pre ++ [x]) = longB gy fr pre) := by show _ = _; rw [HL2.out, z4, Bool.and_false, Bool.or_false]
            gi_wp2
            exact stay.out H1.out H2.out
  case done =>
    rintro D ys W hD rfl ⟨⟨c1, c2, c3, c4, hbad⟩, hb9⟩ hK
    have HN9 := HN.out
    have HE : Hid (errI gy fr (t.heads 1 0) = if longB gy fr (t.heads 1 0) then 2 else 0) := by show _ = _; unfold errI; rw [hbad]; simp
    obtain ⟨r9, hr9⟩ : ∃ r : Int, (if longB gy fr (t.heads 1 0) then 2 else 0) = r := ⟨_, rfl⟩
    rw [hr9] at HE c4
    have q4 := c4.cell 0
    have q3 := c3.cell 0
    have f3 := c3.frozen 0
    clear hr9
    gi_wp2
    have s3 := c3.set 0 (.int .i64 r9)
    have sb : Below N w (W.setCell ⟨N + 1 + 1 + 1, 0, none⟩ (.int .i64 r9)) := bset hb9 (by omega) _
    have hK' := (KeepsOthers.setCell W ⟨N + 1 + 1 + 1, 0, none⟩ (.int .i64 r9)).same D _ hK rfl
    generalize W.setCell ⟨N + 1 + 1 + 1, 0, none⟩ (.int .i64 r9) = W3 at *
    refine ⟨by simp, .inl ⟨_, _, rfl, run_takeDeferred hK', ?_⟩⟩
    have e1 : (W3.putObj D (.deferred none)).cell? ⟨N + 1 + 1 + 1, 0, none⟩ = some (.int .i64 r9) := (s3.put (.deferred none) hK' rfl).cell 0
    refine ⟨.int .i64 r9, by simp [results, Try.f83, go_sem, e1], by rw [HE.out], ?_⟩
    rw [HN.out]
    exact sb.trans (belowK_b (w := W0) (by omega) W3 D _ _ hD hK' rfl rfl)
  case stop =>
    rintro D c pre W hD hpre ⟨⟨rfl, c3, hbad⟩, hb9⟩ hK
    have HN9 := HN.out
    have hr : errI gy fr (t.heads 1 0) = 1 := by unfold errI; rw [badB_prefix hbad hpre]; rfl
    have HR : Hid _ := hr
    have q3 := c3.cell 0
    clear hr
    gi_wp2
    refine ⟨by simp, .inl ⟨_, _, rfl, run_takeDeferred hK, ?_⟩⟩
    have e1 : (W.putObj D (.deferred none)).cell? ⟨N + 1 + 1 + 1, 0, none⟩ = some (.int .i64 1) := (c3.put (.deferred none) hK rfl).cell 0
    refine ⟨.int .i64 1, by simp [results, Try.f83, go_sem, e1], by rw [HR.out], ?_⟩
    rw [HN.out]
    exact hb9.trans (belowK_b (w := W0) (by omega) W D _ _ hD hK rfl rfl)

end Go.Proofs.Ytheokboggjnenaa

/-
  The contracts of term.turn by what grows loose indexes, and of term.Shift.
-/
namespace Go.Proofs.Ytheokboggjnenaa
open Go Go.RowKit

/-- An index within so many binders, where the loose ones from fr on grow by gy. -/
def shH (gy fr k i : Int) (b : Nat) : Int := if k = 0 ∧ (b : Int) ≤ i ∧ fr ≤ i - b then i + gy else i
mutual
def shT (gy fr : Int) : Nat → Tm → Tm
  | b, .mk l k i r => .mk l k (shH gy fr k i (b + l.length)) (shL gy fr (b + l.length) r)
def shL (gy fr : Int) : Nat → List Tm → List Tm
  | _, [] => []
  | b, t :: r => shT gy fr b t :: shL gy fr b r
end
theorem shL_map (gy fr : Int) (b : Nat) (l : List Tm) : shL gy fr b l = l.map (shT gy fr b) := by
  induction l with
  | nil => simp [shL]
  | cons t r ih => simp [shL, ih]
theorem shT_binds (gy fr : Int) (b : Nat) (t : Tm) : (shT gy fr b t).binds = t.binds := by cases t; rw [shT]; rfl
theorem shT_kind (gy fr : Int) (b : Nat) (t : Tm) : (shT gy fr b t).kind = t.kind := by cases t; rw [shT]; rfl
theorem shT_idx (gy fr : Int) (b : Nat) (t : Tm) : (shT gy fr b t).idx = shH gy fr t.kind t.idx (b + t.binds.length) := by cases t; rw [shT]; rfl
theorem shT_args (gy fr : Int) (b : Nat) (t : Tm) : (shT gy fr b t).args = t.args.map (shT gy fr (b + t.binds.length)) := by cases t; rw [shT]; exact shL_map _ _ _ _

/-- A head's index fits an int, and does so where it grows. -/
def grows (gy fr : Int) (p : Hd) : Prop := fits p.idx ∧ ∀ i, p.out = some i → fr ≤ i → fits (p.idx + gy)
theorem grows_arg {gy fr : Int} {t u : Tm} {d b : Nat} (h : ∀ p ∈ t.heads d b, grows gy fr p) (hu : u ∈ t.args) : ∀ p ∈ u.heads (d + 1) (b + t.binds.length), grows gy fr p := by
  intro p hp
  refine h p ?_
  rw [t.heads_eq]
  refine List.mem_cons_of_mem _ ?_
  generalize t.args = l at *
  induction l with
  | nil => cases hu
  | cons v r ih =>
    show p ∈ v.heads _ _ ++ headsT _ _ r
    rcases List.mem_cons.1 hu with rfl | hu
    · exact List.mem_append.2 (.inl hp)
    · exact List.mem_append.2 (.inr (ih hu))

set_option maxRecDepth 100000 in
set_option maxHeartbeats 1000000 in
theorem shift1_calls (gy fr k i : Int) (b : Nat) (P1 P2 : Nat) (w : World) (hfi : fits i) (hfg : k = 0 → (b : Int) ≤ i → fr ≤ i - b → fits (i + gy)) (h1 : w.cell? ⟨P1, 0, none⟩ = some (.int .i64 fr)) (h2 : w.cell? ⟨P2, 0, none⟩ = some (.int .i64 gy)) :
    Calls Try.prog 85 #[hv k i, .int .i64 (b : Int), .pointer (some ⟨P1, 0, none⟩), .pointer (some ⟨P2, 0, none⟩)] w fun e w' => e = .returned (hv k (shH gy fr k i b)) ∧ Below w.heap.size w w' := by
  obtain ⟨N, hN⟩ : ∃ N, w.heap.size = N := ⟨_, rfl⟩
  rw [hN]
  obtain ⟨W0, hW0⟩ : ∃ W0, (w.alloc (.cells #[.int .i64 k, .int .i64 i] 31)).alloc (.cells #[.int .i64 0, .int .i64 0] 31) = W0 := ⟨_, rfl⟩
  have b0 : Blk W0 N 31 #[.int .i64 k, .int .i64 i] := by rw [← hW0]; exact (Blk.new' w N 31 _ hN).alloc _
  have b1 : Blk W0 (N + 1) 31 #[.int .i64 0, .int .i64 0] := by rw [← hW0]; exact Blk.new' _ (N + 1) 31 _ (by simp [hN])
  have bl0 : Below N w W0 := by rw [← hW0]; exact ((Below.refl N w).alloc (by omega) _).alloc (by simp; omega) _
  have hcW : Cur w W0 := by show Below _ _ _; rw [hN]; exact bl0
  have hcall := outs_calls ⟨1, b, k, i⟩ hfi W0
  have hou : (⟨1, b, k, i⟩ : Hd).out = if k = 0 ∧ (b : Int) ≤ i then some (i - b) else none := rfl
  have p1 := hcW.cell h1
  have p2 := hcW.cell h2
  have HW : Hid _ := hW0
  have c0 := b0.cell 0
  have c1 := b0.cell 1
  clear hW0 h1 h2 hcW
  dsimp only at hcall
  go_enter Try.func85, Try.ntmps85
  go_upto_region 1 with fail
  rw [HW.out]
  clear HW
  go_wp2_with fail
  refine hcall.mono ?_
  clear hcall
  rintro e w1 ⟨rfl, hb1⟩
  have r1 := (cat hb1 (lt_of_cell p1)).trans p1
  have r2 := (cat hb1 (lt_of_cell p2)).trans p2
  have b0' := b0.below hb1 b0.lt
  have b1' := b1.below hb1 b1.lt
  have hbl : Below N w w1 := bl0.trans (hb1.mono (by have := b0.lt; omega))
  have s0 := b0'.cell 0
  have s1 := b0'.cell 1
  have fz1 := b0'.frozen 1
  have t0 := b1'.cell 0
  have t1 := b1'.cell 1
  have ft0 := b1'.frozen 0
  have ft1 := b1'.frozen 1
  clear c0 c1 p1 p2 b0 b1 hb1 bl0
  obtain ⟨hf1, hf2⟩ := hfi
  by_cases hl : k = 0 ∧ (b : Int) ≤ i
  · obtain ⟨rfl, hbi⟩ := hl
    rw [if_pos ⟨rfl, hbi⟩] at hou
    have HOU : Hid _ := hou
    rw [HOU.out]
    simp only [Option.getD_some, Option.isSome_some]
    by_cases e1 : fr ≤ i - (b : Int)
    · obtain ⟨hg1, hg2⟩ := hfg rfl hbi e1
      have z1 : decide (i - (b : Int) ≥ fr) = true := decide_eq_true e1
      have z2 : decide (fr ≤ i - (b : Int)) = true := decide_eq_true e1
      have HR : Hid (shH gy fr 0 i b = i + gy) := by show _ = _; unfold shH; rw [if_pos ⟨rfl, hbi, e1⟩]
      have m0 := b0'.set 1 (.int .i64 (i + gy))
      have m1 := b1'.other (B' := N) (by omega) 1 (.int .i64 (i + gy))
      have hbl2 : Below N w (w1.setCell ⟨N, 1, none⟩ (.int .i64 (i + gy))) := bset hbl (Nat.le_refl _) _
      have g0 := m0.cell 0
      have g1 := m0.cell 1
      have g2 := m1.cell 0
      have g3 := m1.cell 1
      have g4 := m1.frozen 0
      have g5 := m1.frozen 1
      have m2 := (m1.set 0 (.int .i64 0)).set 1 (.int .i64 (i + gy))
      have hbl3 : Below N w (((w1.setCell ⟨N, 1, none⟩ (.int .i64 (i + gy))).setCell ⟨N + 1, 0, none⟩ (.int .i64 0)).setCell ⟨N + 1, 1, none⟩ (.int .i64 (i + gy))) := bset (bset hbl2 (by omega) _) (by omega) _
      clear b0' b1' hou HOU hfg m0 m1 hbl hbl2
      go_wp2
      generalize ((w1.setCell ⟨N, 1, none⟩ (.int .i64 (i + gy))).setCell ⟨N + 1, 0, none⟩ (.int .i64 0)).setCell ⟨N + 1, 1, none⟩ (.int .i64 (i + gy)) = W5 at *
      have n0 : W5.cell? ⟨N + 1, 0, none⟩ = some (.int .i64 0) := m2.cell 0
      have n1 : W5.cell? ⟨N + 1, 1, none⟩ = some (.int .i64 (i + gy)) := m2.cell 1
      exact bodyPost_ret (v := hv 0 (i + gy)) (by simp [results, Try.results85, go_sem, n0, n1]) rfl ⟨by rw [HR.out], hbl3⟩
    · have z1 : decide (i - (b : Int) ≥ fr) = false := decide_eq_false e1
      have z2 : decide (fr ≤ i - (b : Int)) = false := decide_eq_false e1
      have HR : Hid (shH gy fr 0 i b = i) := by show _ = _; unfold shH; rw [if_neg (fun h => e1 h.2.2)]
      have m2 := (b1'.set 0 (.int .i64 0)).set 1 (.int .i64 i)
      have hbl3 : Below N w ((w1.setCell ⟨N + 1, 0, none⟩ (.int .i64 0)).setCell ⟨N + 1, 1, none⟩ (.int .i64 i)) := bset (bset hbl (by omega) _) (by omega) _
      clear b0' b1' hou HOU hfg hbl
      go_wp2
      generalize (w1.setCell ⟨N + 1, 0, none⟩ (.int .i64 0)).setCell ⟨N + 1, 1, none⟩ (.int .i64 i) = W5 at *
      have n0 : W5.cell? ⟨N + 1, 0, none⟩ = some (.int .i64 0) := m2.cell 0
      have n1 : W5.cell? ⟨N + 1, 1, none⟩ = some (.int .i64 i) := m2.cell 1
      exact bodyPost_ret (v := hv 0 i) (by simp [results, Try.results85, go_sem, n0, n1]) rfl ⟨by rw [HR.out], hbl3⟩
  · rw [if_neg hl] at hou
    have HR : Hid (shH gy fr k i b = i) := by show _ = _; unfold shH; rw [if_neg (fun h => hl ⟨h.1, h.2.1⟩)]
    have HOU : Hid _ := hou
    rw [HOU.out]
    simp only [Option.getD_none, Option.isSome_none]
    have m2 := (b1'.set 0 (.int .i64 k)).set 1 (.int .i64 i)
    have hbl3 : Below N w ((w1.setCell ⟨N + 1, 0, none⟩ (.int .i64 k)).setCell ⟨N + 1, 1, none⟩ (.int .i64 i)) := bset (bset hbl (by omega) _) (by omega) _
    clear b0' b1' hou HOU hfg hbl
    go_wp2
    generalize (w1.setCell ⟨N + 1, 0, none⟩ (.int .i64 k)).setCell ⟨N + 1, 1, none⟩ (.int .i64 i) = W5 at *
    have n0 : W5.cell? ⟨N + 1, 0, none⟩ = some (.int .i64 k) := m2.cell 0
    have n1 : W5.cell? ⟨N + 1, 1, none⟩ = some (.int .i64 i) := m2.cell 1
    exact bodyPost_ret (v := hv k i) (by simp [results, Try.results85, go_sem, n0, n1]) rfl ⟨by rw [HR.out], hbl3⟩

/-- turn's own word of one term, by what grows loose indexes -/
def ShAt (gy fr : Int) (Q1 Q2 : Nat) (t : Tm) : Prop := ∀ (d b : Nat) (ok : Nat → Prop) (sb sr : Value) (w : World), w.cell? ⟨Q1, 0, none⟩ = some (.int .i64 fr) → w.cell? ⟨Q2, 0, none⟩ = some (.int .i64 gy) → (∀ p ∈ t.heads d b, grows gy fr p) → Holds w ok t.binds sb → HoldsT w ok t.args sr → b + t.total ≤ 10000000 → t.total ≤ 1000000 →
    Calls Try.prog 84 #[tmv sb t.kind t.idx sr, .int .i64 b, .func (.func 85) #[] #[.pointer (some ⟨Q1, 0, none⟩), .pointer (some ⟨Q2, 0, none⟩)]] w fun e w' => ∃ vb vr, e = .returned (tmv vb t.kind (shH gy fr t.kind t.idx (b + t.binds.length)) vr) ∧ Holds w' (fun b => w.heap.size ≤ b) t.binds vb ∧ HoldsT w' (fun b => w.heap.size ≤ b) (t.args.map (shT gy fr (b + t.binds.length))) vr ∧ Below w.heap.size w w'

set_option maxRecDepth 100000 in
set_option maxHeartbeats 1000000 in
theorem turnS1_calls (gy fr : Int) (Q1 Q2 d : Nat) (u : Tm) (hT : ShAt gy fr Q1 Q2 u) (P1 P2 b : Nat) (hgr : ∀ p ∈ u.heads d b, grows gy fr p) (hbt : b + u.total ≤ 10000000) (ht2 : u.total ≤ 1000000) (W : World) (h1 : W.cell? ⟨P1, 0, none⟩ = some (.int .i64 b)) (h2 : W.cell? ⟨P2, 0, none⟩ = some (.func (.func 85) #[] #[.pointer (some ⟨Q1, 0, none⟩), .pointer (some ⟨Q2, 0, none⟩)])) (h3 : W.cell? ⟨Q1, 0, none⟩ = some (.int .i64 fr)) (h4 : W.cell? ⟨Q2, 0, none⟩ = some (.int .i64 gy)) :
    MapsAt 113 #[.pointer (some ⟨P1, 0, none⟩), .pointer (some ⟨P2, 0, none⟩)] W (shT gy fr b) u := by
  intro ok sb sr w hc hb hr
  rw [shT_kind, shT_idx, shT_binds, shT_args]
  obtain ⟨ki, hki⟩ : ∃ x, shH gy fr u.kind u.idx (b + u.binds.length) = x := ⟨_, rfl⟩
  obtain ⟨ua, hua⟩ : ∃ x, u.args.map (shT gy fr (b + u.binds.length)) = x := ⟨_, rfl⟩
  have hual : ua.length = u.args.length := by rw [← hua, List.length_map]
  rw [hki, hua]
  obtain ⟨x1, x2, rfl, _⟩ := hb.shape
  obtain ⟨x3, x4, rfl, _⟩ := hr.shape
  obtain ⟨bn, hbn⟩ : ∃ bn, u.binds.length = bn := ⟨_, rfl⟩
  obtain ⟨an, han⟩ : ∃ an, u.args.length = an := ⟨_, rfl⟩
  rw [hbn] at hb ⊢
  rw [han] at hr ⊢
  obtain ⟨N, hN⟩ : ∃ N, w.heap.size = N := ⟨_, rfl⟩
  rw [hN]
  obtain ⟨W0, hW0⟩ : ∃ W0, (w.alloc (.cells #[.slice x1 bn x2, .int .i64 u.kind, .int .i64 u.idx, .slice x3 an x4] 34)).alloc (.cells #[.slice none 0 0, .int .i64 0, .int .i64 0, .slice none 0 0] 34) = W0 := ⟨_, rfl⟩
  have b0 : Blk W0 N 34 #[.slice x1 bn x2, .int .i64 u.kind, .int .i64 u.idx, .slice x3 an x4] := by rw [← hW0]; exact (Blk.new' w N 34 _ hN).alloc _
  have b1 : Blk W0 (N + 1) 34 #[.slice none 0 0, .int .i64 0, .int .i64 0, .slice none 0 0] := by rw [← hW0]; exact Blk.new' _ (N + 1) 34 _ (by simp [hN])
  have bl0 : Below N w W0 := by rw [← hW0]; exact ((Below.refl N w).alloc (by omega) _).alloc (by simp; omega) _
  have hcW : Cur W W0 := hc.then (by rw [hN]; exact bl0)
  have c0 := b0.cell 0
  have c1 := b0.cell 1
  have c2 := b0.cell 2
  have c3 := b0.cell 3
  have p1 := hcW.cell h1
  have p2 := hcW.cell h2
  have hcall := hT d b ok _ _ W0 (hcW.cell h3) (hcW.cell h4) hgr (hb.bel (hN ▸ bl0)) (hr.bel (hN ▸ bl0)) hbt ht2
  rw [hbn] at hki hua hcall
  rw [hki, hua] at hcall
  rw [han] at hual
  have hz : N + 1 < W0.heap.size := b1.lt
  have HW : Hid _ := hW0
  clear hW0 hb hr hc hcW h1 h2 h3 h4 hT hbn han hki hua hgr
  go_enter Try.func113, Try.ntmps113
  go_upto_region 1 with fail
  rw [HW.out]
  clear HW
  go_wp2_with fail
  refine hcall.mono ?_
  rintro e w1 ⟨vb, vr, rfl, q1, q2, hb1⟩
  obtain ⟨y1, y2, rfl, _⟩ := q1.shape
  obtain ⟨y3, y4, rfl, _⟩ := q2.shape
  generalize u.binds.length = m1 at *
  have HUA : Hid _ := hual
  clear hual
  generalize ua.length = m2 at *
  have m9 := b1.below hb1 b1.lt
  have e0 := m9.cell 0
  have e1 := m9.cell 1
  have e2 := m9.cell 2
  have e3 := m9.cell 3
  have f0 := m9.frozen 0
  have f1 := m9.frozen 1
  have f2 := m9.frozen 2
  have f3 := m9.frozen 3
  have b9 := (((m9.set 0 (.slice y1 m1 y2)).set 1 (.int .i64 u.kind)).set 2 (.int .i64 ki)).set 3 (.slice y3 m2 y4)
  have r1 := holds_set4 (g := N + 1) (ok' := fun b => N ≤ b) q1 (fun b _ h => ⟨by omega, by omega⟩) (.slice y1 m1 y2) (.int .i64 u.kind) (.int .i64 ki) (.slice y3 m2 y4)
  have r2 := holdsT_z (g := N + 1) (ok' := fun b => N ≤ b) q2 (fun b _ h => ⟨by omega, by omega⟩) (.slice y1 m1 y2) (.int .i64 u.kind) (.int .i64 ki) (.slice y3 m2 y4)
  have r3 : Below N w ((((w1.setCell ⟨N + 1, 0, none⟩ (.slice y1 m1 y2)).setCell ⟨N + 1, 1, none⟩ (.int .i64 u.kind)).setCell ⟨N + 1, 2, none⟩ (.int .i64 ki)).setCell ⟨N + 1, 3, none⟩ (.slice y3 m2 y4)) := bset (bset (bset (bset (bl0.trans (hb1.mono (by omega))) (by omega) _) (by omega) _) (by omega) _) (by omega) _
  clear q1 q2
  go_wp2
  generalize (((w1.setCell ⟨N + 1, 0, none⟩ (.slice y1 m1 y2)).setCell ⟨N + 1, 1, none⟩ (.int .i64 u.kind)).setCell ⟨N + 1, 2, none⟩ (.int .i64 ki)).setCell ⟨N + 1, 3, none⟩ (.slice y3 m2 y4) = W5 at *
  have g0 : W5.cell? ⟨N + 1, 0, none⟩ = some (.slice y1 m1 y2) := b9.cell 0
  have g1 : W5.cell? ⟨N + 1, 1, none⟩ = some (.int .i64 u.kind) := b9.cell 1
  have g2 : W5.cell? ⟨N + 1, 2, none⟩ = some (.int .i64 ki) := b9.cell 2
  have g3 : W5.cell? ⟨N + 1, 3, none⟩ = some (.slice y3 m2 y4) := b9.cell 3
  exact bodyPost_ret (v := tmv (.slice y1 m1 y2) u.kind ki (.slice y3 m2 y4)) (by simp [results, Try.results113, go_sem, g0, g1, g2, g3]) rfl ⟨_, _, rfl, r1, r2, r3⟩

set_option maxRecDepth 100000 in
set_option maxHeartbeats 800000 in
theorem turnS_calls (gy fr : Int) (Q1 Q2 : Nat) (t : Tm) : ShAt gy fr Q1 Q2 t := by
  induction t using Tm.ind with
  | h t ih =>
  intro d b ok sb sr w hq1 hq2 hgr hb hr hbt ht2
  have hqb1 := lt_of_cell hq1
  have hqb2 := lt_of_cell hq2
  have hgh := hgr ⟨d, b + t.binds.length, t.kind, t.idx⟩ (by rw [t.heads_eq]; simp)
  have hga := fun u (hu : u ∈ t.args) => grows_arg hgr hu
  have htot := t.total_eq
  have hlb := sizeL_length t.binds
  have hla := totalT_length t.args
  obtain ⟨x1, x2, rfl, _⟩ := hb.shape
  obtain ⟨x3, x4, rfl, _⟩ := hr.shape
  obtain ⟨bn, hbn⟩ : ∃ bn, t.binds.length = bn := ⟨_, rfl⟩
  obtain ⟨an, han⟩ : ∃ an, t.args.length = an := ⟨_, rfl⟩
  rw [hbn] at hb hlb hgh hga ⊢
  obtain ⟨ki, hki⟩ : ∃ x, shH gy fr t.kind t.idx (b + bn) = x := ⟨_, rfl⟩
  obtain ⟨ua, hua⟩ : ∃ x, t.args.map (shT gy fr (b + bn)) = x := ⟨_, rfl⟩
  rw [hki, hua]
  rw [han] at hr hla ⊢
  obtain ⟨N, hN⟩ : ∃ N, w.heap.size = N := ⟨_, rfl⟩
  rw [hN]
  obtain ⟨W0, hW0⟩ : ∃ W0, (((w.alloc (.cells #[.slice x1 bn x2, .int .i64 t.kind, .int .i64 t.idx, .slice x3 an x4] 34)).alloc (.cells #[.int .i64 ((b : Int) + (bn : Int))] 3)).alloc (.cells #[.func (.func 85) #[] #[.pointer (some ⟨Q1, 0, none⟩), .pointer (some ⟨Q2, 0, none⟩)]] 132)).alloc (.cells #[.slice none 0 0, .int .i64 0, .int .i64 0, .slice none 0 0] 34) = W0 := ⟨_, rfl⟩
  have b0 : Blk W0 N 34 #[.slice x1 bn x2, .int .i64 t.kind, .int .i64 t.idx, .slice x3 an x4] := by rw [← hW0]; exact (((Blk.new' w N 34 _ hN).alloc _).alloc _).alloc _
  have b1 : Blk W0 (N + 1) 3 #[.int .i64 ((b : Int) + (bn : Int))] := by rw [← hW0]; exact ((Blk.new' _ (N + 1) 3 _ (by simp [hN])).alloc _).alloc _
  have b2 : Blk W0 (N + 2) 132 #[.func (.func 85) #[] #[.pointer (some ⟨Q1, 0, none⟩), .pointer (some ⟨Q2, 0, none⟩)]] := by rw [← hW0]; exact (Blk.new' _ (N + 2) 132 _ (by simp [hN])).alloc _
  have b3 : Blk W0 (N + 3) 34 #[.slice none 0 0, .int .i64 0, .int .i64 0, .slice none 0 0] := by rw [← hW0]; exact Blk.new' _ (N + 3) 34 _ (by simp [hN])
  have hz0 : W0.heap.size = N + 4 := by rw [← hW0]; simp [hN]
  have bl0 : Below N w W0 := by rw [← hW0]; exact ((((Below.refl N w).alloc (by omega) _).alloc (by simp; omega) _).alloc (by simp; omega) _).alloc (by simp; omega) _
  have hb0 := hb.bel (hN ▸ bl0)
  have hcq : Cur w W0 := by show Below _ _ _; rw [hN]; exact bl0
  have u1 := hcq.cell hq1
  have u2 := hcq.cell hq2
  have hr0 := hr.bel (hN ▸ bl0)
  have HW : Hid _ := hW0
  have c0 := b0.cell 0
  have c1 := b0.cell 1
  have c2 := b0.cell 2
  have c3 := b0.cell 3
  have d1 := b1.cell 0
  have d2 := b2.cell 0
  have hsb : sizeL t.binds ≤ 1000000 := by omega
  have hla2 : t.args.length ≤ 1000000 := by omega
  have hmf : ∀ (fn : Fn) (first cap : Array Value) (w : World), (Instr.makeFunc fn first cap).run Try.prog w = .ok (.func fn first cap) w := fun _ _ _ _ => rfl
  have k111 : ∀ cur, Cur W0 cur → Calls Try.prog 111 #[.slice x1 bn x2, .func (.func 74) #[] #[]] cur fun e w' => ∃ va vc, e = .returned (.slice va bn vc) ∧ Holds w' (fun b => W0.heap.size ≤ b) t.binds (.slice va bn vc) ∧ Cur W0 w' := fun cur hc =>
    (eachTy_calls t.binds ok _ cur (hc.holds hb0) hsb).mono fun e w' ⟨v, h1, h2, h3⟩ => by
      obtain ⟨va, vc, rfl, _⟩ := h2.shape
      rw [hbn] at h1 h2
      exact ⟨va, vc, h1, h2.mono (fun b _ h => Nat.le_trans (Below.size hc) h), hc.then h3⟩
  have k90 : ∀ cur, Cur W0 cur → Calls Try.prog 85 #[hv t.kind t.idx, .int .i64 ((b : Int) + (bn : Int)), .pointer (some ⟨Q1, 0, none⟩), .pointer (some ⟨Q2, 0, none⟩)] cur fun e w' => e = .returned (hv t.kind ki) ∧ Below cur.heap.size cur w' ∧ Cur W0 w' := fun cur hc =>
    (show Calls Try.prog 85 #[hv t.kind t.idx, .int .i64 ((b : Int) + (bn : Int)), .pointer (some ⟨Q1, 0, none⟩), .pointer (some ⟨Q2, 0, none⟩)] cur fun e w' => e = .returned (hv t.kind ki) ∧ Below cur.heap.size cur w' from by
      have h9 := shift1_calls gy fr t.kind t.idx (b + bn) Q1 Q2 cur hgh.1 (fun g1 g2 g3 => hgh.2 _ (by unfold Hd.out; rw [if_pos ⟨g1, g2⟩]) g3) (hc.cell u1) (hc.cell u2)
      rw [hki, show ((b + bn : Nat) : Int) = (b : Int) + (bn : Int) by omega] at h9
      exact h9).mono fun e w' ⟨h1, h3⟩ => ⟨h1, h3, hc.then h3⟩
  have k112 : ∀ cur, Cur W0 cur → Calls Try.prog 112 #[.slice x3 an x4, .func (.func 113) #[] #[.pointer (some ⟨N + 1, 0, none⟩), .pointer (some ⟨N + 2, 0, none⟩)]] cur fun e w' => ∃ va vn vc, e = .returned (.slice va vn vc) ∧ HoldsT w' (fun b => W0.heap.size ≤ b) ua (.slice va vn vc) ∧ Below cur.heap.size cur w' ∧ Cur W0 w' := fun cur hc =>
    (eachTm_calls t.args (shT gy fr (b + bn)) ok _ _ _ cur (hr0.bel hc) hla2 (fun u hu => turnS1_calls gy fr Q1 Q2 (d + 1) u (ih u hu) (N + 1) (N + 2) (b + bn) (hga u hu) (by have := total_mem hu; omega) (by have := total_mem hu; omega) cur (hc.cell d1) (hc.cell d2) (hc.cell u1) (hc.cell u2))).mono fun e w' ⟨v, h1, h2, h3⟩ => by
      rw [hua] at h2
      obtain ⟨va, vc, rfl, _⟩ := h2.shape
      exact ⟨va, _, vc, h1, h2.mono (fun b _ h => Nat.le_trans (Below.size hc) h), h3, hc.then h3⟩
  have hK : ∀ v, Cur W0 v → v.cell? ⟨N, 0, none⟩ = some (.slice x1 bn x2) ∧ v.cell? ⟨N, 1, none⟩ = some (.int .i64 t.kind) ∧ v.cell? ⟨N, 2, none⟩ = some (.int .i64 t.idx) ∧ v.cell? ⟨N, 3, none⟩ = some (.slice x3 an x4) ∧ v.cell? ⟨N + 1, 0, none⟩ = some (.int .i64 ((b : Int) + (bn : Int))) ∧ v.cell? ⟨N + 2, 0, none⟩ = some (.func (.func 85) #[] #[.pointer (some ⟨Q1, 0, none⟩), .pointer (some ⟨Q2, 0, none⟩)]) := fun v hv => ⟨hv.cell c0, hv.cell c1, hv.cell c2, hv.cell c3, hv.cell d1, hv.cell d2⟩
  have hne0 : N ≠ N + 3 := by omega
  have hne1 : N + 1 ≠ N + 3 := by omega
  have hne2 : N + 2 ≠ N + 3 := by omega
  have hbn2 : bn ≤ 1000000 := by omega
  have hb2 : b ≤ 10000000 := by omega
  clear hW0 hb hr hb0 hr0 ih hbt ht2 htot hlb hla hsb hla2 hq1 hq2 hgr hgh hga hki hua hcq u1 u2
  go_enter Try.func84, Try.ntmps84
  go_upto_region 2 with fail
  rw [HW.out]
  clear HW
  have hcur := Cur.refl W0
  go_region_held3 (fun v => v.cell? ⟨N, 0, none⟩ = some (.slice x1 bn x2) ∧ v.cell? ⟨N, 1, none⟩ = some (.int .i64 t.kind) ∧ v.cell? ⟨N, 2, none⟩ = some (.int .i64 t.idx) ∧ v.cell? ⟨N, 3, none⟩ = some (.slice x3 an x4) ∧ v.cell? ⟨N + 1, 0, none⟩ = some (.int .i64 ((b : Int) + (bn : Int))) ∧ v.cell? ⟨N + 2, 0, none⟩ = some (.func (.func 85) #[] #[.pointer (some ⟨Q1, 0, none⟩), .pointer (some ⟨Q2, 0, none⟩)]))
    (first | with_reducible exact hK _ (by first | with_reducible assumption | (with_reducible refine Cur.drew ?_; assumption)) | with_reducible exact ⟨Cur.other4 hc3 c0 hne0 _ _ _ _, Cur.other4 hc3 c1 hne0 _ _ _ _, Cur.other4 hc3 c2 hne0 _ _ _ _, Cur.other4 hc3 c3 hne0 _ _ _ _, Cur.other4 hc3 d1 hne1 _ _ _ _, Cur.other4 hc3 d2 hne2 _ _ _ _⟩)
    (first
      | (go_at_call 111; refine (k111 _ (by first | with_reducible assumption | (with_reducible refine Cur.drew ?_; assumption))).mono ?_; rintro e w1 ⟨va, vc, rfl, hv1, hc1⟩)
      | (go_at_call 85; refine (k90 _ (by first | with_reducible assumption | (with_reducible refine Cur.drew ?_; assumption))).mono ?_; rintro e w2 ⟨rfl, hb2', hc2⟩; have hv2 := hv1.bel hb2')
      | (go_at_call 112; refine (k112 _ (by first | with_reducible assumption | (with_reducible refine Cur.drew ?_; assumption))).mono ?_; rintro e w3 ⟨vd, vn, ve, rfl, q2, hb3, hc3⟩; have q1 := hv2.bel hb3; have m9 := b3.below hc3 b3.lt; have e0 := m9.cell 0; have e1 := m9.cell 1; have e2 := m9.cell 2; have e3 := m9.cell 3; have f0 := m9.frozen 0; have f1 := m9.frozen 1; have f2 := m9.frozen 2; have f3 := m9.frozen 3))
  all_goals
    have b9 : Blk ((((w3.setCell ⟨N + 1 + 1 + 1, 0, none⟩ (.slice va bn vc)).setCell ⟨N + 1 + 1 + 1, 1, none⟩ (.int .i64 t.kind)).setCell ⟨N + 1 + 1 + 1, 2, none⟩ (.int .i64 ki)).setCell ⟨N + 1 + 1 + 1, 3, none⟩ (.slice vd vn ve)) (N + 1 + 1 + 1) 34 #[.slice va bn vc, .int .i64 t.kind, .int .i64 ki, .slice vd vn ve] := (((m9.set 0 (.slice va bn vc)).set 1 (.int .i64 t.kind)).set 2 (.int .i64 ki)).set 3 (.slice vd vn ve)
    have r1 : Holds ((((w3.setCell ⟨N + 1 + 1 + 1, 0, none⟩ (.slice va bn vc)).setCell ⟨N + 1 + 1 + 1, 1, none⟩ (.int .i64 t.kind)).setCell ⟨N + 1 + 1 + 1, 2, none⟩ (.int .i64 ki)).setCell ⟨N + 1 + 1 + 1, 3, none⟩ (.slice vd vn ve)) (fun b => N ≤ b) t.binds (.slice va bn vc) := holds_set4 q1 (fun b _ h => ⟨by omega, by omega⟩) _ _ _ _
    have r2 : HoldsT ((((w3.setCell ⟨N + 1 + 1 + 1, 0, none⟩ (.slice va bn vc)).setCell ⟨N + 1 + 1 + 1, 1, none⟩ (.int .i64 t.kind)).setCell ⟨N + 1 + 1 + 1, 2, none⟩ (.int .i64 ki)).setCell ⟨N + 1 + 1 + 1, 3, none⟩ (.slice vd vn ve)) (fun b => N ≤ b) ua (.slice vd vn ve) := holdsT_z q2 (fun b _ h => ⟨by omega, by omega⟩) _ _ _ _
    have r3 : Below N w ((((w3.setCell ⟨N + 1 + 1 + 1, 0, none⟩ (.slice va bn vc)).setCell ⟨N + 1 + 1 + 1, 1, none⟩ (.int .i64 t.kind)).setCell ⟨N + 1 + 1 + 1, 2, none⟩ (.int .i64 ki)).setCell ⟨N + 1 + 1 + 1, 3, none⟩ (.slice vd vn ve)) := bset (bset (bset (bset (bl0.trans (Below.mono hc3 (by omega))) (by omega) _) (by omega) _) (by omega) _) (by omega) _
    clear q1 q2 m9 e0 e1 e2 e3 f0 f1 f2 f3 hv1 hv2
    generalize (((w3.setCell ⟨N + 1 + 1 + 1, 0, none⟩ (.slice va bn vc)).setCell ⟨N + 1 + 1 + 1, 1, none⟩ (.int .i64 t.kind)).setCell ⟨N + 1 + 1 + 1, 2, none⟩ (.int .i64 ki)).setCell ⟨N + 1 + 1 + 1, 3, none⟩ (.slice vd vn ve) = W5 at *
    go_wp2
    have g0 : W5.cell? ⟨N + 1 + 1 + 1, 0, none⟩ = some (.slice va bn vc) := b9.cell 0
    have g1 : W5.cell? ⟨N + 1 + 1 + 1, 1, none⟩ = some (.int .i64 t.kind) := b9.cell 1
    have g2 : W5.cell? ⟨N + 1 + 1 + 1, 2, none⟩ = some (.int .i64 ki) := b9.cell 2
    have g3 : W5.cell? ⟨N + 1 + 1 + 1, 3, none⟩ = some (.slice vd vn ve) := b9.cell 3
    exact bodyPost_ret (v := tmv (.slice va bn vc) t.kind ki (.slice vd vn ve)) (by simp [results, Try.results84, go_sem, g0, g1, g2, g3]) rfl ⟨_, _, rfl, r1, r2, r3⟩

/-- What Shift answers. -/
def shiftE (gy fr : Int) (t : Tm) : Int := if fr < 0 then 1 else errI gy fr (t.heads 1 0)

end Go.Proofs.Ytheokboggjnenaa

/-
  The contracts of term.canShift and term.Shift.
-/
namespace Go.Proofs.Ytheokboggjnenaa
open Go Go.RowKit

theorem errI_lo (gy fr : Int) (l : List Hd) : 0 ≤ errI gy fr l ∧ errI gy fr l ≤ 2 := by
  unfold errI
  split
  · omega
  · split <;> omega
theorem shiftE_lo (gy fr : Int) (t : Tm) : 0 ≤ shiftE gy fr t ∧ shiftE gy fr t ≤ 2 := by
  unfold shiftE
  have := errI_lo gy fr (t.heads 1 0)
  split <;> omega
theorem grows_of {gy fr : Int} {t : Tm} (hrg : t.rng) (htt : t.total ≤ 1000000) (h : shiftE gy fr t = 0) : 0 ≤ fr ∧ ∀ p ∈ t.heads 1 0, grows gy fr p := by
  unfold shiftE at h
  by_cases h0 : fr < 0
  · rw [if_pos h0] at h; omega
  · rw [if_neg h0] at h
    refine ⟨by omega, fun p hp => ⟨(rng_heads t hrg 1 0 p hp).2, fun i hi hfi => ?_⟩⟩
    have hi9 := (rng_heads t hrg 1 0 p hp).2
    have har := around_heads t 1 0 p hp
    unfold errI at h
    cases hb : badB gy fr (t.heads 1 0) with
    | true => rw [hb] at h; simp at h
    | false =>
      cases hl : longB gy fr (t.heads 1 0) with
      | true => rw [hb, hl] at h; simp at h
      | false =>
        unfold badB at hb
        unfold longB at hl
        rw [List.any_eq_false] at hb hl
        have h1 := hb p hp
        have h2 := hl p hp
        rw [hi] at h1 h2
        simp at h1 h2
        have h3 := h1 hfi
        have h4 := h2 hfi
        unfold Hd.out at hi
        by_cases hk : p.kind = 0 ∧ (p.around : Int) ≤ p.idx
        · rw [if_pos hk] at hi
          simp at hi
          unfold fits
          omega
        · rw [if_neg hk] at hi
          cases hi

set_option maxRecDepth 100000 in
set_option maxHeartbeats 1000000 in
theorem canShift_neg (t : Tm) (gy fr : Int) (ok : Nat → Prop) (sb sl : Value) (w : World) (hb : Holds w ok t.binds sb) (hh : HoldsT w ok t.args sl) (hfr : fr < 0) :
    Calls Try.prog 83 #[tmv sb t.kind t.idx sl, .int .i64 gy, .int .i64 fr] w fun e w' => e = .returned (.int .i64 1) ∧ Below w.heap.size w w' := by
  obtain ⟨x1, x2, rfl, _⟩ := hb.shape
  obtain ⟨x3, x4, rfl, _⟩ := hh.shape
  generalize t.binds.length = bn at *
  generalize t.args.length = an at *
  have zfr : decide (fr < 0) = true := decide_eq_true hfr
  obtain ⟨N, hN⟩ : ∃ N, w.heap.size = N := ⟨_, rfl⟩
  rw [hN]
  obtain ⟨W0, hW0⟩ : ∃ W0, (((w.alloc (.cells #[.slice x1 bn x2, .int .i64 t.kind, .int .i64 t.idx, .slice x3 an x4] 34)).alloc (.cells #[.int .i64 gy] 3)).alloc (.cells #[.int .i64 fr] 3)).alloc (.cells #[.int .i64 0] 64) = W0 := ⟨_, rfl⟩
  have b2 : Blk W0 (N + 1 + 1) 3 #[.int .i64 fr] := by rw [← hW0]; exact (Blk.new' _ (N + 1 + 1) 3 _ (by simp [hN])).alloc _
  have b3 : Blk W0 (N + 1 + 1 + 1) 64 #[.int .i64 0] := by rw [← hW0]; exact Blk.new' _ (N + 1 + 1 + 1) 64 _ (by simp [hN])
  have hbl : Below N w W0 := by rw [← hW0]; exact ((((Below.refl N w).alloc (by omega) _).alloc (by simp; omega) _).alloc (by simp; omega) _).alloc (by simp; omega) _
  have HW : Hid _ := hW0
  have c0 := b2.cell 0
  have c1 := b3.cell 0
  have f1 := b3.frozen 0
  have s3 := b3.set 0 (.int .i64 1)
  have sb : Below N w (W0.setCell ⟨N + 1 + 1 + 1, 0, none⟩ (.int .i64 1)) := bset hbl (by omega) _
  clear hW0
  go_enter Try.func83, Try.ntmps83
  go_upto_region 1 with fail
  rw [HW.out]
  clear HW
  go_wp2
  generalize W0.setCell ⟨N + 1 + 1 + 1, 0, none⟩ (.int .i64 1) = W3 at *
  have e1 : W3.cell? ⟨N + 1 + 1 + 1, 0, none⟩ = some (.int .i64 1) := s3.cell 0
  exact bodyPost_ret (v := .int .i64 1) (by simp [results, Try.results83, go_sem, e1]) rfl ⟨rfl, sb⟩
theorem canShift_calls (t : Tm) (gy fr : Int) (ok : Nat → Prop) (sb sl : Value) (w : World) (hb : Holds w ok t.binds sb) (hh : HoldsT w ok t.args sl) (hsz : t.total ≤ 900000) (hrg : t.rng) (hff : fits fr) (hgf : fits gy) :
    Calls Try.prog 83 #[tmv sb t.kind t.idx sl, .int .i64 gy, .int .i64 fr] w fun e w' => e = .returned (.int .i64 (shiftE gy fr t)) ∧ Below w.heap.size w w' := by
  unfold shiftE
  by_cases h : fr < 0
  · rw [if_pos h]
    exact canShift_neg t gy fr ok sb sl w hb hh h
  · rw [if_neg h]
    exact canShift_pos gy fr t ok sb sl w hb hh hsz hrg (by omega) hff hgf

/-- What Shift hands back beside its error. -/
def shiftT (gy fr : Int) (t : Tm) : Tm := if shiftE gy fr t = 0 then shT gy fr 0 t else .mk [] 0 0 []

set_option maxRecDepth 100000 in
set_option maxHeartbeats 1000000 in
theorem ShiftT_calls (t : Tm) (gy fr : Int) (ok : Nat → Prop) (sb sl : Value) (w : World) (hb : Holds w ok t.binds sb) (hh : HoldsT w ok t.args sl) (hsz : t.total ≤ 900000) (hrg : t.rng) (hff : fits fr) (hgf : fits gy) :
    Calls Try.prog 45 #[tmv sb t.kind t.idx sl, .int .i64 gy, .int .i64 fr] w fun e w' => ∃ vb vr, e = .returned (.tuple #[tmv vb (shiftT gy fr t).kind (shiftT gy fr t).idx vr, .int .i64 (shiftE gy fr t)]) ∧ Holds w' (fun b => w.heap.size ≤ b) (shiftT gy fr t).binds vb ∧ HoldsT w' (fun b => w.heap.size ≤ b) (shiftT gy fr t).args vr ∧ Below w.heap.size w w' := by
  have hR0 : Hid (shiftE gy fr t ≠ 0 → shiftT gy fr t = .mk [] 0 0 []) := fun h => by unfold shiftT; rw [if_neg h]
  have hR1 : Hid (shiftE gy fr t = 0 → shiftT gy fr t = shT gy fr 0 t) := fun h => by unfold shiftT; rw [if_pos h]
  have hgr : Hid (shiftE gy fr t = 0 → 0 ≤ fr ∧ ∀ p ∈ t.heads 1 0, grows gy fr p) := fun h => grows_of hrg (by omega) h
  obtain ⟨x1, x2, rfl, _⟩ := hb.shape
  obtain ⟨x3, x4, rfl, _⟩ := hh.shape
  obtain ⟨bn, hbn⟩ : ∃ n, t.binds.length = n := ⟨_, rfl⟩
  obtain ⟨an, han⟩ : ∃ n, t.args.length = n := ⟨_, rfl⟩
  rw [hbn] at hb ⊢
  rw [han] at hh ⊢
  obtain ⟨N, hN⟩ : ∃ N, w.heap.size = N := ⟨_, rfl⟩
  obtain ⟨W0, hW0⟩ : ∃ W0, (((w.alloc (.cells #[.slice x1 bn x2, .int .i64 t.kind, .int .i64 t.idx, .slice x3 an x4] 34)).alloc (.cells #[.int .i64 gy] 3)).alloc (.cells #[.int .i64 fr] 3)).alloc (.cells #[.slice none 0 0, .int .i64 0, .int .i64 0, .slice none 0 0] 34) = W0 := ⟨_, rfl⟩
  have b0 : Blk W0 N 34 #[.slice x1 bn x2, .int .i64 t.kind, .int .i64 t.idx, .slice x3 an x4] := by rw [← hW0]; exact (((Blk.new' _ N 34 _ hN).alloc _).alloc _).alloc _
  have b1 : Blk W0 (N + 1) 3 #[.int .i64 gy] := by rw [← hW0]; exact ((Blk.new' _ (N + 1) 3 _ (by simp [hN])).alloc _).alloc _
  have b2 : Blk W0 (N + 1 + 1) 3 #[.int .i64 fr] := by rw [← hW0]; exact (Blk.new' _ (N + 1 + 1) 3 _ (by simp [hN])).alloc _
  have b3 : Blk W0 (N + 1 + 1 + 1) 34 #[.slice none 0 0, .int .i64 0, .int .i64 0, .slice none 0 0] := by rw [← hW0]; exact Blk.new' _ (N + 1 + 1 + 1) 34 _ (by simp [hN])
  have hz0 : W0.heap.size = N + 4 := by rw [← hW0]; simp [hN]
  have hbl : Below N w W0 := by rw [← hW0]; exact ((((Below.refl N w).alloc (by omega) _).alloc (by simp; omega) _).alloc (by simp; omega) _).alloc (by simp; omega) _
  have hb0 := hb.bel (hN ▸ hbl)
  have hh0 := hh.bel (hN ▸ hbl)
  have hcall := canShift_calls t gy fr ok (.slice x1 t.binds.length x2) (.slice x3 t.args.length x4) W0 (by rw [hbn]; exact hb0) (by rw [han]; exact hh0) hsz hrg hff hgf
  rw [hbn, han] at hcall
  obtain ⟨E, hE⟩ : ∃ E, shiftE gy fr t = E := ⟨_, rfl⟩
  rw [hE] at hcall hR0 hR1 hgr
  have HE : Hid _ := hE
  have HW : Hid _ := hW0
  have c0 := b0.cell 0
  have c1 := b0.cell 1
  have c2 := b0.cell 2
  have c3 := b0.cell 3
  have d1 := b1.cell 0
  have d2 := b2.cell 0
  rw [hN]
  clear hW0 hE hb hh hrg hff hgf
  go_enter Try.func45, Try.ntmps45
  go_upto_region 1 with fail
  rw [HW.out]
  clear HW
  go_wp2_with fail
  refine hcall.mono ?_
  clear hcall
  rintro e w1 ⟨rfl, hb1⟩
  have a0 := b0.below hb1 b0.lt
  have a1 := b1.below hb1 b1.lt
  have a2 := b2.below hb1 b2.lt
  have a3 := b3.below hb1 b3.lt
  have hb1' := hb0.bel hb1
  have hh1' := hh0.bel hb1
  have hbl1 : Below N w w1 := hbl.trans (hb1.mono (by omega))
  have hs1 := hb1.size
  clear b0 b1 b2 b3 c0 c1 c2 c3 d1 d2 hb0 hh0 hb1 hbl
  by_cases h0 : E = 0
  · subst h0
    have hg := hgr.out rfl
    have HR := hR1.out rfl
    have HRR : Hid _ := HR
    have c0 := a0.cell 0
    have c1 := a0.cell 1
    have c2 := a0.cell 2
    have c3 := a0.cell 3
    have hcall := turnS_calls gy fr (N + 1 + 1) (N + 1) t 1 0 ok _ _ w1 (a2.cell 0) (a1.cell 0) hg.2 hb1' hh1' (by omega) (by omega)
    have hmf : ∀ (fn : Fn) (first cap : Array Value) (w : World), (Instr.makeFunc fn first cap).run Try.prog w = .ok (.func fn first cap) w := fun _ _ _ _ => rfl
    rw [show ((0 : Nat) : Int) = 0 from rfl] at hcall
    clear hR0 hR1 hgr hg HR a0 a1 a2 hb1' hh1'
    go_wp2_with fail
    refine hcall.mono ?_
    clear hcall
    rintro e w2 ⟨vb, vr, rfl, q1, q2, hb2⟩
    obtain ⟨y1, y2, rfl, _⟩ := q1.shape
    obtain ⟨y3, y4, rfl, _⟩ := q2.shape
    have hul : (t.args.map (shT gy fr (0 + t.binds.length))).length = an := by rw [List.length_map]; exact han
    rw [hul] at q2 ⊢
    rw [hbn] at q1 ⊢
    have HR2 : Hid ((shT gy fr 0 t).idx = shH gy fr t.kind t.idx (0 + t.binds.length)) := shT_idx _ _ _ _
    obtain ⟨ki, hki⟩ : ∃ x, shH gy fr t.kind t.idx (0 + t.binds.length) = x := ⟨_, rfl⟩
    rw [hbn] at hki
    rw [hki]
    have HKI : Hid _ := hki
    have m9 := a3.below hb2 a3.lt
    have e0 := m9.cell 0
    have e1 := m9.cell 1
    have e2 := m9.cell 2
    have e3 := m9.cell 3
    have f0 := m9.frozen 0
    have f1 := m9.frozen 1
    have f2 := m9.frozen 2
    have f3 := m9.frozen 3
    have hs2 := hb2.size
    have b9 := (((m9.set 0 (.slice y1 bn y2)).set 1 (.int .i64 t.kind)).set 2 (.int .i64 ki)).set 3 (.slice y3 an y4)
    have r1 := holds_set4 (g := N + 1 + 1 + 1) (ok' := fun b => N ≤ b) q1 (fun b _ h => ⟨by have := a3.lt; omega, by omega⟩) (.slice y1 bn y2) (.int .i64 t.kind) (.int .i64 ki) (.slice y3 an y4)
    have r2 := holdsT_z (g := N + 1 + 1 + 1) (ok' := fun b => N ≤ b) q2 (fun b _ h => ⟨by have := a3.lt; omega, by omega⟩) (.slice y1 bn y2) (.int .i64 t.kind) (.int .i64 ki) (.slice y3 an y4)
    have r3 : Below N w ((((w2.setCell ⟨N + 1 + 1 + 1, 0, none⟩ (.slice y1 bn y2)).setCell ⟨N + 1 + 1 + 1, 1, none⟩ (.int .i64 t.kind)).setCell ⟨N + 1 + 1 + 1, 2, none⟩ (.int .i64 ki)).setCell ⟨N + 1 + 1 + 1, 3, none⟩ (.slice y3 an y4)) := bset (bset (bset (bset (hbl1.trans (hb2.mono (by omega))) (by omega) _) (by omega) _) (by omega) _) (by omega) _
    clear q1 q2 m9 a3 hki hul
    go_wp2
    generalize (((w2.setCell ⟨N + 1 + 1 + 1, 0, none⟩ (.slice y1 bn y2)).setCell ⟨N + 1 + 1 + 1, 1, none⟩ (.int .i64 t.kind)).setCell ⟨N + 1 + 1 + 1, 2, none⟩ (.int .i64 ki)).setCell ⟨N + 1 + 1 + 1, 3, none⟩ (.slice y3 an y4) = W5 at *
    have g0 : W5.cell? ⟨N + 1 + 1 + 1, 0, none⟩ = some (.slice y1 bn y2) := b9.cell 0
    have g1 : W5.cell? ⟨N + 1 + 1 + 1, 1, none⟩ = some (.int .i64 t.kind) := b9.cell 1
    have g2 : W5.cell? ⟨N + 1 + 1 + 1, 2, none⟩ = some (.int .i64 ki) := b9.cell 2
    have g3 : W5.cell? ⟨N + 1 + 1 + 1, 3, none⟩ = some (.slice y3 an y4) := b9.cell 3
    refine bodyPost_ret (v := .tuple #[tmv (.slice y1 bn y2) t.kind ki (.slice y3 an y4), .int .i64 0]) (by simp [results, Try.results45, go_sem, g0, g1, g2, g3]) rfl ⟨.slice y1 bn y2, .slice y3 an y4, ?_, ?_, ?_, r3⟩
    · rw [HRR.out, HR2.out, shT_kind, HE.out, hbn, HKI.out]
    · rw [HRR.out, shT_binds]; exact r1
    · rw [HRR.out, shT_args]; exact r2
  · have z0 : (E != 0) = true := by simp [h0]
    have HR := hR0.out h0
    have HRR : Hid _ := HR
    have e0 := a3.cell 0
    have e1 := a3.cell 1
    have e2 := a3.cell 2
    have e3 := a3.cell 3
    have f0 := a3.frozen 0
    have f1 := a3.frozen 1
    have f2 := a3.frozen 2
    have f3 := a3.frozen 3
    have b9 := (((a3.set 0 (.slice none 0 0)).set 1 (.int .i64 0)).set 2 (.int .i64 0)).set 3 (.slice none 0 0)
    have r3 : Below N w ((((w1.setCell ⟨N + 1 + 1 + 1, 0, none⟩ (.slice none 0 0)).setCell ⟨N + 1 + 1 + 1, 1, none⟩ (.int .i64 0)).setCell ⟨N + 1 + 1 + 1, 2, none⟩ (.int .i64 0)).setCell ⟨N + 1 + 1 + 1, 3, none⟩ (.slice none 0 0)) := bset (bset (bset (bset hbl1 (by omega) _) (by omega) _) (by omega) _) (by omega) _
    clear hR0 hR1 hgr HR a0 a1 a2 a3 hb1' hh1' h0
    go_wp2
    generalize (((w1.setCell ⟨N + 1 + 1 + 1, 0, none⟩ (.slice none 0 0)).setCell ⟨N + 1 + 1 + 1, 1, none⟩ (.int .i64 0)).setCell ⟨N + 1 + 1 + 1, 2, none⟩ (.int .i64 0)).setCell ⟨N + 1 + 1 + 1, 3, none⟩ (.slice none 0 0) = W5 at *
    have g0 : W5.cell? ⟨N + 1 + 1 + 1, 0, none⟩ = some (.slice none 0 0) := b9.cell 0
    have g1 : W5.cell? ⟨N + 1 + 1 + 1, 1, none⟩ = some (.int .i64 0) := b9.cell 1
    have g2 : W5.cell? ⟨N + 1 + 1 + 1, 2, none⟩ = some (.int .i64 0) := b9.cell 2
    have g3 : W5.cell? ⟨N + 1 + 1 + 1, 3, none⟩ = some (.slice none 0 0) := b9.cell 3
    refine bodyPost_ret (v := .tuple #[tmv (.slice none 0 0) 0 0 (.slice none 0 0), .int .i64 E]) (by simp [results, Try.results45, go_sem, g0, g1, g2, g3]) rfl ⟨.slice none 0 0, .slice none 0 0, ?_, ?_, ?_, r3⟩
    · rw [HRR.out, HE.out]; rfl
    · rw [HRR.out]; exact Holds.nil _ _ _ _ (fun _ => rfl)
    · rw [HRR.out]; exact HoldsT.nil _ _ _ _ (fun _ => rfl)

end Go.Proofs.Ytheokboggjnenaa

/-
  Grown and grown back: a term is what it was.
-/
namespace Go.Proofs.Ytheokboggjnenaa

theorem shL_len (gy fr : Int) (b : Nat) (l : List Tm) : (l.map (shT gy fr b)).length = l.length := List.length_map _
theorem totalT_map (f : Tm → Tm) (l : List Tm) (h : ∀ t ∈ l, (f t).total = t.total) : totalT (l.map f) = totalT l := by
  induction l with
  | nil => rfl
  | cons t r ih => simp only [List.map_cons, totalT, h t (by simp), ih (fun u hu => h u (by simp [hu]))]
theorem shT_total (gy fr : Int) (t : Tm) : ∀ b, (shT gy fr b t).total = t.total := by
  induction t using Tm.ind with
  | h t ih =>
    intro b
    rw [Tm.total_eq, Tm.total_eq t, shT_binds, shT_args, totalT_map _ _ (fun u hu => ih u hu _)]
/-- What becomes of a head. -/
def shP (gy fr : Int) (p : Hd) : Hd := { p with idx := shH gy fr p.kind p.idx p.around }
theorem headsT_map (gy fr : Int) (d b : Nat) (l : List Tm) (h : ∀ t ∈ l, (shT gy fr b t).heads d b = (t.heads d b).map (shP gy fr)) : headsT d b (l.map (shT gy fr b)) = (headsT d b l).map (shP gy fr) := by
  induction l with
  | nil => rfl
  | cons t r ih => simp only [List.map_cons, headsT, h t (by simp), ih (fun u hu => h u (by simp [hu])), List.map_append]
theorem shT_heads (gy fr : Int) (t : Tm) : ∀ d b, (shT gy fr b t).heads d b = (t.heads d b).map (shP gy fr) := by
  induction t using Tm.ind with
  | h t ih =>
    intro d b
    rw [Tm.heads_eq, t.heads_eq, shT_binds, shT_kind, shT_idx, shT_args, headsT_map gy fr _ _ _ (fun u hu => ih u hu _ _)]
    rfl
theorem shT_rng (gy fr : Int) (t : Tm) : ∀ d b, t.rng → (∀ p ∈ t.heads d b, grows gy fr p) → (shT gy fr b t).rng := by
  induction t using Tm.ind with
  | h t ih =>
    intro d b hr hg
    rw [Tm.rng_eq] at hr ⊢
    have h1 := hg ⟨d, b + t.binds.length, t.kind, t.idx⟩ (by rw [t.heads_eq]; simp)
    refine ⟨⟨by rw [shT_kind]; exact hr.1.1, ?_⟩, ?_⟩
    · rw [shT_idx]
      unfold shH
      split
      · rename_i h
        exact h1.2 (t.idx - ((b + t.binds.length : Nat) : Int)) (by unfold Hd.out; rw [if_pos ⟨h.1, h.2.1⟩]) h.2.2
      · exact h1.1
    · rw [shT_args, rngT_iff]
      intro u hu
      obtain ⟨v, hv, rfl⟩ := List.mem_map.1 hu
      exact ih v hv (d + 1) _ ((rngT_iff _).1 hr.2 v hv) (grows_arg hg hv)
theorem shH_back (gy fr k i : Int) (b : Nat) (h : 0 ≤ gy) : shH (-gy) fr k (shH gy fr k i b) b = i := by
  unfold shH
  by_cases h1 : k = 0 ∧ (b : Int) ≤ i ∧ fr ≤ i - b
  · rw [if_pos h1, if_pos ⟨h1.1, by omega, by omega⟩]
    omega
  · rw [if_neg h1, if_neg h1]
theorem shT_back (gy fr : Int) (h : 0 ≤ gy) (t : Tm) : ∀ b, shT (-gy) fr b (shT gy fr b t) = t := by
  induction t using Tm.ind with
  | h t ih =>
    intro b
    rw [(shT (-gy) fr b (shT gy fr b t)).eta, shT_binds, shT_kind, shT_idx, shT_args, shT_binds, shT_kind, shT_idx, shT_args, shH_back gy fr _ _ _ h, List.map_map]
    conv => rhs; rw [t.eta]
    congr 1
    refine (List.map_congr_left (g := id) fun u hu => ih u hu _).trans (List.map_id _)
/-- Where a term may grow, and all that is loose in it lies below the limit, it may be grown back. -/
theorem shift_back (gy fr : Int) (t : Tm) (h : 0 ≤ gy) (h0 : shiftE gy fr t = 0) (hl : looseI t ≤ 1000) : shiftE (-gy) fr (shT gy fr 0 t) = 0 := by
  have hlo : ∀ p ∈ t.heads 1 0, p.lo ≤ 1000 := by
    have : ∀ l : List Hd, lmax l ≤ 1000 → ∀ p ∈ l, p.lo ≤ 1000 := by
      intro l
      induction l with
      | nil => intro _ p hp; cases hp
      | cons q r ih =>
        intro hm p hp
        simp only [lmax] at hm
        rcases List.mem_cons.1 hp with rfl | hp
        · omega
        · exact ih (by omega) p hp
    exact this _ hl
  have hfr : ¬ fr < 0 := fun hf => by unfold shiftE at h0; rw [if_pos hf] at h0; omega
  unfold shiftE at h0 ⊢
  rw [if_neg hfr] at h0 ⊢
  rw [shT_heads]
  have key : ∀ p ∈ t.heads 1 0, ∀ i, (shP gy fr p).out = some i → fr ≤ i → fr + gy ≤ i ∧ i - gy ≤ 999 := by
    intro p hp i hi hfi
    have hlp := hlo p hp
    unfold Hd.lo at hlp
    unfold Hd.out at hi hlp
    by_cases hk : p.kind = 0 ∧ (p.around : Int) ≤ p.idx
    · rw [if_pos hk] at hlp
      simp only at hlp
      have e : (shP gy fr p).idx = shH gy fr p.kind p.idx p.around := rfl
      have e2 : (shP gy fr p).kind = p.kind := rfl
      have e3 : (shP gy fr p).around = p.around := rfl
      rw [e, e2, e3] at hi
      by_cases h2 : fr ≤ p.idx - p.around
      · have hs : shH gy fr p.kind p.idx p.around = p.idx + gy := by unfold shH; rw [if_pos ⟨hk.1, hk.2, h2⟩]
        rw [hs, if_pos ⟨hk.1, by omega⟩] at hi
        simp at hi
        omega
      · have hs : shH gy fr p.kind p.idx p.around = p.idx := by unfold shH; rw [if_neg (fun h => h2 h.2.2)]
        rw [hs, if_pos hk] at hi
        simp at hi
        omega
    · have e : (shP gy fr p).idx = shH gy fr p.kind p.idx p.around := rfl
      have e2 : (shP gy fr p).kind = p.kind := rfl
      have e3 : (shP gy fr p).around = p.around := rfl
      have hs : shH gy fr p.kind p.idx p.around = p.idx := by unfold shH; rw [if_neg (fun h => hk ⟨h.1, h.2.1⟩)]
      rw [e, e2, e3, hs, if_neg hk] at hi
      cases hi
  unfold errI
  have hb : badB (-gy) fr ((t.heads 1 0).map (shP gy fr)) = false := by
    unfold badB
    rw [List.any_eq_false]
    intro q hq
    obtain ⟨p, hp, rfl⟩ := List.mem_map.1 hq
    cases ho : (shP gy fr p).out with
    | none => simp
    | some i =>
      simp only [Bool.and_eq_true, decide_eq_true_eq, not_and]
      intro h1
      have := (key p hp i ho h1).1
      omega
  have hlg : longB (-gy) fr ((t.heads 1 0).map (shP gy fr)) = false := by
    unfold longB
    rw [List.any_eq_false]
    intro q hq
    obtain ⟨p, hp, rfl⟩ := List.mem_map.1 hq
    cases ho : (shP gy fr p).out with
    | none => simp
    | some i =>
      simp only [Bool.and_eq_true, decide_eq_true_eq, not_and]
      intro h1
      have := (key p hp i ho h1).2
      omega
  rw [hb, hlg]
  rfl

end Go.Proofs.Ytheokboggjnenaa

/-
  Several texts in one file: TyFr, OpenH, WellP, and how great long forms are.
-/
/-
  TypeOf once more: what it tells lies in new memory.
-/
namespace Go.Proofs.Ytheokboggjnenaa
open Go Go.RowKit Go.Sort

/-- What TypeOf tells: a type that lies in blocks from M on, or that there is none. -/
def ToldF (M : Nat) (o : Option Ty) (w' : World) (e : Ending) : Prop :=
  (o = none ∧ e = .returned (.tuple #[tv (.slice none 0 0) 0, .int .i64 10])) ∨ ∃ h a n c, o = some h ∧ Holds w' (fun b => M ≤ b) h.args (.slice a n c) ∧ e = .returned (.tuple #[tv (.slice a n c) h.base, .int .i64 0])
theorem toldF_uni {M : Nat} {o : Option Ty} {w : World} {e : Ending} (h : ToldF M o w e) : ∃ a n c, Holds w (fun b => M ≤ b) (o.getD (.mk [] 0)).args (.slice a n c) ∧ e = .returned (.tuple #[tv (.slice a n c) (o.getD (.mk [] 0)).base, .int .i64 (if o.isSome then 0 else 10)]) := by
  rcases h with ⟨rfl, rfl⟩ | ⟨h, a, n, c, rfl, hh, rfl⟩
  · exact ⟨none, 0, 0, Holds.nil _ _ _ _ (fun _ => rfl), rfl⟩
  · exact ⟨a, n, c, hh, rfl⟩

set_option maxRecDepth 100000 in
set_option maxHeartbeats 1600000 in
theorem TypeOf_fresh (cs ms ctx : List Ty) (t : Tm) (bs : Int) (cv mv xv sb sr : Value) (w : World) (hc : Holds w okT cs cv) (hm : Holds w okT ms mv) (hx : Holds w okT ctx xv) (hb : Holds w okT t.binds sb) (hr : HoldsT w okT t.args sr) (hlx : ctx.length + t.binds.length ≤ 1000000) (hi : t.idx ≤ 9223372036854775807) (sb' : sizeL t.binds ≤ 1000000) :
    Calls Try.prog 36 #[wov bs cv mv, xv, tmv sb t.kind t.idx sr] w fun e w' => ToldF w.heap.size (t.typeOf cs ms ctx) w' e ∧ Below w.heap.size w w' := by
  obtain ⟨c1, c2, rfl, _⟩ := hc.shape
  obtain ⟨m1, m2, rfl, _⟩ := hm.shape
  obtain ⟨a1, a2, rfl, _⟩ := hx.shape
  obtain ⟨x1, x2, rfl, _⟩ := hb.shape
  obtain ⟨x3, x4, rfl, _⟩ := hr.shape
  obtain ⟨N, hN⟩ : ∃ N, w.heap.size = N := ⟨_, rfl⟩
  rw [hN]
  have k53 := fun cur (h : Below N w cur) G (hG : Blk cur G 30 #[.slice a1 ctx.length a2, .slice x1 t.binds.length x2]) => Concat_calls okT [(.slice a1 ctx.length a2, ctx), (.slice x1 t.binds.length x2, t.binds)] G cur (fun i p hp => by
    match i, hp with
    | 0, hp => cases hp; exact ⟨hG.cell 0, hx.bel (hN ▸ h)⟩
    | 1, hp => cases hp; exact ⟨hG.cell 1, hb.bel (hN ▸ h)⟩
    | i + 2, hp => simp at hp) (by simp) (by simp [flat]; omega)
  have k35 := fun cur (h : Below N w cur) v (hv : Holds cur okT (ctx ++ t.binds) v) => find_head bs t.kind t.idx okT cs ms (ctx ++ t.binds) _ _ v cur (hc.bel (hN ▸ h)) (hm.bel (hN ▸ h)) hv (by rw [List.length_append]; exact hlx) hi
  have HT : Hid (t.typeOf cs ms ctx = (pickA cs ms (ctx ++ t.binds) t.kind t.idx).map fun h => .mk t.binds h.base) := rfl
  obtain ⟨ro, hro⟩ : ∃ o, t.typeOf cs ms ctx = o := ⟨_, rfl⟩
  rw [hro] at HT ⊢
  obtain ⟨o, ho⟩ : ∃ o, pickA cs ms (ctx ++ t.binds) t.kind t.idx = o := ⟨_, rfl⟩
  rw [ho] at HT
  simp only [ho] at k35
  clear hm hc hx hr hro ho
  generalize cs.length = cn at *
  generalize ms.length = mn at *
  generalize ctx.length = xn at *
  obtain ⟨bn, hbn⟩ : ∃ n, t.binds.length = n := ⟨_, rfl⟩
  rw [hbn] at k53 hb hlx ⊢
  generalize t.args.length = an at *
  obtain ⟨W0, hW0⟩ : ∃ W0, ((w.alloc (.cells #[.int .i64 bs, .slice c1 cn c2, .slice m1 mn m2] 59)).alloc (.cells #[.slice x1 bn x2, .int .i64 t.kind, .int .i64 t.idx, .slice x3 an x4] 34)).alloc (.cells #[.slice none 0 0, .int .i64 0] 63) = W0 := ⟨_, rfl⟩
  have b0 : Blk W0 N 59 #[.int .i64 bs, .slice c1 cn c2, .slice m1 mn m2] := by rw [← hW0]; exact ((Blk.new' w N 59 _ hN).alloc _).alloc _
  have b1 : Blk W0 (N + 1) 34 #[.slice x1 bn x2, .int .i64 t.kind, .int .i64 t.idx, .slice x3 an x4] := by rw [← hW0]; exact (Blk.new' _ (N + 1) 34 _ (by simp [hN])).alloc _
  have b2 : Blk W0 (N + 1 + 1) 63 #[.slice none 0 0, .int .i64 0] := by rw [← hW0]; exact Blk.new' _ (N + 1 + 1) 63 _ (by simp [hN])
  have bl0 : Below N w W0 := by rw [← hW0]; exact (((Below.refl N w).alloc (by omega) _).alloc (by simp; omega) _).alloc (by simp; omega) _
  have HW : Hid _ := hW0
  have hl0 : N + 1 + 1 < W0.heap.size := b2.lt
  clear hW0
  go_enter Try.func36, Try.ntmps36
  go_upto_region 1 with fail
  rw [HW.out]
  clear HW
  go_cut [8, 9] (fun s8 s9 wx => ∃ (Y : Nat) (a' : Option Addr) (n' c' : Nat) (b' : Int) (o' : Bool), s8 = .pointer (some ⟨Y, 0, none⟩) ∧ s9 = .bool o' ∧ W0.heap.size ≤ Y ∧ Blk wx Y 63 #[.slice a' n' c', .int .i64 b'] ∧ ((o = none ∧ o' = false) ∨ ∃ h : Ty, o = some h ∧ b' = h.base ∧ o' = true) ∧ Below W0.heap.size W0 wx)
  case first =>
    have c0 := b0.cell 0
    have c3 := b0.cell 1
    have c4 := b0.cell 2
    have d0 := b1.cell 0
    have d1 := b1.cell 1
    have d2 := b1.cell 2
    have hK : ∀ v, Cur W0 v → v.cell? ⟨N, 0, none⟩ = some (.int .i64 bs) ∧ v.cell? ⟨N, 1, none⟩ = some (.slice c1 cn c2) ∧ v.cell? ⟨N, 2, none⟩ = some (.slice m1 mn m2) ∧ v.cell? ⟨N + 1, 0, none⟩ = some (.slice x1 bn x2) ∧ v.cell? ⟨N + 1, 1, none⟩ = some (.int .i64 t.kind) ∧ v.cell? ⟨N + 1, 2, none⟩ = some (.int .i64 t.idx) := fun v hv => ⟨hv.cell c0, hv.cell c3, hv.cell c4, hv.cell d0, hv.cell d1, hv.cell d2⟩
    have l53 : ∀ cur, Cur W0 cur → ∀ G, Blk cur G 30 #[.slice a1 xn a2, .slice x1 bn x2] → Calls Try.prog 75 #[.slice (some ⟨G, 0, none⟩) 2 2] cur fun e w' => ∃ va vn vc, e = .returned (.slice va vn vc) ∧ Holds w' okT (ctx ++ t.binds) (.slice va vn vc) ∧ Below cur.heap.size cur w' ∧ Cur W0 w' := fun cur hcur G hG =>
      (k53 cur (bl0.trans (hcur.mono (by omega))) G hG).mono fun e w' ⟨v, ps, h1, h2, h3, h4, h5⟩ => by
        obtain ⟨va, vc, rfl⟩ := row_shape h2
        have h6 := Mk.ofRow h2 (fun p hp => (h4 p hp).bel h5)
        rw [h3] at h6
        simp only [flat, List.append_nil] at h6
        exact ⟨va, _, vc, h1, h6.t, h5, hcur.then h5⟩
    have l35 : ∀ cur, Cur W0 cur → ∀ va vn vc, Holds cur okT (ctx ++ t.binds) (.slice va vn vc) → Calls Try.prog 73 #[wov bs (.slice c1 cn c2) (.slice m1 mn m2), .slice va vn vc, hv t.kind t.idx] cur fun e w' => ∃ a n c b o', e = .returned (.tuple #[tv (.slice a n c) b, .bool o']) ∧ ((o = none ∧ o' = false) ∨ ∃ h : Ty, o = some h ∧ b = h.base ∧ o' = true) ∧ Below cur.heap.size cur w' ∧ Cur W0 w' := fun cur hcur va vn vc hv =>
      (k35 cur (bl0.trans (hcur.mono (by omega))) _ hv).mono fun e w' ⟨hf, h3⟩ => by
        rcases hf with ⟨h1, h2⟩ | ⟨hh, a', n', c', h1, h2, h4⟩
        · exact ⟨none, 0, 0, 0, false, h2, .inl ⟨h1, rfl⟩, h3, hcur.then h3⟩
        · exact ⟨a', n', c', hh.base, true, h4, .inr ⟨hh, h1, rfl, rfl⟩, h3, hcur.then h3⟩
    have hZ : Blk (W0.alloc (.cells #[.slice none 0 0, .int .i64 0] 63)).drew W0.heap.size 63 #[.slice none 0 0, .int .i64 0] := Blk.new W0 63 _
    have hZ1 : Blk ((W0.alloc (.cells #[.slice a1 xn a2, .slice x1 bn x2] 30)).alloc (.cells #[.slice none 0 0, .int .i64 0] 63)).drew (W0.heap.size + 1) 63 #[.slice none 0 0, .int .i64 0] := Blk.new' (W0.alloc (.cells #[.slice a1 xn a2, .slice x1 bn x2] 30)) _ 63 _ (by simp)
    have hZ2 : Blk ((W0.alloc (.cells #[.slice none 0 0, .int .i64 0] 63)).alloc (.cells #[.slice a1 xn a2, .slice x1 bn x2] 30)).drew W0.heap.size 63 #[.slice none 0 0, .int .i64 0] := (Blk.new W0 63 _).alloc _
    have hzz : W0.heap.size ≤ W0.heap.size := Nat.le_refl _
    have hzy := hzz
    have hzw : W0.heap.size ≤ W0.heap.size + 1 := Nat.le_succ _
    have hcur := Cur.refl W0
    clear c0 c3 c4 d0 d1 d2 k53 k35 hb
    go_region_held3 (fun v => v.cell? ⟨N, 0, none⟩ = some (.int .i64 bs) ∧ v.cell? ⟨N, 1, none⟩ = some (.slice c1 cn c2) ∧ v.cell? ⟨N, 2, none⟩ = some (.slice m1 mn m2) ∧ v.cell? ⟨N + 1, 0, none⟩ = some (.slice x1 bn x2) ∧ v.cell? ⟨N + 1, 1, none⟩ = some (.int .i64 t.kind) ∧ v.cell? ⟨N + 1, 2, none⟩ = some (.int .i64 t.idx))
      (first | with_reducible exact hK _ (by first | with_reducible assumption | (with_reducible refine Cur.drew ?_; assumption) | (with_reducible refine Cur.alloc ?_ _; assumption) | (with_reducible refine Cur.drew (Cur.alloc ?_ _); assumption) | (with_reducible refine Cur.alloc (Cur.drew ?_) _; assumption) | (with_reducible refine Cur.alloc (Cur.alloc ?_ _) _; assumption) | (with_reducible refine Cur.alloc (Cur.alloc (Cur.drew ?_) _) _; assumption) | (with_reducible refine Cur.alloc (Cur.drew (Cur.alloc ?_ _)) _; assumption) | (with_reducible refine Cur.drew (Cur.alloc (Cur.alloc ?_ _) _); assumption) | (with_reducible refine Cur.set (Cur.set ?_ hzz _ _) hzz _ _; assumption) | (with_reducible refine Cur.set (Cur.set ?_ hzw _ _) hzw _ _; assumption) | (with_reducible refine Cur.set (Cur.set ?_ hzy _ _) hzy _ _; assumption)))
      (first
        | (go_at_call 75; refine (l53 _ (by first | with_reducible assumption | (with_reducible refine Cur.drew ?_; assumption) | (with_reducible refine Cur.alloc ?_ _; assumption) | (with_reducible refine Cur.drew (Cur.alloc ?_ _); assumption) | (with_reducible refine Cur.alloc (Cur.drew ?_) _; assumption) | (with_reducible refine Cur.alloc (Cur.alloc ?_ _) _; assumption) | (with_reducible refine Cur.alloc (Cur.alloc (Cur.drew ?_) _) _; assumption) | (with_reducible refine Cur.alloc (Cur.drew (Cur.alloc ?_ _)) _; assumption) | (with_reducible refine Cur.drew (Cur.alloc (Cur.alloc ?_ _) _); assumption) | (with_reducible refine Cur.set (Cur.set ?_ hzz _ _) hzz _ _; assumption) | (with_reducible refine Cur.set (Cur.set ?_ hzw _ _) hzw _ _; assumption) | (with_reducible refine Cur.set (Cur.set ?_ hzy _ _) hzy _ _; assumption)) _ (by first | exact Blk.new _ _ _ | exact (Blk.new _ _ _).alloc _ | exact Blk.new' _ _ _ _ (by simp) | exact (Blk.new' _ _ _ _ (by simp)).alloc _)).mono ?_; rintro e y1 ⟨va, vn, vc, rfl, hv1, hb1, hc1⟩; have hzy : W0.heap.size ≤ y1.heap.size := Below.size hc1; have hY := Blk.new y1 63 #[.slice none 0 0, .int .i64 0]; try (first | (with_reducible have bA := hZ1.below hb1 hZ1.lt) | (with_reducible have bA := hZ2.below hb1 hZ2.lt)))
        | (go_at_call 73; refine (l35 _ (by first | with_reducible assumption | (with_reducible refine Cur.drew ?_; assumption) | (with_reducible refine Cur.alloc ?_ _; assumption) | (with_reducible refine Cur.drew (Cur.alloc ?_ _); assumption) | (with_reducible refine Cur.alloc (Cur.drew ?_) _; assumption) | (with_reducible refine Cur.alloc (Cur.alloc ?_ _) _; assumption) | (with_reducible refine Cur.alloc (Cur.alloc (Cur.drew ?_) _) _; assumption) | (with_reducible refine Cur.alloc (Cur.drew (Cur.alloc ?_ _)) _; assumption) | (with_reducible refine Cur.drew (Cur.alloc (Cur.alloc ?_ _) _); assumption) | (with_reducible refine Cur.set (Cur.set ?_ hzz _ _) hzz _ _; assumption) | (with_reducible refine Cur.set (Cur.set ?_ hzw _ _) hzw _ _; assumption) | (with_reducible refine Cur.set (Cur.set ?_ hzy _ _) hzy _ _; assumption)) _ _ _ (by first | with_reducible exact hv1 | with_reducible exact hv1.alloc _)).mono ?_; rintro e y2 ⟨fa, fn', fc, fb, fo, rfl, hfo, hb2, hc2⟩; try (first | (with_reducible have bR := bA.below hb2 bA.lt) | (with_reducible have bR := hY.below hb2 hY.lt)); try (have r0 := bR.cell 0; have r1 := bR.cell 1; have g0 := bR.frozen 0; have g1 := bR.frozen 1)))
    · have hs5 := Below.size hc2
      go_wp2_with fail
      go_meet
      exact ⟨y2.heap.size, fa, fn', fc, fb, fo, rfl, rfl, hs5, Blk.new y2 63 _, hfo, hc2.alloc _⟩
    · go_wp2_with fail
      go_meet
      exact ⟨y1.heap.size, fa, fn', fc, fb, fo, rfl, rfl, hzy, (bR.set 0 _).set 1 _, hfo, (hc2.set hzy 0 _).set hzy 1 _⟩
    · go_wp2_with fail
      go_meet
      exact ⟨W0.heap.size + 1, fa, fn', fc, fb, fo, rfl, rfl, hzw, (bR.set 0 _).set 1 _, hfo, (hc2.set hzw 0 _).set hzw 1 _⟩
    · go_wp2_with fail
      go_meet
      exact ⟨W0.heap.size, fa, fn', fc, fb, fo, rfl, rfl, hzz, (bR.set 0 _).set 1 _, hfo, (hc2.set hzz 0 _).set hzz 1 _⟩
  case rest =>
  obtain ⟨Y, ya, yn, yc, yb, yo, rfl, rfl, hYw, bY, hfo, hbc⟩ := hcut
  have hBc : Below N w wc := bl0.trans (hbc.mono (by omega))
  have f1 := b1.below hbc b1.lt
  have f2 := b2.below hbc b2.lt
  have d0 := f1.cell 0
  have d1 := bY.cell 1
  have r0 := f2.cell 0
  have r1 := f2.cell 1
  have g0 := f2.frozen 0
  have g1 := f2.frozen 1
  have hbc3 := hb.bel (hN ▸ hBc)
  clear k53 k35 b0 b1 b2 bl0
  rcases hfo with ⟨rfl, rfl⟩ | ⟨h, rfl, rfl, rfl⟩
  · have b9 := (f2.set 0 (.slice none 0 0)).set 1 (.int .i64 0)
    have hB9 : Below N w ((wc.setCell ⟨N + 1 + 1, 0, none⟩ (.slice none 0 0)).setCell ⟨N + 1 + 1, 1, none⟩ (.int .i64 0)) := bset (bset hBc (by omega) _) (by omega) _
    go_wp2
    generalize (wc.setCell ⟨N + 1 + 1, 0, none⟩ (.slice none 0 0)).setCell ⟨N + 1 + 1, 1, none⟩ (.int .i64 0) = W5 at *
    have d0 : W5.cell? ⟨N + 1 + 1, 0, none⟩ = some (.slice none 0 0) := b9.cell 0
    have d1 : W5.cell? ⟨N + 1 + 1, 1, none⟩ = some (.int .i64 0) := b9.cell 1
    exact bodyPost_ret (v := .tuple #[tv (.slice none 0 0) 0, .int .i64 10]) (by simp [results, Try.results36, go_sem, d0, d1]) rfl ⟨.inl ⟨HT.out, rfl⟩, hB9⟩
  · have k2 := kOf_calls h.base t.binds okT _ wc hbc3 sb'
    have hl2 : N + 1 + 1 < wc.heap.size := f2.lt
    clear r0 r1 g0 g1
    go_wp2_with (go_at_call 55; refine k2.mono ?_; rintro e w3 ⟨v3, rfl, hv3, hb3⟩; obtain ⟨va, vc, rfl, _⟩ := hv3.shape; rw [hbn] at hv3; have n2 := f2.below hb3 f2.lt; have r0 := n2.cell 0; have r1 := n2.cell 1; have g0 := n2.frozen 0; have g1 := n2.frozen 1)
    have hB3 : Below N w w3 := hBc.trans (hb3.mono (by omega))
    have b9 := (n2.set 0 (.slice va bn vc)).set 1 (.int .i64 h.base)
    have hB9 : Below N w ((w3.setCell ⟨N + 1 + 1, 0, none⟩ (.slice va bn vc)).setCell ⟨N + 1 + 1, 1, none⟩ (.int .i64 h.base)) := bset (bset hB3 (by omega) _) (by omega) _
    have hH9 : Holds ((w3.setCell ⟨N + 1 + 1, 0, none⟩ (.slice va bn vc)).setCell ⟨N + 1 + 1, 1, none⟩ (.int .i64 h.base)) (fun b => N ≤ b) t.binds (.slice va bn vc) := holds_set2 hv3 (fun b _ ho => ⟨by omega, by omega⟩) _ _ _ _
    clear r0 r1 g0 g1 d0 d1
    generalize (w3.setCell ⟨N + 1 + 1, 0, none⟩ (.slice va bn vc)).setCell ⟨N + 1 + 1, 1, none⟩ (.int .i64 h.base) = W5 at *
    have d0 : W5.cell? ⟨N + 1 + 1, 0, none⟩ = some (.slice va bn vc) := b9.cell 0
    have d1 : W5.cell? ⟨N + 1 + 1, 1, none⟩ = some (.int .i64 h.base) := b9.cell 1
    exact bodyPost_ret (v := .tuple #[tv (.slice va bn vc) h.base, .int .i64 0]) (by simp [results, Try.results36, go_sem, d0, d1]) rfl ⟨.inr ⟨.mk t.binds h.base, va, bn, vc, HT.out, hH9, rfl⟩, hB9⟩

end Go.Proofs.Ytheokboggjnenaa

/-
  A head that came in: both its numbers fit an int.
-/
namespace Go.Proofs.Ytheokboggjnenaa
open Go Go.ChangeShapes Go.WideShapes Go.ChangeAt Go.RowKit Go.Joins

set_option maxRecDepth 100000 in
theorem head_openR {H : Type} {enc : TypeId × Value → H} {W : World} {base : Nat} {v : Value} {d : DataW H} {p : List MemPlace} (hv' : Value.okWide Try.prog W .any base 24 v) (h : DataW.Trod enc Try.prog W 0 (fun _ => true) true 24 v d p) :
    ∃ k i : Int, v = hv k i ∧ fits k ∧ fits i := by
  obtain ⟨cs, rfl, hcs⟩ := okWide_struct Try.underlying24 hv'
  rw [cells24] at hcs
  obtain ⟨v0, v1, rfl⟩ : ∃ v0 v1, cs = #[v0, v1] := ⟨cs[0], cs[1], by
    apply Array.ext
    · exact hcs
    · intro i h1 h2
      match i, h2 with
      | 0, _ => rfl
      | 1, _ => rfl⟩
  obtain ⟨m, hm⟩ := h
  change DataW.trod enc Try.prog W 0 (fun _ => true) true m 24 [v0, v1] = _ at hm
  obtain ⟨k, i, rfl, rfl, h1, h2⟩ := head_trodR hm
  exact ⟨k, i, rfl, h1, h2⟩

end Go.Proofs.Ytheokboggjnenaa

/-
  What is well typed stays so: long forms of heads, and terms with more binders around them: plain.
-/
namespace Go.Proofs.Ytheokboggjnenaa
open Go

theorem is_parts {cs ms ctx : List Ty} {t : Tm} {ty : Ty} (h : t.is cs ms ctx ty = true) : t.binds = ty.args ∧ ∃ y, pickA cs ms (ctx ++ t.binds) t.kind t.idx = some y ∧ y.base = ty.base ∧ y.args.length = t.args.length ∧ isL cs ms (ctx ++ t.binds) t.args y.args = true := by
  rw [t.is_eq, Bool.and_eq_true] at h
  refine ⟨(sameL_iff' _ _).1 h.1, ?_⟩
  have h2 := h.2
  cases hp : pickA cs ms (ctx ++ t.binds) t.kind t.idx with
  | none => rw [hp] at h2; cases h2
  | some y =>
    rw [hp] at h2
    simp only [Bool.and_eq_true, beq_iff_eq] at h2
    exact ⟨y, rfl, h2.1, h2.2.1, h2.2.2⟩
theorem is_of {cs ms ctx : List Ty} {t : Tm} {ty y : Ty} (h1 : t.binds = ty.args) (h2 : pickA cs ms (ctx ++ t.binds) t.kind t.idx = some y) (h3 : y.base = ty.base) (h4 : y.args.length = t.args.length) (h5 : isL cs ms (ctx ++ t.binds) t.args y.args = true) : t.is cs ms ctx ty = true := by
  rw [t.is_eq, h2, (sameL_iff' _ _).2 h1]
  simp [h3, h4, h5]
theorem isL_get {cs ms ctx : List Ty} {ts : List Tm} {ys : List Ty} (h : isL cs ms ctx ts ys = true) (j : Nat) {u : Tm} {y : Ty} (hu : ts[j]? = some u) (hy : ys[j]? = some y) : u.is cs ms ctx y = true := by
  induction ts generalizing ys j with
  | nil => simp at hu
  | cons a ts ih => cases ys with
    | nil => simp at hy
    | cons b ys =>
      rw [isL_cons, Bool.and_eq_true] at h
      cases j with
      | zero => simp at hu hy; subst hu; subst hy; exact h.1
      | succ j => exact ih h.2 j (by simpa using hu) (by simpa using hy)

/-- A head's type is found again with more types within the context. -/
theorem pick_shift {cs ms c0 m inn : List Ty} {k i : Int} {h : Ty} (hp : pickA cs ms (c0 ++ inn) k i = some h) : pickA cs ms (c0 ++ m ++ inn) k (shH m.length 0 k i inn.length) = some h := by
  unfold pickA at hp
  by_cases h0 : i < 0
  · rw [if_pos h0] at hp; cases hp
  rw [if_neg h0] at hp
  by_cases hk : k = 0
  · subst hk
    rw [if_pos rfl] at hp
    obtain ⟨j, rfl⟩ : ∃ j : Nat, i = (j : Int) := ⟨i.toNat, by omega⟩
    rw [Int.toNat_natCast] at hp
    by_cases hl : j < (c0 ++ inn).length
    · rw [if_pos hl] at hp
      rw [List.length_append] at hl hp
      by_cases hn : inn.length ≤ j
      · have e : shH m.length 0 0 (j : Int) inn.length = ((j + m.length : Nat) : Int) := by unfold shH; rw [if_pos ⟨rfl, by omega, by omega⟩]; omega
        rw [e]
        unfold pickA
        rw [if_neg (by omega), if_pos rfl, Int.toNat_natCast, if_pos (by simp; omega)]
        rw [show (c0 ++ m ++ inn).length - 1 - (j + m.length) = c0.length + inn.length - 1 - j by simp; omega]
        rw [List.append_assoc, List.getElem?_append_left (by omega), ← hp, List.getElem?_append_left (by omega)]
      · have e : shH m.length 0 0 (j : Int) inn.length = (j : Int) := by unfold shH; rw [if_neg (by omega)]
        rw [e]
        unfold pickA
        rw [if_neg (by omega), if_pos rfl, Int.toNat_natCast, if_pos (by simp; omega)]
        rw [List.getElem?_append_right (by simp; omega), ← hp, List.getElem?_append_right (by omega)]
        congr 1
        simp only [List.length_append]
        omega
    · rw [if_neg hl] at hp; cases hp
  · have e : shH m.length 0 k i inn.length = i := by unfold shH; rw [if_neg (fun h => hk h.1)]
    rw [e]
    unfold pickA
    rw [if_neg h0, if_neg hk]
    rw [if_neg hk] at hp
    exact hp
theorem pick_ins {cs ms ctx l : List Ty} {k i : Int} {h : Ty} (hp : pickA cs ms ctx k i = some h) : pickA cs ms (ctx ++ l) k (insI k i l.length) = some h := by
  have h1 := pick_shift (c0 := ctx) (m := l) (inn := []) (by rwa [List.append_nil])
  rw [List.append_nil] at h1
  rw [← h1]
  congr 1
  unfold insI shH
  by_cases hk : k = 0
  · subst hk
    by_cases h0 : i < 0
    · unfold pickA at hp; rw [if_pos h0] at hp; cases hp
    · rw [if_pos rfl, if_pos ⟨rfl, by simp; omega, by simp; omega⟩]
  · rw [if_neg hk, if_neg (fun h => hk h.1)]
theorem pick_own {cs ms ctx l : List Ty} {j : Nat} {t : Ty} (hj : l[j]? = some t) : pickA cs ms (ctx ++ l) 0 ((l.length : Int) - 1 - j) = some t := by
  have hl := (List.getElem?_eq_some_iff.1 hj).1
  unfold pickA
  rw [if_neg (by omega), if_pos rfl, show ((l.length : Int) - 1 - (j : Int)).toNat = l.length - 1 - j by omega, if_pos (by simp; omega)]
  rw [List.getElem?_append_right (by simp; omega), ← hj]
  congr 1
  simp only [List.length_append]
  omega

/-- The long form of a head is of the head's type. -/
theorem eta_is (cs ms : List Ty) (h : Ty) : ∀ (ctx : List Ty) (k i : Int), pickA cs ms ctx k i = some h → (etaK k i h.args).is cs ms ctx h = true := by
  induction h using Ty.ind with
  | h h ih =>
    intro ctx k i hp
    refine is_of (y := h) (etaK_binds _ _ _) ?_ rfl (by rw [etaK_args, etaL_length]) ?_
    · rw [etaK_binds, etaK_kind, etaK_idx]; exact pick_ins hp
    · rw [etaK_binds, etaK_args]
      refine isL_of_up fun j u y hu hy => ?_
      rw [etaL_get h.args j y hy] at hu
      cases hu
      exact ih y (List.mem_of_getElem? hy) _ _ _ (pick_own hy)
theorem eta_right {h : Ty} (hz : h.size ≤ 60) (k i : Int) : rightTB (etaK k i h.args) = true := by
  have h1 := etaK_size k i h.args
  have h2 := h.size_eq
  have h3 := (etaK k i h.args).depth_le_size
  unfold rightTB
  rw [Bool.and_eq_true, decide_eq_true_eq, decide_eq_true_eq]
  omega

/-- More binders around a term that is typed. -/
theorem shift_is (cs ms m : List Ty) (t : Tm) : ∀ (c0 inn : List Ty) (ty : Ty), t.is cs ms (c0 ++ inn) ty = true → (shT m.length 0 inn.length t).is cs ms (c0 ++ m ++ inn) ty = true := by
  induction t using Tm.ind with
  | h t ih =>
    intro c0 inn ty h
    obtain ⟨h1, y, h2, h3, h4, h5⟩ := is_parts h
    rw [List.append_assoc] at h2 h5
    have e : inn.length + t.binds.length = (inn ++ t.binds).length := by simp
    refine is_of (y := y) (by rw [shT_binds]; exact h1) ?_ h3 (by rw [shT_args, List.length_map]; exact h4) ?_
    · rw [shT_binds, shT_kind, shT_idx, e, List.append_assoc]
      exact pick_shift h2
    · rw [shT_binds, shT_args, e, List.append_assoc]
      refine isL_of_up fun j u z hu hz => ?_
      rw [List.getElem?_map] at hu
      obtain ⟨v, hv, rfl⟩ := Option.map_eq_some_iff.1 hu
      exact ih v (List.mem_of_getElem? hv) c0 (inn ++ t.binds) z (isL_get h5 j hv hz)

/-- What points beyond a typed term points into its context. -/
theorem outs_in (cs ms : List Ty) (t : Tm) : ∀ (c0 inn : List Ty) (ty : Ty) (d : Nat), t.is cs ms (c0 ++ inn) ty = true → ∀ p ∈ t.heads d inn.length, ∀ i, p.out = some i → 0 ≤ i ∧ i < c0.length := by
  induction t using Tm.ind with
  | h t ih =>
    intro c0 inn ty d h p hp i hi
    obtain ⟨h1, y, h2, h3, h4, h5⟩ := is_parts h
    rw [List.append_assoc] at h2 h5
    have e : inn.length + t.binds.length = (inn ++ t.binds).length := by simp
    rw [t.heads_eq] at hp
    rcases List.mem_cons.1 hp with rfl | hp
    · unfold Hd.out at hi
      by_cases hk : t.kind = 0 ∧ ((inn.length + t.binds.length : Nat) : Int) ≤ t.idx
      · rw [if_pos hk] at hi
        cases hi
        rw [hk.1] at h2
        unfold pickA at h2
        rw [if_neg (by omega), if_pos rfl] at h2
        by_cases hl : t.idx.toNat < (c0 ++ (inn ++ t.binds)).length
        · simp only [List.length_append] at hl
          have hk2 := hk.2
          show 0 ≤ t.idx - ((inn.length + t.binds.length : Nat) : Int) ∧ t.idx - ((inn.length + t.binds.length : Nat) : Int) < (c0.length : Int)
          omega
        · rw [if_neg hl] at h2; cases h2
      · rw [if_neg hk] at hi; cases hi
    · rw [e] at hp
      have hm : ∀ l : List Tm, p ∈ headsT (d + 1) (inn ++ t.binds).length l → ∃ u ∈ l, p ∈ u.heads (d + 1) (inn ++ t.binds).length := fun l => by
        induction l with
        | nil => intro h; cases h
        | cons u r ih2 =>
          intro h
          rcases List.mem_append.1 (show p ∈ u.heads _ _ ++ headsT _ _ r from h) with h | h
          · exact ⟨u, by simp, h⟩
          · obtain ⟨v, hv, hp⟩ := ih2 h
            exact ⟨v, by simp [hv], hp⟩
      obtain ⟨u, hu, hpu⟩ := hm _ hp
      obtain ⟨j, hj⟩ := List.getElem?_of_mem hu
      obtain ⟨z, hz⟩ : ∃ z, y.args[j]? = some z := ⟨_, List.getElem?_eq_getElem (by rw [h4]; exact (List.getElem?_eq_some_iff.1 hj).1)⟩
      exact ih u hu c0 (inn ++ t.binds) z (d + 1) (isL_get h5 j hj hz) p hpu i hi

theorem shift_ok {cs ms ctx m : List Ty} {t : Tm} {ty : Ty} (h : t.is cs ms ctx ty = true) (hc : ctx.length ≤ 20) (hm : m.length ≤ 10) : shiftE m.length 0 t = 0 := by
  have ho := outs_in cs ms t ctx [] ty 1 (by rwa [List.append_nil])
  unfold shiftE
  rw [if_neg (by omega)]
  unfold errI
  have hb : badB m.length 0 (t.heads 1 0) = false := by
    unfold badB
    rw [List.any_eq_false]
    intro p hp
    cases hq : p.out with
    | none => simp
    | some i => have := ho p hp i hq; simp; omega
  have hl : longB m.length 0 (t.heads 1 0) = false := by
    unfold longB
    rw [List.any_eq_false]
    intro p hp
    cases hq : p.out with
    | none => simp
    | some i => have := ho p hp i hq; simp; omega
  rw [hb, hl]
  rfl
theorem loose_in {cs ms ctx : List Ty} {t : Tm} {ty : Ty} (h : t.is cs ms ctx ty = true) : looseI t ≤ ctx.length := by
  have ho := outs_in cs ms t ctx [] ty 1 (by rwa [List.append_nil])
  unfold looseI
  have key : ∀ l : List Hd, (∀ p ∈ l, ∀ i, p.out = some i → 0 ≤ i ∧ i < (ctx.length : Int)) → lmax l ≤ ctx.length := fun l => by
    induction l with
    | nil => intro _; simp [lmax]
    | cons p r ih =>
      intro hh
      have h1 := ih (fun q hq => hh q (by simp [hq]))
      have h2 : p.lo ≤ ctx.length := by
        unfold Hd.lo
        cases hq : p.out with
        | none => simp
        | some i => have := hh p (by simp) i hq; simp only; omega
      simp only [lmax]
      omega
  exact key _ ho

theorem shL_sizes (gy fr : Int) (b : Nat) (l : List Tm) (h : ∀ t ∈ l, ∀ b, (shT gy fr b t).size = t.size ∧ (shT gy fr b t).depth = t.depth ∧ (shT gy fr b t).total = t.total) : sizeT (l.map (shT gy fr b)) = sizeT l ∧ depthT (l.map (shT gy fr b)) = depthT l ∧ totalT (l.map (shT gy fr b)) = totalT l := by
  induction l with
  | nil => exact ⟨rfl, rfl, rfl⟩
  | cons t r ih =>
    have h1 := h t (by simp) b
    have h2 := ih (fun u hu => h u (by simp [hu]))
    simp only [List.map_cons, sizeT, depthT, totalT]
    omega
theorem shT_sizes (gy fr : Int) (t : Tm) : ∀ b, (shT gy fr b t).size = t.size ∧ (shT gy fr b t).depth = t.depth ∧ (shT gy fr b t).total = t.total := by
  induction t using Tm.ind with
  | h t ih =>
    intro b
    have h1 := shL_sizes gy fr (b + t.binds.length) t.args ih
    rw [Tm.size_eq, Tm.depth_eq, Tm.total_eq, shT_args, shT_binds, t.size_eq, t.depth_eq, t.total_eq]
    omega
theorem shT_right (gy fr : Int) (b : Nat) (t : Tm) : rightTB (shT gy fr b t) = rightTB t := by
  have := shT_sizes gy fr t b
  unfold rightTB
  rw [this.1, this.2.1]

end Go.Proofs.Ytheokboggjnenaa

namespace Go.Proofs.Ytheokboggjnenaa
open Go

theorem totalT_etaLW (l : List Ty) (h : ∀ t ∈ l, ∀ m, (etaY m t).total ≤ t.size * t.size) : totalT (etaL l) ≤ sizeL l * sizeL l := by
  induction l with
  | nil => rw [etaL]; decide
  | cons t r ih =>
    rw [etaL, totalT, sizeL]
    have h1 := h t (by simp) r.length
    have h2 := ih (fun u hu => h u (by simp [hu]))
    have h3 : (t.size + sizeL r) * (t.size + sizeL r) = t.size * t.size + t.size * sizeL r + (sizeL r * t.size + sizeL r * sizeL r) := by rw [Nat.add_mul, Nat.mul_add, Nat.mul_add]
    omega
theorem etaY_totalW (t : Ty) : ∀ m, (etaY m t).total ≤ t.size * t.size := by
  induction t using Ty.ind with
  | h t ih =>
    intro m
    have h1 := totalT_etaLW t.args ih
    rw [etaY_eq, Tm.total_eq, etaK_binds, etaK_args, t.size_eq]
    have h3 : (1 + sizeL t.args) * (1 + sizeL t.args) = 1 + sizeL t.args + (sizeL t.args + sizeL t.args * sizeL t.args) := by rw [Nat.add_mul, Nat.one_mul, Nat.mul_add, Nat.mul_one]
    omega
theorem etaK_totalW (k i : Int) (l : List Ty) : (etaK k i l).total ≤ (1 + sizeL l) * (1 + sizeL l) := by
  have h1 := totalT_etaLW l (fun t _ => etaY_totalW t)
  rw [Tm.total_eq, etaK_binds, etaK_args]
  have h3 : (1 + sizeL l) * (1 + sizeL l) = 1 + sizeL l + (sizeL l + sizeL l * sizeL l) := by rw [Nat.add_mul, Nat.one_mul, Nat.mul_add, Nat.mul_one]
  omega
theorem etaR_totalW (k i : Int) (l : List Ty) (h : sizeL l ≤ 60) : (etaR k i l).total ≤ 4000 := by
  unfold etaR
  cases etaBad k i with
  | true => rw [if_pos rfl]; decide +kernel
  | false =>
    rw [if_neg (by simp)]
    have h1 := etaK_totalW k i l
    have h2 : (1 + sizeL l) * (1 + sizeL l) ≤ 61 * 61 := Nat.mul_le_mul (by omega) (by omega)
    omega

end Go.Proofs.Ytheokboggjnenaa

