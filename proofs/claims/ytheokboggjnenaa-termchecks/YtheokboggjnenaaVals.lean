/-
  A region that draws its order, whose operations read or call and whose last one may write: by what each of them yields, whichever have come up.
-/
import Derived.OrdersIn
import Derived.Below
import Derived.Test.YtheokboggjnenaaLoops
namespace Go.Proofs.Ytheokboggjnenaa
open Go Go.RowKit

/-- The slots with other values in some places. -/
def overL (b : Nat → Bool) (u : Nat → Value) : Nat → List Value → List Value
  | _, [] => []
  | k, x :: l => (bif b k then u k else x) :: overL b u (k + 1) l
def over (b : Nat → Bool) (u : Nat → Value) (a : Act) : Act := { tmps := (overL b u 0 a.tmps.toList).toArray, defers := a.defers }

theorem overL_congr (b : Nat → Bool) (u u' : Nat → Value) (l : List Value) : ∀ k, (∀ j, k ≤ j → u j = u' j) → overL b u k l = overL b u' k l := by
  induction l with
  | nil => intro k _; rfl
  | cons x l ih =>
    intro k h
    simp only [overL]
    rw [h k (Nat.le_refl _), ih (k + 1) (fun j hj => h j (by omega))]
theorem overL_set (b : Nat → Bool) (v : Value) (l : List Value) : ∀ (u : Nat → Value) (k s : Nat), b (k + s) = true → (overL b u k l).set s v = overL b (fun j => if j = k + s then v else u j) k l := by
  induction l with
  | nil => intro u k s _; rfl
  | cons x l ih =>
    intro u k s hb
    cases s with
    | zero =>
      rw [Nat.add_zero] at hb
      simp only [overL, List.set_cons_zero, hb, cond_true, Nat.add_zero, if_pos]
      rw [overL_congr b u (fun j => if j = k then v else u j) l (k + 1) (fun j hj => by rw [if_neg (by omega)])]
    | succ s =>
      simp only [overL, List.set_cons_succ]
      rw [ih u (k + 1) s (by rw [← hb]; congr 1; omega), if_neg (by omega)]
      congr 2
      funext j
      rw [show k + 1 + s = k + (s + 1) by omega]
theorem over_put {b : Nat → Bool} {u : Nat → Value} {a : Act} {s : Nat} {v : Value} (hb : b s = true) : (over b u a).put (some s) v = over b (fun j => if j = s then v else u j) a := by
  unfold over Act.put
  have := overL_set b v a.tmps.toList u 0 s (by rwa [Nat.zero_add])
  rw [Nat.zero_add] at this
  simp only [List.setIfInBounds_toArray, this]
theorem overL_self (b : Nat → Bool) (u : Nat → Value) (l : List Value) : ∀ k, (∀ j x, l[j]? = some x → u (k + j) = x) → overL b u k l = l := by
  induction l with
  | nil => intro k _; rfl
  | cons x l ih =>
    intro k h
    simp only [overL]
    rw [ih (k + 1) (fun j y hj => by rw [show k + 1 + j = k + (j + 1) by omega]; exact h (j + 1) y (by simpa using hj)), show u k = x from h 0 x rfl]
    cases b k <;> rfl
theorem over_self (b : Nat → Bool) (a : Act) : a = over b (fun s => (a.tmps[s]?).getD undef) a := by
  unfold over
  rw [overL_self b _ _ 0 (fun j x h => by rw [Nat.zero_add, ← Array.getElem?_toList, h]; rfl)]

/-- Every slot that is written is let by. -/
def dstB (ops : Array Oper) (b : Nat → Bool) : Bool := ops.toList.all fun o => match o.dst with | some s => b s | none => true
/-- Whoever looks at a slot waits for who writes it; one waits for earlier ones alone. -/
def depsB (md : Region.Mode) (ops : Array Oper) (m : Nat) (b : Nat → Bool) : Bool :=
  (List.range ops.size).all fun i => match ops[i]? with
    | none => true
    | some o => (o.after.all fun e => decide (e.on < i)) && (decide (m < i) || (o.looksAt ops).all fun s => !b s || (List.range ops.size).any fun j => decide (j < m) && ((ops[j]?.bind (·.dst)) == some s) && o.after.any fun e => e.on == j && Region.binds md e)
/-- Each of the first ones has one that waits for it; of the others each waits for the one ahead. -/
def depdB (md : Region.Mode) (ops : Array Oper) (m : Nat) : Bool :=
  (List.range ops.size).all fun j => if j < m then (List.range (m + 1)).any fun i => decide (j < i) && match ops[i]? with
    | none => false
    | some o => o.after.any fun e => e.on == j && Region.binds md e
    else decide (j = m) || match ops[j]? with
    | none => false
    | some o => o.after.any fun e => e.on + 1 == j && Region.binds md e

variable {F : Fence} {n : Nat} {P : Program} {ops : Array Oper} {Q : Exit → Act → World → Prop} {md : Region.Mode}

def cntF (l : Array Bool) : Nat := l.toList.count false
theorem count_set (l : List Bool) (i : Nat) (h : l[i]? = some false) : (l.set i true).count false + 1 = l.count false := by
  induction l generalizing i with
  | nil => simp at h
  | cons x l ih =>
    cases i with
    | zero => simp at h; subst h; simp
    | succ i => simp at h; have := ih i h; simp [List.count_cons]; omega
theorem cntF_set (l : Array Bool) (i : Nat) (h : l.getD i true = false) : cntF (l.setIfInBounds i true) + 1 = cntF l := by
  unfold cntF
  rw [Array.toList_setIfInBounds]
  apply count_set
  rw [Array.getD_eq_getD_getElem?] at h
  rw [← Array.getElem?_toList] at h
  cases hg : l.toList[i]? with
  | none => rw [hg] at h; simp at h
  | some b => rw [hg] at h; simp at h; rw [h]

theorem getD_tf (l : Array Bool) (i : Nat) (hi : i < l.size) : l.getD i true = l.getD i false := by
  simp [Array.getD_eq_getD_getElem?, Array.getElem?_eq_getElem hi]
theorem getD_put (l : Array Bool) (i j : Nat) (d : Bool) (hi : i < l.size) : (l.setIfInBounds i true).getD j d = if i = j then true else l.getD j d := by
  by_cases h : i = j
  · subst h; simp [Array.getD_eq_getD_getElem?, hi]
  · rw [if_neg h]; simp [Array.getD_eq_getD_getElem?, Array.getElem?_setIfInBounds_ne h]

/-- What holds, whichever of the first m have come up, and none of the others. -/
structure Up (md : Region.Mode) (ops : Array Oper) (m : Nat) (b : Nat → Bool) (a0 : Act) (V : Nat → World → Value → Prop) (C : World → Prop) (listed : Array Bool) (a : Act) (w : World) : Prop where
  sz : listed.size = ops.size
  un : ∀ i, m ≤ i → i < ops.size → listed.getD i true = false
  ex : ∃ u, a = over b u a0 ∧ ∀ i o s, i < m → ops[i]? = some o → o.dst = some s → listed.getD i true = true → V s w (u s)
  c : C w
  dn : ∀ i o e, ops[i]? = some o → listed.getD i true = true → e ∈ o.after → Region.binds md e = true → listed.getD e.on false = true

theorem dstB_spec {b : Nat → Bool} (h : dstB ops b = true) {i : Nat} {o : Oper} {s : Nat} (ho : ops[i]? = some o) (hs : o.dst = some s) : b s = true := by
  unfold dstB at h
  have := List.all_eq_true.1 h o (by rw [Array.mem_toList_iff]; exact Array.mem_of_getElem? ho)
  simpa [hs] using this
theorem lt_of_get {i : Nat} {o : Oper} (ho : ops[i]? = some o) : i < ops.size := (Array.getElem?_eq_some_iff.1 ho).1
theorem depsB_spec {m : Nat} {b : Nat → Bool} (h : depsB md ops m b = true) {i : Nat} {o : Oper} (ho : ops[i]? = some o) :
    (∀ e ∈ o.after, e.on < i) ∧ (i ≤ m → ∀ s ∈ o.looksAt ops, b s = true → ∃ j oj, j < m ∧ ops[j]? = some oj ∧ oj.dst = some s ∧ ∃ e ∈ o.after, e.on = j ∧ Region.binds md e = true) := by
  unfold depsB at h
  have h1 := List.all_eq_true.1 h i (List.mem_range.2 (lt_of_get ho))
  rw [ho] at h1
  simp only [Bool.and_eq_true] at h1
  obtain ⟨h1, h2⟩ := h1
  refine ⟨fun e he => ?_, fun him s hs hb => ?_⟩
  · rw [Array.all_eq_true'] at h1
    exact of_decide_eq_true (h1 e he)
  · rw [show decide (m < i) = false from decide_eq_false (by omega), Bool.false_or] at h2
    have h3 := List.all_eq_true.1 h2 s hs
    simp only [hb, Bool.not_true, Bool.false_or] at h3
    obtain ⟨j, hj, h4⟩ := List.any_eq_true.1 h3
    simp only [Bool.and_eq_true, decide_eq_true_eq, beq_iff_eq] at h4
    obtain ⟨⟨h5, h6⟩, h7⟩ := h4
    cases hoj : ops[j]? with
    | none => rw [hoj] at h6; simp at h6
    | some oj =>
      rw [hoj] at h6
      rw [Array.any_eq_true'] at h7
      obtain ⟨e, he, h8⟩ := h7
      simp only [Bool.and_eq_true, beq_iff_eq] at h8
      exact ⟨j, oj, h5, hoj, by simpa using h6, e, he, h8.1, h8.2⟩
theorem depdB_spec {m : Nat} (h : depdB md ops m = true) {j : Nat} (hj : j < m) (hm : m < ops.size) : ∃ i o, j < i ∧ i ≤ m ∧ ops[i]? = some o ∧ ∃ e ∈ o.after, e.on = j ∧ Region.binds md e = true := by
  unfold depdB at h
  have h1 := List.all_eq_true.1 h j (List.mem_range.2 (by omega))
  rw [if_pos hj] at h1
  obtain ⟨i, him, h2⟩ := List.any_eq_true.1 h1
  have him := List.mem_range.1 him
  simp only [Bool.and_eq_true, decide_eq_true_eq] at h2
  obtain ⟨h3, h4⟩ := h2
  cases ho : ops[i]? with
  | none => rw [ho] at h4; cases h4
  | some o =>
    rw [ho] at h4
    simp only [Array.any_eq_true'] at h4
    obtain ⟨e, he, h8⟩ := h4
    simp only [Bool.and_eq_true, beq_iff_eq] at h8
    exact ⟨i, o, h3, by omega, ho, e, he, h8.1, h8.2⟩
theorem depdB_tail {m : Nat} (h : depdB md ops m = true) {j : Nat} {o : Oper} (hj : m < j) (ho : ops[j]? = some o) : ∃ e ∈ o.after, e.on + 1 = j ∧ Region.binds md e = true := by
  unfold depdB at h
  have h1 := List.all_eq_true.1 h j (List.mem_range.2 (lt_of_get ho))
  rw [if_neg (by omega), show decide (j = m) = false from decide_eq_false (by omega), Bool.false_or, ho] at h1
  simp only [Array.any_eq_true'] at h1
  obtain ⟨e, he, h8⟩ := h1
  simp only [Bool.and_eq_true, beq_iff_eq] at h8
  exact ⟨e, he, h8.1, h8.2⟩

theorem ready_some {m : Nat} {b : Nat → Bool} (hdep : depsB md ops m b = true) {listed : Array Bool} (hsz : listed.size = ops.size) : ∀ k, k < ops.size → listed.getD k true = false → Region.ready md ops listed ≠ [] := by
  intro k
  induction k using Nat.strongRecOn with
  | ind k ih =>
    intro hk hun hr
    obtain ⟨o, ho⟩ : ∃ o, ops[k]? = some o := ⟨_, Array.getElem?_eq_getElem hk⟩
    have hlt := (depsB_spec hdep ho).1
    by_cases hall : ∀ e ∈ o.after, Region.binds md e = true → listed.getD e.on false = true
    · have := mem_ready.2 ⟨hun, o, ho, hall⟩
      rw [hr] at this
      cases this
    · simp only [Classical.not_forall] at hall
      obtain ⟨e, he, _, hno⟩ := hall
      have hl := hlt e he
      refine ih e.on hl (by omega) ?_ hr
      rw [getD_tf _ _ (by omega)]
      simpa using hno

/-- All the first ones have come up where the next one may. -/
theorem all_listed {m : Nat} (hdpd : depdB md ops m = true) (hm : m < ops.size) {listed : Array Bool} (hsz : listed.size = ops.size)
    (dn : ∀ i o e, ops[i]? = some o → listed.getD i true = true → e ∈ o.after → Region.binds md e = true → listed.getD e.on false = true)
    (hl : ∀ o, ops[m]? = some o → ∀ e ∈ o.after, Region.binds md e = true → listed.getD e.on false = true) : ∀ k j, j + k = m → 0 < k → listed.getD j true = true := by
  intro k
  induction k using Nat.strongRecOn with
  | ind k ih =>
    intro j hk h0
    obtain ⟨i, o, hji, him, ho, e, he, hon, hbd⟩ := depdB_spec hdpd (j := j) (by omega) hm
    rw [getD_tf _ _ (by omega), ← hon]
    by_cases hil : i = m
    · subst hil
      exact hl o ho e he hbd
    · exact dn i o e ho (ih (m - i) (by omega) i (by omega) (by omega)) he hbd

/-- The first k of n. -/
def upTo (n k : Nat) : Array Bool := ((List.range n).map fun i => decide (i < k)).toArray
theorem upTo_eq {l : Array Bool} {n k : Nat} (hs : l.size = n) (h1 : ∀ i, i < k → i < n → l.getD i true = true) (h2 : ∀ i, k ≤ i → i < n → l.getD i true = false) : l = upTo n k := by
  refine Array.ext (by simp [upTo, hs]) fun i hi hi' => ?_
  have hin : i < n := by omega
  rw [show l[i] = l.getD i true by simp [Array.getD_eq_getD_getElem?, hi]]
  by_cases hik : i < k
  · rw [h1 i hik hin]; simp [upTo, hik]
  · rw [h2 i (by omega) hin]; simp [upTo, hik]

/-- WHATEVER ORDER IS PICKED. -/
theorem any_vals (m : Nat) (b : Nat → Bool) (a0 : Act) (V : Nat → World → Value → Prop) (C : World → Prop) (hm : m < ops.size) (hdst : dstB ops b = true) (hdep : depsB md ops m b = true) (hdpd : depdB md ops m = true)
    (hV : ∀ s w w' v, V s w v → Below w.heap.size w w' → V s w' v) (hC : ∀ w w', C w → Below w.heap.size w w' → C w')
    (hop : ∀ i o, ops[i]? = some o → i < m → ∀ u w, C w → (∀ s ∈ o.looksAt ops, b s = true → V s w (u s)) → ∀ K' : Act → World → Prop,
      (∀ v w', (∀ s, o.dst = some s → V s w' v) → Below w.heap.size w w' → K' ((over b u a0).put o.dst v) w') →
      if Region.wanted o (yielded ops (over b u a0).tmps) = true then Oper.wpIn F n P o (over b u a0) w K' Q else (∀ f, o.about P w (over b u a0).eval = some f → F.fn f) ∧ K' ((over b u a0).put o.dst undef) w)
    (hlast : ∀ o, ops[m]? = some o → ∀ u w, C w → (∀ i o' s, i < m → ops[i]? = some o' → o'.dst = some s → V s w (u s)) → ∀ K' : Act → World → Prop,
      (∀ a' w', wpAnyIn F n P md ops Q (ops.size - (m + 1)) (upTo ops.size (m + 1)) a' w' → K' a' w') →
      if Region.wanted o (yielded ops (over b u a0).tmps) = true then Oper.wpIn F n P o (over b u a0) w K' Q else (∀ f, o.about P w (over b u a0).eval = some f → F.fn f) ∧ K' ((over b u a0).put o.dst undef) w)
    (w : World) (h0 : C w) : wpAnyIn F n P md ops Q ops.size (Array.replicate ops.size false) a0 w := by
  have main : ∀ fuel listed a w, Up md ops m b a0 V C listed a w → cntF listed = fuel → wpAnyIn F n P md ops Q fuel listed a w := by
    intro fuel
    induction fuel with
    | zero =>
      intro listed a w hu hc
      have := cntF_set listed _ (hu.un m (Nat.le_refl _) hm)
      omega
    | succ fuel ih =>
      intro listed a w hu hc
      refine ⟨fun hr => absurd hr (ready_some hdep hu.sz m hm (hu.un m (Nat.le_refl _) hm)), fun i hi => ?_⟩
      obtain ⟨hun, o, ho, hall⟩ := mem_ready.1 hi
      have hil := lt_of_get ho
      have hcn := cntF_set listed i hun
      have hsi : i < listed.size := by rw [hu.sz]; exact hil
      obtain ⟨u, rfl, hux⟩ := hu.ex
      by_cases hlt : i < m
      · have hk : ∀ s ∈ o.looksAt ops, b s = true → V s w (u s) := fun s hs hb => by
          obtain ⟨j, oj, hj, hoj, hds, e, he, hon, hbd⟩ := (depsB_spec hdep ho).2 (by omega) s hs hb
          refine hux j oj s hj hoj hds ?_
          rw [getD_tf _ _ (by have := hu.sz; omega), ← hon]
          exact hall e he hbd
        refine wpOpIn_step ho fun K' hK' => hop i o ho hlt u w hu.c hk K' fun v w' hv hb => hK' _ _ (ih _ _ _ ?_ (by omega))
        refine ⟨by rw [Array.size_setIfInBounds]; exact hu.sz, fun k hk1 hk2 => ?_, ?_, hC _ _ hu.c hb, ?_⟩
        · rw [getD_put _ _ _ _ hsi, if_neg (by omega)]; exact hu.un k hk1 hk2
        · cases hds : o.dst with
          | none =>
            refine ⟨u, rfl, fun j oj s hj hoj hs hl => ?_⟩
            rw [getD_put _ _ _ _ hsi] at hl
            by_cases hij : i = j
            · subst hij
              rw [ho] at hoj
              cases hoj
              rw [hds] at hs
              cases hs
            · rw [if_neg hij] at hl
              exact hV _ _ _ _ (hux j oj s hj hoj hs hl) hb
          | some d =>
            refine ⟨_, over_put (dstB_spec hdst ho hds), fun j oj s hj hoj hs hl => ?_⟩
            by_cases hsd : s = d
            · subst hsd
              rw [if_pos rfl]
              exact hv s hds
            · rw [if_neg hsd]
              rw [getD_put _ _ _ _ hsi] at hl
              by_cases hij : i = j
              · subst hij
                rw [ho] at hoj
                cases hoj
                rw [hds] at hs
                exact absurd (Option.some.inj hs).symm hsd
              · rw [if_neg hij] at hl
                exact hV _ _ _ _ (hux j oj s hj hoj hs hl) hb
        · intro j oj e hoj hl he hbd
          rw [getD_put _ _ _ _ hsi] at hl ⊢
          by_cases hie : i = e.on
          · rw [if_pos hie]
          · rw [if_neg hie]
            by_cases hij : i = j
            · subst hij
              rw [ho] at hoj
              cases hoj
              exact hall e he hbd
            · rw [if_neg hij] at hl
              exact hu.dn j oj e hoj hl he hbd
      · have him : i = m := by
          rcases Nat.lt_or_ge m i with h | h
          · exfalso
            obtain ⟨e, he, hon, hbd⟩ := depdB_tail hdpd h ho
            have h1 := hall e he hbd
            have h2 := hu.un e.on (by omega) (by omega)
            rw [getD_tf _ _ (by have := hu.sz; omega), h1] at h2
            cases h2
          · omega
        subst him
        have hal := all_listed hdpd hm hu.sz hu.dn (fun o' ho' => by rw [ho] at ho'; cases ho'; exact hall)
        have hls : listed.setIfInBounds i true = upTo ops.size (i + 1) := by
          refine upTo_eq (by rw [Array.size_setIfInBounds]; exact hu.sz) (fun k hk1 hk2 => ?_) (fun k hk1 hk2 => ?_)
          · rw [getD_put _ _ _ _ hsi]
            by_cases hik : i = k
            · rw [if_pos hik]
            · rw [if_neg hik]; exact hal (i - k) k (by omega) (by omega)
          · rw [getD_put _ _ _ _ hsi, if_neg (by omega)]; exact hu.un k (by omega) hk2
        have hfu : fuel = ops.size - (i + 1) := by
          have h1 : cntF (listed.setIfInBounds i true) = fuel := by omega
          rw [← h1, hls]
          unfold cntF upTo
          have : ∀ n k, k ≤ n → ((List.range n).map fun i => decide (i < k)).count false = n - k := by
            intro n k hk
            induction n with
            | zero => simp
            | succ n ihn =>
              rw [List.range_succ, List.map_append, List.count_append]
              by_cases hkn : k ≤ n
              · rw [ihn hkn]; simp [show ¬ n < k by omega]; omega
              · have : k = n + 1 := by omega
                subst this
                have h0 : ((List.range n).map fun i => decide (i < n + 1)).count false = 0 := by
                  rw [List.count_eq_zero]
                  intro hc
                  obtain ⟨x, hx, h2⟩ := List.mem_map.1 hc
                  have := List.mem_range.1 hx
                  simp at h2
                  omega
                rw [h0]; simp
          rw [this _ _ (by omega)]
        refine wpOpIn_step ho fun K' hK' => hlast o ho u w hu.c (fun j oj s hj hoj hs => hux j oj s hj hoj hs (hal (i - j) j (by omega) (by omega))) K' fun a' w' hq => hK' _ _ ?_
        rw [hls, hfu]
        exact hq
  refine main _ _ _ _ ⟨by simp, fun i _ hi => ?_, ⟨_, over_self b a0, fun i o s hi ho _ hl => ?_⟩, h0, fun i o e ho hl _ _ => ?_⟩ ?_
  · simp [Array.getD_eq_getD_getElem?, hi]
  · simp [Array.getD_eq_getD_getElem?, lt_of_get ho] at hl
  · simp [Array.getD_eq_getD_getElem?, lt_of_get ho] at hl
  · simp [cntF]

/-- What one of the first operations owes. -/
def OpOwes (F : Fence) (n : Nat) (P : Program) (ops : Array Oper) (Q : Exit → Act → World → Prop) (b : Nat → Bool) (a0 : Act) (V : Nat → World → Value → Prop) (C : World → Prop) (o : Oper) : Prop :=
  ∀ u w, C w → (∀ s ∈ o.looksAt ops, b s = true → V s w (u s)) → ∀ K' : Act → World → Prop, (∀ v w', (∀ s, o.dst = some s → V s w' v) → Below w.heap.size w w' → K' ((over b u a0).put o.dst v) w') →
    if Region.wanted o (yielded ops (over b u a0).tmps) = true then Oper.wpIn F n P o (over b u a0) w K' Q else (∀ f, o.about P w (over b u a0).eval = some f → F.fn f) ∧ K' ((over b u a0).put o.dst undef) w
/-- One by one. -/
def Ops (F : Fence) (n : Nat) (P : Program) (ops : Array Oper) (Q : Exit → Act → World → Prop) (b : Nat → Bool) (a0 : Act) (V : Nat → World → Value → Prop) (C : World → Prop) : Nat → List Oper → Prop
  | _, [] => True
  | 0, _ => True
  | m + 1, o :: l => OpOwes F n P ops Q b a0 V C o ∧ Ops F n P ops Q b a0 V C m l
theorem Ops.at {b : Nat → Bool} {a0 : Act} {V : Nat → World → Value → Prop} {C : World → Prop} : ∀ (m : Nat) (l : List Oper), Ops F n P ops Q b a0 V C m l → ∀ i o, l[i]? = some o → i < m → OpOwes F n P ops Q b a0 V C o
  | _, [], _, i, o, h, _ => by simp at h
  | 0, _ :: _, _, i, o, _, hi => by omega
  | m + 1, x :: l, hO, 0, o, h, _ => by
    simp at h
    subst h
    exact hO.1
  | m + 1, x :: l, hO, i + 1, o, h, hi => Ops.at m l hO.2 i o (by simpa using h) (by omega)

/-- A REGION THAT DRAWS, in whatever fence, in a round or not: the first m operations in whatever order, then the others one behind the other. -/
theorem region_vals {id : Nat} {a : Act} {w : World} {l : List Oper} (m : Nat) (b : Nat → Bool) (V : Nat → World → Value → Prop) (C : World → Prop) (hmx : P.follows .mixedOrders = true) (hm : m < l.length) (hdst : dstB l.toArray b = true) (hdep : depsB .any l.toArray m b = true) (hdpd : depdB .any l.toArray m = true)
    (hV : ∀ s w w' v, V s w v → Below w.heap.size w w' → V s w' v) (hC : ∀ w w', C w → Below w.heap.size w w' → C w') (h0 : C w.drew)
    (h : Ops F n P l.toArray Q b a V C m l)
    (hlast : ∀ o, l[m]? = some o → ∀ u w, C w → (∀ s ∈ (l.take m).filterMap (·.dst), V s w (u s)) → ∀ K' : Act → World → Prop,
      (∀ a' w', wpAnyIn F n P .any l.toArray Q (l.length - (m + 1)) (upTo l.length (m + 1)) a' w' → K' a' w') →
      if Region.wanted o (yielded l.toArray (over b u a).tmps) = true then Oper.wpIn F n P o (over b u a) w K' Q else (∀ f, o.about P w (over b u a).eval = some f → F.fn f) ∧ K' ((over b u a).put o.dst undef) w) :
    (Code.region id l.toArray true).wpIn F n P Q a w := by
  refine wpIn_region_any hmx (any_vals m b a V C (by simpa using hm) hdst hdep hdpd hV hC (fun i o ho hi => Ops.at m l h i o (by simpa using ho) hi) (fun o ho u w hc hv K' hK' => hlast o (by simpa using ho) u w hc (fun s hs => ?_) K' (by simpa using hK')) _ h0)
  obtain ⟨o', ho', hs⟩ := List.mem_filterMap.1 hs
  obtain ⟨i, hi, rfl⟩ := List.getElem_of_mem ho'
  rw [List.length_take] at hi
  refine hv i _ s (by omega) ?_ hs
  rw [List.getElem_take]
  simp

theorem want_plain {a : Act} {w : World} {o : Oper} {y : Nat → Option Bool} {K : Act → World → Prop} {X : Prop} (hg : o.guard = none) (h : Oper.wpIn F n P o a w K Q) : if Region.wanted o y = true then Oper.wpIn F n P o a w K Q else X := by
  rw [if_pos (by unfold Region.wanted; rw [hg])]
  exact h
theorem want_yes {a : Act} {w : World} {o : Oper} {y : Nat → Option Bool} {K : Act → World → Prop} {X : Prop} {g : Nat} {c : Bool} (hg : o.guard = some (g, c)) (hy : y g = some c) (h : Oper.wpIn F n P o a w K Q) : if Region.wanted o y = true then Oper.wpIn F n P o a w K Q else X := by
  rw [if_pos (by unfold Region.wanted; rw [hg]; simp [hy])]
  exact h
theorem want_no {a : Act} {w : World} {o : Oper} {y : Nat → Option Bool} {K : Act → World → Prop} {X : Prop} {g : Nat} {c : Bool} (hg : o.guard = some (g, c)) (hy : y g ≠ some c) (h : X) : if Region.wanted o y = true then Oper.wpIn F n P o a w K Q else X := by
  rw [if_neg (by unfold Region.wanted; rw [hg]; simpa using hy)]
  exact h

/-- The next of the others. -/
theorem any_next {a : Act} {w : World} {listed : Array Bool} {fuel : Nat} (i : Nat) (o : Oper) (hr : Region.ready md ops listed = [i]) (ho : ops[i]? = some o)
    (h : ∀ K' : Act → World → Prop, (∀ a' w', wpAnyIn F n P md ops Q fuel (listed.setIfInBounds i true) a' w' → K' a' w') →
      if Region.wanted o (yielded ops a.tmps) = true then Oper.wpIn F n P o a w K' Q else (∀ f, o.about P w a.eval = some f → F.fn f) ∧ K' (a.put o.dst undef) w) : wpAnyIn F n P md ops Q (fuel + 1) listed a w :=
  wpAnyIn_ready hr (by simp) (AllReadyIn.cons ho (fun K' hK' => h K' hK') AllReadyIn.nil)

end Go.Proofs.Ytheokboggjnenaa
