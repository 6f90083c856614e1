/-
  Boxes: several texts in one file: Vals, Spine, SpineU, Boxes.
-/
import Derived.OrdersIn
import Derived.Below
import Derived.Test.YtckagmagjogmnaaApply
import Derived.Test.YtckagmagjogmnaaSize
namespace Go.Proofs.Ytckagmagjogmnaa
open Go Go.RowKit

/-- The slots with other values in some places. -/
def overL (b : Nat → Bool) (u : Nat → Value) : Nat → List Value → List Value
  | _, [] => []
  | k, x :: l => (bif b k then u k else x) :: overL b u (k + 1) l
def over (b : Nat → Bool) (u : Nat → Value) (a : Act) : Act := { tmps := (overL b u 0 a.tmps.toList).toArray, defers := a.defers }

theorem overL_congr (b : Nat → Bool) (u u' : Nat → Value) (l : List Value) : ∀ k, (∀ j, k ≤ j → u j = u' j) → overL b u k l = overL b u' k l := by
  induction l with
  | nil => intro k _; rfl
  | cons x l ih =>
    intro k h
    simp only [overL]
    rw [h k (Nat.le_refl _), ih (k + 1) (fun j hj => h j (by omega))]
theorem overL_set (b : Nat → Bool) (v : Value) (l : List Value) : ∀ (u : Nat → Value) (k s : Nat), b (k + s) = true → (overL b u k l).set s v = overL b (fun j => if j = k + s then v else u j) k l := by
  induction l with
  | nil => intro u k s _; rfl
  | cons x l ih =>
    intro u k s hb
    cases s with
    | zero =>
      rw [Nat.add_zero] at hb
      simp only [overL, List.set_cons_zero, hb, cond_true, Nat.add_zero, if_pos]
      rw [overL_congr b u (fun j => if j = k then v else u j) l (k + 1) (fun j hj => by rw [if_neg (by omega)])]
    | succ s =>
      simp only [overL, List.set_cons_succ]
      rw [ih u (k + 1) s (by rw [← hb]; congr 1; omega), if_neg (by omega)]
      congr 2
      funext j
      rw [show k + 1 + s = k + (s + 1) by omega]
theorem over_put {b : Nat → Bool} {u : Nat → Value} {a : Act} {s : Nat} {v : Value} (hb : b s = true) : (over b u a).put (some s) v = over b (fun j => if j = s then v else u j) a := by
  unfold over Act.put
  have := overL_set b v a.tmps.toList u 0 s (by rwa [Nat.zero_add])
  rw [Nat.zero_add] at this
  simp only [List.setIfInBounds_toArray, this]
theorem overL_self (b : Nat → Bool) (u : Nat → Value) (l : List Value) : ∀ k, (∀ j x, l[j]? = some x → u (k + j) = x) → overL b u k l = l := by
  induction l with
  | nil => intro k _; rfl
  | cons x l ih =>
    intro k h
    simp only [overL]
    rw [ih (k + 1) (fun j y hj => by rw [show k + 1 + j = k + (j + 1) by omega]; exact h (j + 1) y (by simpa using hj)), show u k = x from h 0 x rfl]
    cases b k <;> rfl
theorem over_self (b : Nat → Bool) (a : Act) : a = over b (fun s => (a.tmps[s]?).getD undef) a := by
  unfold over
  rw [overL_self b _ _ 0 (fun j x h => by rw [Nat.zero_add, ← Array.getElem?_toList, h]; rfl)]

/-- Every slot that is written is let by. -/
def dstB (ops : Array Oper) (b : Nat → Bool) : Bool := ops.toList.all fun o => match o.dst with | some s => b s | none => true
/-- Whoever looks at a slot waits for who writes it; one waits for earlier ones alone. -/
def depsB (md : Region.Mode) (ops : Array Oper) (m : Nat) (b : Nat → Bool) : Bool :=
  (List.range ops.size).all fun i => match ops[i]? with
    | none => true
    | some o => (o.after.all fun e => decide (e.on < i)) && (decide (m < i) || (o.looksAt ops).all fun s => !b s || (List.range ops.size).any fun j => decide (j < m) && ((ops[j]?.bind (·.dst)) == some s) && o.after.any fun e => e.on == j && Region.binds md e)
/-- Each of the first ones has one that waits for it; of the others each waits for the one ahead. -/
def depdB (md : Region.Mode) (ops : Array Oper) (m : Nat) : Bool :=
  (List.range ops.size).all fun j => if j < m then (List.range (m + 1)).any fun i => decide (j < i) && match ops[i]? with
    | none => false
    | some o => o.after.any fun e => e.on == j && Region.binds md e
    else decide (j = m) || match ops[j]? with
    | none => false
    | some o => o.after.any fun e => e.on + 1 == j && Region.binds md e

variable {F : Fence} {n : Nat} {P : Program} {ops : Array Oper} {Q : Exit → Act → World → Prop} {md : Region.Mode}

def cntF (l : Array Bool) : Nat := l.toList.count false
theorem count_set (l : List Bool) (i : Nat) (h : l[i]? = some false) : (l.set i true).count false + 1 = l.count false := by
  induction l generalizing i with
  | nil => simp at h
  | cons x l ih =>
    cases i with
    | zero => simp at h; subst h; simp
    | succ i => simp at h; have := ih i h; simp [List.count_cons]; omega
theorem cntF_set (l : Array Bool) (i : Nat) (h : l.getD i true = false) : cntF (l.setIfInBounds i true) + 1 = cntF l := by
  unfold cntF
  rw [Array.toList_setIfInBounds]
  apply count_set
  rw [Array.getD_eq_getD_getElem?] at h
  rw [← Array.getElem?_toList] at h
  cases hg : l.toList[i]? with
  | none => rw [hg] at h; simp at h
  | some b => rw [hg] at h; simp at h; rw [h]

theorem getD_tf (l : Array Bool) (i : Nat) (hi : i < l.size) : l.getD i true = l.getD i false := by
  simp [Array.getD_eq_getD_getElem?, Array.getElem?_eq_getElem hi]
theorem getD_put (l : Array Bool) (i j : Nat) (d : Bool) (hi : i < l.size) : (l.setIfInBounds i true).getD j d = if i = j then true else l.getD j d := by
  by_cases h : i = j
  · subst h; simp [Array.getD_eq_getD_getElem?, hi]
  · rw [if_neg h]; simp [Array.getD_eq_getD_getElem?, Array.getElem?_setIfInBounds_ne h]

/-- What holds, whichever of the first m have come up, and none of the others. -/
structure Up (md : Region.Mode) (ops : Array Oper) (m : Nat) (b : Nat → Bool) (a0 : Act) (V : Nat → World → Value → Prop) (C : World → Prop) (listed : Array Bool) (a : Act) (w : World) : Prop where
  sz : listed.size = ops.size
  un : ∀ i, m ≤ i → i < ops.size → listed.getD i true = false
  ex : ∃ u, a = over b u a0 ∧ ∀ i o s, i < m → ops[i]? = some o → o.dst = some s → listed.getD i true = true → V s w (u s)
  c : C w
  dn : ∀ i o e, ops[i]? = some o → listed.getD i true = true → e ∈ o.after → Region.binds md e = true → listed.getD e.on false = true

theorem dstB_spec {b : Nat → Bool} (h : dstB ops b = true) {i : Nat} {o : Oper} {s : Nat} (ho : ops[i]? = some o) (hs : o.dst = some s) : b s = true := by
  unfold dstB at h
  have := List.all_eq_true.1 h o (by rw [Array.mem_toList_iff]; exact Array.mem_of_getElem? ho)
  simpa [hs] using this
theorem lt_of_get {i : Nat} {o : Oper} (ho : ops[i]? = some o) : i < ops.size := (Array.getElem?_eq_some_iff.1 ho).1
theorem depsB_spec {m : Nat} {b : Nat → Bool} (h : depsB md ops m b = true) {i : Nat} {o : Oper} (ho : ops[i]? = some o) :
    (∀ e ∈ o.after, e.on < i) ∧ (i ≤ m → ∀ s ∈ o.looksAt ops, b s = true → ∃ j oj, j < m ∧ ops[j]? = some oj ∧ oj.dst = some s ∧ ∃ e ∈ o.after, e.on = j ∧ Region.binds md e = true) := by
  unfold depsB at h
  have h1 := List.all_eq_true.1 h i (List.mem_range.2 (lt_of_get ho))
  rw [ho] at h1
  simp only [Bool.and_eq_true] at h1
  obtain ⟨h1, h2⟩ := h1
  refine ⟨fun e he => ?_, fun him s hs hb => ?_⟩
  · rw [Array.all_eq_true'] at h1
    exact of_decide_eq_true (h1 e he)
  · rw [show decide (m < i) = false from decide_eq_false (by omega), Bool.false_or] at h2
    have h3 := List.all_eq_true.1 h2 s hs
    simp only [hb, Bool.not_true, Bool.false_or] at h3
    obtain ⟨j, hj, h4⟩ := List.any_eq_true.1 h3
    simp only [Bool.and_eq_true, decide_eq_true_eq, beq_iff_eq] at h4
    obtain ⟨⟨h5, h6⟩, h7⟩ := h4
    cases hoj : ops[j]? with
    | none => rw [hoj] at h6; simp at h6
    | some oj =>
      rw [hoj] at h6
      rw [Array.any_eq_true'] at h7
      obtain ⟨e, he, h8⟩ := h7
      simp only [Bool.and_eq_true, beq_iff_eq] at h8
      exact ⟨j, oj, h5, hoj, by simpa using h6, e, he, h8.1, h8.2⟩
theorem depdB_spec {m : Nat} (h : depdB md ops m = true) {j : Nat} (hj : j < m) (hm : m < ops.size) : ∃ i o, j < i ∧ i ≤ m ∧ ops[i]? = some o ∧ ∃ e ∈ o.after, e.on = j ∧ Region.binds md e = true := by
  unfold depdB at h
  have h1 := List.all_eq_true.1 h j (List.mem_range.2 (by omega))
  rw [if_pos hj] at h1
  obtain ⟨i, him, h2⟩ := List.any_eq_true.1 h1
  have him := List.mem_range.1 him
  simp only [Bool.and_eq_true, decide_eq_true_eq] at h2
  obtain ⟨h3, h4⟩ := h2
  cases ho : ops[i]? with
  | none => rw [ho] at h4; cases h4
  | some o =>
    rw [ho] at h4
    simp only [Array.any_eq_true'] at h4
    obtain ⟨e, he, h8⟩ := h4
    simp only [Bool.and_eq_true, beq_iff_eq] at h8
    exact ⟨i, o, h3, by omega, ho, e, he, h8.1, h8.2⟩
theorem depdB_tail {m : Nat} (h : depdB md ops m = true) {j : Nat} {o : Oper} (hj : m < j) (ho : ops[j]? = some o) : ∃ e ∈ o.after, e.on + 1 = j ∧ Region.binds md e = true := by
  unfold depdB at h
  have h1 := List.all_eq_true.1 h j (List.mem_range.2 (lt_of_get ho))
  rw [if_neg (by omega), show decide (j = m) = false from decide_eq_false (by omega), Bool.false_or, ho] at h1
  simp only [Array.any_eq_true'] at h1
  obtain ⟨e, he, h8⟩ := h1
  simp only [Bool.and_eq_true, beq_iff_eq] at h8
  exact ⟨e, he, h8.1, h8.2⟩

theorem ready_some {m : Nat} {b : Nat → Bool} (hdep : depsB md ops m b = true) {listed : Array Bool} (hsz : listed.size = ops.size) : ∀ k, k < ops.size → listed.getD k true = false → Region.ready md ops listed ≠ [] := by
  intro k
  induction k using Nat.strongRecOn with
  | ind k ih =>
    intro hk hun hr
    obtain ⟨o, ho⟩ : ∃ o, ops[k]? = some o := ⟨_, Array.getElem?_eq_getElem hk⟩
    have hlt := (depsB_spec hdep ho).1
    by_cases hall : ∀ e ∈ o.after, Region.binds md e = true → listed.getD e.on false = true
    · have := mem_ready.2 ⟨hun, o, ho, hall⟩
      rw [hr] at this
      cases this
    · simp only [Classical.not_forall] at hall
      obtain ⟨e, he, _, hno⟩ := hall
      have hl := hlt e he
      refine ih e.on hl (by omega) ?_ hr
      rw [getD_tf _ _ (by omega)]
      simpa using hno

/-- All the first ones have come up where the next one may. -/
theorem all_listed {m : Nat} (hdpd : depdB md ops m = true) (hm : m < ops.size) {listed : Array Bool} (hsz : listed.size = ops.size)
    (dn : ∀ i o e, ops[i]? = some o → listed.getD i true = true → e ∈ o.after → Region.binds md e = true → listed.getD e.on false = true)
    (hl : ∀ o, ops[m]? = some o → ∀ e ∈ o.after, Region.binds md e = true → listed.getD e.on false = true) : ∀ k j, j + k = m → 0 < k → listed.getD j true = true := by
  intro k
  induction k using Nat.strongRecOn with
  | ind k ih =>
    intro j hk h0
    obtain ⟨i, o, hji, him, ho, e, he, hon, hbd⟩ := depdB_spec hdpd (j := j) (by omega) hm
    rw [getD_tf _ _ (by omega), ← hon]
    by_cases hil : i = m
    · subst hil
      exact hl o ho e he hbd
    · exact dn i o e ho (ih (m - i) (by omega) i (by omega) (by omega)) he hbd

/-- The first k of n. -/
def upTo (n k : Nat) : Array Bool := ((List.range n).map fun i => decide (i < k)).toArray
theorem upTo_eq {l : Array Bool} {n k : Nat} (hs : l.size = n) (h1 : ∀ i, i < k → i < n → l.getD i true = true) (h2 : ∀ i, k ≤ i → i < n → l.getD i true = false) : l = upTo n k := by
  refine Array.ext (by simp [upTo, hs]) fun i hi hi' => ?_
  have hin : i < n := by omega
  rw [show l[i] = l.getD i true by simp [Array.getD_eq_getD_getElem?, hi]]
  by_cases hik : i < k
  · rw [h1 i hik hin]; simp [upTo, hik]
  · rw [h2 i (by omega) hin]; simp [upTo, hik]

/-- WHATEVER ORDER IS PICKED. -/
theorem any_vals (m : Nat) (b : Nat → Bool) (a0 : Act) (V : Nat → World → Value → Prop) (C : World → Prop) (hm : m < ops.size) (hdst : dstB ops b = true) (hdep : depsB md ops m b = true) (hdpd : depdB md ops m = true)
    (hV : ∀ s w w' v, V s w v → Below w.heap.size w w' → V s w' v) (hC : ∀ w w', C w → Below w.heap.size w w' → C w')
    (hop : ∀ i o, ops[i]? = some o → i < m → ∀ u w, C w → (∀ s ∈ o.looksAt ops, b s = true → V s w (u s)) → ∀ K' : Act → World → Prop,
      (∀ v w', (∀ s, o.dst = some s → V s w' v) → Below w.heap.size w w' → K' ((over b u a0).put o.dst v) w') →
      if Region.wanted o (yielded ops (over b u a0).tmps) = true then Oper.wpIn F n P o (over b u a0) w K' Q else (∀ f, o.about P w (over b u a0).eval = some f → F.fn f) ∧ K' ((over b u a0).put o.dst undef) w)
    (hlast : ∀ o, ops[m]? = some o → ∀ u w, C w → (∀ i o' s, i < m → ops[i]? = some o' → o'.dst = some s → V s w (u s)) → ∀ K' : Act → World → Prop,
      (∀ a' w', wpAnyIn F n P md ops Q (ops.size - (m + 1)) (upTo ops.size (m + 1)) a' w' → K' a' w') →
      if Region.wanted o (yielded ops (over b u a0).tmps) = true then Oper.wpIn F n P o (over b u a0) w K' Q else (∀ f, o.about P w (over b u a0).eval = some f → F.fn f) ∧ K' ((over b u a0).put o.dst undef) w)
    (w : World) (h0 : C w) : wpAnyIn F n P md ops Q ops.size (Array.replicate ops.size false) a0 w := by
  have main : ∀ fuel listed a w, Up md ops m b a0 V C listed a w → cntF listed = fuel → wpAnyIn F n P md ops Q fuel listed a w := by
    intro fuel
    induction fuel with
    | zero =>
      intro listed a w hu hc
      have := cntF_set listed _ (hu.un m (Nat.le_refl _) hm)
      omega
    | succ fuel ih =>
      intro listed a w hu hc
      refine ⟨fun hr => absurd hr (ready_some hdep hu.sz m hm (hu.un m (Nat.le_refl _) hm)), fun i hi => ?_⟩
      obtain ⟨hun, o, ho, hall⟩ := mem_ready.1 hi
      have hil := lt_of_get ho
      have hcn := cntF_set listed i hun
      have hsi : i < listed.size := by rw [hu.sz]; exact hil
      obtain ⟨u, rfl, hux⟩ := hu.ex
      by_cases hlt : i < m
      · have hk : ∀ s ∈ o.looksAt ops, b s = true → V s w (u s) := fun s hs hb => by
          obtain ⟨j, oj, hj, hoj, hds, e, he, hon, hbd⟩ := (depsB_spec hdep ho).2 (by omega) s hs hb
          refine hux j oj s hj hoj hds ?_
          rw [getD_tf _ _ (by have := hu.sz; omega), ← hon]
          exact hall e he hbd
        refine wpOpIn_step ho fun K' hK' => hop i o ho hlt u w hu.c hk K' fun v w' hv hb => hK' _ _ (ih _ _ _ ?_ (by omega))
        refine ⟨by rw [Array.size_setIfInBounds]; exact hu.sz, fun k hk1 hk2 => ?_, ?_, hC _ _ hu.c hb, ?_⟩
        · rw [getD_put _ _ _ _ hsi, if_neg (by omega)]; exact hu.un k hk1 hk2
        · cases hds : o.dst with
          | none =>
            refine ⟨u, rfl, fun j oj s hj hoj hs hl => ?_⟩
            rw [getD_put _ _ _ _ hsi] at hl
            by_cases hij : i = j
            · subst hij
              rw [ho] at hoj
              cases hoj
              rw [hds] at hs
              cases hs
            · rw [if_neg hij] at hl
              exact hV _ _ _ _ (hux j oj s hj hoj hs hl) hb
          | some d =>
            refine ⟨_, over_put (dstB_spec hdst ho hds), fun j oj s hj hoj hs hl => ?_⟩
            by_cases hsd : s = d
            · subst hsd
              rw [if_pos rfl]
              exact hv s hds
            · rw [if_neg hsd]
              rw [getD_put _ _ _ _ hsi] at hl
              by_cases hij : i = j
              · subst hij
                rw [ho] at hoj
                cases hoj
                rw [hds] at hs
                exact absurd (Option.some.inj hs).symm hsd
              · rw [if_neg hij] at hl
                exact hV _ _ _ _ (hux j oj s hj hoj hs hl) hb
        · intro j oj e hoj hl he hbd
          rw [getD_put _ _ _ _ hsi] at hl ⊢
          by_cases hie : i = e.on
          · rw [if_pos hie]
          · rw [if_neg hie]
            by_cases hij : i = j
            · subst hij
              rw [ho] at hoj
              cases hoj
              exact hall e he hbd
            · rw [if_neg hij] at hl
              exact hu.dn j oj e hoj hl he hbd
      · have him : i = m := by
          rcases Nat.lt_or_ge m i with h | h
          · exfalso
            obtain ⟨e, he, hon, hbd⟩ := depdB_tail hdpd h ho
            have h1 := hall e he hbd
            have h2 := hu.un e.on (by omega) (by omega)
            rw [getD_tf _ _ (by have := hu.sz; omega), h1] at h2
            cases h2
          · omega
        subst him
        have hal := all_listed hdpd hm hu.sz hu.dn (fun o' ho' => by rw [ho] at ho'; cases ho'; exact hall)
        have hls : listed.setIfInBounds i true = upTo ops.size (i + 1) := by
          refine upTo_eq (by rw [Array.size_setIfInBounds]; exact hu.sz) (fun k hk1 hk2 => ?_) (fun k hk1 hk2 => ?_)
          · rw [getD_put _ _ _ _ hsi]
            by_cases hik : i = k
            · rw [if_pos hik]
            · rw [if_neg hik]; exact hal (i - k) k (by omega) (by omega)
          · rw [getD_put _ _ _ _ hsi, if_neg (by omega)]; exact hu.un k (by omega) hk2
        have hfu : fuel = ops.size - (i + 1) := by
          have h1 : cntF (listed.setIfInBounds i true) = fuel := by omega
          rw [← h1, hls]
          unfold cntF upTo
          have : ∀ n k, k ≤ n → ((List.range n).map fun i => decide (i < k)).count false = n - k := by
            intro n k hk
            induction n with
            | zero => simp
            | succ n ihn =>
              rw [List.range_succ, List.map_append, List.count_append]
              by_cases hkn : k ≤ n
              · rw [ihn hkn]; simp [show ¬ n < k by omega]; omega
              · have : k = n + 1 := by omega
                subst this
                have h0 : ((List.range n).map fun i => decide (i < n + 1)).count false = 0 := by
                  rw [List.count_eq_zero]
                  intro hc
                  obtain ⟨x, hx, h2⟩ := List.mem_map.1 hc
                  have := List.mem_range.1 hx
                  simp at h2
                  omega
                rw [h0]; simp
          rw [this _ _ (by omega)]
        refine wpOpIn_step ho fun K' hK' => hlast o ho u w hu.c (fun j oj s hj hoj hs => hux j oj s hj hoj hs (hal (i - j) j (by omega) (by omega))) K' fun a' w' hq => hK' _ _ ?_
        rw [hls, hfu]
        exact hq
  refine main _ _ _ _ ⟨by simp, fun i _ hi => ?_, ⟨_, over_self b a0, fun i o s hi ho _ hl => ?_⟩, h0, fun i o e ho hl _ _ => ?_⟩ ?_
  · simp [Array.getD_eq_getD_getElem?, hi]
  · simp [Array.getD_eq_getD_getElem?, lt_of_get ho] at hl
  · simp [Array.getD_eq_getD_getElem?, lt_of_get ho] at hl
  · simp [cntF]

/-- What one of the first operations owes. -/
def OpOwes (F : Fence) (n : Nat) (P : Program) (ops : Array Oper) (Q : Exit → Act → World → Prop) (b : Nat → Bool) (a0 : Act) (V : Nat → World → Value → Prop) (C : World → Prop) (o : Oper) : Prop :=
  ∀ u w, C w → (∀ s ∈ o.looksAt ops, b s = true → V s w (u s)) → ∀ K' : Act → World → Prop, (∀ v w', (∀ s, o.dst = some s → V s w' v) → Below w.heap.size w w' → K' ((over b u a0).put o.dst v) w') →
    if Region.wanted o (yielded ops (over b u a0).tmps) = true then Oper.wpIn F n P o (over b u a0) w K' Q else (∀ f, o.about P w (over b u a0).eval = some f → F.fn f) ∧ K' ((over b u a0).put o.dst undef) w
/-- One by one. -/
def Ops (F : Fence) (n : Nat) (P : Program) (ops : Array Oper) (Q : Exit → Act → World → Prop) (b : Nat → Bool) (a0 : Act) (V : Nat → World → Value → Prop) (C : World → Prop) : Nat → List Oper → Prop
  | _, [] => True
  | 0, _ => True
  | m + 1, o :: l => OpOwes F n P ops Q b a0 V C o ∧ Ops F n P ops Q b a0 V C m l
theorem Ops.at {b : Nat → Bool} {a0 : Act} {V : Nat → World → Value → Prop} {C : World → Prop} : ∀ (m : Nat) (l : List Oper), Ops F n P ops Q b a0 V C m l → ∀ i o, l[i]? = some o → i < m → OpOwes F n P ops Q b a0 V C o
  | _, [], _, i, o, h, _ => by simp at h
  | 0, _ :: _, _, i, o, _, hi => by omega
  | m + 1, x :: l, hO, 0, o, h, _ => by
    simp at h
    subst h
    exact hO.1
  | m + 1, x :: l, hO, i + 1, o, h, hi => Ops.at m l hO.2 i o (by simpa using h) (by omega)

/-- A REGION THAT DRAWS, in whatever fence, in a round or not: the first m operations in whatever order, then the others one behind the other. -/
theorem region_vals {id : Nat} {a : Act} {w : World} {l : List Oper} (m : Nat) (b : Nat → Bool) (V : Nat → World → Value → Prop) (C : World → Prop) (hmx : P.follows .mixedOrders = true) (hm : m < l.length) (hdst : dstB l.toArray b = true) (hdep : depsB .any l.toArray m b = true) (hdpd : depdB .any l.toArray m = true)
    (hV : ∀ s w w' v, V s w v → Below w.heap.size w w' → V s w' v) (hC : ∀ w w', C w → Below w.heap.size w w' → C w') (h0 : C w.drew)
    (h : Ops F n P l.toArray Q b a V C m l)
    (hlast : ∀ o, l[m]? = some o → ∀ u w, C w → (∀ s ∈ (l.take m).filterMap (·.dst), V s w (u s)) → ∀ K' : Act → World → Prop,
      (∀ a' w', wpAnyIn F n P .any l.toArray Q (l.length - (m + 1)) (upTo l.length (m + 1)) a' w' → K' a' w') →
      if Region.wanted o (yielded l.toArray (over b u a).tmps) = true then Oper.wpIn F n P o (over b u a) w K' Q else (∀ f, o.about P w (over b u a).eval = some f → F.fn f) ∧ K' ((over b u a).put o.dst undef) w) :
    (Code.region id l.toArray true).wpIn F n P Q a w := by
  refine wpIn_region_any hmx (any_vals m b a V C (by simpa using hm) hdst hdep hdpd hV hC (fun i o ho hi => Ops.at m l h i o (by simpa using ho) hi) (fun o ho u w hc hv K' hK' => hlast o (by simpa using ho) u w hc (fun s hs => ?_) K' (by simpa using hK')) _ h0)
  obtain ⟨o', ho', hs⟩ := List.mem_filterMap.1 hs
  obtain ⟨i, hi, rfl⟩ := List.getElem_of_mem ho'
  rw [List.length_take] at hi
  refine hv i _ s (by omega) ?_ hs
  rw [List.getElem_take]
  simp

theorem want_plain {a : Act} {w : World} {o : Oper} {y : Nat → Option Bool} {K : Act → World → Prop} {X : Prop} (hg : o.guard = none) (h : Oper.wpIn F n P o a w K Q) : if Region.wanted o y = true then Oper.wpIn F n P o a w K Q else X := by
  rw [if_pos (by unfold Region.wanted; rw [hg])]
  exact h
theorem want_yes {a : Act} {w : World} {o : Oper} {y : Nat → Option Bool} {K : Act → World → Prop} {X : Prop} {g : Nat} {c : Bool} (hg : o.guard = some (g, c)) (hy : y g = some c) (h : Oper.wpIn F n P o a w K Q) : if Region.wanted o y = true then Oper.wpIn F n P o a w K Q else X := by
  rw [if_pos (by unfold Region.wanted; rw [hg]; simp [hy])]
  exact h
theorem want_no {a : Act} {w : World} {o : Oper} {y : Nat → Option Bool} {K : Act → World → Prop} {X : Prop} {g : Nat} {c : Bool} (hg : o.guard = some (g, c)) (hy : y g ≠ some c) (h : X) : if Region.wanted o y = true then Oper.wpIn F n P o a w K Q else X := by
  rw [if_neg (by unfold Region.wanted; rw [hg]; simpa using hy)]
  exact h

/-- The next of the others. -/
theorem any_next {a : Act} {w : World} {listed : Array Bool} {fuel : Nat} (i : Nat) (o : Oper) (hr : Region.ready md ops listed = [i]) (ho : ops[i]? = some o)
    (h : ∀ K' : Act → World → Prop, (∀ a' w', wpAnyIn F n P md ops Q fuel (listed.setIfInBounds i true) a' w' → K' a' w') →
      if Region.wanted o (yielded ops a.tmps) = true then Oper.wpIn F n P o a w K' Q else (∀ f, o.about P w a.eval = some f → F.fn f) ∧ K' (a.put o.dst undef) w) : wpAnyIn F n P md ops Q (fuel + 1) listed a w :=
  wpAnyIn_ready hr (by simp) (AllReadyIn.cons ho (fun K' hK' => h K' hK') AllReadyIn.nil)

end Go.Proofs.Ytckagmagjogmnaa

namespace Go.Proofs.Ytckagmagjogmnaa
open Go Go.RowKit

def edgeB (md : Region.Mode) (ops : Array Oper) (i j : Nat) : Bool := match ops[i]? with
  | none => false
  | some o => o.after.any fun e => e.on == j && Region.binds md e
/-- Whoever looks at a slot waits for who writes it; one waits for earlier ones alone. -/
def lookB (md : Region.Mode) (ops : Array Oper) (b : Nat → Bool) : Bool :=
  (List.range ops.size).all fun i => match ops[i]? with
    | none => true
    | some o => (o.after.all fun e => !Region.binds md e || decide (e.on < i)) && (o.looksAt ops).all fun s => !b s || (List.range ops.size).any fun j => ((ops[j]?.bind (·.dst)) == some s) && edgeB md ops i j
/-- The writers wait for each other; each of the others is waited for by the stage that it bears. -/
def spineB (md : Region.Mode) (ops : Array Oper) (free : List (Nat × Nat)) (sp : List Nat) : Bool :=
  (List.range (sp.length - 1)).all (fun p => edgeB md ops (sp.getD (p + 1) 0) (sp.getD p 0)) && decide sp.Nodup && sp.all (fun i => decide (i < ops.size)) &&
  (List.range ops.size).all (fun i => sp.contains i || free.any fun x => x.1 == i) && free.all (fun x => !sp.contains x.1) &&
  free.all fun x => decide (sp.length ≤ x.2) || (List.range ops.size).any fun i => decide (x.1 < i) && edgeB md ops i x.1 &&
    ((List.range (x.2 + 1)).any (fun p => sp[p]? == some i) || free.any fun y => y.1 == i && decide (y.2 ≤ x.2))

variable {F : Fence} {n : Nat} {P : Program} {ops : Array Oper} {Q : Exit → Act → World → Prop} {md : Region.Mode}

theorem edgeB_spec {i j : Nat} (h : edgeB md ops i j = true) : ∃ o, ops[i]? = some o ∧ ∃ e ∈ o.after, e.on = j ∧ Region.binds md e = true := by
  unfold edgeB at h
  cases ho : ops[i]? with
  | none => rw [ho] at h; cases h
  | some o =>
    rw [ho] at h
    simp only [Array.any_eq_true'] at h
    obtain ⟨e, he, h8⟩ := h
    simp only [Bool.and_eq_true, beq_iff_eq] at h8
    exact ⟨o, rfl, e, he, h8.1, h8.2⟩
theorem lookB_spec {b : Nat → Bool} (h : lookB md ops b = true) {i : Nat} {o : Oper} (ho : ops[i]? = some o) :
    (∀ e ∈ o.after, Region.binds md e = true → e.on < i) ∧ ∀ s ∈ o.looksAt ops, b s = true → ∃ j oj, ops[j]? = some oj ∧ oj.dst = some s ∧ ∃ e ∈ o.after, e.on = j ∧ Region.binds md e = true := by
  unfold lookB at h
  have h1 := List.all_eq_true.1 h i (List.mem_range.2 (lt_of_get ho))
  rw [ho] at h1
  simp only [Bool.and_eq_true] at h1
  obtain ⟨h1, h2⟩ := h1
  refine ⟨fun e he hbd => ?_, fun s hs hb => ?_⟩
  · rw [Array.all_eq_true'] at h1
    have h9 := h1 e he
    rw [hbd] at h9
    simpa using h9
  · have h3 := List.all_eq_true.1 h2 s hs
    simp only [hb, Bool.not_true, Bool.false_or] at h3
    obtain ⟨j, _, h4⟩ := List.any_eq_true.1 h3
    simp only [Bool.and_eq_true, beq_iff_eq] at h4
    obtain ⟨h6, h7⟩ := h4
    obtain ⟨o', ho', he⟩ := edgeB_spec h7
    rw [ho] at ho'
    cases ho'
    cases hoj : ops[j]? with
    | none => rw [hoj] at h6; simp at h6
    | some oj => rw [hoj] at h6; exact ⟨j, oj, hoj, by simpa using h6, he⟩

structure Spine (md : Region.Mode) (ops : Array Oper) (free : List (Nat × Nat)) (sp : List Nat) : Prop where
  chain : ∀ p i j, sp[p + 1]? = some i → sp[p]? = some j → edgeB md ops i j = true
  nodup : sp.Nodup
  inb : ∀ i ∈ sp, i < ops.size
  cover : ∀ i, i < ops.size → i ∈ sp ∨ ∃ l, (i, l) ∈ free
  apart : ∀ i l, (i, l) ∈ free → i ∉ sp
  level : ∀ j l, (j, l) ∈ free → sp.length ≤ l ∨ ∃ i, j < i ∧ i < ops.size ∧ edgeB md ops i j = true ∧ ((∃ p, p ≤ l ∧ sp[p]? = some i) ∨ ∃ l', (i, l') ∈ free ∧ l' ≤ l)
theorem spineB_spec {free : List (Nat × Nat)} {sp : List Nat} (h : spineB md ops free sp = true) : Spine md ops free sp := by
  unfold spineB at h
  simp only [Bool.and_eq_true] at h
  obtain ⟨⟨⟨⟨⟨h1, h2⟩, h0⟩, h3⟩, h4⟩, h5⟩ := h
  refine ⟨fun p i j hi hj => ?_, of_decide_eq_true h2, fun i hi => of_decide_eq_true (List.all_eq_true.1 h0 i hi), fun i hi => ?_, fun i l hi hs => ?_, fun j l hj => ?_⟩
  · have hp := (List.getElem?_eq_some_iff.1 hi).1
    have := List.all_eq_true.1 h1 p (List.mem_range.2 (by omega))
    rwa [List.getD_eq_getElem?_getD, List.getD_eq_getElem?_getD, hi, hj] at this
  · have := List.all_eq_true.1 h3 i (List.mem_range.2 hi)
    rw [Bool.or_eq_true, List.contains_iff_mem, List.any_eq_true] at this
    rcases this with h | ⟨x, hx, he⟩
    · exact .inl h
    · have he' : x.1 = i := by simpa using he
      exact .inr ⟨x.2, by rw [← he']; exact hx⟩
  · have := List.all_eq_true.1 h4 (i, l) hi
    simp only [Bool.not_eq_true', ← Bool.not_eq_true, List.contains_iff_mem] at this
    exact this hs
  · have := List.all_eq_true.1 h5 (j, l) hj
    rw [Bool.or_eq_true, decide_eq_true_eq, List.any_eq_true] at this
    rcases this with h | ⟨i, hi, h6⟩
    · exact .inl h
    · simp only [Bool.and_eq_true, decide_eq_true_eq, Bool.or_eq_true, List.any_eq_true] at h6
      obtain ⟨⟨h7, h8⟩, h9⟩ := h6
      refine .inr ⟨i, h7, List.mem_range.1 hi, h8, ?_⟩
      rcases h9 with ⟨p, hp, he⟩ | ⟨y, hy, he⟩
      · exact .inl ⟨p, by have := List.mem_range.1 hp; omega, by simpa using he⟩
      · have he1 : y.1 = i := by simpa using he.1
        exact .inr ⟨y.2, by rw [← he1]; exact hy, he.2⟩

/-- What holds at a stage, whichever of the others have come up. -/
structure At (md : Region.Mode) (ops : Array Oper) (sp : List Nat) (b : Nat → Bool) (a0 : Act) (V : Nat → Nat → World → Value → Prop) (C : Nat → World → Prop) (p : Nat) (listed : Array Bool) (a : Act) (w : World) : Prop where
  sz : listed.size = ops.size
  le : p ≤ sp.length
  st : ∀ k i, sp[k]? = some i → (listed.getD i true = true ↔ k < p)
  ex : ∃ u, a = over b u a0 ∧ ∀ i o s, ops[i]? = some o → o.dst = some s → listed.getD i true = true → V p s w (u s)
  c : C p w
  dn : ∀ i o e, ops[i]? = some o → listed.getD i true = true → e ∈ o.after → Region.binds md e = true → listed.getD e.on false = true

theorem level_listed {free : List (Nat × Nat)} {sp : List Nat} (S : Spine md ops free sp) {listed : Array Bool} {p : Nat} (hsz : listed.size = ops.size) (hle : p ≤ sp.length)
    (st : ∀ k i, sp[k]? = some i → (listed.getD i true = true ↔ k < p)) (dn : ∀ i o e, ops[i]? = some o → listed.getD i true = true → e ∈ o.after → Region.binds md e = true → listed.getD e.on false = true) :
    ∀ m j l, (j, l) ∈ free → j + m = ops.size → l < p → listed.getD j true = true := by
  intro m
  induction m using Nat.strongRecOn with
  | ind m ih =>
    intro j l hj hm hl
    rcases S.level j l hj with h | ⟨i, hji, his, he, h⟩
    · omega
    · obtain ⟨o, ho, e, hea, hon, hbd⟩ := edgeB_spec he
      have hi : listed.getD i true = true := by
        rcases h with ⟨k, hk, hs⟩ | ⟨l', hl', hle'⟩
        · exact (st k i hs).2 (by omega)
        · exact ih (ops.size - i) (by omega) i l' hl' (by omega) (by omega)
      have := dn i o e ho hi hea hbd
      rw [hon] at this
      rw [getD_tf _ _ (by omega)]
      exact this

/-- What one that writes nothing owes, at a stage. -/
def OwesF (F : Fence) (n : Nat) (P : Program) (ops : Array Oper) (Q : Exit → Act → World → Prop) (b : Nat → Bool) (a0 : Act) (V : Nat → Nat → World → Value → Prop) (C : Nat → World → Prop) (p : Nat) (o : Oper) : Prop :=
  ∀ u w, C p w → (∀ s ∈ o.looksAt ops, b s = true → V p s w (u s)) → ∀ K' : Act → World → Prop, (∀ v w', (∀ s, o.dst = some s → V p s w' v) → Below w.heap.size w w' → K' ((over b u a0).put o.dst v) w') →
    if Region.wanted o (yielded ops (over b u a0).tmps) = true then Oper.wpIn F n P o (over b u a0) w K' Q else (∀ f, o.about P w (over b u a0).eval = some f → F.fn f) ∧ K' ((over b u a0).put o.dst undef) w
/-- What one that writes owes: it leads from a stage to the next. -/
def OwesS (F : Fence) (n : Nat) (P : Program) (ops : Array Oper) (Q : Exit → Act → World → Prop) (b : Nat → Bool) (a0 : Act) (V : Nat → Nat → World → Value → Prop) (C : Nat → World → Prop) (p : Nat) (o : Oper) : Prop :=
  ∀ u w, C p w → (∀ s ∈ o.looksAt ops, b s = true → V p s w (u s)) → ∀ K' : Act → World → Prop, (∀ v w', (∀ s, o.dst = some s → V (p + 1) s w' v) → C (p + 1) w' → (∀ s, V p s w (u s) → V (p + 1) s w' (u s)) → K' ((over b u a0).put o.dst v) w') →
    if Region.wanted o (yielded ops (over b u a0).tmps) = true then Oper.wpIn F n P o (over b u a0) w K' Q else (∀ f, o.about P w (over b u a0).eval = some f → F.fn f) ∧ K' ((over b u a0).put o.dst undef) w

/-- WHATEVER ORDER IS PICKED. -/
theorem any_spine {free : List (Nat × Nat)} {sp : List Nat} (b : Nat → Bool) (a0 : Act) (V : Nat → Nat → World → Value → Prop) (C : Nat → World → Prop) (S : Spine md ops free sp) (hdst : dstB ops b = true) (hlook : lookB md ops b = true)
    (hV : ∀ p s w w' v, V p s w v → Below w.heap.size w w' → V p s w' v) (hC : ∀ p w w', C p w → Below w.heap.size w w' → C p w')
    (hfree : ∀ i l o, (i, l) ∈ free → ops[i]? = some o → ∀ p, p ≤ l → p ≤ sp.length → OwesF F n P ops Q b a0 V C p o)
    (hsp : ∀ p i o, sp[p]? = some i → ops[i]? = some o → OwesS F n P ops Q b a0 V C p o)
    (hend : ∀ u w, C sp.length w → (∀ (i : Nat) (o : Oper) (s : Nat), ops[i]? = some o → o.dst = some s → V sp.length s w (u s)) → Q .normal (over b u a0) w)
    (w : World) (h0 : C 0 w) : wpAnyIn F n P md ops Q ops.size (Array.replicate ops.size false) a0 w := by
  have hready : ∀ {listed : Array Bool}, listed.size = ops.size → ∀ k, k < ops.size → listed.getD k true = false → Region.ready md ops listed ≠ [] := by
    intro listed hsz k
    induction k using Nat.strongRecOn with
    | ind k ih =>
      intro hk hun hr
      obtain ⟨o, ho⟩ : ∃ o, ops[k]? = some o := ⟨_, Array.getElem?_eq_getElem hk⟩
      have hlt := (lookB_spec hlook ho).1
      by_cases hall : ∀ e ∈ o.after, Region.binds md e = true → listed.getD e.on false = true
      · have := mem_ready.2 ⟨hun, o, ho, hall⟩
        rw [hr] at this
        cases this
      · simp only [Classical.not_forall] at hall
        obtain ⟨e, he, hbd, hno⟩ := hall
        have hl := hlt e he hbd
        refine ih e.on hl (by omega) ?_ hr
        rw [getD_tf _ _ (by omega)]
        simpa using hno
  have hfin : ∀ p listed a w, At md ops sp b a0 V C p listed a w → Region.ready md ops listed = [] → Q .normal a w := by
    intro p listed a w hu hr
    have hall : ∀ k, k < ops.size → listed.getD k true = true := fun k hk => by
      cases h : listed.getD k true with
      | true => rfl
      | false => exact absurd hr (hready hu.sz k hk h)
    have hp : p = sp.length := by
      rcases Nat.lt_or_ge p sp.length with h | h
      · obtain ⟨i, hi⟩ : ∃ i, sp[p]? = some i := ⟨_, List.getElem?_eq_getElem h⟩
        have h2 := (hu.st p i hi)
        by_cases his : i < ops.size
        · have := h2.1 (hall i his); omega
        · have h3 : listed.getD i true = true := by
            have := hu.sz
            simp [Array.getD_eq_getD_getElem?, Array.getElem?_eq_none (show listed.size ≤ i by omega)]
          have := h2.1 h3; omega
      · have := hu.le; omega
    subst hp
    obtain ⟨u, rfl, hux⟩ := hu.ex
    exact hend u w hu.c (fun i o s ho hs => hux i o s ho hs (hall i (lt_of_get ho)))
  have main : ∀ fuel p listed a w, At md ops sp b a0 V C p listed a w → cntF listed = fuel → wpAnyIn F n P md ops Q fuel listed a w := by
    intro fuel
    induction fuel with
    | zero =>
      intro p listed a w hu hc
      have hr : Region.ready md ops listed = [] := List.eq_nil_iff_forall_not_mem.2 fun i hi => by
        have := cntF_set listed i (mem_ready.1 hi).1
        omega
      exact ⟨hr, hfin p listed a w hu hr⟩
    | succ fuel ih =>
      intro p listed a w hu hc
      refine ⟨hfin p listed a w hu, fun i hi => ?_⟩
      obtain ⟨hun, o, ho, hall⟩ := mem_ready.1 hi
      have hil := lt_of_get ho
      have hcn := cntF_set listed i hun
      have hsi : i < listed.size := by rw [hu.sz]; exact hil
      obtain ⟨u, rfl, hux⟩ := hu.ex
      have hk : ∀ s ∈ o.looksAt ops, b s = true → V p s w (u s) := fun s hs hb => by
        obtain ⟨j, oj, hoj, hds, e, he, hon, hbd⟩ := (lookB_spec hlook ho).2 s hs hb
        refine hux j oj s hoj hds ?_
        rw [getD_tf _ _ (by have := hu.sz; have := lt_of_get hoj; omega), ← hon]
        exact hall e he hbd
      have hdn : ∀ j oj e, ops[j]? = some oj → (listed.setIfInBounds i true).getD j true = true → e ∈ oj.after → Region.binds md e = true → (listed.setIfInBounds i true).getD e.on false = true := by
        intro j oj e hoj hl he hbd
        rw [getD_put _ _ _ _ hsi] at hl ⊢
        by_cases hie : i = e.on
        · rw [if_pos hie]
        · rw [if_neg hie]
          by_cases hij : i = j
          · subst hij
            rw [ho] at hoj
            cases hoj
            exact hall e he hbd
          · rw [if_neg hij] at hl
            exact hu.dn j oj e hoj hl he hbd
      have hnew : ∀ (p' : Nat) (w' : World) (v : Value), (∀ s, o.dst = some s → V p' s w' v) → (∀ s, V p s w (u s) → V p' s w' (u s)) → ∃ u', (over b u a0).put o.dst v = over b u' a0 ∧ ∀ j oj s, ops[j]? = some oj → oj.dst = some s → (listed.setIfInBounds i true).getD j true = true → V p' s w' (u' s) := by
        intro p' w' v hv hstep
        have old : ∀ j oj s, ops[j]? = some oj → oj.dst = some s → (listed.setIfInBounds i true).getD j true = true → i ≠ j → V p' s w' (u s) := fun j oj s hoj hs hl hij => by
          rw [getD_put _ _ _ _ hsi, if_neg hij] at hl
          exact hstep _ (hux j oj s hoj hs hl)
        cases hds : o.dst with
        | none =>
          refine ⟨u, rfl, fun j oj s hoj hs hl => ?_⟩
          by_cases hij : i = j
          · subst hij
            rw [ho] at hoj
            cases hoj
            rw [hds] at hs
            cases hs
          · exact old j oj s hoj hs hl hij
        | some d =>
          refine ⟨_, over_put (dstB_spec hdst ho hds), fun j oj s hoj hs hl => ?_⟩
          by_cases hsd : s = d
          · subst hsd
            rw [if_pos rfl]
            exact hv s hds
          · rw [if_neg hsd]
            by_cases hij : i = j
            · subst hij
              rw [ho] at hoj
              cases hoj
              rw [hds] at hs
              exact absurd (Option.some.inj hs).symm hsd
            · exact old j oj s hoj hs hl hij
      rcases S.cover i hil with his | ⟨l, hl⟩
      · obtain ⟨k, hks⟩ := List.mem_iff_getElem?.1 his
        have hkp : k = p := by
          have h1 : ¬ k < p := fun h => by have := (hu.st k i hks).2 h; rw [hun] at this; cases this
          cases k with
          | zero => omega
          | succ k =>
            obtain ⟨j, hj⟩ : ∃ j, sp[k]? = some j := ⟨_, List.getElem?_eq_getElem (by have := (List.getElem?_eq_some_iff.1 hks).1; omega)⟩
            obtain ⟨o', ho', e, he, hon, hbd⟩ := edgeB_spec (S.chain k i j hks hj)
            rw [ho] at ho'
            cases ho'
            have h2 := hall e he hbd
            rw [hon] at h2
            have h3 : listed.getD j true = true := by
              by_cases hjs : j < listed.size
              · rw [getD_tf _ _ hjs]; exact h2
              · simp [Array.getD_eq_getD_getElem?, Array.getElem?_eq_none (show listed.size ≤ j by omega)]
            have := (hu.st k j hj).1 h3
            omega
        subst hkp
        have hkl := (List.getElem?_eq_some_iff.1 hks).1
        refine wpOpIn_step ho fun K' hK' => hsp k i o hks ho u w hu.c hk K' fun v w' hv hc' hstep => hK' _ _ (ih (k + 1) _ _ _ ?_ (by omega))
        refine ⟨by rw [Array.size_setIfInBounds]; exact hu.sz, by omega, fun k' i' hk' => ?_, hnew (k + 1) w' v hv hstep, hc', hdn⟩
        rw [getD_put _ _ _ _ hsi]
        by_cases hii : i = i'
        · subst hii
          rw [if_pos rfl]
          have : k' = k := (List.getElem?_inj (by exact (List.getElem?_eq_some_iff.1 hk').1) S.nodup).1 (hk'.trans hks.symm)
          simp [this]
        · rw [if_neg hii, hu.st k' i' hk']
          have : k' ≠ k := fun e => by subst e; rw [hks] at hk'; exact hii (Option.some.inj hk')
          omega
      · have hpl : p ≤ l := by
          rcases Nat.lt_or_ge l p with h | h
          · have := level_listed S hu.sz hu.le hu.st hu.dn (ops.size - i) i l hl (by omega) h
            rw [hun] at this
            cases this
          · exact h
        refine wpOpIn_step ho fun K' hK' => hfree i l o hl ho p hpl hu.le u w hu.c hk K' fun v w' hv hb => hK' _ _ (ih p _ _ _ ?_ (by omega))
        refine ⟨by rw [Array.size_setIfInBounds]; exact hu.sz, hu.le, fun k' i' hk' => ?_, hnew p w' v hv (fun s hx => hV _ _ _ _ _ hx hb), hC _ _ _ hu.c hb, hdn⟩
        rw [getD_put _ _ _ _ hsi]
        by_cases hii : i = i'
        · subst hii
          exact absurd (List.mem_of_getElem? hk') (S.apart i l hl)
        · rw [if_neg hii]
          exact hu.st k' i' hk'
  refine main _ 0 _ _ _ ⟨by simp, Nat.zero_le _, fun k i hk => ?_, ⟨_, over_self b a0, fun i o s ho _ hl => ?_⟩, h0, fun i o e ho hl _ _ => ?_⟩ ?_
  · have := S.inb i (List.mem_of_getElem? hk)
    simp [Array.getD_eq_getD_getElem?, this]
  · simp [Array.getD_eq_getD_getElem?, lt_of_get ho] at hl
  · simp [Array.getD_eq_getD_getElem?, lt_of_get ho] at hl
  · simp [cntF]

/-- What those that write nothing owe, one by one; what the others owe. -/
def OwesFs (F : Fence) (n : Nat) (P : Program) (ops : Array Oper) (Q : Exit → Act → World → Prop) (b : Nat → Bool) (a0 : Act) (V : Nat → Nat → World → Value → Prop) (C : Nat → World → Prop) (q : Nat) : List (Nat × Nat) → Prop
  | [] => True
  | (i, l) :: r => (∀ o, ops[i]? = some o → ∀ p, p ≤ l → p ≤ q → OwesF F n P ops Q b a0 V C p o) ∧ OwesFs F n P ops Q b a0 V C q r
def OwesSs (F : Fence) (n : Nat) (P : Program) (ops : Array Oper) (Q : Exit → Act → World → Prop) (b : Nat → Bool) (a0 : Act) (V : Nat → Nat → World → Value → Prop) (C : Nat → World → Prop) : Nat → List Nat → Prop
  | _, [] => True
  | p, i :: r => (∀ o, ops[i]? = some o → OwesS F n P ops Q b a0 V C p o) ∧ OwesSs F n P ops Q b a0 V C (p + 1) r
theorem OwesFs.mem {b : Nat → Bool} {a0 : Act} {V : Nat → Nat → World → Value → Prop} {C : Nat → World → Prop} {q : Nat} : ∀ {free : List (Nat × Nat)}, OwesFs F n P ops Q b a0 V C q free → ∀ i l o, (i, l) ∈ free → ops[i]? = some o → ∀ p, p ≤ l → p ≤ q → OwesF F n P ops Q b a0 V C p o
  | [], _, i, l, o, h, _, _, _, _ => by cases h
  | (j, m) :: r, hO, i, l, o, h, ho, p, h1, h2 => by
    rcases List.mem_cons.1 h with e | h
    · cases e
      exact hO.1 o ho p h1 h2
    · exact OwesFs.mem hO.2 i l o h ho p h1 h2
theorem OwesSs.at {b : Nat → Bool} {a0 : Act} {V : Nat → Nat → World → Value → Prop} {C : Nat → World → Prop} : ∀ {sp : List Nat} {k : Nat}, OwesSs F n P ops Q b a0 V C k sp → ∀ p i o, sp[p]? = some i → ops[i]? = some o → OwesS F n P ops Q b a0 V C (k + p) o
  | [], _, _, p, i, o, h, _ => by simp at h
  | j :: r, k, hO, 0, i, o, h, ho => by
    simp at h
    subst h
    exact hO.1 o ho
  | j :: r, k, hO, p + 1, i, o, h, ho => by
    have := OwesSs.at hO.2 p i o (by simpa using h) ho
    rwa [show k + 1 + p = k + (p + 1) by omega] at this

/-- A REGION THAT DRAWS, BY STAGES. -/
theorem region_spine {id : Nat} {a : Act} {w : World} {l : List Oper} (free : List (Nat × Nat)) (sp : List Nat) (b : Nat → Bool) (V : Nat → Nat → World → Value → Prop) (C : Nat → World → Prop) (hmx : P.follows .mixedOrders = true) (hS : spineB .any l.toArray free sp = true) (hdst : dstB l.toArray b = true) (hlook : lookB .any l.toArray b = true)
    (hV : ∀ p s w w' v, V p s w v → Below w.heap.size w w' → V p s w' v) (hC : ∀ p w w', C p w → Below w.heap.size w w' → C p w') (h0 : C 0 w.drew)
    (hfree : OwesFs F n P l.toArray Q b a V C sp.length free) (hsp : OwesSs F n P l.toArray Q b a V C 0 sp)
    (hend : ∀ u w, C sp.length w → (∀ s ∈ l.filterMap (·.dst), V sp.length s w (u s)) → Q .normal (over b u a) w) : (Code.region id l.toArray true).wpIn F n P Q a w :=
  wpIn_region_any hmx (any_spine b a V C (spineB_spec hS) hdst hlook hV hC (fun i m o hi ho p h1 h2 => hfree.mem i m o hi ho p h1 h2) (fun p i o hi ho => by have := hsp.at p i o hi ho; rwa [Nat.zero_add] at this)
    (fun u w hc hv => hend u w hc fun s hs => by
      obtain ⟨o, ho, hd⟩ := List.mem_filterMap.1 hs
      obtain ⟨i, hi, rfl⟩ := List.getElem_of_mem ho
      exact hv i _ s (by simp) hd) _ h0)

end Go.Proofs.Ytckagmagjogmnaa

namespace Go.Proofs.Ytckagmagjogmnaa
open Go Go.RowKit

def upd (u : Nat → Value) (d : Option Nat) (v : Value) : Nat → Value := match d with
  | some s => fun j => if j = s then v else u j
  | none => u

variable {F : Fence} {n : Nat} {P : Program} {ops : Array Oper} {Q : Exit → Act → World → Prop} {md : Region.Mode}

/-- What holds at a stage, whichever of the others have come up. -/
structure AtU (md : Region.Mode) (ops : Array Oper) (sp : List Nat) (b : Nat → Bool) (a0 : Act) (V : Nat → Nat → World → (Nat → Value) → Prop) (C : Nat → World → (Nat → Value) → Prop) (p : Nat) (listed : Array Bool) (a : Act) (w : World) : Prop where
  sz : listed.size = ops.size
  le : p ≤ sp.length
  st : ∀ k i, sp[k]? = some i → (listed.getD i true = true ↔ k < p)
  ex : ∃ u, a = over b u a0 ∧ (∀ i o s, ops[i]? = some o → o.dst = some s → listed.getD i true = true → V p s w u) ∧ C p w u
  dn : ∀ i o e, ops[i]? = some o → listed.getD i true = true → e ∈ o.after → Region.binds md e = true → listed.getD e.on false = true

/-- What one owes, at a stage. -/
def OwesU (F : Fence) (n : Nat) (P : Program) (ops : Array Oper) (Q : Exit → Act → World → Prop) (b : Nat → Bool) (a0 : Act) (V : Nat → Nat → World → (Nat → Value) → Prop) (C : Nat → World → (Nat → Value) → Prop) (p q : Nat) (o : Oper) : Prop :=
  ∀ u w, C p w u → (∀ s ∈ o.looksAt ops, b s = true → V p s w u) → ∀ K' : Act → World → Prop, (∀ v w', (∀ s, o.dst = some s → V q s w' (upd u o.dst v)) → (∀ s, o.dst ≠ some s → V p s w u → V q s w' (upd u o.dst v)) → C q w' (upd u o.dst v) → K' ((over b u a0).put o.dst v) w') →
    if Region.wanted o (yielded ops (over b u a0).tmps) = true then Oper.wpIn F n P o (over b u a0) w K' Q else (∀ f, o.about P w (over b u a0).eval = some f → F.fn f) ∧ K' ((over b u a0).put o.dst undef) w

/-- WHATEVER ORDER IS PICKED. -/
theorem any_spineU {free : List (Nat × Nat)} {sp : List Nat} (b : Nat → Bool) (a0 : Act) (V : Nat → Nat → World → (Nat → Value) → Prop) (C : Nat → World → (Nat → Value) → Prop) (S : Spine md ops free sp) (hdst : dstB ops b = true) (hlook : lookB md ops b = true)
    (hfree : ∀ i l o, (i, l) ∈ free → ops[i]? = some o → ∀ p, p ≤ l → p ≤ sp.length → OwesU F n P ops Q b a0 V C p p o)
    (hsp : ∀ p i o, sp[p]? = some i → ops[i]? = some o → OwesU F n P ops Q b a0 V C p (p + 1) o)
    (hend : ∀ u w, C sp.length w u → (∀ (i : Nat) (o : Oper) (s : Nat), ops[i]? = some o → o.dst = some s → V sp.length s w u) → Q .normal (over b u a0) w)
    (w : World) (h0 : C 0 w (fun s => (a0.tmps[s]?).getD undef)) : wpAnyIn F n P md ops Q ops.size (Array.replicate ops.size false) a0 w := by
  have hready : ∀ {listed : Array Bool}, listed.size = ops.size → ∀ k, k < ops.size → listed.getD k true = false → Region.ready md ops listed ≠ [] := by
    intro listed hsz k
    induction k using Nat.strongRecOn with
    | ind k ih =>
      intro hk hun hr
      obtain ⟨o, ho⟩ : ∃ o, ops[k]? = some o := ⟨_, Array.getElem?_eq_getElem hk⟩
      have hlt := (lookB_spec hlook ho).1
      by_cases hall : ∀ e ∈ o.after, Region.binds md e = true → listed.getD e.on false = true
      · have := mem_ready.2 ⟨hun, o, ho, hall⟩
        rw [hr] at this
        cases this
      · simp only [Classical.not_forall] at hall
        obtain ⟨e, he, hbd, hno⟩ := hall
        have hl := hlt e he hbd
        refine ih e.on hl (by omega) ?_ hr
        rw [getD_tf _ _ (by omega)]
        simpa using hno
  have hfin : ∀ p listed a w, AtU md ops sp b a0 V C p listed a w → Region.ready md ops listed = [] → Q .normal a w := by
    intro p listed a w hu hr
    have hall : ∀ k, k < ops.size → listed.getD k true = true := fun k hk => by
      cases h : listed.getD k true with
      | true => rfl
      | false => exact absurd hr (hready hu.sz k hk h)
    have hp : p = sp.length := by
      rcases Nat.lt_or_ge p sp.length with h | h
      · obtain ⟨i, hi⟩ : ∃ i, sp[p]? = some i := ⟨_, List.getElem?_eq_getElem h⟩
        have h2 := (hu.st p i hi)
        by_cases his : i < ops.size
        · have := h2.1 (hall i his); omega
        · have h3 : listed.getD i true = true := by
            have := hu.sz
            simp [Array.getD_eq_getD_getElem?, Array.getElem?_eq_none (show listed.size ≤ i by omega)]
          have := h2.1 h3; omega
      · have := hu.le; omega
    subst hp
    obtain ⟨u, rfl, hux, huc⟩ := hu.ex
    exact hend u w huc (fun i o s ho hs => hux i o s ho hs (hall i (lt_of_get ho)))
  have main : ∀ fuel p listed a w, AtU md ops sp b a0 V C p listed a w → cntF listed = fuel → wpAnyIn F n P md ops Q fuel listed a w := by
    intro fuel
    induction fuel with
    | zero =>
      intro p listed a w hu hc
      have hr : Region.ready md ops listed = [] := List.eq_nil_iff_forall_not_mem.2 fun i hi => by
        have := cntF_set listed i (mem_ready.1 hi).1
        omega
      exact ⟨hr, hfin p listed a w hu hr⟩
    | succ fuel ih =>
      intro p listed a w hu hc
      refine ⟨hfin p listed a w hu, fun i hi => ?_⟩
      obtain ⟨hun, o, ho, hall⟩ := mem_ready.1 hi
      have hil := lt_of_get ho
      have hcn := cntF_set listed i hun
      have hsi : i < listed.size := by rw [hu.sz]; exact hil
      obtain ⟨u, rfl, hux, huc⟩ := hu.ex
      have hk : ∀ s ∈ o.looksAt ops, b s = true → V p s w u := fun s hs hb => by
        obtain ⟨j, oj, hoj, hds, e, he, hon, hbd⟩ := (lookB_spec hlook ho).2 s hs hb
        refine hux j oj s hoj hds ?_
        rw [getD_tf _ _ (by have := hu.sz; have := lt_of_get hoj; omega), ← hon]
        exact hall e he hbd
      have hdn : ∀ j oj e, ops[j]? = some oj → (listed.setIfInBounds i true).getD j true = true → e ∈ oj.after → Region.binds md e = true → (listed.setIfInBounds i true).getD e.on false = true := by
        intro j oj e hoj hl he hbd
        rw [getD_put _ _ _ _ hsi] at hl ⊢
        by_cases hie : i = e.on
        · rw [if_pos hie]
        · rw [if_neg hie]
          by_cases hij : i = j
          · subst hij
            rw [ho] at hoj
            cases hoj
            exact hall e he hbd
          · rw [if_neg hij] at hl
            exact hu.dn j oj e hoj hl he hbd
      have hnew : ∀ (p' : Nat) (w' : World) (v : Value), (∀ s, o.dst = some s → V p' s w' (upd u o.dst v)) → (∀ s, o.dst ≠ some s → V p s w u → V p' s w' (upd u o.dst v)) → C p' w' (upd u o.dst v) → ∃ u', (over b u a0).put o.dst v = over b u' a0 ∧ (∀ j oj s, ops[j]? = some oj → oj.dst = some s → (listed.setIfInBounds i true).getD j true = true → V p' s w' u') ∧ C p' w' u' := by
        intro p' w' v hv hstep hc
        refine ⟨upd u o.dst v, ?_, fun j oj s hoj hs hl => ?_, hc⟩
        · cases hds : o.dst with
          | none => rfl
          | some d => exact over_put (dstB_spec hdst ho hds)
        · by_cases hsd : o.dst = some s
          · exact hv s hsd
          · refine hstep s hsd (hux j oj s hoj hs ?_)
            rw [getD_put _ _ _ _ hsi] at hl
            by_cases hij : i = j
            · subst hij
              rw [ho] at hoj
              cases hoj
              exact absurd hs hsd
            · rwa [if_neg hij] at hl
      rcases S.cover i hil with his | ⟨l, hl⟩
      · obtain ⟨k, hks⟩ := List.mem_iff_getElem?.1 his
        have hkp : k = p := by
          have h1 : ¬ k < p := fun h => by have := (hu.st k i hks).2 h; rw [hun] at this; cases this
          cases k with
          | zero => omega
          | succ k =>
            obtain ⟨j, hj⟩ : ∃ j, sp[k]? = some j := ⟨_, List.getElem?_eq_getElem (by have := (List.getElem?_eq_some_iff.1 hks).1; omega)⟩
            obtain ⟨o', ho', e, he, hon, hbd⟩ := edgeB_spec (S.chain k i j hks hj)
            rw [ho] at ho'
            cases ho'
            have h2 := hall e he hbd
            rw [hon] at h2
            have h3 : listed.getD j true = true := by
              by_cases hjs : j < listed.size
              · rw [getD_tf _ _ hjs]; exact h2
              · simp [Array.getD_eq_getD_getElem?, Array.getElem?_eq_none (show listed.size ≤ j by omega)]
            have := (hu.st k j hj).1 h3
            omega
        subst hkp
        have hkl := (List.getElem?_eq_some_iff.1 hks).1
        refine wpOpIn_step ho fun K' hK' => hsp k i o hks ho u w huc hk K' fun v w' hv hstep hc' => hK' _ _ (ih (k + 1) _ _ _ ?_ (by omega))
        refine ⟨by rw [Array.size_setIfInBounds]; exact hu.sz, by omega, fun k' i' hk' => ?_, hnew (k + 1) w' v hv hstep hc', hdn⟩
        rw [getD_put _ _ _ _ hsi]
        by_cases hii : i = i'
        · subst hii
          rw [if_pos rfl]
          have : k' = k := (List.getElem?_inj (by exact (List.getElem?_eq_some_iff.1 hk').1) S.nodup).1 (hk'.trans hks.symm)
          simp [this]
        · rw [if_neg hii, hu.st k' i' hk']
          have : k' ≠ k := fun e => by subst e; rw [hks] at hk'; exact hii (Option.some.inj hk')
          omega
      · have hpl : p ≤ l := by
          rcases Nat.lt_or_ge l p with h | h
          · have := level_listed S hu.sz hu.le hu.st hu.dn (ops.size - i) i l hl (by omega) h
            rw [hun] at this
            cases this
          · exact h
        refine wpOpIn_step ho fun K' hK' => hfree i l o hl ho p hpl hu.le u w huc hk K' fun v w' hv hstep hc' => hK' _ _ (ih p _ _ _ ?_ (by omega))
        refine ⟨by rw [Array.size_setIfInBounds]; exact hu.sz, hu.le, fun k' i' hk' => ?_, hnew p w' v hv hstep hc', hdn⟩
        rw [getD_put _ _ _ _ hsi]
        by_cases hii : i = i'
        · subst hii
          exact absurd (List.mem_of_getElem? hk') (S.apart i l hl)
        · rw [if_neg hii]
          exact hu.st k' i' hk'
  refine main _ 0 _ _ _ ⟨by simp, Nat.zero_le _, fun k i hk => ?_, ⟨_, over_self b a0, fun i o s ho _ hl => ?_, h0⟩, fun i o e ho hl _ _ => ?_⟩ ?_
  · have := S.inb i (List.mem_of_getElem? hk)
    simp [Array.getD_eq_getD_getElem?, this]
  · simp [Array.getD_eq_getD_getElem?, lt_of_get ho] at hl
  · simp [Array.getD_eq_getD_getElem?, lt_of_get ho] at hl
  · simp [cntF]


end Go.Proofs.Ytckagmagjogmnaa

namespace Go.Proofs.Ytckagmagjogmnaa
open Go Go.RowKit

/-- A box: its slot, the slot that is stored into it, its type and zero cells, the operation that makes it, by which stage, the one that stores. -/
structure Bx where
  slot : Nat
  src : Nat
  ty : TypeId
  zero : Array Value
  at' : Nat
  lev : Nat
  st : Nat

/-- The cells of a value. -/
def vcells : Value → Array Value
  | .agg a => a
  | v => #[v]
abbrev ptrTo (b : Nat) : Value := .pointer (some ⟨b, 0, none⟩)
theorem ptrTo_inj {a b : Nat} (h : ptrTo a = ptrTo b) : a = b := by injection h with h; injection h with h; injection h
/-- The blocks that are no boxes. -/
def Out (bs : List Bx) (u : Nat → Value) (b : Nat) : Prop := ∀ x ∈ bs, u x.slot ≠ ptrTo b

def boxB (ops : Array Oper) (free : List (Nat × Nat)) (bs : List Bx) : Bool :=
  (free.all fun y => match ops[y.1]? with
    | none => true
    | some o => (List.range bs.length).all fun k => match bs[k]? with
      | none => true
      | some x => !(o.dst == some x.slot) && (!(o.dst == some x.src) || decide (y.2 ≤ k)) && (o.looksAt ops).all (fun s => !(s == x.slot))) &&
  ((List.range bs.length).all fun k => match bs[k]? with
    | none => true
    | some x => decide (x.lev ≤ k) && (bs.all fun y => !(x.src == y.slot)) && (match ops[x.at']? with | none => true | some o => o.dst == some x.slot) &&
      (match ops[x.st]? with | none => true | some o => o.dst == none && (o.looksAt ops).contains x.slot && (o.looksAt ops).contains x.src)) && decide (bs.map (·.slot)).Nodup
def nopB (a : Act) (bs : List Bx) : Bool := bs.all fun x => match (a.tmps[x.slot]?).getD undef with
  | .pointer _ => false
  | _ => true

def VB (V : Nat → World → (Nat → Prop) → Value → Prop) (W : World) (bs : List Bx) (p s : Nat) (w : World) (u : Nat → Value) : Prop :=
  (∀ k x, bs[k]? = some x → x.slot = s → ∃ n, u s = ptrTo n ∧ W.heap.size ≤ n ∧ Blk w n x.ty (if k < p then vcells (u x.src) else x.zero)) ∧ ((∀ x ∈ bs, x.slot ≠ s) → V s w (Out bs u) (u s))
structure CB (W : World) (bs : List Bx) (w : World) (u : Nat → Value) : Prop where
  bel : Below W.heap.size W w
  old : ∀ x ∈ bs, ∀ n, u x.slot = ptrTo n → n < w.heap.size
  dis : ∀ (k k' : Nat) (x y : Bx), bs[k]? = some x → bs[k']? = some y → k ≠ k' → ∀ n, u x.slot = ptrTo n → u y.slot ≠ ptrTo n

variable {F : Fence} {n : Nat} {P : Program} {ops : Array Oper} {Q : Exit → Act → World → Prop} {md : Region.Mode}

/-- What one that reads or calls owes. -/
def OwesV (F : Fence) (n : Nat) (P : Program) (ops : Array Oper) (Q : Exit → Act → World → Prop) (b : Nat → Bool) (a0 : Act) (V : Nat → World → (Nat → Prop) → Value → Prop) (W : World) (o : Oper) : Prop :=
  ∀ (u : Nat → Value) (ok : Nat → Prop) (w : World), Below W.heap.size W w → (∀ s ∈ o.looksAt ops, b s = true → V s w ok (u s)) → ∀ K' : Act → World → Prop, (∀ v w', (∀ s, o.dst = some s → V s w' (fun m => w.heap.size ≤ m ∨ ok m) v) → Below w.heap.size w w' → K' ((over b u a0).put o.dst v) w') →
    if Region.wanted o (yielded ops (over b u a0).tmps) = true then Oper.wpIn F n P o (over b u a0) w K' Q else (∀ f, o.about P w (over b u a0).eval = some f → F.fn f) ∧ K' ((over b u a0).put o.dst undef) w
def OwesVs (F : Fence) (n : Nat) (P : Program) (ops : Array Oper) (Q : Exit → Act → World → Prop) (b : Nat → Bool) (a0 : Act) (V : Nat → World → (Nat → Prop) → Value → Prop) (W : World) : List (Nat × Nat) → Prop
  | [] => True
  | (i, _) :: r => (∀ o, ops[i]? = some o → OwesV F n P ops Q b a0 V W o) ∧ OwesVs F n P ops Q b a0 V W r
/-- What one that makes a box owes. -/
def OwesA (F : Fence) (n : Nat) (P : Program) (ops : Array Oper) (Q : Exit → Act → World → Prop) (b : Nat → Bool) (a0 : Act) (x : Bx) (o : Oper) : Prop :=
  ∀ (u : Nat → Value) (w : World) (K' : Act → World → Prop), K' ((over b u a0).put o.dst (ptrTo w.heap.size)) (w.alloc (.cells x.zero x.ty)) →
    if Region.wanted o (yielded ops (over b u a0).tmps) = true then Oper.wpIn F n P o (over b u a0) w K' Q else (∀ f, o.about P w (over b u a0).eval = some f → F.fn f) ∧ K' ((over b u a0).put o.dst undef) w
/-- What one that fills a box owes. -/
def OwesT (F : Fence) (n : Nat) (P : Program) (ops : Array Oper) (Q : Exit → Act → World → Prop) (b : Nat → Bool) (a0 : Act) (V : Nat → World → (Nat → Prop) → Value → Prop) (x : Bx) (o : Oper) : Prop :=
  ∀ (u : Nat → Value) (ok : Nat → Prop) (w : World) (m : Nat), u x.slot = ptrTo m → Blk w m x.ty x.zero → V x.src w ok (u x.src) → ∀ K' : Act → World → Prop, (∀ w', Blk w' m x.ty (vcells (u x.src)) → Only [m] w w' → K' (over b u a0) w') →
    if Region.wanted o (yielded ops (over b u a0).tmps) = true then Oper.wpIn F n P o (over b u a0) w K' Q else (∀ f, o.about P w (over b u a0).eval = some f → F.fn f) ∧ K' ((over b u a0).put o.dst undef) w
def OwesBs (F : Fence) (n : Nat) (P : Program) (ops : Array Oper) (Q : Exit → Act → World → Prop) (b : Nat → Bool) (a0 : Act) (V : Nat → World → (Nat → Prop) → Value → Prop) : List Bx → Prop
  | [] => True
  | x :: r => ((∀ o, ops[x.at']? = some o → OwesA F n P ops Q b a0 x o) ∧ (∀ o, ops[x.st]? = some o → OwesT F n P ops Q b a0 V x o)) ∧ OwesBs F n P ops Q b a0 V r
theorem OwesVs.mem {b : Nat → Bool} {a0 : Act} {V : Nat → World → (Nat → Prop) → Value → Prop} {W : World} : ∀ {free : List (Nat × Nat)}, OwesVs F n P ops Q b a0 V W free → ∀ i l o, (i, l) ∈ free → ops[i]? = some o → OwesV F n P ops Q b a0 V W o
  | [], _, i, l, o, h, _ => by cases h
  | (j, m) :: r, hO, i, l, o, h, ho => by
    rcases List.mem_cons.1 h with e | h
    · cases e
      exact hO.1 o ho
    · exact OwesVs.mem hO.2 i l o h ho
theorem OwesBs.mem {b : Nat → Bool} {a0 : Act} {V : Nat → World → (Nat → Prop) → Value → Prop} : ∀ {bs : List Bx}, OwesBs F n P ops Q b a0 V bs → ∀ x ∈ bs, (∀ o, ops[x.at']? = some o → OwesA F n P ops Q b a0 x o) ∧ (∀ o, ops[x.st]? = some o → OwesT F n P ops Q b a0 V x o)
  | [], _, x, h => by cases h
  | y :: r, hO, x, h => by
    rcases List.mem_cons.1 h with e | h
    · subst e
      exact hO.1
    · exact OwesBs.mem hO.2 x h

theorem box_free {free : List (Nat × Nat)} {bs : List Bx} (h : boxB ops free bs = true) {i l : Nat} {o : Oper} (hi : (i, l) ∈ free) (ho : ops[i]? = some o) {k : Nat} {x : Bx} (hx : bs[k]? = some x) :
    o.dst ≠ some x.slot ∧ (o.dst = some x.src → l ≤ k) ∧ ∀ s ∈ o.looksAt ops, s ≠ x.slot := by
  unfold boxB at h
  rw [Bool.and_eq_true, Bool.and_eq_true] at h
  have h1 := List.all_eq_true.1 h.1.1 (i, l) hi
  simp only [ho] at h1
  have h2 := List.all_eq_true.1 h1 k (List.mem_range.2 (List.getElem?_eq_some_iff.1 hx).1)
  simp only [hx, Bool.and_eq_true] at h2
  obtain ⟨⟨h3, h4⟩, h5⟩ := h2
  refine ⟨fun e => by rw [e] at h3; simp at h3, fun e => ?_, fun s hs e => ?_⟩
  · rw [e] at h4
    simpa using h4
  · have := List.all_eq_true.1 h5 s hs
    rw [e] at this
    simp at this
theorem box_of {free : List (Nat × Nat)} {bs : List Bx} (h : boxB ops free bs = true) {k : Nat} {x : Bx} (hx : bs[k]? = some x) :
    x.lev ≤ k ∧ (∀ y ∈ bs, x.src ≠ y.slot) ∧ (∀ o, ops[x.at']? = some o → o.dst = some x.slot) ∧ ∀ o, ops[x.st]? = some o → o.dst = none ∧ x.slot ∈ o.looksAt ops ∧ x.src ∈ o.looksAt ops := by
  unfold boxB at h
  rw [Bool.and_eq_true, Bool.and_eq_true] at h
  have h1 := List.all_eq_true.1 h.1.2 k (List.mem_range.2 (List.getElem?_eq_some_iff.1 hx).1)
  simp only [hx, Bool.and_eq_true, decide_eq_true_eq] at h1
  obtain ⟨⟨⟨h2, h3⟩, h4⟩, h5⟩ := h1
  refine ⟨h2, fun y hy e => ?_, fun o ho => ?_, fun o ho => ?_⟩
  · have := List.all_eq_true.1 h3 y hy
    rw [e] at this
    simp at this
  · rw [ho] at h4
    simpa using h4
  · rw [ho] at h5
    simp only [Bool.and_eq_true, List.contains_iff_mem, beq_iff_eq] at h5
    exact ⟨h5.1.1, h5.1.2, h5.2⟩

theorem box_inj {free : List (Nat × Nat)} {bs : List Bx} (h : boxB ops free bs = true) {k k' : Nat} {x y : Bx} (hx : bs[k]? = some x) (hy : bs[k']? = some y) (e : x.slot = y.slot) : k = k' := by
  unfold boxB at h
  rw [Bool.and_eq_true, decide_eq_true_eq] at h
  refine (List.getElem?_inj (l := bs.map (·.slot)) (by rw [List.length_map]; exact (List.getElem?_eq_some_iff.1 hx).1) h.2).1 ?_
  rw [List.getElem?_map, List.getElem?_map, hx, hy]
  exact congrArg some e

theorem upd_some (u : Nat → Value) (d : Nat) (v : Value) (j : Nat) : upd u (some d) v j = if j = d then v else u j := rfl

/-- A REGION THAT DRAWS, WITH BOXES. -/
theorem region_boxes {id : Nat} {a : Act} {w : World} {l : List Oper} (free : List (Nat × Nat)) (bs : List Bx) (b : Nat → Bool) (V : Nat → World → (Nat → Prop) → Value → Prop) (hmx : P.follows .mixedOrders = true)
    (hS : spineB .any l.toArray (free ++ bs.map fun x => (x.at', x.lev)) (bs.map (·.st)) = true) (hdst : dstB l.toArray b = true) (hlook : lookB .any l.toArray b = true) (hbox : boxB l.toArray free bs = true) (hbs : (bs.all fun x => b x.slot && b x.src) = true) (hnop : nopB a bs = true)
    (hV : ∀ s w w' (ok ok' : Nat → Prop) v, V s w ok v → w.heap.size ≤ w'.heap.size → (∀ m, m < w.heap.size → ok m → w'.heap[m]? = w.heap[m]? ∧ ok' m) → V s w' ok' v)
    (hfree : OwesVs F n P l.toArray Q b a V w free) (hbx : OwesBs F n P l.toArray Q b a V bs)
    (hend : ∀ u w', Below w.heap.size w w' → (∀ s ∈ l.filterMap (·.dst), (∀ x ∈ bs, x.slot ≠ s) → V s w' (Out bs u) (u s)) → (∀ x ∈ bs, ∃ m, u x.slot = ptrTo m ∧ w.heap.size ≤ m ∧ Blk w' m x.ty (vcells (u x.src))) → Q .normal (over b u a) w') :
    (Code.region id l.toArray true).wpIn F n P Q a w := by
  have hS' := spineB_spec hS
  have hst : ∀ (k i : Nat), (bs.map (fun y : Bx => y.st))[k]? = some i → ∃ x, bs[k]? = some x ∧ x.st = i := fun k i h => by
    rw [List.getElem?_map] at h
    exact Option.map_eq_some_iff.1 h
  refine wpIn_region_any hmx (any_spineU b a (VB V w bs) (fun _ => CB w bs) hS' hdst hlook ?_ ?_ ?_ _ ?_)
  · intro i lv o hi ho p hpl _ u w1 hc hk K' hK
    rcases List.mem_append.1 hi with hi | hi
    · have hx := fun {k : Nat} {x : Bx} (h : bs[k]? = some x) => box_free hbox hi ho h
      have hnb : ∀ x ∈ bs, o.dst ≠ some x.slot := fun x hm => by obtain ⟨k, hk9⟩ := List.getElem?_of_mem hm; exact (hx hk9).1
      have hupd : ∀ v, ∀ x ∈ bs, upd u o.dst v x.slot = u x.slot := fun v x hm => by
        cases hd : o.dst with
        | none => rfl
        | some d => rw [upd_some, if_neg (fun e => hnb x hm (by rw [hd, e]))]
      refine hfree.mem i lv o hi ho u (Out bs u) w1 hc.bel (fun s hs hb => (hk s hs hb).2 fun x hm e => by
        obtain ⟨k, hk9⟩ := List.getElem?_of_mem hm
        exact (hx hk9).2.2 s hs e.symm) K' fun v w' hv hB => hK v w' (fun s hs => ⟨fun k x hxk e => absurd (by rw [hs, e]) (hnb x (List.mem_of_getElem? hxk)), fun _ => ?_⟩) (fun s hs hvb => ⟨fun k x hxk e => ?_, fun hno => ?_⟩) ⟨hc.bel.trans (hB.mono hc.bel.size), fun x hm m hm2 => ?_, fun k k' x y h1 h2 h3 m hm2 => ?_⟩
      · have e1 : upd u o.dst v s = v := by rw [hs, upd_some, if_pos rfl]
        rw [e1]
        refine hV s w' w' _ _ v (hv s hs) (Nat.le_refl _) (fun m hm ho => ⟨rfl, fun x hx9 => ?_⟩)
        rw [hupd v x hx9]
        rcases ho with ho | ho
        · intro e
          have := hc.old x hx9 m e
          omega
        · exact ho x hx9
      · obtain ⟨m, h1, h2, h3⟩ := hvb.1 k x hxk e
        have hne : o.dst ≠ some s := hs
        have e1 : ∀ j, o.dst ≠ some j → upd u o.dst v j = u j := fun j hj => by
          cases hd : o.dst with
          | none => rfl
          | some d => rw [upd_some, if_neg (fun e => hj (by rw [hd, e]))]
        refine ⟨m, by rw [e1 s hne]; exact h1, h2, ?_⟩
        have h4 := h3.below hB h3.lt
        by_cases hkp : k < p
        · rw [if_pos hkp] at h4 ⊢
          rw [e1 x.src (fun e9 => by have := (hx hxk).2.1 e9; omega)]
          exact h4
        · rw [if_neg hkp] at h4 ⊢
          exact h4
      · have e1 : upd u o.dst v s = u s := by
          cases hd : o.dst with
          | none => rfl
          | some d => rw [upd_some, if_neg (fun e => hs (by rw [hd, e]))]
        rw [e1]
        refine hV s w1 w' _ _ _ (hvb.2 hno) hB.size (fun m hm ho => ⟨hB.block m hm, fun x hx9 => ?_⟩)
        rw [hupd v x hx9]
        exact ho x hx9
      · rw [hupd v x hm] at hm2
        have := hc.old x hm m hm2
        have := hB.size
        omega
      · rw [hupd v x (List.mem_of_getElem? h1)] at hm2
        rw [hupd v y (List.mem_of_getElem? h2)]
        exact hc.dis k k' x y h1 h2 h3 m hm2
    · obtain ⟨x, hxm, hxe⟩ := List.mem_map.1 hi
      have hxi : x.at' = i := congrArg Prod.fst hxe
      have hxl : x.lev = lv := congrArg Prod.snd hxe
      subst hxi
      subst hxl
      obtain ⟨k0, hk0⟩ := List.getElem?_of_mem hxm
      obtain ⟨hlev, hsrc, hat, _⟩ := box_of hbox hk0
      have hd := hat o ho
      have hB : Below w1.heap.size w1 (w1.alloc (.cells x.zero x.ty)) := (Below.refl _ _).alloc (Nat.le_refl _) _
      have hsz : (w1.alloc (.cells x.zero x.ty)).heap.size = w1.heap.size + 1 := by simp
      refine (hbx.mem x hxm).1 o ho u w1 K' (hK _ _ (fun s hs => ⟨fun k y hyk e => ?_, fun hno => ?_⟩) (fun s hs hvb => ⟨fun k y hyk e => ?_, fun hno => ?_⟩) ⟨hc.bel.trans (hB.mono hc.bel.size), fun y hm m hm2 => ?_, fun k k' y z h1 h2 h3 m hm2 => ?_⟩)
      · rw [hd] at hs ⊢
        cases hs
        rw [upd_some, if_pos rfl]
        have hyx : k = k0 ∨ k ≠ k0 := by omega
        rcases hyx with rfl | hne
        · rw [hk0] at hyk
          cases hyk
          refine ⟨w1.heap.size, rfl, hc.bel.size, ?_⟩
          rw [if_neg (by omega)]
          exact Blk.new w1 _ _
        · exfalso
          exact hne (box_inj hbox hyk hk0 e)
      · rw [hd] at hs
        cases hs
        exact absurd rfl (hno x hxm)
      · rw [hd] at hs ⊢
        have hsx : s ≠ x.slot := fun e9 => hs (by rw [e9])
        obtain ⟨m, h1, h2, h3⟩ := hvb.1 k y hyk e
        refine ⟨m, by rw [upd_some, if_neg hsx]; exact h1, h2, ?_⟩
        have h4 := h3.below hB h3.lt
        by_cases hkp : k < p
        · rw [if_pos hkp] at h4 ⊢
          rw [upd_some, if_neg ((box_of hbox hyk).2.1 x hxm)]
          exact h4
        · rw [if_neg hkp] at h4 ⊢
          exact h4
      · rw [hd] at hs ⊢
        have hsx : s ≠ x.slot := fun e9 => hs (by rw [e9])
        rw [upd_some, if_neg hsx]
        refine hV s w1 _ _ _ _ (hvb.2 hno) hB.size (fun m hm ho => ⟨hB.block m hm, fun y hy => ?_⟩)
        rw [upd_some]
        by_cases hyx : y.slot = x.slot
        · rw [if_pos hyx]
          intro e9
          have := ptrTo_inj e9
          omega
        · rw [if_neg hyx]
          exact ho y hy
      · rw [hd, upd_some] at hm2
        by_cases hyx : y.slot = x.slot
        · rw [if_pos hyx] at hm2
          have := ptrTo_inj hm2
          omega
        · rw [if_neg hyx] at hm2
          have := hc.old y hm m hm2
          omega
      · rw [hd, upd_some] at hm2
        rw [hd, upd_some]
        by_cases hyx : y.slot = x.slot
        · rw [if_pos hyx] at hm2
          have hmm := ptrTo_inj hm2
          by_cases hzx : z.slot = x.slot
          · exact absurd (box_inj hbox h1 h2 (hyx.trans hzx.symm)) h3
          · rw [if_neg hzx]
            intro e9
            have := hc.old z (List.mem_of_getElem? h2) m e9
            omega
        · rw [if_neg hyx] at hm2
          by_cases hzx : z.slot = x.slot
          · rw [if_pos hzx]
            intro e9
            have := ptrTo_inj e9
            have := hc.old y (List.mem_of_getElem? h1) m hm2
            omega
          · rw [if_neg hzx]
            exact hc.dis k k' y z h1 h2 h3 m hm2
  · intro p i o hi ho u w1 hc hk K' hK
    obtain ⟨x, hx, rfl⟩ := hst p i hi
    have hxm := List.mem_of_getElem? hx
    obtain ⟨_, hsrc, _, hso⟩ := box_of hbox hx
    obtain ⟨hd, hl1, hl2⟩ := hso o ho
    have hbx9 := List.all_eq_true.1 hbs x hxm
    rw [Bool.and_eq_true] at hbx9
    have q1 := hk x.slot hl1 hbx9.1
    have q2 := hk x.src hl2 hbx9.2
    obtain ⟨m, h1, h2, h3⟩ := q1.1 p x hx rfl
    rw [if_neg (by omega)] at h3
    have q3 := q2.2 fun y hy e => hsrc y hy e.symm
    have hput : ∀ v, (over b u a).put o.dst v = over b u a := fun v => by rw [hd]; rfl
    have hupd : ∀ v, upd u o.dst v = u := fun v => by rw [hd]; rfl
    have hK2 := fun w' => hK undef w'
    rw [hput] at hK2
    rw [hupd] at hK2
    refine (hbx.mem x hxm).2 o ho u (Out bs u) w1 m h1 h3 q3 K' fun w' hb hO => hK2 w' (fun s hs => by rw [hd] at hs; cases hs) (fun s _ hvb => ⟨fun k y hyk e => ?_, fun hno => ?_⟩) ⟨hc.bel.trans (hO.below hc.bel.size (fun k hk9 => by simp at hk9; omega)), fun y hy m' hm' => Nat.lt_of_lt_of_le (hc.old y hy m' hm') hO.size, hc.dis⟩
    · obtain ⟨m', g1, g2, g3⟩ := hvb.1 k y hyk e
      by_cases hkp : k = p
      · subst hkp
        rw [hx] at hyk
        cases hyk
        refine ⟨m, by rw [← e]; exact h1, h2, ?_⟩
        rw [if_pos (by omega)]
        exact hb
      · have hmm : m' ≠ m := fun e9 => by
          subst e9
          rw [← e] at g1
          exact hc.dis k p y x hyk hx hkp m' g1 h1
        refine ⟨m', g1, g2, ?_⟩
        have g4 := g3.only hO (by simp; omega)
        by_cases hk2 : k < p
        · rw [if_pos (by omega)]
          rw [if_pos hk2] at g4
          exact g4
        · rw [if_neg (by omega)]
          rw [if_neg hk2] at g4
          exact g4
    · refine hV s w1 w' _ _ _ (hvb.2 hno) hO.size (fun m' hm' ho => ⟨hO.block m' hm' ?_, ho⟩)
      simp only [List.mem_singleton]
      intro e9
      subst e9
      exact ho x hxm h1
  · intro u w' hc hv
    refine hend u w' hc.bel (fun s hs hno => ?_) (fun x hx => ?_)
    · obtain ⟨o, ho, hd⟩ := List.mem_filterMap.1 hs
      obtain ⟨i, hi, rfl⟩ := List.getElem_of_mem ho
      exact (hv i _ s (by simp) hd).2 hno
    · obtain ⟨k, hk⟩ := List.getElem?_of_mem hx
      have hkl := (List.getElem?_eq_some_iff.1 hk).1
      have hin := hS'.cover
      obtain ⟨o, ho⟩ : ∃ o, l.toArray[x.at']? = some o := by
        have hmem : (x.at', x.lev) ∈ free ++ bs.map fun x => (x.at', x.lev) := List.mem_append.2 (.inr (List.mem_map.2 ⟨x, hx, rfl⟩))
        rcases hS'.level _ _ hmem with h | ⟨i, h1, h2, _⟩
        · have := (box_of hbox hk).1
          simp at h
          omega
        · exact ⟨_, Array.getElem?_eq_getElem (by omega)⟩
      have hd := (box_of hbox hk).2.2.1 o ho
      obtain ⟨m, h1, h2, h3⟩ := (hv _ o _ ho hd).1 k x hk rfl
      rw [if_pos (by rw [List.length_map]; exact hkl)] at h3
      exact ⟨m, h1, h2, h3⟩
  · refine ⟨(Below.refl _ _).drew, fun x hx m hm => ?_, fun k k' x y h1 h2 h3 m hm => ?_⟩
    · have := List.all_eq_true.1 hnop x hx
      rw [hm] at this
      cases this
    · have := List.all_eq_true.1 hnop x (List.mem_of_getElem? h1)
      rw [hm] at this
      cases this

end Go.Proofs.Ytckagmagjogmnaa

