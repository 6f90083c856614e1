/-
  A region that draws its order, by what holds whichever of its operations have come up.
-/
import Derived.Test.YthcncdihgghbjaaEqual
namespace Go.Proofs.Ythcncdihgghbjaa
open Go Go.RowKit

def cntF (l : Array Bool) : Nat := l.toList.count false
theorem count_set (l : List Bool) (i : Nat) (h : l[i]? = some false) : (l.set i true).count false + 1 = l.count false := by
  induction l generalizing i with
  | nil => simp at h
  | cons x l ih =>
    cases i with
    | zero => simp at h; subst h; simp
    | succ i => simp at h; have := ih i h; simp [List.count_cons]; omega
theorem cntF_set (l : Array Bool) (i : Nat) (h : l.getD i true = false) : cntF (l.setIfInBounds i true) + 1 = cntF l := by
  unfold cntF
  rw [Array.toList_setIfInBounds]
  apply count_set
  rw [Array.getD_eq_getD_getElem?] at h
  rw [← Array.getElem?_toList] at h
  cases hg : l.toList[i]? with
  | none => rw [hg] at h; simp at h
  | some b => rw [hg] at h; simp at h; rw [h]

/-- WHATEVER ORDER IS PICKED: what holds behind each operation holds, up to the point that all but the last ones have come up. -/
theorem wpAny_stage {P : Program} {ops : Array Oper} {Q : Exit → Act → World → Prop} {md : Region.Mode} (I : Array Bool → Act → World → Prop) (fin : Array Bool)
    (hfin : ∀ a w, I fin a w → wpAny P md ops Q (cntF fin) fin a w)
    (hne : ∀ listed a w, I listed a w → listed ≠ fin → Region.ready md ops listed ≠ [])
    (hstep : ∀ listed a w, I listed a w → listed ≠ fin → ∀ i ∈ Region.ready md ops listed, wpOp P ops Q i (fun a' w' => I (listed.setIfInBounds i true) a' w') a w) :
    ∀ fuel listed a w, I listed a w → cntF listed = fuel → wpAny P md ops Q fuel listed a w := by
  intro fuel
  induction fuel with
  | zero =>
    intro listed a w hI hc
    by_cases hf : listed = fin
    · subst hf; rw [← hc]; exact hfin a w hI
    · exfalso
      obtain ⟨i, hi⟩ := List.exists_mem_of_ne_nil _ (hne listed a w hI hf)
      have := cntF_set listed i (mem_ready.1 hi).1
      omega
  | succ fuel ih =>
    intro listed a w hI hc
    by_cases hf : listed = fin
    · subst hf; rw [← hc]; exact hfin a w hI
    · refine ⟨fun h => absurd h (hne listed a w hI hf), fun i hi => ?_⟩
      have := cntF_set listed i (mem_ready.1 hi).1
      exact wpOp_mono (fun a' w' h => ih _ a' w' h (by omega)) (hstep listed a w hI hf i hi)

theorem wpOp_plain {P : Program} {ops : Array Oper} {Q : Exit → Act → World → Prop} {i : Nat} {K : Act → World → Prop} {a : Act} {w : World} (o : Oper) (ho : ops[i]? = some o) (hg : o.guard = none)
    (h : ∀ K' : Act → World → Prop, (∀ a w, K a w → K' a w) → Oper.wp P o a w K' Q) : wpOp P ops Q i K a w :=
  wpOp_step ho fun K' hK => by
    have hw : Region.wanted o (yielded ops a.tmps) = true := by unfold Region.wanted; rw [hg]
    rw [if_pos hw]
    exact h K' hK

theorem wpAny_one {P : Program} {ops : Array Oper} {Q : Exit → Act → World → Prop} {md : Region.Mode} {fuel : Nat} {listed : Array Bool} {a : Act} {w : World} (i : Nat) (o : Oper) (hr : Region.ready md ops listed = [i]) (ho : ops[i]? = some o) (hg : o.guard = none)
    (h : ∀ K' : Act → World → Prop, (∀ a w, wpAny P md ops Q fuel (listed.setIfInBounds i true) a w → K' a w) → Oper.wp P o a w K' Q) : wpAny P md ops Q (fuel + 1) listed a w :=
  ⟨fun h0 => (by rw [hr] at h0; cases h0), fun j hj => by
    rw [hr] at hj
    rw [List.mem_singleton.1 hj]
    exact wpOp_plain o ho hg h⟩

end Go.Proofs.Ythcncdihgghbjaa
