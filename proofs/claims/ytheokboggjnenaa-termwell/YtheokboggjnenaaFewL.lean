/-
  The contract of the law's Few: are these terms small enough?
-/
import Derived.Test.YtheokboggjnenaaFewT
import Derived.Test.YtheokboggjnenaaIsLong
import Derived.Test.YtheokboggjnenaaHoldT
import Derived.Test.YtheokboggjnenaaBlk
namespace Go.Proofs.Ytheokboggjnenaa
open Go Go.RowKit

def AllUpT (p : Tm → Bool) (ts : List Tm) (k : Nat) : Prop := ∀ i t, i < k → ts[i]? = some t → p t = true
theorem AllUpT.step {p : Tm → Bool} {ts : List Tm} {k : Nat} {u : Tm} (h : AllUpT p ts k) (hu : ts[k]? = some u) (hp : p u = true) : AllUpT p ts (k + 1) := by
  intro i t hi ht
  rcases Nat.lt_or_ge i k with hl | hl
  · exact h i t hl ht
  · obtain rfl : i = k := by omega
    rw [hu] at ht; cases ht; exact hp
theorem AllUpT.all {p : Tm → Bool} {ts : List Tm} (h : AllUpT p ts ts.length) : ts.all p = true := by
  rw [List.all_eq_true]
  intro t ht
  obtain ⟨i, hi⟩ := List.mem_iff_getElem?.1 ht
  exact h i t (List.getElem?_eq_some_iff.1 hi).1 hi

set_option maxRecDepth 100000 in
set_option maxHeartbeats 800000 in
theorem FewL_calls (ts : List Tm) (ok : Nat → Prop) (sl : Value) (w : World) (ha : HoldsT w ok ts sl) (hn : ts.length ≤ 1000) :
    Calls Try.prog 9 #[sl] w fun e w' => e = .returned (.bool (ts.all (fewTB 150 70))) ∧ Below w.heap.size w w' := by
  obtain ⟨a, cap, rfl, hcap, hat⟩ := ha.shape
  have HA : Hid _ := hat
  obtain ⟨r, hr⟩ : ∃ r, ts.all (fewTB 150 70) = r := ⟨_, rfl⟩
  have HR : Hid _ := hr
  rw [hr]
  obtain ⟨N, hN⟩ : ∃ N, w.heap.size = N := ⟨_, rfl⟩
  rw [hN]
  clear hat ha hr
  go_enter Try.func9, Try.ntmps9
  go_wp2
  go_loopw [3] (fun i wr => ∃ k : Nat, k ≤ ts.length ∧ i = .int .i64 k ∧ Hid (AllUpT (fewTB 150 70) ts k) ∧ Below N w wr) (fun i _ => ts.length - (intOf i).toNat)
  case atStart => exact ⟨0, Nat.zero_le _, rfl, fun _ _ h => by omega, Below.refl _ _⟩
  case round =>
    obtain ⟨k, hk, rfl, HF, hbl⟩ := hrel
    by_cases hlt : k < ts.length
    · obtain ⟨u, hu⟩ : ∃ u, ts[k]? = some u := ⟨_, List.getElem?_eq_getElem hlt⟩
      obtain ⟨g, o, s, r', rfl, _, hg, a0, a1, a2, a3, hs, hr'⟩ := HA.out k u hu
      rw [hN] at hg
      have q0 := (cat hbl hg).trans a0
      have q1 := (cat hbl hg).trans a1
      have q2 := (cat hbl hg).trans a2
      have q3 := (cat hbl hg).trans a3
      have y1 : (0 : Int) ≤ (k : Int) := by omega
      have y2 : (k : Int) < (ts.length : Int) := by omega
      have hcall := FewT_calls 150 (by omega) 70 (by omega) u ok s r' wr (hs.bel (by rw [hN]; exact hbl)) (hr'.bel (by rw [hN]; exact hbl))
      have HU : Hid (ts[k]? = some u) := hu
      obtain ⟨fb, hfb⟩ : ∃ fb, fewTB 150 70 u = fb := ⟨_, rfl⟩
      have HFB : Hid _ := hfb
      rw [hfb] at hcall
      clear a0 a1 a2 a3 hu hfb hs hr'
      go_wp2_with fail
      refine hcall.mono ?_
      rintro e w1 ⟨rfl, hb1⟩
      have B1 : Below N w w1 := hbl.trans (hb1.mono (by have := hbl.size; omega))
      cases fb with
      | false =>
        go_wp2
        go_ret
        refine ⟨ret_bool ?_, B1⟩
        rw [← HR.out]
        cases hb : ts.all (fewTB 150 70) with
        | false => rfl
        | true =>
          have := List.all_eq_true.1 hb u (List.mem_of_getElem? HU.out)
          rw [HFB.out] at this
          cases this
      | true =>
        go_wp2
        go_roundw
        case rel => exact ⟨k + 1, by omega, by go_num, HF.out.step HU.out HFB.out, B1⟩
        case measure => simp [intOf]; omega
    · obtain rfl : k = ts.length := by omega
      go_wp2
      go_ret
      exact ⟨ret_bool (by rw [← HR.out]; exact HF.out.all.symm), hbl⟩

end Go.Proofs.Ytheokboggjnenaa

/-
  A built slice of one term, and how big a term of few is.
-/
namespace Go.Proofs.Ytheokboggjnenaa
open Go Go.RowKit

theorem total_of_few {t : Tm} (h : fewTB 150 70 t = true) : t.total ≤ 150 := by
  unfold fewTB at h
  exact (of_decide_eq_true h).1
/-- A built slice of one term. -/
theorem holdsT_one (w : World) (B : Nat) (hB : w.heap.size = B) (t : Tm) (e : TypeId) (x1 : Option Addr) (x2 x3 : Nat) (y1 : Option Addr) (y2 y3 : Nat) (hb : Holds w okT t.binds (.slice x1 x2 x3)) (hr : HoldsT w okT t.args (.slice y1 y2 y3)) :
    HoldsT (w.alloc (.cells #[.slice x1 x2 x3, .int .i64 t.kind, .int .i64 t.idx, .slice y1 y2 y3] e)) okT [t] (.slice (some ⟨B, 0, none⟩) 1 1) := by
  have hbk := Blk.new' w B e #[.slice x1 x2 x3, .int .i64 t.kind, .int .i64 t.idx, .slice y1 y2 y3] hB
  refine HoldsT.mk [t] (some ⟨B, 0, none⟩) 1 (fun _ => .slice x1 x2 x3) (fun _ => .slice y1 y2 y3) (Nat.le_refl _) (fun h => by cases h) ?_ ?_ ?_
  · intro i u hi
    obtain ⟨rfl, rfl⟩ : i = 0 ∧ t = u := by
      match i, hi with
      | 0, hi => exact ⟨rfl, by simpa using hi⟩
      | i + 1, hi => simp at hi
    exact ⟨B, 0, rfl, trivial, hbk.cell 0, hbk.cell 1, hbk.cell 2, hbk.cell 3⟩
  · intro i u hi
    obtain rfl : t = u := by
      match i, hi with
      | 0, hi => simpa using hi
      | i + 1, hi => simp at hi
    exact hb.alloc _
  · intro i u hi
    obtain rfl : t = u := by
      match i, hi with
      | 0, hi => simpa using hi
      | i + 1, hi => simp at hi
    exact hr.alloc _

end Go.Proofs.Ytheokboggjnenaa
