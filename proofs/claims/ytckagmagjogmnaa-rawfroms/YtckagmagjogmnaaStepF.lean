/-
  StepF: several texts in one file: StepA, StepR, StepF.
-/
import Derived.Test.YtckagmagjogmnaaSubstR
import Derived.Test.YtckagmagjogmnaaRemakeS
import Derived.Test.YtckagmagjogmnaaRightR
import Derived.Deep.RegionHeld3
import Derived.Deep.DeepCutAuto
import Derived.Test.YtckagmagjogmnaaApply
namespace Go.Proofs.Ytckagmagjogmnaa
open Go Go.RowKit

/-- what a Lam's kid and its argument are, where it is applied -/
def redexOf (k : Int) : List Rw → Option (Rw × Rw)
  | [.mk k2 _ _ [b], a] => if k = 4 ∧ k2 = 3 then some (b, a) else none
  | _ => none
mutual
/-- a raw term with its leftmost outermost step done, unless d, and whether one is done -/
def Rw.step (d : Bool) : Rw → Rw × Bool
  | .mk k t i l => (if d = true then none else redexOf k l).elim (.mk k t i (stepL d l).1, (stepL d l).2) (fun p => (substR p.1 p.2, true))
def stepL (d : Bool) : List Rw → List Rw × Bool
  | [] => ([], d)
  | t :: r => ((t.step d).1 :: (stepL (t.step d).2 r).1, (stepL (t.step d).2 r).2)
end
theorem Rw.step_eq (d : Bool) (t : Rw) : t.step d = (if d = true then none else redexOf t.kind t.kids).elim (.mk t.kind t.ty t.idx (stepL d t.kids).1, (stepL d t.kids).2) (fun p => (substR p.1 p.2, true)) := by
  cases t; rfl
theorem step_true (t : Rw) : t.step true = (.mk t.kind t.ty t.idx (stepL true t.kids).1, (stepL true t.kids).2) := by rw [t.step_eq]; simp
theorem step_none {t : Rw} (h : redexOf t.kind t.kids = none) : t.step false = (.mk t.kind t.ty t.idx (stepL false t.kids).1, (stepL false t.kids).2) := by rw [t.step_eq, h]; simp
theorem step_some {t : Rw} {b a : Rw} (h : redexOf t.kind t.kids = some (b, a)) : t.step false = (substR b a, true) := by rw [t.step_eq, h]; simp
theorem stepL_snoc (l : List Rw) (u : Rw) : ∀ d, stepL d (l ++ [u]) = ((stepL d l).1 ++ [(u.step (stepL d l).2).1], (u.step (stepL d l).2).2) := by
  induction l with
  | nil => intro d; simp [stepL]
  | cons t r ih => intro d; rw [List.cons_append, stepL, ih]; simp [stepL]
theorem redexOf_some {k : Int} {l : List Rw} {b a : Rw} (h : redexOf k l = some (b, a)) : k = 4 ∧ ∃ f, l = [f, a] ∧ f.kind = 3 ∧ f.kids = [b] := by
  unfold redexOf at h
  split at h
  · rename_i k2 t i b' a'
    split at h
    · rename_i hk
      cases h
      exact ⟨hk.1, _, rfl, hk.2, rfl⟩
    · cases h
  · cases h
theorem redexOf_of {k : Int} {f a b : Rw} (h1 : k = 4) (h2 : f.kind = 3) (h3 : f.kids = [b]) : redexOf k [f, a] = some (b, a) := by
  cases f with
  | mk k2 t i l =>
    have h4 : l = [b] := h3
    have h5 : k2 = 3 := h2
    subst h4 h5 h1
    rfl
/-- may it be stepped itself? -/
def redB (k : Int) (l : List Rw) : Bool := k == 4 && (match l with | [f, _] => f.kind == 3 && f.kids.length == 1 | _ => false)
theorem redB_eq (k : Int) (l : List Rw) : redB k l = (redexOf k l).isSome := by
  unfold redB
  cases hr : redexOf k l with
  | some p =>
    obtain ⟨h1, f, h2, h3, h4⟩ := redexOf_some (b := p.1) (a := p.2) hr
    subst h1 h2
    simp [h3, h4]
  | none =>
    rw [Option.isSome_none, Bool.and_eq_false_iff]
    by_cases hk : k = 4
    · right
      match l, hr with
      | [], _ => rfl
      | [_], _ => rfl
      | _ :: _ :: _ :: _, _ => rfl
      | [f, a], hr =>
        show (f.kind == 3 && f.kids.length == 1) = false
        cases hb : (f.kind == 3 && f.kids.length == 1) with
        | false => rfl
        | true =>
          rw [Bool.and_eq_true, beq_iff_eq, beq_iff_eq] at hb
          obtain ⟨b, hb2⟩ := List.length_eq_one_iff.1 hb.2
          rw [redexOf_of hk hb.1 hb2] at hr
          cases hr
    · left; simpa using hk

theorem redB_two {ts : List Rw} {f : Rw} (h2 : ts.length = 2) (hf : ts[0]? = some f) : redB 4 ts = (f.kind == 3 && f.kids.length == 1) := by
  match ts, h2, hf with
  | [f', a'], _, hf => cases hf; rfl
theorem redB_not {ts : List Rw} (h2 : ts.length ≠ 2) : redB 4 ts = false := by
  match ts, h2 with
  | [], _ => rfl
  | [_], _ => rfl
  | _ :: _ :: _ :: _, _ => rfl
  | [_, _], h2 => exact absurd rfl h2

set_option maxRecDepth 100000 in
set_option maxHeartbeats 800000 in
theorem reducible_calls (t : Rw) (ok : Nat → Prop) (sb sr : Value) (w : World) (hb : Holds w ok t.ty.args sb) (ha : HoldsR w ok t.kids sr) :
    Calls Try.prog 81 #[rwv t.kind sb t.ty.base t.idx sr] w fun e w' => e = .returned (.bool (redB t.kind t.kids)) ∧ Below w.heap.size w w' := by
  obtain ⟨x1, x2, hx, _⟩ := hb.shape
  obtain ⟨N, hN⟩ : ∃ N, w.heap.size = N := ⟨_, rfl⟩
  rw [hN]
  generalize t.ty.args.length = n1 at hx
  obtain ⟨ts, hts⟩ : ∃ ts, t.kids = ts := ⟨_, rfl⟩
  rw [hts] at ha ⊢
  obtain ⟨x3, x4, hx', hcap, hat⟩ := ha.shape
  subst hx hx'
  have HA : Hid _ := hat
  obtain ⟨W0, hW0⟩ : ∃ W0, w.alloc (.cells #[.int .i64 t.kind, .slice x1 n1 x2, .int .i64 t.ty.base, .int .i64 t.idx, .slice x3 ts.length x4] 35) = W0 := ⟨_, rfl⟩
  have b0 : Blk W0 N 35 #[.int .i64 t.kind, .slice x1 n1 x2, .int .i64 t.ty.base, .int .i64 t.idx, .slice x3 ts.length x4] := by rw [← hW0]; exact Blk.new' w N 35 _ hN
  have bl : Below N w W0 := by rw [← hW0]; exact (Below.refl N w).alloc (by omega) _
  have c0 := b0.cell 0
  have c1 := b0.cell 1
  have c2 := b0.cell 2
  have c3 := b0.cell 3
  have c4 := b0.cell 4
  have HW : Hid _ := hW0
  obtain ⟨k, hk⟩ : ∃ k, t.kind = k := ⟨_, rfl⟩
  rw [hk] at HW b0 c0 ⊢
  obtain ⟨q, hq⟩ : ∃ q, redB k ts = q := ⟨_, rfl⟩
  rw [hq]
  have hl0 := b0.lt
  by_cases h4 : k = 4
  · subst h4
    have hcall := wellFormed_calls 4 t.ty.base t.idx x1 n1 x2 x3 ts.length x4 W0
    by_cases h2 : ts.length = 2
    · have e1 : wellR 4 ts.length = true := by rw [h2]; rfl
      rw [e1] at hcall
      obtain ⟨f, hf⟩ : ∃ f, ts[0]? = some f := ⟨_, List.getElem?_eq_getElem (by omega)⟩
      have HQ : Hid (q = (f.kind == 3 && f.kids.length == 1)) := hq.symm.trans (redB_two h2 hf)
      obtain ⟨g, o, s, r, rfl, _, hg, a0, a1, a2, a3, a4, hs, hr⟩ := HA.out 0 f hf
      rw [hN] at hg
      obtain ⟨sa, sc, rfl, _⟩ := hs.shape
      obtain ⟨sd, se, rfl, _⟩ := hr.shape
      generalize f.ty.args.length = m1 at *
      obtain ⟨fk, hfk⟩ : ∃ x, f.kids.length = x := ⟨_, rfl⟩
      rw [hfk] at HQ a4
      have y2 : (0 : Int) < (ts.length : Int) := by omega
      have hb1c := hcall
      rw [show o + 0 * 5 = o by omega] at a0 a1 a2 a3 a4
      clear hW0 hb ha hat hts hk hq h2 hf e1 hs hr hcall hfk
      go_enter Try.func81, Try.ntmps81
      go_upto_region 1 with fail
      rw [HW.out]
      clear HW
      go_wp2_with fail
      refine hb1c.mono ?_
      rintro e w1 ⟨rfl, hbw⟩
      have B1 : Below N w w1 := bl.trans (hbw.mono (by omega))
      have d4 := (b0.below hbw b0.lt).cell 4
      have q0 := (cat B1 hg).trans a0
      have q1 := (cat B1 hg).trans a1
      have q2 := (cat B1 hg).trans a2
      have q3 := (cat B1 hg).trans a3
      have q4 := (cat B1 hg).trans a4
      by_cases h3 : f.kind = 3
      · have z3 : (f.kind == 3) = true := by simp [h3]
        have hcall2 := wellFormed_calls f.kind f.ty.base f.idx sa m1 sc sd fk se w1
        have e2 : Hid (wellR f.kind fk = (fk == 1)) := by show _ = _; rw [h3]; rfl
        rw [e2.out] at hcall2
        have HQ2 : Hid (q = (fk == 1)) := by show _ = _; rw [HQ.out, z3, Bool.true_and]
        generalize (fk == 1) = q2 at *
        clear h3 hb1c hbw c0 c1 c2 c3 c4 a0 a1 a2 a3 a4
        go_wp2_with fail
        refine hcall2.mono ?_
        rintro e w2 ⟨rfl, hbw⟩
        have B2 : Below N w w2 := B1.trans (hbw.mono (by have := B1.size; omega))
        go_wp2
        go_ret
        exact ⟨ret_bool HQ2.out.symm, B2⟩
      · have z3 : (f.kind == 3) = false := by simp [h3]
        have HQ2 : Hid (q = false) := by show _ = _; rw [HQ.out, z3, Bool.false_and]
        clear h3 hb1c hbw c0 c1 c2 c3 c4 a0 a1 a2 a3 a4
        go_wp2
        go_ret
        exact ⟨ret_bool HQ2.out.symm, B1⟩
    · have e1 : wellR 4 ts.length = false := by show (ts.length == 2) = false; simp [h2]
      rw [e1] at hcall
      have HQ : Hid (q = false) := hq.symm.trans (redB_not h2)
      clear hW0 hb ha hat hts hk hq h2 e1
      go_enter Try.func81, Try.ntmps81
      go_upto_region 1 with fail
      rw [HW.out]
      clear HW
      go_wp2_with fail
      refine hcall.mono ?_
      rintro e w1 ⟨rfl, hbw⟩
      have B1 : Below N w w1 := bl.trans (hbw.mono (by omega))
      clear hcall hbw c0 c1 c2 c3 c4
      go_wp2
      go_ret
      exact ⟨ret_bool HQ.out.symm, B1⟩
  · have z4 : (k == 4) = false := by simp [h4]
    have HQ : Hid (q = false) := by show _ = _; rw [← hq]; unfold redB; rw [z4, Bool.false_and]
    clear hW0 hb ha hat hts hk hq h4
    go_enter Try.func81, Try.ntmps81
    go_upto_region 1 with fail
    rw [HW.out]
    clear HW
    go_wp2
    go_ret
    exact ⟨ret_bool HQ.out.symm, bl⟩

/-- What step tells: the term, and whether a step is done. -/
def Stepped (t : Rw) (d : Bool) (D : Nat) (w : World) (e : Ending) (w' : World) : Prop := Made [D] w (t.step d).1 e w' ∧ Blk w' D 4 #[.bool (t.step d).2]
/-- step's own word of one raw term -/
def StepAt (t : Rw) : Prop := ∀ (d : Bool) (ok : Nat → Prop) (sb sr : Value) (w : World) (D : Nat), Blk w D 4 #[.bool d] → Holds w ok t.ty.args sb → HoldsR w ok t.kids sr → (∀ b, ok b → b ≠ D) →
    Calls Try.prog 56 #[rwv t.kind sb t.ty.base t.idx sr, .pointer (some ⟨D, 0, none⟩)] w (Stepped t d D w)

set_option maxRecDepth 100000 in
set_option maxHeartbeats 1600000 in
theorem step1_calls (u : Rw) (hI : StepAt u) (d : Bool) (A D : Nat) (ok : Nat → Prop) (sb sr : Value) (w : World) (h1 : Blk w A 101 #[.pointer (some ⟨D, 0, none⟩)]) (h2 : Blk w D 4 #[.bool d]) (hb : Holds w ok u.ty.args sb) (ha : HoldsR w ok u.kids sr) (hok : ∀ b, ok b → b ≠ D) :
    Calls Try.prog 83 #[rwv u.kind sb u.ty.base u.idx sr, .pointer (some ⟨A, 0, none⟩)] w (Stepped u d D w) := by
  obtain ⟨x1, x2, hx, _⟩ := hb.shape
  obtain ⟨x3, x4, hx', _⟩ := ha.shape
  obtain ⟨N, hN⟩ : ∃ N, w.heap.size = N := ⟨_, rfl⟩
  generalize u.ty.args.length = n1 at hx
  generalize u.kids.length = n2 at hx'
  subst hx hx'
  obtain ⟨W0, hW0⟩ : ∃ W0, (w.alloc (.cells #[.int .i64 u.kind, .slice x1 n1 x2, .int .i64 u.ty.base, .int .i64 u.idx, .slice x3 n2 x4] 35)).alloc (.cells #[.int .i64 0, .slice none 0 0, .int .i64 0, .int .i64 0, .slice none 0 0] 35) = W0 := ⟨_, rfl⟩
  have b0 : Blk W0 N 35 #[.int .i64 u.kind, .slice x1 n1 x2, .int .i64 u.ty.base, .int .i64 u.idx, .slice x3 n2 x4] := by rw [← hW0]; exact (Blk.new' w N 35 _ hN).alloc _
  have b1 : Blk W0 (N + 1) 35 #[.int .i64 0, .slice none 0 0, .int .i64 0, .int .i64 0, .slice none 0 0] := by rw [← hW0]; exact Blk.new' _ (N + 1) 35 _ (by simp [hN])
  have bl : Below N w W0 := by rw [← hW0]; exact ((Below.refl N w).alloc (by omega) _).alloc (by simp; omega) _
  have hO0 : Only [D] w W0 := Only.of_below' (by rw [hN]; exact bl)
  have hDN : D < N := by rw [← hN]; exact h2.lt
  have hcall := hI d ok _ _ W0 D (h2.below bl hDN) (hb.bel (hN ▸ bl)) (ha.bel (hN ▸ bl)) hok
  have c0 := b0.cell 0
  have c1 := b0.cell 1
  have c2 := b0.cell 2
  have c3 := b0.cell 3
  have c4 := b0.cell 4
  have p1 := (h1.below bl (by rw [← hN]; exact h1.lt)).cell 0
  have hz : W0.heap.size = N + 2 := by rw [← hW0]; simp [hN]
  have HW : Hid _ := hW0
  clear hW0 hb ha h1 h2 hI
  go_enter Try.func83, Try.ntmps83
  go_upto_region 1 with fail
  rw [HW.out]
  clear HW
  go_wp2_with fail
  refine hcall.mono ?_
  unfold Stepped
  rintro e w1 ⟨⟨vb, vr, rfl, hvb, hvr, hO1⟩, hD1⟩
  obtain ⟨v, hv⟩ : ∃ v, (u.step d).1 = v := ⟨_, rfl⟩
  have HV : Hid _ := hv
  rw [hv] at hvb hvr ⊢
  obtain ⟨u1, u2, rfl, _⟩ := hvb.shape
  obtain ⟨u3, u4, rfl, _⟩ := hvr.shape
  generalize v.ty.args.length = m1 at *
  generalize v.kids.length = m2 at *
  have m9 := b1.only hO1 (by simp; omega)
  have hO2 : Only [D] w w1 := hO0.trans hO1
  have hg9 : w.heap.size ≤ N + 1 := by omega
  have hD5 := ((((hD1.other (B' := N + 1) (by omega) 0 (.int .i64 v.kind)).other (B' := N + 1) (by omega) 1 (.slice u1 m1 u2)).other (B' := N + 1) (by omega) 2 (.int .i64 v.ty.base)).other (B' := N + 1) (by omega) 3 (.int .i64 v.idx)).other (B' := N + 1) (by omega) 4 (.slice u3 m2 u4)
  clear hcall c0 c1 c2 c3 c4 p1 hv hD1
  have e0 := m9.cell 0
  have e1 := m9.cell 1
  have e2 := m9.cell 2
  have e3 := m9.cell 3
  have e4 := m9.cell 4
  have f0 := m9.frozen 0
  have f1 := m9.frozen 1
  have f2 := m9.frozen 2
  have f3 := m9.frozen 3
  have f4 := m9.frozen 4
  have h5 := holds_set5 (g := N + 1) (ok' := fun b => w.heap.size ≤ b) hvb (fun b _ h => ⟨by omega, by omega⟩) (.int .i64 v.kind) (.slice u1 m1 u2) (.int .i64 v.ty.base) (.int .i64 v.idx) (.slice u3 m2 u4)
  have h6 := holdsR_set5 (g := N + 1) (ok' := fun b => w.heap.size ≤ b) hvr (fun b _ h => ⟨by omega, by omega⟩) (.int .i64 v.kind) (.slice u1 m1 u2) (.int .i64 v.ty.base) (.int .i64 v.idx) (.slice u3 m2 u4)
  have b5 := (((((m9.set 0 (.int .i64 v.kind)).set 1 (.slice u1 m1 u2)).set 2 (.int .i64 v.ty.base)).set 3 (.int .i64 v.idx)).set 4 (.slice u3 m2 u4))
  have hO5 := (((((hO2.setNew hg9 0 (.int .i64 v.kind)).setNew hg9 1 (.slice u1 m1 u2)).setNew hg9 2 (.int .i64 v.ty.base)).setNew hg9 3 (.int .i64 v.idx)).setNew hg9 4 (.slice u3 m2 u4))
  go_wp2
  generalize (((((w1.setCell ⟨N + 1, 0, none⟩ (.int .i64 v.kind)).setCell ⟨N + 1, 1, none⟩ (.slice u1 m1 u2)).setCell ⟨N + 1, 2, none⟩ (.int .i64 v.ty.base)).setCell ⟨N + 1, 3, none⟩ (.int .i64 v.idx)).setCell ⟨N + 1, 4, none⟩ (.slice u3 m2 u4)) = W5 at *
  have g0 : W5.cell? ⟨N + 1, 0, none⟩ = some (.int .i64 v.kind) := b5.cell 0
  have g1 : W5.cell? ⟨N + 1, 1, none⟩ = some (.slice u1 m1 u2) := b5.cell 1
  have g2 : W5.cell? ⟨N + 1, 2, none⟩ = some (.int .i64 v.ty.base) := b5.cell 2
  have g3 : W5.cell? ⟨N + 1, 3, none⟩ = some (.int .i64 v.idx) := b5.cell 3
  have g4 : W5.cell? ⟨N + 1, 4, none⟩ = some (.slice u3 m2 u4) := b5.cell 4
  exact bodyPost_ret (v := rwv v.kind (.slice u1 m1 u2) v.ty.base v.idx (.slice u3 m2 u4)) (by simp [results, Try.results83, go_sem, g0, g1, g2, g3, g4]) rfl (by unfold Stepped; rw [HV.out]; exact ⟨⟨_, _, rfl, h5, h6, hO5⟩, hD5⟩)

end Go.Proofs.Ytckagmagjogmnaa

namespace Go.Proofs.Ytckagmagjogmnaa
open Go Go.RowKit

set_option maxRecDepth 100000 in
set_option maxHeartbeats 1600000 in
theorem step_calls (t : Rw) : t.fit → t.size ≤ 1000000 → StepAt t := by
  induction t using Rw.ind with
  | h t ih =>
  intro hfit hsz d ok sb sr w D hD hb ha hok
  have hfit9 := hfit
  rw [t.fit_eq, fitR_iff] at hfit
  obtain ⟨hf1, hf2, hf3⟩ := hfit
  have hsz2 := t.size_eq
  have hIH : Hid (∀ u ∈ t.kids, StepAt u) := fun u hu => ih u hu (hf3 u hu) (by have := rsize_mem hu; omega)
  have hFK : Hid (∀ u ∈ t.kids, u.fit ∧ u.size ≤ 1000000) := fun u hu => ⟨hf3 u hu, by have := rsize_mem hu; omega⟩
  clear ih hf3 hsz2
  obtain ⟨N, hN⟩ : ∃ N, w.heap.size = N := ⟨_, rfl⟩
  have hDN : D < N := by rw [← hN]; exact hD.lt
  have hb' : Holds w (fun b => b < N ∧ b ≠ D) t.ty.args sb := hb.mono fun b h1 h2 => ⟨by omega, hok b h2⟩
  have ha' : HoldsR w (fun b => b < N ∧ b ≠ D) t.kids sr := ha.mono fun b h1 h2 => ⟨by omega, hok b h2⟩
  obtain ⟨x1, x2, hx, _⟩ := hb.shape
  obtain ⟨x3, x4, hx', _⟩ := ha.shape
  generalize t.ty.args.length = n1 at hx
  obtain ⟨n2, hn2⟩ : ∃ n, t.kids.length = n := ⟨_, rfl⟩
  rw [hn2] at hx'
  subst hx hx'
  obtain ⟨W0, hW0⟩ : ∃ W0, ((w.alloc (.cells #[.int .i64 t.kind, .slice x1 n1 x2, .int .i64 t.ty.base, .int .i64 t.idx, .slice x3 n2 x4] 35)).alloc (.cells #[.pointer (some ⟨D, 0, none⟩)] 101)).alloc (.cells #[.int .i64 0, .slice none 0 0, .int .i64 0, .int .i64 0, .slice none 0 0] 35) = W0 := ⟨_, rfl⟩
  have b0 : Blk W0 N 35 #[.int .i64 t.kind, .slice x1 n1 x2, .int .i64 t.ty.base, .int .i64 t.idx, .slice x3 n2 x4] := by rw [← hW0]; exact ((Blk.new' w N 35 _ hN).alloc _).alloc _
  have b1 : Blk W0 (N + 1) 101 #[.pointer (some ⟨D, 0, none⟩)] := by rw [← hW0]; exact (Blk.new' _ (N + 1) 101 _ (by simp [hN])).alloc _
  have b2 : Blk W0 (N + 1 + 1) 35 #[.int .i64 0, .slice none 0 0, .int .i64 0, .int .i64 0, .slice none 0 0] := by rw [← hW0]; exact Blk.new' _ (N + 1 + 1) 35 _ (by simp [hN])
  have bl : Below N w W0 := by rw [← hW0]; exact (((Below.refl N w).alloc (by omega) _).alloc (by simp; omega) _).alloc (by simp; omega) _
  have hO0 : Only [D] w W0 := Only.of_below' (by rw [hN]; exact bl)
  have hD0 := hD.below bl hDN
  have hz : W0.heap.size = N + 1 + 1 + 1 := by rw [← hW0]; simp [hN]
  have hb0 := hb'.bel (hN ▸ bl)
  have ha0 := ha'.bel (hN ▸ bl)
  have c0 := b0.cell 0
  have c1 := b0.cell 1
  have c2 := b0.cell 2
  have c3 := b0.cell 3
  have c4 := b0.cell 4
  have d0 := b1.cell 0
  have d1 := hD0.cell 0
  have HW : Hid _ := hW0
  have hg9 : w.heap.size ≤ N + 1 + 1 := by omega
  have HN2 : Hid (t.kids.length = n2) := hn2
  clear hW0 hb ha hb' ha' hn2 hD hfit9
  /- the tail where nothing is done here -/
  cases d with
  | true =>
    have HSE : Hid (t.step true = (.mk t.kind t.ty t.idx (stepL true t.kids).1, (stepL true t.kids).2)) := step_true t
    go_enter Try.func56, Try.ntmps56
    go_upto_region 1 with fail
    rw [HW.out]
    clear HW
    have hcall := remakeS_calls t (fun b => b < N ∧ b ≠ D) _ _ (.pointer (some ⟨N + 1, 0, none⟩)) W0 [D] (fun outs cur => outs = (stepL true (t.kids.take outs.length)).1 ∧ Blk cur D 4 #[.bool (stepL true (t.kids.take outs.length)).2]) hb0 ha0 (fun b h => by simp; exact h.2) (fun b h => by rw [List.mem_singleton.1 h]; omega) hf1 hf2 ⟨rfl, hD0⟩ (fun outs cur cur' h hbw => ⟨h.1, h.2.below hbw (by omega)⟩)
      (by
        intro outs u ok' sb' sr' cur hu hP hOc h1 h2 hok'
        have hum := List.mem_of_getElem? hu
        obtain ⟨hP1, hP2⟩ := hP
        have htk : t.kids.take (outs.length + 1) = t.kids.take outs.length ++ [u] := by rw [List.take_add_one, hu]; rfl
        refine (step1_calls u (hIH.out u hum) (stepL true (t.kids.take outs.length)).2 (N + 1) D ok' sb' sr' cur (b1.only hOc (by simp; omega)) hP2 h1 h2 (fun b h => by have := (hok' b h).2; simpa using this)).mono fun e w' h => ⟨(u.step (stepL true (t.kids.take outs.length)).2).1, h.1, ?_⟩
        show outs ++ [(u.step (stepL true (t.kids.take outs.length)).2).1] = (stepL true (t.kids.take (outs ++ [(u.step (stepL true (t.kids.take outs.length)).2).1]).length)).1 ∧ Blk w' D 4 #[.bool (stepL true (t.kids.take (outs ++ [(u.step (stepL true (t.kids.take outs.length)).2).1]).length)).2]
        rw [List.length_append, List.length_singleton, htk, stepL_snoc, ← hP1]
        exact ⟨rfl, h.2⟩)
    rw [HN2.out] at hcall
    have c0 := b0.cell 0
    have c1 := b0.cell 1
    have c2 := b0.cell 2
    have c3 := b0.cell 3
    have c4 := b0.cell 4
    have d0 := b1.cell 0
    have d1 := hD0.cell 0
    go_wp2_with fail
    refine hcall.mono ?_
    rintro e w3 ⟨outs, ho1, ⟨vb, vr, he, hvb, hvr, hO3⟩, ho2, hD3⟩
    have he' : e = .returned (rwv t.kind vb t.ty.base t.idx vr) := he
    clear he
    subst he'
    rw [ho1, ← HN2.out, List.take_length] at ho2 hD3
    subst ho2
    have hvb : Holds w3 (fun b => W0.heap.size ≤ b) t.ty.args vb := hvb
    have hvr : HoldsR w3 (fun b => W0.heap.size ≤ b) (stepL true t.kids).1 vr := hvr
    obtain ⟨u1, u2, rfl, _⟩ := hvb.shape
    obtain ⟨u3, u4, rfl, _⟩ := hvr.shape
    generalize (stepL true t.kids).1 = tk at *
    generalize t.ty.args.length = m1 at *
    generalize tk.length = m2 at *
    have m9 := b2.only hO3 (by simp; omega)
    have hO4 : Only [D] w w3 := hO0.trans hO3
    have hD5 := ((((hD3.other (B' := N + 1 + 1) (by omega) 0 (.int .i64 t.kind)).other (B' := N + 1 + 1) (by omega) 1 (.slice u1 m1 u2)).other (B' := N + 1 + 1) (by omega) 2 (.int .i64 t.ty.base)).other (B' := N + 1 + 1) (by omega) 3 (.int .i64 t.idx)).other (B' := N + 1 + 1) (by omega) 4 (.slice u3 m2 u4)
    clear hcall c0 c1 c2 c3 c4 d0 d1 ho1 b0 b1 b2 hD0 hD3
    have e0 := m9.cell 0
    have e1 := m9.cell 1
    have e2 := m9.cell 2
    have e3 := m9.cell 3
    have e4 := m9.cell 4
    have f0 := m9.frozen 0
    have f1 := m9.frozen 1
    have f2 := m9.frozen 2
    have f3 := m9.frozen 3
    have f4 := m9.frozen 4
    have h5 := holds_set5 (g := N + 1 + 1) (ok' := fun b => w.heap.size ≤ b) hvb (fun b _ h => ⟨by omega, by omega⟩) (.int .i64 t.kind) (.slice u1 m1 u2) (.int .i64 t.ty.base) (.int .i64 t.idx) (.slice u3 m2 u4)
    have h6 := holdsR_set5 (g := N + 1 + 1) (ok' := fun b => w.heap.size ≤ b) hvr (fun b _ h => ⟨by omega, by omega⟩) (.int .i64 t.kind) (.slice u1 m1 u2) (.int .i64 t.ty.base) (.int .i64 t.idx) (.slice u3 m2 u4)
    have b5 := (((((m9.set 0 (.int .i64 t.kind)).set 1 (.slice u1 m1 u2)).set 2 (.int .i64 t.ty.base)).set 3 (.int .i64 t.idx)).set 4 (.slice u3 m2 u4))
    have hO5 := (((((hO4.setNew hg9 0 (.int .i64 t.kind)).setNew hg9 1 (.slice u1 m1 u2)).setNew hg9 2 (.int .i64 t.ty.base)).setNew hg9 3 (.int .i64 t.idx)).setNew hg9 4 (.slice u3 m2 u4))
    go_wp2
    generalize (((((w3.setCell ⟨N + 1 + 1, 0, none⟩ (.int .i64 t.kind)).setCell ⟨N + 1 + 1, 1, none⟩ (.slice u1 m1 u2)).setCell ⟨N + 1 + 1, 2, none⟩ (.int .i64 t.ty.base)).setCell ⟨N + 1 + 1, 3, none⟩ (.int .i64 t.idx)).setCell ⟨N + 1 + 1, 4, none⟩ (.slice u3 m2 u4)) = W5 at *
    have g0 : W5.cell? ⟨N + 1 + 1, 0, none⟩ = some (.int .i64 t.kind) := b5.cell 0
    have g1 : W5.cell? ⟨N + 1 + 1, 1, none⟩ = some (.slice u1 m1 u2) := b5.cell 1
    have g2 : W5.cell? ⟨N + 1 + 1, 2, none⟩ = some (.int .i64 t.ty.base) := b5.cell 2
    have g3 : W5.cell? ⟨N + 1 + 1, 3, none⟩ = some (.int .i64 t.idx) := b5.cell 3
    have g4 : W5.cell? ⟨N + 1 + 1, 4, none⟩ = some (.slice u3 m2 u4) := b5.cell 4
    exact bodyPost_ret (v := rwv t.kind (.slice u1 m1 u2) t.ty.base t.idx (.slice u3 m2 u4)) (by simp [results, Try.results56, go_sem, g0, g1, g2, g3, g4]) rfl (by unfold Stepped; rw [HSE.out]; exact ⟨⟨_, _, rfl, h5, h6, hO5⟩, hD5⟩)
  | false =>
    obtain ⟨q, hq⟩ : ∃ q, redB t.kind t.kids = q := ⟨_, rfl⟩
    have hred := reducible_calls t _ _ _ W0 hb0 ha0
    rw [hq] at hred
    rw [redB_eq] at hq
    cases q with
    | false =>
      have HSE : Hid (t.step false = (.mk t.kind t.ty t.idx (stepL false t.kids).1, (stepL false t.kids).2)) := by
        cases hr : redexOf t.kind t.kids with
        | none => exact step_none hr
        | some p => rw [hr] at hq; cases hq
      clear hq
      go_enter Try.func56, Try.ntmps56
      go_upto_region 1 with fail
      rw [HW.out]
      clear HW
      go_wp2_with fail
      refine hred.mono ?_
      rintro e w1 ⟨rfl, hbw⟩
      replace b0 := b0.below hbw b0.lt
      replace b1 := b1.below hbw b1.lt
      replace b2 := b2.below hbw b2.lt
      replace hD0 := hD0.below hbw hD0.lt
      replace hb0 := hb0.bel hbw
      replace ha0 := ha0.bel hbw
      replace hO0 : Only [D] w w1 := hO0.trans (Only.of_below' hbw)
      replace hz : N + 1 + 1 + 1 ≤ w1.heap.size := by have := hbw.size; omega
      clear hred c0 c1 c2 c3 c4 d0 d1 hbw bl
      have hcall := remakeS_calls t (fun b => b < N ∧ b ≠ D) _ _ (.pointer (some ⟨N + 1, 0, none⟩)) w1 [D] (fun outs cur => outs = (stepL false (t.kids.take outs.length)).1 ∧ Blk cur D 4 #[.bool (stepL false (t.kids.take outs.length)).2]) hb0 ha0 (fun b h => by simp; exact h.2) (fun b h => by rw [List.mem_singleton.1 h]; omega) hf1 hf2 ⟨rfl, hD0⟩ (fun outs cur cur' h hbw => ⟨h.1, h.2.below hbw (by omega)⟩)
        (by
          intro outs u ok' sb' sr' cur hu hP hOc h1 h2 hok'
          have hum := List.mem_of_getElem? hu
          obtain ⟨hP1, hP2⟩ := hP
          have htk : t.kids.take (outs.length + 1) = t.kids.take outs.length ++ [u] := by rw [List.take_add_one, hu]; rfl
          refine (step1_calls u (hIH.out u hum) (stepL false (t.kids.take outs.length)).2 (N + 1) D ok' sb' sr' cur (b1.only hOc (by simp; omega)) hP2 h1 h2 (fun b h => by have := (hok' b h).2; simpa using this)).mono fun e w' h => ⟨(u.step (stepL false (t.kids.take outs.length)).2).1, h.1, ?_⟩
          show outs ++ [(u.step (stepL false (t.kids.take outs.length)).2).1] = (stepL false (t.kids.take (outs ++ [(u.step (stepL false (t.kids.take outs.length)).2).1]).length)).1 ∧ Blk w' D 4 #[.bool (stepL false (t.kids.take (outs ++ [(u.step (stepL false (t.kids.take outs.length)).2).1]).length)).2]
          rw [List.length_append, List.length_singleton, htk, stepL_snoc, ← hP1]
          exact ⟨rfl, h.2⟩)
      rw [HN2.out] at hcall
      have c0 := b0.cell 0
      have c1 := b0.cell 1
      have c2 := b0.cell 2
      have c3 := b0.cell 3
      have c4 := b0.cell 4
      have d0 := b1.cell 0
      have d1 := hD0.cell 0
      go_wp2_with fail
      refine hcall.mono ?_
      rintro e w3 ⟨outs, ho1, ⟨vb, vr, he, hvb, hvr, hO3⟩, ho2, hD3⟩
      have he' : e = .returned (rwv t.kind vb t.ty.base t.idx vr) := he
      clear he
      subst he'
      rw [ho1, ← HN2.out, List.take_length] at ho2 hD3
      subst ho2
      have hvb : Holds w3 (fun b => w1.heap.size ≤ b) t.ty.args vb := hvb
      have hvr : HoldsR w3 (fun b => w1.heap.size ≤ b) (stepL false t.kids).1 vr := hvr
      obtain ⟨u1, u2, rfl, _⟩ := hvb.shape
      obtain ⟨u3, u4, rfl, _⟩ := hvr.shape
      generalize (stepL false t.kids).1 = tk at *
      generalize t.ty.args.length = m1 at *
      generalize tk.length = m2 at *
      have m9 := b2.only hO3 (by simp; omega)
      have hO4 : Only [D] w w3 := hO0.trans hO3
      have hD5 := ((((hD3.other (B' := N + 1 + 1) (by omega) 0 (.int .i64 t.kind)).other (B' := N + 1 + 1) (by omega) 1 (.slice u1 m1 u2)).other (B' := N + 1 + 1) (by omega) 2 (.int .i64 t.ty.base)).other (B' := N + 1 + 1) (by omega) 3 (.int .i64 t.idx)).other (B' := N + 1 + 1) (by omega) 4 (.slice u3 m2 u4)
      clear hcall c0 c1 c2 c3 c4 d0 d1 ho1 b0 b1 b2 hD0 hD3
      have e0 := m9.cell 0
      have e1 := m9.cell 1
      have e2 := m9.cell 2
      have e3 := m9.cell 3
      have e4 := m9.cell 4
      have f0 := m9.frozen 0
      have f1 := m9.frozen 1
      have f2 := m9.frozen 2
      have f3 := m9.frozen 3
      have f4 := m9.frozen 4
      have h5 := holds_set5 (g := N + 1 + 1) (ok' := fun b => w.heap.size ≤ b) hvb (fun b _ h => ⟨by omega, by omega⟩) (.int .i64 t.kind) (.slice u1 m1 u2) (.int .i64 t.ty.base) (.int .i64 t.idx) (.slice u3 m2 u4)
      have h6 := holdsR_set5 (g := N + 1 + 1) (ok' := fun b => w.heap.size ≤ b) hvr (fun b _ h => ⟨by omega, by omega⟩) (.int .i64 t.kind) (.slice u1 m1 u2) (.int .i64 t.ty.base) (.int .i64 t.idx) (.slice u3 m2 u4)
      have b5 := (((((m9.set 0 (.int .i64 t.kind)).set 1 (.slice u1 m1 u2)).set 2 (.int .i64 t.ty.base)).set 3 (.int .i64 t.idx)).set 4 (.slice u3 m2 u4))
      have hO5 := (((((hO4.setNew hg9 0 (.int .i64 t.kind)).setNew hg9 1 (.slice u1 m1 u2)).setNew hg9 2 (.int .i64 t.ty.base)).setNew hg9 3 (.int .i64 t.idx)).setNew hg9 4 (.slice u3 m2 u4))
      go_wp2
      generalize (((((w3.setCell ⟨N + 1 + 1, 0, none⟩ (.int .i64 t.kind)).setCell ⟨N + 1 + 1, 1, none⟩ (.slice u1 m1 u2)).setCell ⟨N + 1 + 1, 2, none⟩ (.int .i64 t.ty.base)).setCell ⟨N + 1 + 1, 3, none⟩ (.int .i64 t.idx)).setCell ⟨N + 1 + 1, 4, none⟩ (.slice u3 m2 u4)) = W5 at *
      have g0 : W5.cell? ⟨N + 1 + 1, 0, none⟩ = some (.int .i64 t.kind) := b5.cell 0
      have g1 : W5.cell? ⟨N + 1 + 1, 1, none⟩ = some (.slice u1 m1 u2) := b5.cell 1
      have g2 : W5.cell? ⟨N + 1 + 1, 2, none⟩ = some (.int .i64 t.ty.base) := b5.cell 2
      have g3 : W5.cell? ⟨N + 1 + 1, 3, none⟩ = some (.int .i64 t.idx) := b5.cell 3
      have g4 : W5.cell? ⟨N + 1 + 1, 4, none⟩ = some (.slice u3 m2 u4) := b5.cell 4
      exact bodyPost_ret (v := rwv t.kind (.slice u1 m1 u2) t.ty.base t.idx (.slice u3 m2 u4)) (by simp [results, Try.results56, go_sem, g0, g1, g2, g3, g4]) rfl (by unfold Stepped; rw [HSE.out]; exact ⟨⟨_, _, rfl, h5, h6, hO5⟩, hD5⟩)
    | true =>
      obtain ⟨⟨bb, aa⟩, hr⟩ : ∃ p, redexOf t.kind t.kids = some p := Option.isSome_iff_exists.1 hq
      have HSE : Hid (t.step false = (substR bb aa, true)) := step_some hr
      obtain ⟨hk4, f, hkids, hf3, hfk⟩ := redexOf_some hr
      obtain ⟨hff, hfs⟩ := hFK.out f (by rw [hkids]; simp)
      obtain ⟨haf, has⟩ := hFK.out aa (by rw [hkids]; simp)
      rw [f.fit_eq, fitR_iff, hfk] at hff
      have hbf : bb.fit := hff.2.2 bb (by simp)
      have hbs : bb.size ≤ 1000000 := by have h1 := f.size_eq; rw [hfk] at h1; have h2 := rsize_mem (a := [bb]) (t := bb) (by simp); omega
      have HKD : Hid (t.kids = [f, aa]) := hkids
      have HFK : Hid (f.kids = [bb]) := hfk
      clear hq hr hff hkids hfk hk4 hf3
      go_enter Try.func56, Try.ntmps56
      go_upto_region 1 with fail
      rw [HW.out]
      clear HW
      go_wp2_with fail
      refine hred.mono ?_
      rintro e w1 ⟨rfl, hbw⟩
      replace b0 := b0.below hbw b0.lt
      replace b1 := b1.below hbw b1.lt
      replace b2 := b2.below hbw b2.lt
      replace hD0 := hD0.below hbw hD0.lt
      replace hb0 := hb0.bel hbw
      replace ha0 := ha0.bel hbw
      replace hO0 : Only [D] w w1 := hO0.trans (Only.of_below' hbw)
      replace hz : N + 1 + 1 + 1 ≤ w1.heap.size := by have := hbw.size; omega
      clear hred c0 c1 c2 c3 c4 d0 d1 hbw bl
      have d0 := b1.cell 0
      have d1 := hD0.cell 0
      have d2 := hD0.frozen 0
      have l0 := b0.other (B' := D) (by omega) 0 (.bool true)
      have l2 := b2.other (B' := D) (by omega) 0 (.bool true)
      have lD := hD0.set 0 (.bool true)
      have hO2 := hO0.set (B := D) (by simp) 0 (.bool true)
      have hak : HoldsR (w1.setCell ⟨D, 0, none⟩ (.bool true)) (fun b => b < N ∧ b ≠ D) t.kids (.slice x3 n2 x4) := ha0.keep fun b _ ho => ⟨Below.heap_setCell w1 ⟨D, 0, none⟩ (.bool true) b ho.2, ho⟩
      have hz2 : N + 1 + 1 + 1 ≤ (w1.setCell ⟨D, 0, none⟩ (.bool true)).heap.size := by have := l2.lt; simp [World.setCell]; omega
      obtain ⟨W2, hW2⟩ : ∃ W2, w1.setCell ⟨D, 0, none⟩ (.bool true) = W2 := ⟨_, rfl⟩
      rw [hW2] at l0 l2 lD hO2 hak hz2
      have HW2 : Hid _ := hW2
      clear hW2 b0 b1 b2 hD0 hb0 ha0 hO0 hz
      rw [HKD.out] at hak
      have hn2' : n2 = 2 := by rw [← HN2.out, HKD.out]; rfl
      subst hn2'
      obtain ⟨a9, cap9, hsl9, _, hat9⟩ := hak.shape
      cases hsl9
      obtain ⟨g, o, s1, r1, rfl, hgo, hg, a0, a1, a2, a3, a4, hs1, hr1⟩ := hat9 0 f rfl
      obtain ⟨g', o', s2, r2, hgg, _, _, e0, e1, e2, e3, e4, hs2, hr2⟩ := hat9 1 aa rfl
      cases hgg
      rw [HFK.out] at hr1
      obtain ⟨h9, hcap9, hr1s, _, hat8⟩ := hr1.shape
      obtain ⟨p, oo, s3, r3, hpp, hpo, hp, m0, m1, m2, m3, m4, hs3, hr3⟩ := hat8 0 bb rfl
      subst hpp hr1s
      obtain ⟨y1, y2, rfl, _⟩ := hs3.shape
      obtain ⟨y3, y4, rfl, _⟩ := hr3.shape
      obtain ⟨y5, y6, rfl, _⟩ := hs2.shape
      obtain ⟨y7, y8, rfl, _⟩ := hr2.shape
      generalize bb.ty.args.length = k1 at *
      generalize bb.kids.length = k2 at *
      generalize aa.ty.args.length = k3 at *
      generalize aa.kids.length = k4 at *
      rw [show o + 0 * 5 + 4 = o + 4 by omega] at a4
      rw [show oo + 0 * 5 = oo by omega] at m0 m1 m2 m3 m4
      have HCS : Hid (∀ cur, Cur W2 cur → Calls Try.prog 82 #[rwv bb.kind (.slice y1 k1 y2) bb.ty.base bb.idx (.slice y3 k2 y4), rwv aa.kind (.slice y5 k3 y6) aa.ty.base aa.idx (.slice y7 k4 y8)] cur fun e w' => Made [] cur (substR bb aa) e w' ∧ Cur W2 w') := fun cur hc =>
        (Subst_calls bb aa _ _ _ _ _ cur (hc.holds hs3) (hc.holdsR hr3) (hc.holds hs2) (hc.holdsR hr2) hbf (by omega) haf (by omega)).mono fun e w' h => ⟨h, by obtain ⟨_, _, _, _, _, h4⟩ := h; exact hc.then (h4.below (Nat.le_refl _) (by simp))⟩
      have c4 := l0.cell 4
      have hN2W : N + 1 + 1 < W2.heap.size := l2.lt
      have hgn : g ≠ N + 1 + 1 := by have := hgo.1; omega
      have hpn : p ≠ N + 1 + 1 := by have := hpo.1; omega
      have hK : ∀ (v : World), Cur W2 v → v.cell? ⟨N, 4, none⟩ = some (.slice (some ⟨g, o, none⟩) 2 x4) ∧ v.cell? ⟨g, o + 4, none⟩ = some (.slice (some ⟨p, oo, none⟩) 1 hcap9) ∧ v.cell? ⟨p, oo, none⟩ = some (.int .i64 bb.kind) ∧ v.cell? ⟨p, oo + 1, none⟩ = some (.slice y1 k1 y2) ∧ v.cell? ⟨p, oo + 2, none⟩ = some (.int .i64 bb.ty.base) ∧ v.cell? ⟨p, oo + 3, none⟩ = some (.int .i64 bb.idx) ∧ v.cell? ⟨p, oo + 4, none⟩ = some (.slice y3 k2 y4) ∧ v.cell? ⟨g, o + 1 * 5, none⟩ = some (.int .i64 aa.kind) ∧ v.cell? ⟨g, o + 1 * 5 + 1, none⟩ = some (.slice y5 k3 y6) ∧ v.cell? ⟨g, o + 1 * 5 + 2, none⟩ = some (.int .i64 aa.ty.base) ∧ v.cell? ⟨g, o + 1 * 5 + 3, none⟩ = some (.int .i64 aa.idx) ∧ v.cell? ⟨g, o + 1 * 5 + 4, none⟩ = some (.slice y7 k4 y8) := fun v hv => ⟨hv.cell c4, hv.cell a4, hv.cell m0, hv.cell m1, hv.cell m2, hv.cell m3, hv.cell m4, hv.cell e0, hv.cell e1, hv.cell e2, hv.cell e3, hv.cell e4⟩
      have hK5 : ∀ (v : World) (x0 x1 x2 x3 x4' : Value), (v.cell? ⟨N, 4, none⟩ = some (.slice (some ⟨g, o, none⟩) 2 x4) ∧ v.cell? ⟨g, o + 4, none⟩ = some (.slice (some ⟨p, oo, none⟩) 1 hcap9) ∧ v.cell? ⟨p, oo, none⟩ = some (.int .i64 bb.kind) ∧ v.cell? ⟨p, oo + 1, none⟩ = some (.slice y1 k1 y2) ∧ v.cell? ⟨p, oo + 2, none⟩ = some (.int .i64 bb.ty.base) ∧ v.cell? ⟨p, oo + 3, none⟩ = some (.int .i64 bb.idx) ∧ v.cell? ⟨p, oo + 4, none⟩ = some (.slice y3 k2 y4) ∧ v.cell? ⟨g, o + 1 * 5, none⟩ = some (.int .i64 aa.kind) ∧ v.cell? ⟨g, o + 1 * 5 + 1, none⟩ = some (.slice y5 k3 y6) ∧ v.cell? ⟨g, o + 1 * 5 + 2, none⟩ = some (.int .i64 aa.ty.base) ∧ v.cell? ⟨g, o + 1 * 5 + 3, none⟩ = some (.int .i64 aa.idx) ∧ v.cell? ⟨g, o + 1 * 5 + 4, none⟩ = some (.slice y7 k4 y8)) → (fun (v : World) => v.cell? ⟨N, 4, none⟩ = some (.slice (some ⟨g, o, none⟩) 2 x4) ∧ v.cell? ⟨g, o + 4, none⟩ = some (.slice (some ⟨p, oo, none⟩) 1 hcap9) ∧ v.cell? ⟨p, oo, none⟩ = some (.int .i64 bb.kind) ∧ v.cell? ⟨p, oo + 1, none⟩ = some (.slice y1 k1 y2) ∧ v.cell? ⟨p, oo + 2, none⟩ = some (.int .i64 bb.ty.base) ∧ v.cell? ⟨p, oo + 3, none⟩ = some (.int .i64 bb.idx) ∧ v.cell? ⟨p, oo + 4, none⟩ = some (.slice y3 k2 y4) ∧ v.cell? ⟨g, o + 1 * 5, none⟩ = some (.int .i64 aa.kind) ∧ v.cell? ⟨g, o + 1 * 5 + 1, none⟩ = some (.slice y5 k3 y6) ∧ v.cell? ⟨g, o + 1 * 5 + 2, none⟩ = some (.int .i64 aa.ty.base) ∧ v.cell? ⟨g, o + 1 * 5 + 3, none⟩ = some (.int .i64 aa.idx) ∧ v.cell? ⟨g, o + 1 * 5 + 4, none⟩ = some (.slice y7 k4 y8)) (((((v.setCell ⟨N + 1 + 1, 0, none⟩ x0).setCell ⟨N + 1 + 1, 1, none⟩ x1).setCell ⟨N + 1 + 1, 2, none⟩ x2).setCell ⟨N + 1 + 1, 3, none⟩ x3).setCell ⟨N + 1 + 1, 4, none⟩ x4') := fun v x0 x1 x2 x3 x4' ⟨i0, i1, i2, i3, i4, i5, i6, i7, i8, i9, i10, i11⟩ =>
        ⟨by rw [cell_other (show N ≠ N + 1 + 1 by omega), cell_other (show N ≠ N + 1 + 1 by omega), cell_other (show N ≠ N + 1 + 1 by omega), cell_other (show N ≠ N + 1 + 1 by omega), cell_other (show N ≠ N + 1 + 1 by omega), i0], by rw [cell_other hgn, cell_other hgn, cell_other hgn, cell_other hgn, cell_other hgn, i1], by rw [cell_other hpn, cell_other hpn, cell_other hpn, cell_other hpn, cell_other hpn, i2], by rw [cell_other hpn, cell_other hpn, cell_other hpn, cell_other hpn, cell_other hpn, i3], by rw [cell_other hpn, cell_other hpn, cell_other hpn, cell_other hpn, cell_other hpn, i4], by rw [cell_other hpn, cell_other hpn, cell_other hpn, cell_other hpn, cell_other hpn, i5], by rw [cell_other hpn, cell_other hpn, cell_other hpn, cell_other hpn, cell_other hpn, i6], by rw [cell_other hgn, cell_other hgn, cell_other hgn, cell_other hgn, cell_other hgn, i7], by rw [cell_other hgn, cell_other hgn, cell_other hgn, cell_other hgn, cell_other hgn, i8], by rw [cell_other hgn, cell_other hgn, cell_other hgn, cell_other hgn, cell_other hgn, i9], by rw [cell_other hgn, cell_other hgn, cell_other hgn, cell_other hgn, cell_other hgn, i10], by rw [cell_other hgn, cell_other hgn, cell_other hgn, cell_other hgn, cell_other hgn, i11]⟩
      have hcur := Cur.refl W2
      go_upto_region 3 with fail
      rw [HW2.out]
      clear HW2 d0 d1 d2
      go_region_held3 (fun (v : World) => v.cell? ⟨N, 4, none⟩ = some (.slice (some ⟨g, o, none⟩) 2 x4) ∧ v.cell? ⟨g, o + 4, none⟩ = some (.slice (some ⟨p, oo, none⟩) 1 hcap9) ∧ v.cell? ⟨p, oo, none⟩ = some (.int .i64 bb.kind) ∧ v.cell? ⟨p, oo + 1, none⟩ = some (.slice y1 k1 y2) ∧ v.cell? ⟨p, oo + 2, none⟩ = some (.int .i64 bb.ty.base) ∧ v.cell? ⟨p, oo + 3, none⟩ = some (.int .i64 bb.idx) ∧ v.cell? ⟨p, oo + 4, none⟩ = some (.slice y3 k2 y4) ∧ v.cell? ⟨g, o + 1 * 5, none⟩ = some (.int .i64 aa.kind) ∧ v.cell? ⟨g, o + 1 * 5 + 1, none⟩ = some (.slice y5 k3 y6) ∧ v.cell? ⟨g, o + 1 * 5 + 2, none⟩ = some (.int .i64 aa.ty.base) ∧ v.cell? ⟨g, o + 1 * 5 + 3, none⟩ = some (.int .i64 aa.idx) ∧ v.cell? ⟨g, o + 1 * 5 + 4, none⟩ = some (.slice y7 k4 y8))
        (first | with_reducible exact hK _ (by first | with_reducible assumption | (with_reducible refine Cur.drew ?_; assumption)) | with_reducible exact hK5 _ _ _ _ _ _ (hK _ (by first | with_reducible assumption | (with_reducible refine Cur.drew ?_; assumption))))
        (first | (go_at_call 82; refine (HCS.out _ (by first | with_reducible assumption | (with_reducible refine Cur.drew ?_; assumption))).mono ?_; rintro e y9 ⟨⟨vb, vr, rfl, hvb, hvr, hO9⟩, hc9⟩; obtain ⟨u1, u2, rfl, _⟩ := hvb.shape; obtain ⟨u3, u4, rfl, _⟩ := hvr.shape; have m9 := l2.below (show Below W2.heap.size W2 y9 from hc9) l2.lt; have r0 := m9.cell 0; have r1 := m9.cell 1; have r2 := m9.cell 2; have r3 := m9.cell 3; have r4 := m9.cell 4; have f0 := m9.frozen 0; have f1 := m9.frozen 1; have f2 := m9.frozen 2; have f3 := m9.frozen 3; have f4 := m9.frozen 4))
      all_goals
        generalize substR bb aa = sv at *
        generalize sv.ty.args.length = la at *
        generalize sv.kids.length = lb at *
        have hvb8 : Holds y9 (fun b => W2.heap.size ≤ b) sv.ty.args (.slice u1 la u2) := hvb
        have hvr8 : HoldsR y9 (fun b => W2.heap.size ≤ b) sv.kids (.slice u3 lb u4) := hvr
        have hDy := lD.below (show Below W2.heap.size W2 y9 from hc9) lD.lt
        have hOy : Only [D] w y9 := hO2.trans (Only.of_below' (show Below W2.heap.size W2 y9 from hc9))
        have hDn : D ≠ N + 1 + 1 := by omega
        have hD5 := ((((hDy.other hDn 0 (.int .i64 sv.kind)).other hDn 1 (.slice u1 la u2)).other hDn 2 (.int .i64 sv.ty.base)).other hDn 3 (.int .i64 sv.idx)).other hDn 4 (.slice u3 lb u4)
        clear hvb hvr hO9 hc9 r0 r1 r2 r3 r4 f0 f1 f2 f3 f4 hK hK5
        have e0 := m9.cell 0
        have e1 := m9.cell 1
        have e2 := m9.cell 2
        have e3 := m9.cell 3
        have e4 := m9.cell 4
        have f0 := m9.frozen 0
        have f1 := m9.frozen 1
        have f2 := m9.frozen 2
        have f3 := m9.frozen 3
        have f4 := m9.frozen 4
        have h5 := holds_set5 (g := N + 1 + 1) (ok' := fun b => w.heap.size ≤ b) hvb8 (fun b _ h => ⟨by omega, by omega⟩) (.int .i64 sv.kind) (.slice u1 la u2) (.int .i64 sv.ty.base) (.int .i64 sv.idx) (.slice u3 lb u4)
        have h6 := holdsR_set5 (g := N + 1 + 1) (ok' := fun b => w.heap.size ≤ b) hvr8 (fun b _ h => ⟨by omega, by omega⟩) (.int .i64 sv.kind) (.slice u1 la u2) (.int .i64 sv.ty.base) (.int .i64 sv.idx) (.slice u3 lb u4)
        have b5 := (((((m9.set 0 (.int .i64 sv.kind)).set 1 (.slice u1 la u2)).set 2 (.int .i64 sv.ty.base)).set 3 (.int .i64 sv.idx)).set 4 (.slice u3 lb u4))
        have hO5 := (((((hOy.setNew hg9 0 (.int .i64 sv.kind)).setNew hg9 1 (.slice u1 la u2)).setNew hg9 2 (.int .i64 sv.ty.base)).setNew hg9 3 (.int .i64 sv.idx)).setNew hg9 4 (.slice u3 lb u4))
        go_wp2
        generalize (((((y9.setCell ⟨N + 1 + 1, 0, none⟩ (.int .i64 sv.kind)).setCell ⟨N + 1 + 1, 1, none⟩ (.slice u1 la u2)).setCell ⟨N + 1 + 1, 2, none⟩ (.int .i64 sv.ty.base)).setCell ⟨N + 1 + 1, 3, none⟩ (.int .i64 sv.idx)).setCell ⟨N + 1 + 1, 4, none⟩ (.slice u3 lb u4)) = W5 at *
        have g0 : W5.cell? ⟨N + 1 + 1, 0, none⟩ = some (.int .i64 sv.kind) := b5.cell 0
        have g1 : W5.cell? ⟨N + 1 + 1, 1, none⟩ = some (.slice u1 la u2) := b5.cell 1
        have g2 : W5.cell? ⟨N + 1 + 1, 2, none⟩ = some (.int .i64 sv.ty.base) := b5.cell 2
        have g3 : W5.cell? ⟨N + 1 + 1, 3, none⟩ = some (.int .i64 sv.idx) := b5.cell 3
        have g4 : W5.cell? ⟨N + 1 + 1, 4, none⟩ = some (.slice u3 lb u4) := b5.cell 4
        exact bodyPost_ret (v := rwv sv.kind (.slice u1 la u2) sv.ty.base sv.idx (.slice u3 lb u4)) (by simp [results, Try.results56, go_sem, g0, g1, g2, g3, g4]) rfl (by unfold Stepped; rw [HSE.out]; exact ⟨⟨_, _, rfl, h5, h6, hO5⟩, hD5⟩)

/-- What Step tells: the term, and whether a step is done. -/
def StepTold (t : Rw) (w : World) (e : Ending) (w' : World) : Prop := ∃ vb vr, e = .returned (.tuple #[rwv (t.step false).1.kind vb (t.step false).1.ty.base (t.step false).1.idx vr, .bool (t.step false).2]) ∧ Holds w' (fun b => w.heap.size ≤ b) (t.step false).1.ty.args vb ∧ HoldsR w' (fun b => w.heap.size ≤ b) (t.step false).1.kids vr ∧ Below w.heap.size w w'

end Go.Proofs.Ytckagmagjogmnaa

namespace Go.Proofs.Ytckagmagjogmnaa
open Go Go.RowKit

set_option maxRecDepth 100000 in
set_option maxHeartbeats 1600000 in
theorem StepF_calls (t : Rw) (ok : Nat → Prop) (sb sr : Value) (w : World) (hb : Holds w ok t.ty.args sb) (hr : HoldsR w ok t.kids sr) (hfit : t.fit) (hsz : t.size ≤ 1000000) :
    Calls Try.prog 30 #[rwv t.kind sb t.ty.base t.idx sr] w (StepTold t w) := by
  obtain ⟨x1, x2, hx, _⟩ := hb.shape
  obtain ⟨x3, x4, hx', _⟩ := hr.shape
  obtain ⟨N, hN⟩ : ∃ N, w.heap.size = N := ⟨_, rfl⟩
  have hb' : Holds w (fun b => b < N) t.ty.args sb := hb.mono fun b h _ => by omega
  have hr' : HoldsR w (fun b => b < N) t.kids sr := hr.mono fun b h _ => by omega
  generalize t.ty.args.length = n1 at hx
  generalize t.kids.length = n2 at hx'
  subst hx hx'
  obtain ⟨W0, hW0⟩ : ∃ W0, ((w.alloc (.cells #[.int .i64 t.kind, .slice x1 n1 x2, .int .i64 t.ty.base, .int .i64 t.idx, .slice x3 n2 x4] 35)).alloc (.cells #[.int .i64 0, .slice none 0 0, .int .i64 0, .int .i64 0, .slice none 0 0] 35)).alloc (.cells #[.bool false] 4) = W0 := ⟨_, rfl⟩
  have b0 : Blk W0 N 35 #[.int .i64 t.kind, .slice x1 n1 x2, .int .i64 t.ty.base, .int .i64 t.idx, .slice x3 n2 x4] := by rw [← hW0]; exact ((Blk.new' w N 35 _ hN).alloc _).alloc _
  have b1 : Blk W0 (N + 1) 35 #[.int .i64 0, .slice none 0 0, .int .i64 0, .int .i64 0, .slice none 0 0] := by rw [← hW0]; exact (Blk.new' _ (N + 1) 35 _ (by simp [hN])).alloc _
  have b2 : Blk W0 (N + 1 + 1) 4 #[.bool false] := by rw [← hW0]; exact Blk.new' _ (N + 1 + 1) 4 _ (by simp [hN])
  have bl : Below N w W0 := by rw [← hW0]; exact (((Below.refl N w).alloc (by omega) _).alloc (by simp; omega) _).alloc (by simp; omega) _
  have hcall := step_calls t hfit hsz false _ _ _ W0 (N + 1 + 1) b2 (hb'.bel (hN ▸ bl)) (hr'.bel (hN ▸ bl)) (fun b h => by omega)
  have c0 := b0.cell 0
  have c1 := b0.cell 1
  have c2 := b0.cell 2
  have c3 := b0.cell 3
  have c4 := b0.cell 4
  have hz : W0.heap.size = N + 1 + 1 + 1 := by rw [← hW0]; simp [hN]
  have HW : Hid _ := hW0
  have HN : Hid (w.heap.size = N) := hN
  clear hW0 hb hr hb' hr' hfit
  go_enter Try.func30, Try.ntmps30
  go_upto_region 2 with fail
  rw [HW.out]
  clear HW
  go_wp2_with fail
  refine hcall.mono ?_
  unfold Stepped
  obtain ⟨v, hv⟩ : ∃ v, (t.step false).1 = v := ⟨_, rfl⟩
  obtain ⟨q, hq⟩ : ∃ q, (t.step false).2 = q := ⟨_, rfl⟩
  have HV1 : Hid _ := hv
  have HV2 : Hid _ := hq
  rw [hv, hq]
  clear hv hq
  rintro e w1 ⟨⟨vb, vr, rfl, hvb, hvr, hO1⟩, hD1⟩
  obtain ⟨u1, u2, rfl, _⟩ := hvb.shape
  obtain ⟨u3, u4, rfl, _⟩ := hvr.shape
  generalize v.ty.args.length = m1 at *
  generalize v.kids.length = m2 at *
  have m1' := b1.only hO1 (by simp)
  have B1 : Below N w w1 := bl.trans (hO1.below (by omega) (by simp; omega))
  obtain ⟨W2, hW2⟩ : ∃ W2, w1.alloc (.cells #[.int .i64 v.kind, .slice u1 m1 u2, .int .i64 v.ty.base, .int .i64 v.idx, .slice u3 m2 u4] 35) = W2 := ⟨_, rfl⟩
  obtain ⟨X, hX⟩ : ∃ X, w1.heap.size = X := ⟨_, rfl⟩
  have d0 : Blk W2 X 35 #[.int .i64 v.kind, .slice u1 m1 u2, .int .i64 v.ty.base, .int .i64 v.idx, .slice u3 m2 u4] := by rw [← hW2]; exact Blk.new' w1 X 35 _ hX
  have d1 : Blk W2 (N + 1) 35 #[.int .i64 0, .slice none 0 0, .int .i64 0, .int .i64 0, .slice none 0 0] := by rw [← hW2]; exact m1'.alloc _
  have d2 : Blk W2 (N + 1 + 1) 4 #[.bool q] := by rw [← hW2]; exact hD1.alloc _
  have hv2 : Holds W2 (fun b => N + 1 + 1 + 1 ≤ b) v.ty.args (.slice u1 m1 u2) := by rw [← hW2, ← hz]; exact hvb.alloc _
  have hr2 : HoldsR W2 (fun b => N + 1 + 1 + 1 ≤ b) v.kids (.slice u3 m2 u4) := by rw [← hW2, ← hz]; exact hvr.alloc _
  have B2 : Below N w W2 := by rw [← hW2]; exact B1.alloc (by have := m1'.lt; omega) _
  have HW2 : Hid _ := hW2
  clear hcall c0 c1 c2 c3 c4 hvb hvr b0 b1 b2 hW2 hD1 hO1
  go_upto_region 3 with fail
  rw [HW2.out]
  clear HW2
  have q0 := d0.cell 0
  have q1 := d0.cell 1
  have q2 := d0.cell 2
  have q3 := d0.cell 3
  have q4 := d0.cell 4
  have p0 := d2.cell 0
  have r0 := d1.cell 0
  have r1 := d1.cell 1
  have r2 := d1.cell 2
  have r3 := d1.cell 3
  have r4 := d1.cell 4
  have f0 := d1.frozen 0
  have f1 := d1.frozen 1
  have f2 := d1.frozen 2
  have f3 := d1.frozen 3
  have f4 := d1.frozen 4
  go_region
  have h5 := holds_set5 (g := N + 1) (ok' := fun b => N ≤ b) hv2 (fun b _ h => ⟨by omega, by omega⟩) (.int .i64 v.kind) (.slice u1 m1 u2) (.int .i64 v.ty.base) (.int .i64 v.idx) (.slice u3 m2 u4)
  have h6 := holdsR_set5 (g := N + 1) (ok' := fun b => N ≤ b) hr2 (fun b _ h => ⟨by omega, by omega⟩) (.int .i64 v.kind) (.slice u1 m1 u2) (.int .i64 v.ty.base) (.int .i64 v.idx) (.slice u3 m2 u4)
  have b5 := (((((d1.set 0 (.int .i64 v.kind)).set 1 (.slice u1 m1 u2)).set 2 (.int .i64 v.ty.base)).set 3 (.int .i64 v.idx)).set 4 (.slice u3 m2 u4))
  have B5 : Below N w (((((W2.setCell ⟨N + 1, 0, none⟩ (.int .i64 v.kind)).setCell ⟨N + 1, 1, none⟩ (.slice u1 m1 u2)).setCell ⟨N + 1, 2, none⟩ (.int .i64 v.ty.base)).setCell ⟨N + 1, 3, none⟩ (.int .i64 v.idx)).setCell ⟨N + 1, 4, none⟩ (.slice u3 m2 u4)) := bset (bset (bset (bset (bset B2 (by omega) _) (by omega) _) (by omega) _) (by omega) _) (by omega) _
  generalize (((((W2.setCell ⟨N + 1, 0, none⟩ (.int .i64 v.kind)).setCell ⟨N + 1, 1, none⟩ (.slice u1 m1 u2)).setCell ⟨N + 1, 2, none⟩ (.int .i64 v.ty.base)).setCell ⟨N + 1, 3, none⟩ (.int .i64 v.idx)).setCell ⟨N + 1, 4, none⟩ (.slice u3 m2 u4)) = W5 at *
  have g0 : W5.drew.cell? ⟨N + 1, 0, none⟩ = some (.int .i64 v.kind) := b5.drew.cell 0
  have g1 : W5.drew.cell? ⟨N + 1, 1, none⟩ = some (.slice u1 m1 u2) := b5.drew.cell 1
  have g2 : W5.drew.cell? ⟨N + 1, 2, none⟩ = some (.int .i64 v.ty.base) := b5.drew.cell 2
  have g3 : W5.drew.cell? ⟨N + 1, 3, none⟩ = some (.int .i64 v.idx) := b5.drew.cell 3
  have g4 : W5.drew.cell? ⟨N + 1, 4, none⟩ = some (.slice u3 m2 u4) := b5.drew.cell 4
  go_wp2
  exact bodyPost_ret (v := .tuple #[rwv v.kind (.slice u1 m1 u2) v.ty.base v.idx (.slice u3 m2 u4), .bool q]) (by simp [results, Try.results30, go_sem, g0, g1, g2, g3, g4]) rfl (by unfold StepTold; rw [HV1.out, HV2.out, HN.out]; exact ⟨_, _, rfl, h5.drew, h6.drew, B5.drew⟩)

end Go.Proofs.Ytckagmagjogmnaa

